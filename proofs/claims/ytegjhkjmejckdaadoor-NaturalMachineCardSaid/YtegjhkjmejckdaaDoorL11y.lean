/- NaturalMachine over two integers. -/
import Derived.Test.YtegjhkjmejckdaaDoorT12
namespace Go.Proofs.YtegjhkjmejckdaaDoor
open Go.RowKit M
set_option maxHeartbeats 400000 in
set_option maxRecDepth 20000 in
theorem machine_gt_s_z {x : Nat} (w0 : World) (hL : Live w0 []) (hx : x < 18446744073709551616) (h1 : 0 < x) (g1 : (0 : Int) < (x : Int)) (g2 : ((x : Int) == 0) = false) (g3 : IntKind.u64.wrap (x : Int) = (x : Int)) :
    Calls Tryd.prog 11 #[.int .u64 x, .int .u64 0] w0 fun e w' => e = .returned (.bool true) ∧ Below w0.heap.size w0 w' := by
  have S : St w0 w0 [] := ⟨Below.refl _ _, hL⟩
  have Bhx := Bx.mk hx
  have Bh1 := Bx.mk h1
  clear hL hx h1
  go_enter Tryd.func11, Tryd.ntmps11
  go_wp2_with fail
  refine Calls.mono (head_any _) ?_
  rintro e w1 ⟨rfl, hb⟩
  replace S := S.on hb
  clear hb
  go_wp2_with fail
  refine Calls.mono (make_ok x S.live Bhx.out) ?_
  rintro e w1 ⟨va, rfl, hl, hb⟩
  replace S := S.next hl hb
  clear hl hb
  go_wp2_with fail
  refine Calls.mono (make_ok 0 S.live (by decide)) ?_
  rintro e w1 ⟨vb, rfl, hl, hb⟩
  replace S := S.next hl hb
  clear hl hb
  go_wp2_with fail
  refine Calls.mono (cmp_gt (a := x) (b := 0) S.live (by simp) (by simp) Bh1.out) ?_
  rintro e w1 ⟨rfl, hl, hb⟩
  replace S := S.next hl hb
  clear hl hb
  go_wp2_with fail
  refine Calls.mono (valid_ok (a := x) S.live (by simp)) ?_
  rintro e w1 ⟨rfl, rfl⟩
  go_wp2_with fail
  refine Calls.mono (valid_ok (a := 0) S.live (by simp)) ?_
  rintro e w1 ⟨rfl, rfl⟩
  go_wp2_with fail
  refine Calls.mono (add_ok (a := x) (b := 0) S.live (by simp) (by simp) (fits_small (by have := Bhx.out; omega))) ?_
  rintro e w1 ⟨vs, rfl, hl, hb⟩
  replace S := S.next hl hb
  clear hl hb
  go_wp2_with fail
  refine Calls.mono (make_ok x S.live Bhx.out) ?_
  rintro e w1 ⟨vt, rfl, hl, hb⟩
  replace S := S.next hl hb
  clear hl hb
  go_wp2_with fail
  refine Calls.mono (same_yes (a := (x + 0)) (b := x) S.live (by simp) (by simp) rfl) ?_
  rintro e w1 ⟨rfl, hl, hb⟩
  replace S := S.next hl hb
  clear hl hb
  go_wp2_with fail
  refine Calls.mono (mul_ok (a := x) (b := 0) S.live (by simp) (by simp) (by rw [Nat.mul_zero]; exact fits_zero)) ?_
  rintro e w1 ⟨vp, rfl, hl, hb⟩
  replace S := S.next hl hb
  clear hl hb
  go_wp2_with fail
  refine Calls.mono (make_ok 0 S.live (by decide)) ?_
  rintro e w1 ⟨vw, rfl, hl, hb⟩
  replace S := S.next hl hb
  clear hl hb
  go_wp2_with fail
  refine Calls.mono (same_yes (a := (x * 0)) (b := 0) S.live (by simp) (by simp) (Nat.mul_zero x)) ?_
  rintro e w1 ⟨rfl, hl, hb⟩
  replace S := S.next hl hb
  clear hl hb
  go_wp2_with fail
  refine Calls.mono (div_zero (a := x) S.live (by simp) (by simp)) ?_
  rintro e w1 ⟨vq, vr, rfl, hl, hb⟩
  replace S := S.next hl hb
  clear hl hb
  go_wp2
  go_ret
  exact ⟨rfl, S.below⟩
end Go.Proofs.YtegjhkjmejckdaaDoor

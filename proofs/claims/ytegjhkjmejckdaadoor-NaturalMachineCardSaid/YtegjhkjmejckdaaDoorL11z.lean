/- NaturalMachine over two integers. -/
import Derived.Test.YtegjhkjmejckdaaDoorT12
namespace Go.Proofs.YtegjhkjmejckdaaDoor
open Go.RowKit M
set_option maxHeartbeats 400000 in
set_option maxRecDepth 20000 in
theorem machine_eq_s_z  (w0 : World) (hL : Live w0 [])  :
    Calls Tryd.prog 11 #[.int .u64 0, .int .u64 0] w0 fun e w' => e = .returned (.bool true) ∧ Below w0.heap.size w0 w' := by
  have S : St w0 w0 [] := ⟨Below.refl _ _, hL⟩
  clear hL 
  go_enter Tryd.func11, Tryd.ntmps11
  go_wp2_with fail
  refine Calls.mono (head_any _) ?_
  rintro e w1 ⟨rfl, hb⟩
  replace S := S.on hb
  clear hb
  go_wp2_with fail
  refine Calls.mono (make_ok 0 S.live (by decide)) ?_
  rintro e w1 ⟨va, rfl, hl, hb⟩
  replace S := S.next hl hb
  clear hl hb
  go_wp2_with fail
  refine Calls.mono (make_ok 0 S.live (by decide)) ?_
  rintro e w1 ⟨vb, rfl, hl, hb⟩
  replace S := S.next hl hb
  clear hl hb
  go_wp2_with fail
  refine Calls.mono (cmp_eq (a := 0) (b := 0) S.live (by simp) (by simp) rfl) ?_
  rintro e w1 ⟨rfl, hl, hb⟩
  replace S := S.next hl hb
  clear hl hb
  go_wp2_with fail
  refine Calls.mono (valid_ok (a := 0) S.live (by simp)) ?_
  rintro e w1 ⟨rfl, rfl⟩
  go_wp2_with fail
  refine Calls.mono (valid_ok (a := 0) S.live (by simp)) ?_
  rintro e w1 ⟨rfl, rfl⟩
  go_wp2_with fail
  refine Calls.mono (add_ok (a := 0) (b := 0) S.live (by simp) (by simp) fits_zero) ?_
  rintro e w1 ⟨vs, rfl, hl, hb⟩
  replace S := S.next hl hb
  clear hl hb
  go_wp2_with fail
  refine Calls.mono (make_ok 0 S.live (by decide)) ?_
  rintro e w1 ⟨vt, rfl, hl, hb⟩
  replace S := S.next hl hb
  clear hl hb
  go_wp2_with fail
  refine Calls.mono (same_yes (a := (0 + 0)) (b := 0) S.live (by simp) (by simp) rfl) ?_
  rintro e w1 ⟨rfl, hl, hb⟩
  replace S := S.next hl hb
  clear hl hb
  go_wp2_with fail
  refine Calls.mono (mul_ok (a := 0) (b := 0) S.live (by simp) (by simp) fits_zero) ?_
  rintro e w1 ⟨vp, rfl, hl, hb⟩
  replace S := S.next hl hb
  clear hl hb
  go_wp2_with fail
  refine Calls.mono (make_ok 0 S.live (by decide)) ?_
  rintro e w1 ⟨vw, rfl, hl, hb⟩
  replace S := S.next hl hb
  clear hl hb
  go_wp2_with fail
  refine Calls.mono (same_yes (a := (0 * 0)) (b := 0) S.live (by simp) (by simp) rfl) ?_
  rintro e w1 ⟨rfl, hl, hb⟩
  replace S := S.next hl hb
  clear hl hb
  go_wp2_with fail
  refine Calls.mono (div_zero (a := 0) S.live (by simp) (by simp)) ?_
  rintro e w1 ⟨vq, vr, rfl, hl, hb⟩
  replace S := S.next hl hb
  clear hl hb
  go_wp2
  go_ret
  exact ⟨rfl, S.below⟩
end Go.Proofs.YtegjhkjmejckdaaDoor

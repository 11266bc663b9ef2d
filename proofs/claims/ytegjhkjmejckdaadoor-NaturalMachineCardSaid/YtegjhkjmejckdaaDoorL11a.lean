/- NaturalMachine over two integers. -/
import Derived.Test.YtegjhkjmejckdaaDoorT12
namespace Go.Proofs.YtegjhkjmejckdaaDoor
open Go.RowKit M
theorem div_nil {w : World} {L : List (Value × Nat)} {va vb : Value} {a b : Nat} (hL : Live w L) (ha : (va, a) ∈ L) (hb : (vb, b) ∈ L) (h : b = 0) : Calls Tryd.prog 24 #[va, vb] w (StepD w L 0 0 7) := by
  subst h; exact div_zero hL ha hb
theorem u64_nat {n : Int} (h : (Lit.int .u64 n).wf = true) : ∃ x : Nat, n = (x : Int) ∧ x < 18446744073709551616 := by
  have h' : 0 ≤ n ∧ n < 18446744073709551616 := by
    simp [Lit.wf, IntKind.min, IntKind.max, IntKind.signed, IntKind.bits] at h
    omega
  exact ⟨n.toNat, by omega, by omega⟩
theorem wrap64 (n : Int) : IntKind.u64.wrap n = n % 18446744073709551616 := by simp [IntKind.wrap, IntKind.signed, IntKind.bits]
set_option maxHeartbeats 4000000 in
theorem machine_lt_s_p {x y s p q r : Nat} (w0 : World) (hL : Live w0 []) (hx : x < 18446744073709551616) (hy : y < 18446744073709551616) (h1 : x < y) (g1 : (x : Int) < (y : Int)) (g2 : ((x : Int) == (y : Int)) = false) (g3 : IntKind.u64.wrap ((x : Int) + (y : Int)) = (s : Int)) (g4 : (x : Int) ≤ (s : Int)) (h2 : s < 18446744073709551616) (h3 : x + y = s) (h4 : Fits (x * y)) (g6 : (x : Int) ≤ 18446744073709551615 / (y : Int)) (g7 : IntKind.u64.wrap ((x : Int) * (y : Int)) = (p : Int)) (h5 : p < 18446744073709551616) (h6 : x * y = p) (g5 : ((y : Int) == 0) = false) (g10 : (0 : Int) < (y : Int)) (h7 : y ≠ 0) (g8 : IntKind.u64.wrap ((x : Int) / (y : Int)) = (q : Int)) (g9 : (x : Int) % (y : Int) = (r : Int)) (h8 : q < 18446744073709551616) (h9 : x / y = q) (h10 : r < 18446744073709551616) (h11 : x % y = r) :
    Calls Tryd.prog 11 #[.int .u64 x, .int .u64 y] w0 fun e w' => e = .returned (.bool true) ∧ Below w0.heap.size w0 w' := by
  have S : St w0 w0 [] := ⟨Below.refl _ _, hL⟩
  have Bhx := Bx.mk hx
  have Bhy := Bx.mk hy
  have Bh1 := Bx.mk h1
  have Bh2 := Bx.mk h2
  have Bh3 := Bx.mk h3
  have Bh4 := Bx.mk h4
  have Bh5 := Bx.mk h5
  have Bh6 := Bx.mk h6
  have Bh7 := Bx.mk h7
  have Bh8 := Bx.mk h8
  have Bh9 := Bx.mk h9
  have Bh10 := Bx.mk h10
  have Bh11 := Bx.mk h11
  clear hL hx hy h1 h2 h3 h4 h5 h6 h7 h8 h9 h10 h11
  go_enter Tryd.func11, Tryd.ntmps11
  go_wp2_with fail
  refine Calls.mono (head_any _) ?_
  rintro e w1 ⟨rfl, hb⟩
  replace S := S.on hb
  clear hb
  go_wp2_with fail
  refine Calls.mono (make_ok x S.live Bhx.out) ?_
  rintro e w1 ⟨va, rfl, hl, hb⟩
  replace S := S.next hl hb
  clear hl hb
  go_wp2_with fail
  refine Calls.mono (make_ok y S.live Bhy.out) ?_
  rintro e w1 ⟨vb, rfl, hl, hb⟩
  replace S := S.next hl hb
  clear hl hb
  go_wp2_with fail
  refine Calls.mono (cmp_lt (a := x) (b := y) S.live (by simp) (by simp) Bh1.out) ?_
  rintro e w1 ⟨rfl, hl, hb⟩
  replace S := S.next hl hb
  clear hl hb
  go_wp2_with fail
  refine Calls.mono (valid_ok (a := x) S.live (by simp)) ?_
  rintro e w1 ⟨rfl, rfl⟩
  go_wp2_with fail
  refine Calls.mono (valid_ok (a := y) S.live (by simp)) ?_
  rintro e w1 ⟨rfl, rfl⟩
  go_wp2_with fail
  refine Calls.mono (add_ok (a := x) (b := y) S.live (by simp) (by simp) (fits_small (by have := Bhx.out; have := Bhy.out; omega))) ?_
  rintro e w1 ⟨vs, rfl, hl, hb⟩
  replace S := S.next hl hb
  clear hl hb
  go_wp2_with fail
  refine Calls.mono (make_ok s S.live Bh2.out) ?_
  rintro e w1 ⟨vt, rfl, hl, hb⟩
  replace S := S.next hl hb
  clear hl hb
  go_wp2_with fail
  refine Calls.mono (same_yes (a := (x + y)) (b := s) S.live (by simp) (by simp) Bh3.out) ?_
  rintro e w1 ⟨rfl, hl, hb⟩
  replace S := S.next hl hb
  clear hl hb
  go_wp2_with fail
  refine Calls.mono (mul_ok (a := x) (b := y) S.live (by simp) (by simp) Bh4.out) ?_
  rintro e w1 ⟨vp, rfl, hl, hb⟩
  replace S := S.next hl hb
  clear hl hb
  go_wp2_with fail
  refine Calls.mono (make_ok p S.live Bh5.out) ?_
  rintro e w1 ⟨vw, rfl, hl, hb⟩
  replace S := S.next hl hb
  clear hl hb
  go_wp2_with fail
  refine Calls.mono (same_yes (a := (x * y)) (b := p) S.live (by simp) (by simp) Bh6.out) ?_
  rintro e w1 ⟨rfl, hl, hb⟩
  replace S := S.next hl hb
  clear hl hb
  go_wp2_with fail
  refine Calls.mono (div_ok (a := x) (b := y) S.live (by simp) (by simp) Bh7.out) ?_
  rintro e w1 ⟨vq, vr, rfl, hl, hb⟩
  replace S := S.next hl hb
  clear hl hb
  go_wp2_with fail
  refine Calls.mono (make_ok q S.live Bh8.out) ?_
  rintro e w1 ⟨vu, rfl, hl, hb⟩
  replace S := S.next hl hb
  clear hl hb
  go_wp2_with fail
  refine Calls.mono (same_yes (a := (x / y)) (b := q) S.live (by simp) (by simp) Bh9.out) ?_
  rintro e w1 ⟨rfl, hl, hb⟩
  replace S := S.next hl hb
  clear hl hb
  go_wp2_with fail
  refine Calls.mono (make_ok r S.live Bh10.out) ?_
  rintro e w1 ⟨vv, rfl, hl, hb⟩
  replace S := S.next hl hb
  clear hl hb
  go_wp2_with fail
  refine Calls.mono (same_yes (a := (x % y)) (b := r) S.live (by simp) (by simp) Bh11.out) ?_
  rintro e w1 ⟨rfl, hl, hb⟩
  replace S := S.next hl hb
  clear hl hb
  go_wp2
  go_ret
  exact ⟨rfl, S.below⟩
set_option maxHeartbeats 4000000 in
theorem machine_lt_s_b {x y s q r : Nat} (w0 : World) (hL : Live w0 []) (hx : x < 18446744073709551616) (hy : y < 18446744073709551616) (h1 : x < y) (g1 : (x : Int) < (y : Int)) (g2 : ((x : Int) == (y : Int)) = false) (g3 : IntKind.u64.wrap ((x : Int) + (y : Int)) = (s : Int)) (g4 : (x : Int) ≤ (s : Int)) (h2 : s < 18446744073709551616) (h3 : x + y = s) (h4 : Fits (x * y)) (g6 : 18446744073709551615 / (y : Int) < (x : Int)) (g5 : ((y : Int) == 0) = false) (g10 : (0 : Int) < (y : Int)) (h7 : y ≠ 0) (g8 : IntKind.u64.wrap ((x : Int) / (y : Int)) = (q : Int)) (g9 : (x : Int) % (y : Int) = (r : Int)) (h8 : q < 18446744073709551616) (h9 : x / y = q) (h10 : r < 18446744073709551616) (h11 : x % y = r) :
    Calls Tryd.prog 11 #[.int .u64 x, .int .u64 y] w0 fun e w' => e = .returned (.bool true) ∧ Below w0.heap.size w0 w' := by
  have S : St w0 w0 [] := ⟨Below.refl _ _, hL⟩
  have Bhx := Bx.mk hx
  have Bhy := Bx.mk hy
  have Bh1 := Bx.mk h1
  have Bh2 := Bx.mk h2
  have Bh3 := Bx.mk h3
  have Bh4 := Bx.mk h4
  have Bh7 := Bx.mk h7
  have Bh8 := Bx.mk h8
  have Bh9 := Bx.mk h9
  have Bh10 := Bx.mk h10
  have Bh11 := Bx.mk h11
  clear hL hx hy h1 h2 h3 h4 h7 h8 h9 h10 h11
  go_enter Tryd.func11, Tryd.ntmps11
  go_wp2_with fail
  refine Calls.mono (head_any _) ?_
  rintro e w1 ⟨rfl, hb⟩
  replace S := S.on hb
  clear hb
  go_wp2_with fail
  refine Calls.mono (make_ok x S.live Bhx.out) ?_
  rintro e w1 ⟨va, rfl, hl, hb⟩
  replace S := S.next hl hb
  clear hl hb
  go_wp2_with fail
  refine Calls.mono (make_ok y S.live Bhy.out) ?_
  rintro e w1 ⟨vb, rfl, hl, hb⟩
  replace S := S.next hl hb
  clear hl hb
  go_wp2_with fail
  refine Calls.mono (cmp_lt (a := x) (b := y) S.live (by simp) (by simp) Bh1.out) ?_
  rintro e w1 ⟨rfl, hl, hb⟩
  replace S := S.next hl hb
  clear hl hb
  go_wp2_with fail
  refine Calls.mono (valid_ok (a := x) S.live (by simp)) ?_
  rintro e w1 ⟨rfl, rfl⟩
  go_wp2_with fail
  refine Calls.mono (valid_ok (a := y) S.live (by simp)) ?_
  rintro e w1 ⟨rfl, rfl⟩
  go_wp2_with fail
  refine Calls.mono (add_ok (a := x) (b := y) S.live (by simp) (by simp) (fits_small (by have := Bhx.out; have := Bhy.out; omega))) ?_
  rintro e w1 ⟨vs, rfl, hl, hb⟩
  replace S := S.next hl hb
  clear hl hb
  go_wp2_with fail
  refine Calls.mono (make_ok s S.live Bh2.out) ?_
  rintro e w1 ⟨vt, rfl, hl, hb⟩
  replace S := S.next hl hb
  clear hl hb
  go_wp2_with fail
  refine Calls.mono (same_yes (a := (x + y)) (b := s) S.live (by simp) (by simp) Bh3.out) ?_
  rintro e w1 ⟨rfl, hl, hb⟩
  replace S := S.next hl hb
  clear hl hb
  go_wp2_with fail
  refine Calls.mono (mul_ok (a := x) (b := y) S.live (by simp) (by simp) Bh4.out) ?_
  rintro e w1 ⟨vp, rfl, hl, hb⟩
  replace S := S.next hl hb
  clear hl hb
  go_wp2_with fail
  refine Calls.mono (div_ok (a := x) (b := y) S.live (by simp) (by simp) Bh7.out) ?_
  rintro e w1 ⟨vq, vr, rfl, hl, hb⟩
  replace S := S.next hl hb
  clear hl hb
  go_wp2_with fail
  refine Calls.mono (make_ok q S.live Bh8.out) ?_
  rintro e w1 ⟨vu, rfl, hl, hb⟩
  replace S := S.next hl hb
  clear hl hb
  go_wp2_with fail
  refine Calls.mono (same_yes (a := (x / y)) (b := q) S.live (by simp) (by simp) Bh9.out) ?_
  rintro e w1 ⟨rfl, hl, hb⟩
  replace S := S.next hl hb
  clear hl hb
  go_wp2_with fail
  refine Calls.mono (make_ok r S.live Bh10.out) ?_
  rintro e w1 ⟨vv, rfl, hl, hb⟩
  replace S := S.next hl hb
  clear hl hb
  go_wp2_with fail
  refine Calls.mono (same_yes (a := (x % y)) (b := r) S.live (by simp) (by simp) Bh11.out) ?_
  rintro e w1 ⟨rfl, hl, hb⟩
  replace S := S.next hl hb
  clear hl hb
  go_wp2
  go_ret
  exact ⟨rfl, S.below⟩
set_option maxHeartbeats 4000000 in
theorem machine_lt_o_p {x y s p q r : Nat} (w0 : World) (hL : Live w0 []) (hx : x < 18446744073709551616) (hy : y < 18446744073709551616) (h1 : x < y) (g1 : (x : Int) < (y : Int)) (g2 : ((x : Int) == (y : Int)) = false) (g3 : IntKind.u64.wrap ((x : Int) + (y : Int)) = (s : Int)) (g4 : (s : Int) < (x : Int)) (h4 : Fits (x * y)) (g6 : (x : Int) ≤ 18446744073709551615 / (y : Int)) (g7 : IntKind.u64.wrap ((x : Int) * (y : Int)) = (p : Int)) (h5 : p < 18446744073709551616) (h6 : x * y = p) (g5 : ((y : Int) == 0) = false) (g10 : (0 : Int) < (y : Int)) (h7 : y ≠ 0) (g8 : IntKind.u64.wrap ((x : Int) / (y : Int)) = (q : Int)) (g9 : (x : Int) % (y : Int) = (r : Int)) (h8 : q < 18446744073709551616) (h9 : x / y = q) (h10 : r < 18446744073709551616) (h11 : x % y = r) :
    Calls Tryd.prog 11 #[.int .u64 x, .int .u64 y] w0 fun e w' => e = .returned (.bool true) ∧ Below w0.heap.size w0 w' := by
  have S : St w0 w0 [] := ⟨Below.refl _ _, hL⟩
  have Bhx := Bx.mk hx
  have Bhy := Bx.mk hy
  have Bh1 := Bx.mk h1
  have Bh4 := Bx.mk h4
  have Bh5 := Bx.mk h5
  have Bh6 := Bx.mk h6
  have Bh7 := Bx.mk h7
  have Bh8 := Bx.mk h8
  have Bh9 := Bx.mk h9
  have Bh10 := Bx.mk h10
  have Bh11 := Bx.mk h11
  clear hL hx hy h1 h4 h5 h6 h7 h8 h9 h10 h11
  go_enter Tryd.func11, Tryd.ntmps11
  go_wp2_with fail
  refine Calls.mono (head_any _) ?_
  rintro e w1 ⟨rfl, hb⟩
  replace S := S.on hb
  clear hb
  go_wp2_with fail
  refine Calls.mono (make_ok x S.live Bhx.out) ?_
  rintro e w1 ⟨va, rfl, hl, hb⟩
  replace S := S.next hl hb
  clear hl hb
  go_wp2_with fail
  refine Calls.mono (make_ok y S.live Bhy.out) ?_
  rintro e w1 ⟨vb, rfl, hl, hb⟩
  replace S := S.next hl hb
  clear hl hb
  go_wp2_with fail
  refine Calls.mono (cmp_lt (a := x) (b := y) S.live (by simp) (by simp) Bh1.out) ?_
  rintro e w1 ⟨rfl, hl, hb⟩
  replace S := S.next hl hb
  clear hl hb
  go_wp2_with fail
  refine Calls.mono (valid_ok (a := x) S.live (by simp)) ?_
  rintro e w1 ⟨rfl, rfl⟩
  go_wp2_with fail
  refine Calls.mono (valid_ok (a := y) S.live (by simp)) ?_
  rintro e w1 ⟨rfl, rfl⟩
  go_wp2_with fail
  refine Calls.mono (add_ok (a := x) (b := y) S.live (by simp) (by simp) (fits_small (by have := Bhx.out; have := Bhy.out; omega))) ?_
  rintro e w1 ⟨vs, rfl, hl, hb⟩
  replace S := S.next hl hb
  clear hl hb
  go_wp2_with fail
  refine Calls.mono (mul_ok (a := x) (b := y) S.live (by simp) (by simp) Bh4.out) ?_
  rintro e w1 ⟨vp, rfl, hl, hb⟩
  replace S := S.next hl hb
  clear hl hb
  go_wp2_with fail
  refine Calls.mono (make_ok p S.live Bh5.out) ?_
  rintro e w1 ⟨vw, rfl, hl, hb⟩
  replace S := S.next hl hb
  clear hl hb
  go_wp2_with fail
  refine Calls.mono (same_yes (a := (x * y)) (b := p) S.live (by simp) (by simp) Bh6.out) ?_
  rintro e w1 ⟨rfl, hl, hb⟩
  replace S := S.next hl hb
  clear hl hb
  go_wp2_with fail
  refine Calls.mono (div_ok (a := x) (b := y) S.live (by simp) (by simp) Bh7.out) ?_
  rintro e w1 ⟨vq, vr, rfl, hl, hb⟩
  replace S := S.next hl hb
  clear hl hb
  go_wp2_with fail
  refine Calls.mono (make_ok q S.live Bh8.out) ?_
  rintro e w1 ⟨vu, rfl, hl, hb⟩
  replace S := S.next hl hb
  clear hl hb
  go_wp2_with fail
  refine Calls.mono (same_yes (a := (x / y)) (b := q) S.live (by simp) (by simp) Bh9.out) ?_
  rintro e w1 ⟨rfl, hl, hb⟩
  replace S := S.next hl hb
  clear hl hb
  go_wp2_with fail
  refine Calls.mono (make_ok r S.live Bh10.out) ?_
  rintro e w1 ⟨vv, rfl, hl, hb⟩
  replace S := S.next hl hb
  clear hl hb
  go_wp2_with fail
  refine Calls.mono (same_yes (a := (x % y)) (b := r) S.live (by simp) (by simp) Bh11.out) ?_
  rintro e w1 ⟨rfl, hl, hb⟩
  replace S := S.next hl hb
  clear hl hb
  go_wp2
  go_ret
  exact ⟨rfl, S.below⟩
set_option maxHeartbeats 4000000 in
theorem machine_lt_o_b {x y s q r : Nat} (w0 : World) (hL : Live w0 []) (hx : x < 18446744073709551616) (hy : y < 18446744073709551616) (h1 : x < y) (g1 : (x : Int) < (y : Int)) (g2 : ((x : Int) == (y : Int)) = false) (g3 : IntKind.u64.wrap ((x : Int) + (y : Int)) = (s : Int)) (g4 : (s : Int) < (x : Int)) (h4 : Fits (x * y)) (g6 : 18446744073709551615 / (y : Int) < (x : Int)) (g5 : ((y : Int) == 0) = false) (g10 : (0 : Int) < (y : Int)) (h7 : y ≠ 0) (g8 : IntKind.u64.wrap ((x : Int) / (y : Int)) = (q : Int)) (g9 : (x : Int) % (y : Int) = (r : Int)) (h8 : q < 18446744073709551616) (h9 : x / y = q) (h10 : r < 18446744073709551616) (h11 : x % y = r) :
    Calls Tryd.prog 11 #[.int .u64 x, .int .u64 y] w0 fun e w' => e = .returned (.bool true) ∧ Below w0.heap.size w0 w' := by
  have S : St w0 w0 [] := ⟨Below.refl _ _, hL⟩
  have Bhx := Bx.mk hx
  have Bhy := Bx.mk hy
  have Bh1 := Bx.mk h1
  have Bh4 := Bx.mk h4
  have Bh7 := Bx.mk h7
  have Bh8 := Bx.mk h8
  have Bh9 := Bx.mk h9
  have Bh10 := Bx.mk h10
  have Bh11 := Bx.mk h11
  clear hL hx hy h1 h4 h7 h8 h9 h10 h11
  go_enter Tryd.func11, Tryd.ntmps11
  go_wp2_with fail
  refine Calls.mono (head_any _) ?_
  rintro e w1 ⟨rfl, hb⟩
  replace S := S.on hb
  clear hb
  go_wp2_with fail
  refine Calls.mono (make_ok x S.live Bhx.out) ?_
  rintro e w1 ⟨va, rfl, hl, hb⟩
  replace S := S.next hl hb
  clear hl hb
  go_wp2_with fail
  refine Calls.mono (make_ok y S.live Bhy.out) ?_
  rintro e w1 ⟨vb, rfl, hl, hb⟩
  replace S := S.next hl hb
  clear hl hb
  go_wp2_with fail
  refine Calls.mono (cmp_lt (a := x) (b := y) S.live (by simp) (by simp) Bh1.out) ?_
  rintro e w1 ⟨rfl, hl, hb⟩
  replace S := S.next hl hb
  clear hl hb
  go_wp2_with fail
  refine Calls.mono (valid_ok (a := x) S.live (by simp)) ?_
  rintro e w1 ⟨rfl, rfl⟩
  go_wp2_with fail
  refine Calls.mono (valid_ok (a := y) S.live (by simp)) ?_
  rintro e w1 ⟨rfl, rfl⟩
  go_wp2_with fail
  refine Calls.mono (add_ok (a := x) (b := y) S.live (by simp) (by simp) (fits_small (by have := Bhx.out; have := Bhy.out; omega))) ?_
  rintro e w1 ⟨vs, rfl, hl, hb⟩
  replace S := S.next hl hb
  clear hl hb
  go_wp2_with fail
  refine Calls.mono (mul_ok (a := x) (b := y) S.live (by simp) (by simp) Bh4.out) ?_
  rintro e w1 ⟨vp, rfl, hl, hb⟩
  replace S := S.next hl hb
  clear hl hb
  go_wp2_with fail
  refine Calls.mono (div_ok (a := x) (b := y) S.live (by simp) (by simp) Bh7.out) ?_
  rintro e w1 ⟨vq, vr, rfl, hl, hb⟩
  replace S := S.next hl hb
  clear hl hb
  go_wp2_with fail
  refine Calls.mono (make_ok q S.live Bh8.out) ?_
  rintro e w1 ⟨vu, rfl, hl, hb⟩
  replace S := S.next hl hb
  clear hl hb
  go_wp2_with fail
  refine Calls.mono (same_yes (a := (x / y)) (b := q) S.live (by simp) (by simp) Bh9.out) ?_
  rintro e w1 ⟨rfl, hl, hb⟩
  replace S := S.next hl hb
  clear hl hb
  go_wp2_with fail
  refine Calls.mono (make_ok r S.live Bh10.out) ?_
  rintro e w1 ⟨vv, rfl, hl, hb⟩
  replace S := S.next hl hb
  clear hl hb
  go_wp2_with fail
  refine Calls.mono (same_yes (a := (x % y)) (b := r) S.live (by simp) (by simp) Bh11.out) ?_
  rintro e w1 ⟨rfl, hl, hb⟩
  replace S := S.next hl hb
  clear hl hb
  go_wp2
  go_ret
  exact ⟨rfl, S.below⟩
end Go.Proofs.YtegjhkjmejckdaaDoor

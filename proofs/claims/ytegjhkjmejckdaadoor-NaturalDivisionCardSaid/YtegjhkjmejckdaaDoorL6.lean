/- NaturalDivision over three numbers. -/
import Derived.Test.YtegjhkjmejckdaaDoorT12
namespace Go.Proofs.YtegjhkjmejckdaaDoor
open Go.RowKit M
set_option maxHeartbeats 4000000 in
theorem div_gt {va vc : Value} {bo : Option Addr} {cb : Nat} {a b c : Nat} (w0 : World) (hL : Live w0 [(va, a), (.slice bo (limbs b).length cb, b), (vc, c)]) (h0 : b ≠ 0) (ha : Fits a) (hz : (((limbs b).length : Int) == 0) = false) (h1 : b < c) :
    Calls Tryd.prog 6 #[va, .slice bo (limbs b).length cb, vc] w0 fun e w' => e = .returned (.bool true) ∧ Below w0.heap.size w0 w' := by
  have S : St w0 w0 [(va, a), (.slice bo (limbs b).length cb, b), (vc, c)] := ⟨Below.refl _ _, hL⟩
  have Bh0 := Bx.mk h0
  have Bha := Bx.mk ha
  have Bh1 := Bx.mk h1
  clear hL h0 ha h1
  go_enter Tryd.func6, Tryd.ntmps6
  go_wp2_with fail
  refine Calls.mono (head_any _) ?_
  rintro e w1 ⟨rfl, hb⟩
  replace S := S.on hb
  clear hb
  go_wp2_with fail
  refine Calls.mono (three_ok (a := a) (b := b) (c := c) S.live (by simp) (by simp) (by simp)) ?_
  rintro e w1 ⟨rfl, rfl⟩
  go_wp2_with fail
  refine Calls.mono (div_ok (a := a) (b := b) S.live (by simp) (by simp) Bh0.out) ?_
  rintro e w1 ⟨vq, vr, rfl, hl, hb⟩
  replace S := S.next hl hb
  clear hl hb
  go_wp2_with fail
  refine Calls.mono (mul_ok (a := (a / b)) (b := b) S.live (by simp) (by simp) (Bha.out.mono (Nat.div_mul_le_self a b))) ?_
  rintro e w1 ⟨vp, rfl, hl, hb⟩
  replace S := S.next hl hb
  clear hl hb
  go_wp2_with fail
  refine Calls.mono (add_ok (a := (a / b * b)) (b := (a % b)) S.live (by simp) (by simp) (Bha.out.mono (by rw [Nat.div_add_mod']; exact Nat.le_refl a))) ?_
  rintro e w1 ⟨vs, rfl, hl, hb⟩
  replace S := S.next hl hb
  clear hl hb
  go_wp2_with fail
  refine Calls.mono (cmp_lt (a := (a % b)) (b := b) S.live (by simp) (by simp) (Nat.mod_lt a (Nat.pos_of_ne_zero Bh0.out))) ?_
  rintro e w1 ⟨rfl, hl, hb⟩
  replace S := S.next hl hb
  clear hl hb
  go_wp2_with fail
  refine Calls.mono (same_yes (a := (a / b * b + a % b)) (b := a) S.live (by simp) (by simp) (Nat.div_add_mod' a b)) ?_
  rintro e w1 ⟨rfl, hl, hb⟩
  replace S := S.next hl hb
  clear hl hb
  go_wp2_with fail
  refine Calls.mono (cmp_gt (a := c) (b := b) S.live (by simp) (by simp) Bh1.out) ?_
  rintro e w1 ⟨rfl, hl, hb⟩
  replace S := S.next hl hb
  clear hl hb
  go_wp2_with fail
  refine Calls.mono (mul_var (a := a) (b := b) S.live (by simp) (by simp)) ?_
  rintro e w1 ⟨vx, vxs, vxx, rfl, hl, hb⟩
  replace S := S.next hl hb
  clear hl hb
  go_wp2
  go_ret
  exact ⟨rfl, S.below⟩
set_option maxHeartbeats 4000000 in
theorem div_eq {va vc : Value} {bo : Option Addr} {cb : Nat} {a b c : Nat} (w0 : World) (hL : Live w0 [(va, a), (.slice bo (limbs b).length cb, b), (vc, c)]) (h0 : b ≠ 0) (ha : Fits a) (hz : (((limbs b).length : Int) == 0) = false) (h1 : c = b) :
    Calls Tryd.prog 6 #[va, .slice bo (limbs b).length cb, vc] w0 fun e w' => e = .returned (.bool true) ∧ Below w0.heap.size w0 w' := by
  have S : St w0 w0 [(va, a), (.slice bo (limbs b).length cb, b), (vc, c)] := ⟨Below.refl _ _, hL⟩
  have Bh0 := Bx.mk h0
  have Bha := Bx.mk ha
  have Bh1 := Bx.mk h1
  clear hL h0 ha h1
  go_enter Tryd.func6, Tryd.ntmps6
  go_wp2_with fail
  refine Calls.mono (head_any _) ?_
  rintro e w1 ⟨rfl, hb⟩
  replace S := S.on hb
  clear hb
  go_wp2_with fail
  refine Calls.mono (three_ok (a := a) (b := b) (c := c) S.live (by simp) (by simp) (by simp)) ?_
  rintro e w1 ⟨rfl, rfl⟩
  go_wp2_with fail
  refine Calls.mono (div_ok (a := a) (b := b) S.live (by simp) (by simp) Bh0.out) ?_
  rintro e w1 ⟨vq, vr, rfl, hl, hb⟩
  replace S := S.next hl hb
  clear hl hb
  go_wp2_with fail
  refine Calls.mono (mul_ok (a := (a / b)) (b := b) S.live (by simp) (by simp) (Bha.out.mono (Nat.div_mul_le_self a b))) ?_
  rintro e w1 ⟨vp, rfl, hl, hb⟩
  replace S := S.next hl hb
  clear hl hb
  go_wp2_with fail
  refine Calls.mono (add_ok (a := (a / b * b)) (b := (a % b)) S.live (by simp) (by simp) (Bha.out.mono (by rw [Nat.div_add_mod']; exact Nat.le_refl a))) ?_
  rintro e w1 ⟨vs, rfl, hl, hb⟩
  replace S := S.next hl hb
  clear hl hb
  go_wp2_with fail
  refine Calls.mono (cmp_lt (a := (a % b)) (b := b) S.live (by simp) (by simp) (Nat.mod_lt a (Nat.pos_of_ne_zero Bh0.out))) ?_
  rintro e w1 ⟨rfl, hl, hb⟩
  replace S := S.next hl hb
  clear hl hb
  go_wp2_with fail
  refine Calls.mono (same_yes (a := (a / b * b + a % b)) (b := a) S.live (by simp) (by simp) (Nat.div_add_mod' a b)) ?_
  rintro e w1 ⟨rfl, hl, hb⟩
  replace S := S.next hl hb
  clear hl hb
  go_wp2_with fail
  refine Calls.mono (cmp_eq (a := c) (b := b) S.live (by simp) (by simp) Bh1.out) ?_
  rintro e w1 ⟨rfl, hl, hb⟩
  replace S := S.next hl hb
  clear hl hb
  go_wp2_with fail
  refine Calls.mono (mul_var (a := a) (b := b) S.live (by simp) (by simp)) ?_
  rintro e w1 ⟨vx, vxs, vxx, rfl, hl, hb⟩
  replace S := S.next hl hb
  clear hl hb
  go_wp2
  go_ret
  exact ⟨rfl, S.below⟩
set_option maxHeartbeats 4000000 in
theorem div_lt1 {va vc : Value} {bo : Option Addr} {cb : Nat} {a b c : Nat} (w0 : World) (hL : Live w0 [(va, a), (.slice bo (limbs b).length cb, b), (vc, c)]) (h0 : b ≠ 0) (ha : Fits a) (hz : (((limbs b).length : Int) == 0) = false) (h1 : c < b) (h2 : Over (a * b)) :
    Calls Tryd.prog 6 #[va, .slice bo (limbs b).length cb, vc] w0 fun e w' => e = .returned (.bool true) ∧ Below w0.heap.size w0 w' := by
  have S : St w0 w0 [(va, a), (.slice bo (limbs b).length cb, b), (vc, c)] := ⟨Below.refl _ _, hL⟩
  have Bh0 := Bx.mk h0
  have Bha := Bx.mk ha
  have Bh1 := Bx.mk h1
  have Bh2 := Bx.mk h2
  clear hL h0 ha h1 h2
  go_enter Tryd.func6, Tryd.ntmps6
  go_wp2_with fail
  refine Calls.mono (head_any _) ?_
  rintro e w1 ⟨rfl, hb⟩
  replace S := S.on hb
  clear hb
  go_wp2_with fail
  refine Calls.mono (three_ok (a := a) (b := b) (c := c) S.live (by simp) (by simp) (by simp)) ?_
  rintro e w1 ⟨rfl, rfl⟩
  go_wp2_with fail
  refine Calls.mono (div_ok (a := a) (b := b) S.live (by simp) (by simp) Bh0.out) ?_
  rintro e w1 ⟨vq, vr, rfl, hl, hb⟩
  replace S := S.next hl hb
  clear hl hb
  go_wp2_with fail
  refine Calls.mono (mul_ok (a := (a / b)) (b := b) S.live (by simp) (by simp) (Bha.out.mono (Nat.div_mul_le_self a b))) ?_
  rintro e w1 ⟨vp, rfl, hl, hb⟩
  replace S := S.next hl hb
  clear hl hb
  go_wp2_with fail
  refine Calls.mono (add_ok (a := (a / b * b)) (b := (a % b)) S.live (by simp) (by simp) (Bha.out.mono (by rw [Nat.div_add_mod']; exact Nat.le_refl a))) ?_
  rintro e w1 ⟨vs, rfl, hl, hb⟩
  replace S := S.next hl hb
  clear hl hb
  go_wp2_with fail
  refine Calls.mono (cmp_lt (a := (a % b)) (b := b) S.live (by simp) (by simp) (Nat.mod_lt a (Nat.pos_of_ne_zero Bh0.out))) ?_
  rintro e w1 ⟨rfl, hl, hb⟩
  replace S := S.next hl hb
  clear hl hb
  go_wp2_with fail
  refine Calls.mono (same_yes (a := (a / b * b + a % b)) (b := a) S.live (by simp) (by simp) (Nat.div_add_mod' a b)) ?_
  rintro e w1 ⟨rfl, hl, hb⟩
  replace S := S.next hl hb
  clear hl hb
  go_wp2_with fail
  refine Calls.mono (cmp_lt (a := c) (b := b) S.live (by simp) (by simp) Bh1.out) ?_
  rintro e w1 ⟨rfl, hl, hb⟩
  replace S := S.next hl hb
  clear hl hb
  go_wp2_with fail
  refine Calls.mono (mul_big (a := a) (b := b) S.live (by simp) (by simp) Bh2.out) ?_
  rintro e w1 ⟨vx, rfl, hl, hb⟩
  replace S := S.next hl hb
  clear hl hb
  go_wp2
  go_ret
  exact ⟨rfl, S.below⟩
set_option maxHeartbeats 4000000 in
theorem div_lt2 {va vc : Value} {bo : Option Addr} {cb : Nat} {a b c : Nat} (w0 : World) (hL : Live w0 [(va, a), (.slice bo (limbs b).length cb, b), (vc, c)]) (h0 : b ≠ 0) (ha : Fits a) (hz : (((limbs b).length : Int) == 0) = false) (h1 : c < b) (h2 : Fits (a * b)) (h3 : Over (a * b + c)) :
    Calls Tryd.prog 6 #[va, .slice bo (limbs b).length cb, vc] w0 fun e w' => e = .returned (.bool true) ∧ Below w0.heap.size w0 w' := by
  have S : St w0 w0 [(va, a), (.slice bo (limbs b).length cb, b), (vc, c)] := ⟨Below.refl _ _, hL⟩
  have Bh0 := Bx.mk h0
  have Bha := Bx.mk ha
  have Bh1 := Bx.mk h1
  have Bh2 := Bx.mk h2
  have Bh3 := Bx.mk h3
  clear hL h0 ha h1 h2 h3
  go_enter Tryd.func6, Tryd.ntmps6
  go_wp2_with fail
  refine Calls.mono (head_any _) ?_
  rintro e w1 ⟨rfl, hb⟩
  replace S := S.on hb
  clear hb
  go_wp2_with fail
  refine Calls.mono (three_ok (a := a) (b := b) (c := c) S.live (by simp) (by simp) (by simp)) ?_
  rintro e w1 ⟨rfl, rfl⟩
  go_wp2_with fail
  refine Calls.mono (div_ok (a := a) (b := b) S.live (by simp) (by simp) Bh0.out) ?_
  rintro e w1 ⟨vq, vr, rfl, hl, hb⟩
  replace S := S.next hl hb
  clear hl hb
  go_wp2_with fail
  refine Calls.mono (mul_ok (a := (a / b)) (b := b) S.live (by simp) (by simp) (Bha.out.mono (Nat.div_mul_le_self a b))) ?_
  rintro e w1 ⟨vp, rfl, hl, hb⟩
  replace S := S.next hl hb
  clear hl hb
  go_wp2_with fail
  refine Calls.mono (add_ok (a := (a / b * b)) (b := (a % b)) S.live (by simp) (by simp) (Bha.out.mono (by rw [Nat.div_add_mod']; exact Nat.le_refl a))) ?_
  rintro e w1 ⟨vs, rfl, hl, hb⟩
  replace S := S.next hl hb
  clear hl hb
  go_wp2_with fail
  refine Calls.mono (cmp_lt (a := (a % b)) (b := b) S.live (by simp) (by simp) (Nat.mod_lt a (Nat.pos_of_ne_zero Bh0.out))) ?_
  rintro e w1 ⟨rfl, hl, hb⟩
  replace S := S.next hl hb
  clear hl hb
  go_wp2_with fail
  refine Calls.mono (same_yes (a := (a / b * b + a % b)) (b := a) S.live (by simp) (by simp) (Nat.div_add_mod' a b)) ?_
  rintro e w1 ⟨rfl, hl, hb⟩
  replace S := S.next hl hb
  clear hl hb
  go_wp2_with fail
  refine Calls.mono (cmp_lt (a := c) (b := b) S.live (by simp) (by simp) Bh1.out) ?_
  rintro e w1 ⟨rfl, hl, hb⟩
  replace S := S.next hl hb
  clear hl hb
  go_wp2_with fail
  refine Calls.mono (mul_ok (a := a) (b := b) S.live (by simp) (by simp) Bh2.out) ?_
  rintro e w1 ⟨vx, rfl, hl, hb⟩
  replace S := S.next hl hb
  clear hl hb
  go_wp2_with fail
  refine Calls.mono (add_over (a := (a * b)) (b := c) S.live (by simp) (by simp) Bh3.out) ?_
  rintro e w1 ⟨vy, rfl, hl, hb⟩
  replace S := S.next hl hb
  clear hl hb
  go_wp2
  go_ret
  exact ⟨rfl, S.below⟩
set_option maxHeartbeats 4000000 in
theorem div_lt3 {va vc : Value} {bo : Option Addr} {cb : Nat} {a b c : Nat} (w0 : World) (hL : Live w0 [(va, a), (.slice bo (limbs b).length cb, b), (vc, c)]) (h0 : b ≠ 0) (ha : Fits a) (hz : (((limbs b).length : Int) == 0) = false) (h1 : c < b) (h2 : Fits (a * b)) (h3 : Fits (a * b + c)) (h4 : (a * b + c) / b = a) (h5 : (a * b + c) % b = c) :
    Calls Tryd.prog 6 #[va, .slice bo (limbs b).length cb, vc] w0 fun e w' => e = .returned (.bool true) ∧ Below w0.heap.size w0 w' := by
  have S : St w0 w0 [(va, a), (.slice bo (limbs b).length cb, b), (vc, c)] := ⟨Below.refl _ _, hL⟩
  have Bh0 := Bx.mk h0
  have Bha := Bx.mk ha
  have Bh1 := Bx.mk h1
  have Bh2 := Bx.mk h2
  have Bh3 := Bx.mk h3
  have Bh4 := Bx.mk h4
  have Bh5 := Bx.mk h5
  clear hL h0 ha h1 h2 h3 h4 h5
  go_enter Tryd.func6, Tryd.ntmps6
  go_wp2_with fail
  refine Calls.mono (head_any _) ?_
  rintro e w1 ⟨rfl, hb⟩
  replace S := S.on hb
  clear hb
  go_wp2_with fail
  refine Calls.mono (three_ok (a := a) (b := b) (c := c) S.live (by simp) (by simp) (by simp)) ?_
  rintro e w1 ⟨rfl, rfl⟩
  go_wp2_with fail
  refine Calls.mono (div_ok (a := a) (b := b) S.live (by simp) (by simp) Bh0.out) ?_
  rintro e w1 ⟨vq, vr, rfl, hl, hb⟩
  replace S := S.next hl hb
  clear hl hb
  go_wp2_with fail
  refine Calls.mono (mul_ok (a := (a / b)) (b := b) S.live (by simp) (by simp) (Bha.out.mono (Nat.div_mul_le_self a b))) ?_
  rintro e w1 ⟨vp, rfl, hl, hb⟩
  replace S := S.next hl hb
  clear hl hb
  go_wp2_with fail
  refine Calls.mono (add_ok (a := (a / b * b)) (b := (a % b)) S.live (by simp) (by simp) (Bha.out.mono (by rw [Nat.div_add_mod']; exact Nat.le_refl a))) ?_
  rintro e w1 ⟨vs, rfl, hl, hb⟩
  replace S := S.next hl hb
  clear hl hb
  go_wp2_with fail
  refine Calls.mono (cmp_lt (a := (a % b)) (b := b) S.live (by simp) (by simp) (Nat.mod_lt a (Nat.pos_of_ne_zero Bh0.out))) ?_
  rintro e w1 ⟨rfl, hl, hb⟩
  replace S := S.next hl hb
  clear hl hb
  go_wp2_with fail
  refine Calls.mono (same_yes (a := (a / b * b + a % b)) (b := a) S.live (by simp) (by simp) (Nat.div_add_mod' a b)) ?_
  rintro e w1 ⟨rfl, hl, hb⟩
  replace S := S.next hl hb
  clear hl hb
  go_wp2_with fail
  refine Calls.mono (cmp_lt (a := c) (b := b) S.live (by simp) (by simp) Bh1.out) ?_
  rintro e w1 ⟨rfl, hl, hb⟩
  replace S := S.next hl hb
  clear hl hb
  go_wp2_with fail
  refine Calls.mono (mul_ok (a := a) (b := b) S.live (by simp) (by simp) Bh2.out) ?_
  rintro e w1 ⟨vx, rfl, hl, hb⟩
  replace S := S.next hl hb
  clear hl hb
  go_wp2_with fail
  refine Calls.mono (add_ok (a := (a * b)) (b := c) S.live (by simp) (by simp) Bh3.out) ?_
  rintro e w1 ⟨vy, rfl, hl, hb⟩
  replace S := S.next hl hb
  clear hl hb
  go_wp2_with fail
  refine Calls.mono (div_ok (a := (a * b + c)) (b := b) S.live (by simp) (by simp) Bh0.out) ?_
  rintro e w1 ⟨vu, vv, rfl, hl, hb⟩
  replace S := S.next hl hb
  clear hl hb
  go_wp2_with fail
  refine Calls.mono (same_yes (a := ((a * b + c) / b)) (b := a) S.live (by simp) (by simp) Bh4.out) ?_
  rintro e w1 ⟨rfl, hl, hb⟩
  replace S := S.next hl hb
  clear hl hb
  go_wp2_with fail
  refine Calls.mono (same_yes (a := ((a * b + c) % b)) (b := c) S.live (by simp) (by simp) Bh5.out) ?_
  rintro e w1 ⟨rfl, hl, hb⟩
  replace S := S.next hl hb
  clear hl hb
  go_wp2
  go_ret
  exact ⟨rfl, S.below⟩
set_option maxHeartbeats 4000000 in
theorem div_none {va vc : Value} {bo : Option Addr} {cb : Nat} {a c : Nat} (w0 : World) (hL : Live w0 [(va, a), (.slice bo (limbs 0).length cb, 0), (vc, c)]) (hz : (((limbs 0).length : Int) == 0) = true) :
    Calls Tryd.prog 6 #[va, .slice bo (limbs 0).length cb, vc] w0 fun e w' => e = .returned (.bool true) ∧ Below w0.heap.size w0 w' := by
  have S : St w0 w0 [(va, a), (.slice bo (limbs 0).length cb, 0), (vc, c)] := ⟨Below.refl _ _, hL⟩
  clear hL 
  go_enter Tryd.func6, Tryd.ntmps6
  go_wp2_with fail
  refine Calls.mono (head_any _) ?_
  rintro e w1 ⟨rfl, hb⟩
  replace S := S.on hb
  clear hb
  go_wp2_with fail
  refine Calls.mono (three_ok (a := a) (b := 0) (c := c) S.live (by simp) (by simp) (by simp)) ?_
  rintro e w1 ⟨rfl, rfl⟩
  go_wp2_with fail
  refine Calls.mono (div_zero (a := a) S.live (by simp) (by simp)) ?_
  rintro e w1 ⟨vq, vr, rfl, hl, hb⟩
  replace S := S.next hl hb
  clear hl hb
  obtain ⟨qo, qc, rfl, -⟩ := (show Nm _ vq 0 from S.live (vq, 0) (by simp)).shape
  obtain ⟨ro, rc, rfl, -⟩ := (show Nm _ vr 0 from S.live (vr, 0) (by simp)).shape
  go_wp2
  go_ret
  exact ⟨rfl, S.below⟩
theorem division_not {va vb vc : Value} (w0 : World) (h : ∀ w', Below w0.heap.size w0 w' → Calls Tryd.prog 34 #[va, vb, vc] w' fun e w2 => e = .returned (.bool false) ∧ w' = w2) :
    Calls Tryd.prog 6 #[va, vb, vc] w0 fun e w' => e = .returned (.bool true) ∧ Below w0.heap.size w0 w' := by
  have H := Bx.mk h
  clear h
  go_enter Tryd.func6, Tryd.ntmps6
  go_wp2_with fail
  refine Calls.mono (head_any _) ?_
  rintro e w1 ⟨rfl, hb⟩
  go_wp2_with fail
  refine Calls.mono (H.out _ hb) ?_
  rintro e w2 ⟨rfl, rfl⟩
  go_wp2
  go_ret
  exact ⟨rfl, hb⟩
theorem division_all {va vb vc : Value} {a b c : Nat} (w0 : World) (hL : Live w0 [(va, a), (vb, b), (vc, c)]) :
    Calls Tryd.prog 6 #[va, vb, vc] w0 fun e w' => e = .returned (.bool true) ∧ Below w0.heap.size w0 w' := by
  have ha : Fits a := (show Nm w0 va a from hL (va, a) (by simp)).fits
  obtain ⟨bo, cb, rfl, -⟩ := (show Nm w0 vb b from hL (vb, b) (by simp)).shape
  by_cases h0 : b = 0
  · subst h0
    exact div_none w0 hL len_zero
  · have hz := len_pos h0
    rcases Nat.lt_trichotomy c b with h1 | h1 | h1
    · rcases fits_or (a * b) with h2 | h2
      · rcases fits_or (a * b + c) with h3 | h3
        · refine div_lt3 w0 hL h0 ha hz h1 h2 h3 ?_ ?_
          · rw [Nat.mul_comm, Nat.mul_add_div (Nat.pos_of_ne_zero h0), Nat.div_eq_of_lt h1, Nat.add_zero]
          · rw [Nat.mul_comm, Nat.mul_add_mod, Nat.mod_eq_of_lt h1]
        · exact div_lt2 w0 hL h0 ha hz h1 h2 h3
      · exact div_lt1 w0 hL h0 ha hz h1 h2
    · exact div_eq w0 hL h0 ha hz h1
    · exact div_gt w0 hL h0 ha hz h1
end Go.Proofs.YtegjhkjmejckdaaDoor

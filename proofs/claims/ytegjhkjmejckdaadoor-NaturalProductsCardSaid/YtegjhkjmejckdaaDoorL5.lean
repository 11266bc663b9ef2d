/- NaturalProducts over three numbers. -/
import Derived.Test.YtegjhkjmejckdaaDoorL5az
import Derived.Test.YtegjhkjmejckdaaDoorL5bz
import Derived.Test.YtegjhkjmejckdaaDoorL5nz
namespace Go.Proofs.YtegjhkjmejckdaaDoor
open Go.RowKit M
set_option maxHeartbeats 4000000 in
set_option maxRecDepth 20000 in
theorem prod_over {ao bo : Option Addr} {ca cb : Nat} {vc : Value} {a b c : Nat} (w0 : World) (hL : Live w0 [(.slice ao (limbs a).length ca, a), (.slice bo (limbs b).length cb, b), (vc, c)]) (h1 : Over (a * b)) (z1 : 0 < (limbs a).length) (z2 : 0 < (limbs b).length) :
    Calls Tryd.prog 5 #[.slice ao (limbs a).length ca, .slice bo (limbs b).length cb, vc] w0 fun e w' => e = .returned (.bool true) ∧ Below w0.heap.size w0 w' := by
  have S : St w0 w0 [(.slice ao (limbs a).length ca, a), (.slice bo (limbs b).length cb, b), (vc, c)] := ⟨Below.refl _ _, hL⟩
  have Bh1 := Bx.mk h1
  clear hL h1
  go_enter Tryd.func5, Tryd.ntmps5
  go_wp2_with fail
  refine Calls.mono (head_any _) ?_
  rintro e w1 ⟨rfl, hb⟩
  replace S := S.on hb
  clear hb
  go_wp2_with fail
  refine Calls.mono (three_ok (a := a) (b := b) (c := c) S.live (by simp) (by simp) (by simp)) ?_
  rintro e w1 ⟨rfl, rfl⟩
  go_wp2_with fail
  refine Calls.mono (mul_big (a := a) (b := b) S.live (by simp) (by simp) Bh1.out) ?_
  rintro e w1 ⟨vp, rfl, hl, hb⟩
  replace S := S.next hl hb
  clear hl hb
  go_wp2_with fail
  refine Calls.mono (mul_big (a := b) (b := a) S.live (by simp) (by simp) (by rw [Nat.mul_comm]; exact Bh1.out)) ?_
  rintro e w1 ⟨vq, rfl, hl, hb⟩
  replace S := S.next hl hb
  clear hl hb
  go_wp2_with fail
  refine Calls.mono (same_yes (a := 0) (b := 0) S.live (by simp) (by simp) rfl) ?_
  rintro e w1 ⟨rfl, hl, hb⟩
  replace S := S.next hl hb
  clear hl hb
  go_wp2
  go_ret
  exact ⟨rfl, S.below⟩
set_option maxRecDepth 20000 in
theorem products_not {va vb vc : Value} (w0 : World) (h : ∀ w', Below w0.heap.size w0 w' → Calls Tryd.prog 34 #[va, vb, vc] w' fun e w2 => e = .returned (.bool false) ∧ w' = w2) :
    Calls Tryd.prog 5 #[va, vb, vc] w0 fun e w' => e = .returned (.bool true) ∧ Below w0.heap.size w0 w' := by
  have H := Bx.mk h
  clear h
  go_enter Tryd.func5, Tryd.ntmps5
  go_wp2_with fail
  refine Calls.mono (head_any _) ?_
  rintro e w1 ⟨rfl, hb⟩
  go_wp2_with fail
  refine Calls.mono (H.out _ hb) ?_
  rintro e w2 ⟨rfl, rfl⟩
  go_wp2
  go_ret
  exact ⟨rfl, hb⟩
theorem products_all {va vb vc : Value} {a b c : Nat} (w0 : World) (hL : Live w0 [(va, a), (vb, b), (vc, c)]) :
    Calls Tryd.prog 5 #[va, vb, vc] w0 fun e w' => e = .returned (.bool true) ∧ Below w0.heap.size w0 w' := by
  obtain ⟨ao, ca, rfl, -⟩ := (show Nm w0 va a from hL (va, a) (by simp)).shape
  obtain ⟨bo, cb, rfl, -⟩ := (show Nm w0 vb b from hL (vb, b) (by simp)).shape
  have lz : ∀ x : Nat, x = 0 → (((limbs x).length : Int) == 0) = true := fun x h => by subst h; exact len_zero
  have lp : ∀ x : Nat, x ≠ 0 → 0 < (limbs x).length := fun x h => by have := beq_eq_false_iff_ne.1 (len_pos h); omega
  rcases fits_or (a * b) with h1 | h1
  · by_cases ha : a = 0
    · exact prod_az w0 hL h1 (lz a ha) (lz _ (by rw [ha, Nat.zero_mul]))
    · by_cases hb : b = 0
      · exact prod_bz w0 hL h1 (len_pos ha) (lz b hb) (lz _ (by rw [hb, Nat.mul_zero]))
      · exact prod_nz w0 hL h1 (len_pos ha) (len_pos hb) (len_pos (Nat.mul_ne_zero ha hb))
  · have hne : a * b ≠ 0 := fun h => (fits_zero.not (by rw [← h]; exact h1))
    exact prod_over w0 hL h1 (lp a fun h => hne (by rw [h, Nat.zero_mul])) (lp b fun h => hne (by rw [h, Nat.mul_zero]))
end Go.Proofs.YtegjhkjmejckdaaDoor

/- the reference's Simple. -/
import Derived.Test.YthfpkjeobdajiabGreatDoorRF1
import Derived.Test.YthfpkjeobdajiabGreatDoorRF2
namespace Go.Proofs.YthfpkjeobdajiabGreatDoor
open Go.RowKit M
theorem refSimple_any (n1 d1 n2 d2 x y c : Int) (w : World) (i1 : I64 n1) (i2 : I64 d1) (i3 : I64 n2) (i4 : I64 d2) (hr : SimpR n1 d1 n2 d2 x y c) : Calls Tryz.prog 20 #[RV n1 d1, RV n2 d2] w (OutR ⟨x, y, c⟩ w) := by
  have HC := Bx.mk (fun w => refCmp_any n1 d1 n2 d2 w i1 i2 i3 i4)
  by_cases hok : validQ n1 d1 = true ∧ validQ n2 d2 = true
  · rw [cmpQ_good hok.1 hok.2] at HC
    have B1 := validQ_bd _ _ hok.1
    have B2 := validQ_bd _ _ hok.2
    have l1 := B1.lo
    have l2 := B1.hi
    have l3 := B1.pos
    have l4 := B1.top
    have r1 := B2.lo
    have r2 := B2.hi
    have r3 := B2.pos
    have r4 := B2.top
    have hs := sgn_cases (n1 * d2) (n2 * d1)
    by_cases hlt : n2 * d1 < n1 * d2
    · obtain ⟨rfl, rfl, rfl⟩ := hr.unique (.inr ⟨.inr hlt, rfl, rfl, rfl⟩)
      exact refSimple_bad n1 d1 n2 d2 _ 0 w HC (.inr ⟨rfl, by rcases hs with ⟨h, e⟩ | ⟨h, e⟩ | ⟨h, e⟩ <;> simp only [e] <;> omega⟩)
    have hle : n1 * d2 ≤ n2 * d1 := by omega
    have hc : sgn (n1 * d2) (n2 * d1) ≤ 0 := by rcases hs with ⟨h, e⟩ | ⟨h, e⟩ | ⟨h, e⟩ <;> rw [e] <;> omega
    by_cases h1 : 0 < n1
    · have h2 : 0 < n2 := by
        by_cases h2 : n2 ≤ 0
        · have := Int.mul_le_mul_of_nonneg_right h2 (show 0 ≤ d1 by omega)
          have := Int.mul_pos h1 (show 0 < d2 by omega)
          omega
        · omega
      obtain ⟨p, q, hS, -⟩ := simple_rec (d1 + d2).toNat n1 d1 n2 d2 w (by omega) ⟨by omega, by omega⟩ ⟨by omega, by omega⟩ ⟨by omega, by omega⟩ ⟨by omega, by omega⟩ hle
      obtain ⟨rfl, rfl, rfl⟩ := hr.unique (.inl ⟨hok.1, hok.2, hle, rfl, .inl ⟨h1, hS⟩⟩)
      exact refSimple_pos n1 d1 n2 d2 _ _ _ w HC hc h1 h2 (Bx.mk fun w => refsimple_any n1 d1 n2 d2 _ _ w ⟨by omega, by omega⟩ ⟨by omega, by omega⟩ ⟨by omega, by omega⟩ ⟨by omega, by omega⟩ hle hS)
    by_cases h2 : 0 ≤ n2
    · obtain ⟨rfl, rfl, rfl⟩ := hr.unique (.inl ⟨hok.1, hok.2, hle, rfl, .inr (.inl ⟨by omega, h2, rfl, rfl⟩)⟩)
      exact refSimple_mid n1 d1 n2 d2 _ w HC hc (by omega) h2
    · have hn1 : n1 < 0 := by
        by_cases h : n1 < 0
        · exact h
        · have := Int.mul_neg_of_neg_of_pos (show n2 < 0 by omega) (show 0 < d1 by omega)
          have : n1 = 0 := by omega
          subst this
          omega
      have hle' : -n2 * d1 ≤ -n1 * d2 := by rw [Int.neg_mul, Int.neg_mul]; omega
      obtain ⟨p, q, hS, -⟩ := simple_rec (d2 + d1).toNat (-n2) d2 (-n1) d1 w (by omega) ⟨by omega, by omega⟩ ⟨by omega, by omega⟩ ⟨by omega, by omega⟩ ⟨by omega, by omega⟩ hle'
      obtain ⟨rfl, rfl, rfl⟩ := hr.unique (.inl ⟨hok.1, hok.2, hle, rfl, .inr (.inr ⟨by omega, by omega, by rw [Int.neg_neg]; exact hS⟩)⟩)
      have hp := hS.p1
      have hl := hS.least (-n2) d2 (by omega) (Int.le_refl _) hle'
      exact refSimple_neg n1 d1 n2 d2 _ p _ w HC hc hn1 (by omega) l1 l2 r1 (by omega) (by omega) (Bx.mk fun w => refsimple_any (-n2) d2 (-n1) d1 _ _ w ⟨by omega, by omega⟩ ⟨by omega, by omega⟩ ⟨by omega, by omega⟩ ⟨by omega, by omega⟩ hle' hS)
  · rw [cmpQ_bad hok] at HC
    obtain ⟨rfl, rfl, rfl⟩ := hr.unique (.inr ⟨.inl hok, rfl, rfl, rfl⟩)
    exact refSimple_bad n1 d1 n2 d2 _ 1 w HC (.inl rfl)
end Go.Proofs.YthfpkjeobdajiabGreatDoor

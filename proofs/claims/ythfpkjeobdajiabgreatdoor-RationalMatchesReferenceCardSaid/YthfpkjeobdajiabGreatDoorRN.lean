/- the reference's walk to the neighbours, in plain mathematics. -/
import Derived.Test.YthfpkjeobdajiabGreatDoorRMath
namespace Go.Proofs.YthfpkjeobdajiabGreatDoor
namespace M
/-- How often the reference moves a side. -/
def rtimes (off1 off2 d1 d2 m : Int) : Int := min ((off1 - 1) / off2) ((m - d1) / d2)
theorem rtimes_bounds {o1 o2 d1 d2 m : Int} (h1 : 1 ≤ o1) (h2 : 1 ≤ o2) (h3 : d1 ≤ m) (h4 : 1 ≤ d2) : 0 ≤ rtimes o1 o2 d1 d2 m ∧ rtimes o1 o2 d1 d2 m * o2 ≤ o1 ∧ rtimes o1 o2 d1 d2 m * d2 ≤ m - d1 := by
  have a := Int.ediv_mul_le (o1 - 1) (show o2 ≠ 0 by omega)
  have b := Int.ediv_mul_le (m - d1) (show d2 ≠ 0 by omega)
  have c : 0 ≤ (o1 - 1) / o2 := Int.ediv_nonneg (by omega) (by omega)
  have d : 0 ≤ (m - d1) / d2 := Int.ediv_nonneg (by omega) (by omega)
  have e1 : rtimes o1 o2 d1 d2 m ≤ (o1 - 1) / o2 := Int.min_le_left _ _
  have e2 : rtimes o1 o2 d1 d2 m ≤ (m - d1) / d2 := Int.min_le_right _ _
  refine ⟨by unfold rtimes; omega, ?_, ?_⟩
  · have := Int.mul_le_mul_of_nonneg_right e1 (show 0 ≤ o2 by omega); omega
  · have := Int.mul_le_mul_of_nonneg_right e2 (show 0 ≤ d2 by omega); omega
theorem rtimes_zero {o1 o2 d1 d2 m : Int} (h2 : 1 ≤ o2) (h4 : 1 ≤ d2) (h : rtimes o1 o2 d1 d2 m ≤ 0) : o1 - 1 < o2 ∨ m - d1 < d2 := by
  unfold rtimes at h
  by_cases c : (o1 - 1) / o2 ≤ 0
  · left
    have := (Int.ediv_lt_iff_lt_mul (a := o1 - 1) (b := 1) (c := o2) (by omega)).1 (by omega)
    omega
  · right
    have := (Int.ediv_lt_iff_lt_mul (a := m - d1) (b := 1) (c := d2) (by omega)).1 (by omega)
    omega
/-- Where neither side moves any more, the mediant's denominator is too great. -/
theorem Nb.stop {A D m ln ld hn hd : Int} (H : Nb A D m ln ld hn hd) (hc : Int.gcd A D = 1) (hD : m < D) (k : rtimes (A * ld - ln * D) (hn * D - A * hd) ld hd m ≤ 0) (k' : rtimes (hn * D - A * hd) (A * ld - ln * D) hd ld m ≤ 0) : m < ld + hd := by
  have h1 := H.lo
  have h2 := H.hi
  have h3 := H.l1
  have h4 := H.h1
  rcases rtimes_zero h2 h4 k with c | c
  · rcases rtimes_zero h1 h3 k' with c' | c'
    · have e : A * ld - ln * D = hn * D - A * hd := by omega
      have s := H.sum
      by_cases hs : m < ld + hd
      · exact hs
      · have := coprime_dvd hc (n := ln + hn) (d := ld + hd) (by grind) (by omega)
        omega
    · omega
  · omega
/-- The neighbours of A / D, out of those of the rest of A / D. -/
theorem Nb.shift {A D m f ln ld hn hd : Int} (H : Nb (A - f * D) D m ln ld hn hd) : Nb A D m (f * ld + ln) ld (f * hd + hn) hd := by
  have h1 := H.lo
  have h2 := H.hi
  have h0 := H.det
  exact ⟨by grind, by grind, by grind, H.l1, H.h1, H.lm, H.hm⟩
theorem gcd_shift {A D f : Int} (h : Int.gcd A D = 1) : Int.gcd (A - f * D) D = 1 := by
  have : A - f * D = A + D * (-f) := by grind
  rw [this, Int.gcd_add_mul_left_left]; exact h
/-- Of a number Make makes this number. -/
theorem makeQ_self {n d : Int} (h : validQ n d = true) : makeQ n d = ⟨n, d, 0⟩ := by
  obtain ⟨r, hr, rfl, rfl⟩ := (validQ_iff _ _).1 h
  rw [makeQ_rat _ _ (den_ne r), Rat.divInt_ofNat, Rat.mkRat_self, rep_fits r hr]
end M
end Go.Proofs.YthfpkjeobdajiabGreatDoor

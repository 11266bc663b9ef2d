/- Package rational in plain mathematics: numbers, sums, nearest and simplest numbers, texts. -/
import Derived.Lib.AtoiTie
import Derived.Lib.AtoiAllCases
import Derived.Lib.IndexMore
import Derived.Lib.IndexBytes
import Derived.Lib.ItoaNum
namespace Go.Proofs.YthfpkjeobdajiabGreatDoor
namespace M
/-- A number of package rational, by the numbers that it stands for. -/
def fits (r : Rat) : Bool := decide (r.num.natAbs ≤ 1000000000) && decide (r.den ≤ 1000000000)
def validQ (n d : Int) : Bool := decide (1 ≤ d) && decide (d ≤ 1000000000) && decide (n.natAbs ≤ 1000000000) && decide (Nat.gcd n.natAbs d.natAbs = 1)
/-- Numerator, denominator, error. -/
structure Res where
  n : Int
  d : Int
  e : Int
def rep (r : Rat) : Res := if fits r then ⟨r.num, r.den, 0⟩ else ⟨0, 0, 3⟩
def makeQ (n d : Int) : Res := if d = 0 then ⟨0, 0, 7⟩ else rep (Rat.divInt n d)
def opQ (f : Int → Int → Int → Int → Res) (a b c d : Int) : Res := if validQ a b && validQ c d then f a b c d else ⟨0, 0, 1⟩
def addQ := opQ fun a b c d => makeQ (a * d + c * b) (b * d)
def subQ := opQ fun a b c d => makeQ (a * d - c * b) (b * d)
def mulQ := opQ fun a b c d => makeQ (a * c) (b * d)
def divQ := opQ fun a b c d => makeQ (a * d) (b * c)
theorem validQ_iff (n d : Int) : validQ n d = true ↔ ∃ r : Rat, fits r = true ∧ r.num = n ∧ (r.den : Int) = d := by
  constructor
  · intro h
    simp only [validQ, Bool.and_eq_true, decide_eq_true_eq] at h
    obtain ⟨⟨⟨h1, h2⟩, h3⟩, h4⟩ := h
    refine ⟨⟨n, d.natAbs, by omega, h4⟩, ?_, rfl, by simp; omega⟩
    simp [fits]; omega
  · rintro ⟨r, h, rfl, rfl⟩
    simp only [fits, validQ, Bool.and_eq_true, decide_eq_true_eq] at h ⊢
    have := r.den_pos
    refine ⟨⟨⟨by omega, by omega⟩, h.1⟩, ?_⟩
    simpa using r.reduced
theorem valid_rat (r : Rat) (h : fits r = true) : validQ r.num r.den = true := (validQ_iff _ _).2 ⟨r, h, rfl, rfl⟩
theorem makeQ_rat (n d : Int) (h : d ≠ 0) : makeQ n d = rep (Rat.divInt n d) := by simp [makeQ, h]
theorem den_ne (r : Rat) : (r.den : Int) ≠ 0 := by have := r.den_pos; omega
theorem addQ_rat (r s : Rat) (hr : fits r = true) (hs : fits s = true) : addQ r.num r.den s.num s.den = rep (r + s) := by
  have h : ((r.den : Int) * s.den) ≠ 0 := Int.mul_ne_zero (den_ne r) (den_ne s)
  simp only [addQ, opQ, valid_rat r hr, valid_rat s hs, Bool.and_self, if_true, makeQ_rat _ _ h, Rat.add_def']
  rw [← Int.natCast_mul, Rat.divInt_ofNat]
theorem subQ_rat (r s : Rat) (hr : fits r = true) (hs : fits s = true) : subQ r.num r.den s.num s.den = rep (r - s) := by
  have h : ((r.den : Int) * s.den) ≠ 0 := Int.mul_ne_zero (den_ne r) (den_ne s)
  simp only [subQ, opQ, valid_rat r hr, valid_rat s hs, Bool.and_self, if_true, makeQ_rat _ _ h, Rat.sub_def']
  rw [← Int.natCast_mul, Rat.divInt_ofNat]
theorem mulQ_rat (r s : Rat) (hr : fits r = true) (hs : fits s = true) : mulQ r.num r.den s.num s.den = rep (r * s) := by
  have h : ((r.den : Int) * s.den) ≠ 0 := Int.mul_ne_zero (den_ne r) (den_ne s)
  simp only [mulQ, opQ, valid_rat r hr, valid_rat s hs, Bool.and_self, if_true, makeQ_rat _ _ h, Rat.mul_def']
  rw [← Int.natCast_mul, Rat.divInt_ofNat]
theorem divQ_rat (r s : Rat) (hr : fits r = true) (hs : fits s = true) (h0 : s ≠ 0) : divQ r.num r.den s.num s.den = rep (r / s) := by
  have h : ((r.den : Int) * s.num) ≠ 0 := Int.mul_ne_zero (den_ne r) (fun h => h0 (Rat.num_eq_zero.1 h))
  simp only [divQ, opQ, valid_rat r hr, valid_rat s hs, Bool.and_self, if_true, makeQ_rat _ _ h, Rat.div_def, Rat.inv_def]
  conv => rhs; rw [← Rat.num_divInt_den r]
  rw [Rat.divInt_mul_divInt]
theorem divQ_zero (r s : Rat) (hr : fits r = true) (hs : fits s = true) (h0 : s = 0) : divQ r.num r.den s.num s.den = ⟨0, 0, 7⟩ := by
  subst h0
  simp only [divQ, opQ, valid_rat r hr, valid_rat 0 hs, Bool.and_self, if_true]
  simp [makeQ]
theorem rep_fits (r : Rat) (h : fits r = true) : rep r = ⟨r.num, r.den, 0⟩ := by simp [rep, h]
theorem rep_not (r : Rat) (h : ¬ fits r = true) : rep r = ⟨0, 0, 3⟩ := by simp [rep, h]
theorem rep_ok (r : Rat) (h : (rep r).e = 0) : fits r = true := by
  by_cases hf : fits r = true
  · exact hf
  · rw [rep_not r hf] at h; cases h
/-- What is bounded in a number. -/
structure BdQ (n d : Int) : Prop where
  lo : -1000000000 ≤ n
  hi : n ≤ 1000000000
  pos : 1 ≤ d
  top : d ≤ 1000000000
theorem validQ_bd (n d : Int) (h : validQ n d = true) : BdQ n d := by
  simp only [validQ, Bool.and_eq_true, decide_eq_true_eq] at h
  exact ⟨by omega, by omega, by omega, by omega⟩
theorem makeQ_code (n d : Int) (h : d ≠ 0) : makeQ n d =
    if 1000000000 < n.natAbs / Nat.gcd n.natAbs d.natAbs ∨ 1000000000 < d.natAbs / Nat.gcd n.natAbs d.natAbs then ⟨0, 0, 3⟩
    else ⟨if decide (n < 0) = decide (d < 0) then ((n.natAbs / Nat.gcd n.natAbs d.natAbs : Nat) : Int) else -((n.natAbs / Nat.gcd n.natAbs d.natAbs : Nat) : Int), ((d.natAbs / Nat.gcd n.natAbs d.natAbs : Nat) : Int), 0⟩ := by
  rw [makeQ_rat n d h]
  have hg : d.gcd n = Nat.gcd n.natAbs d.natAbs := by rw [Int.gcd, Nat.gcd_comm]
  have hden := Rat.den_divInt n d
  have hnum := Rat.num_divInt n d
  rw [hg] at hden hnum
  simp only [h, if_false] at hden
  generalize hG : Nat.gcd n.natAbs d.natAbs = g at *
  have hgn : g ∣ n.natAbs := hG ▸ Nat.gcd_dvd_left _ _
  have hgp : 0 < g := by rw [← hG]; exact Nat.gcd_pos_of_pos_right _ (by omega)
  have hnum' : (Rat.divInt n d).num = if decide (n < 0) = decide (d < 0) then ((n.natAbs / g : Nat) : Int) else -((n.natAbs / g : Nat) : Int) := by
    rw [hnum]
    have e1 : d.sign * n = (if decide (n < 0) = decide (d < 0) then (n.natAbs : Int) else -(n.natAbs : Int)) := by
      rcases Int.lt_trichotomy d 0 with hd | hd | hd
      · rw [Int.sign_eq_neg_one_of_neg hd, Int.neg_one_mul]
        have hc : (decide (n < 0) = decide (d < 0)) ↔ n < 0 := by simp [hd]
        by_cases hn : n < 0
        · rw [if_pos (hc.2 hn)]; omega
        · rw [if_neg (fun h => hn (hc.1 h))]; omega
      · exact absurd hd h
      · rw [Int.sign_eq_one_of_pos hd, Int.one_mul]
        have hc : (decide (n < 0) = decide (d < 0)) ↔ ¬ n < 0 := by simp [show ¬ d < 0 by omega]
        by_cases hn : n < 0
        · rw [if_neg (fun h => hc.1 h hn)]; omega
        · rw [if_pos (hc.2 hn)]; omega
    rw [e1]
    split
    · simp
    · rw [Int.neg_ediv_of_dvd (Int.natCast_dvd_natCast.2 hgn)]; simp
  have hab : (Rat.divInt n d).num.natAbs = n.natAbs / g := by rw [hnum']; split <;> simp only [Int.natAbs_neg, Int.natAbs_natCast]
  simp only [rep, fits, hab, hden, Bool.and_eq_true, decide_eq_true_eq]
  by_cases hc : 1000000000 < n.natAbs / g ∨ 1000000000 < d.natAbs / g
  · rw [if_pos hc, if_neg (by omega)]
  · rw [if_neg hc, if_pos (by omega), hnum']
/-- p / q is the simplest number from a / b to c / d. -/
structure Simp (a b c d p q : Int) : Prop where
  q1 : 1 ≤ q
  p1 : 1 ≤ p
  low : a * q ≤ p * b
  high : p * d ≤ c * q
  least : ∀ x y : Int, 1 ≤ y → a * y ≤ x * b → x * d ≤ c * y → q ≤ y ∧ p ≤ x
  cop : Int.gcd p q = 1
theorem Simp.unique {a b c d p q p' q' : Int} (h : Simp a b c d p q) (h' : Simp a b c d p' q') : p = p' ∧ q = q' := by
  have := h.least p' q' h'.q1 h'.low h'.high
  have := h'.least p q h.q1 h.low h.high
  omega
theorem simp_whole {a b c d f : Int} (hb : 1 ≤ b) (hd : 1 ≤ d) (ha : 1 ≤ a) (hle : a * d ≤ c * b) (h : a = f * b) : Simp a b c d f 1 := by
  have hf : 1 ≤ f := by
    by_cases h0 : f ≤ 0
    · have := Int.mul_le_mul_of_nonneg_right h0 (show 0 ≤ b by omega); omega
    · omega
  refine ⟨by omega, hf, by omega, ?_, fun x y hy h1 h2 => ⟨hy, ?_⟩, by simp⟩
  · subst h
    have : b * (f * d) ≤ b * (c * 1) := by grind
    exact Int.le_of_mul_le_mul_left this (by omega)
  · subst h
    have h3 : b * (f * y) ≤ b * x := by grind
    have h4 := Int.le_of_mul_le_mul_left h3 (by omega)
    have : f * 1 ≤ f * y := Int.mul_le_mul_of_nonneg_left hy (by omega)
    omega
theorem simp_next {a b c d f r : Int} (hb : 1 ≤ b) (hd : 1 ≤ d) (ha : 1 ≤ a) (h : a = f * b + r) (hr : 0 < r) (hrb : r < b) (hf : 0 ≤ f) (hc : (f + 1) * d ≤ c) : Simp a b c d (f + 1) 1 := by
  refine ⟨by omega, by omega, by grind, by omega, fun x y hy h1 h2 => ⟨hy, ?_⟩, by simp⟩
  by_cases hx : x ≤ f
  · have h5 : x * b ≤ f * b := Int.mul_le_mul_of_nonneg_right hx (by omega)
    have h6 : a * 1 ≤ a * y := Int.mul_le_mul_of_nonneg_left hy (by omega)
    omega
  · omega
theorem simp_step {a b c d f r s p q : Int} (hb : 1 ≤ b) (hd : 1 ≤ d) (h : a = f * b + r) (hc : c = f * d + s) (hr : 0 < r) (hs : 0 < s) (hf : 0 ≤ f) (hS : Simp d s b r p q) : Simp a b c d (f * p + q) p := by
  have hp := hS.p1
  have hq := hS.q1
  have hfp : 0 ≤ f * p := Int.mul_nonneg hf (by omega)
  refine ⟨hp, by omega, ?_, ?_, fun x y hy h1 h2 => ?_, ?_⟩
  · have := hS.high; subst h; grind
  · have := hS.low; subst hc; grind
  · have e1 : r * y ≤ (x - f * y) * b := by subst h; grind
    have e2 : (x - f * y) * d ≤ s * y := by subst hc; grind
    have hry : 0 < r * y := Int.mul_pos hr (by omega)
    have hx : 1 ≤ x - f * y := by
      by_cases h0 : x - f * y ≤ 0
      · have := Int.mul_le_mul_of_nonneg_right h0 (show 0 ≤ b by omega); omega
      · omega
    have := hS.least y (x - f * y) hx (by grind) (by grind)
    have h7 : f * p ≤ f * y := Int.mul_le_mul_of_nonneg_left this.2 hf
    omega
  · have := hS.cop
    rw [Int.add_comm, Int.mul_comm f p, Int.gcd_add_mul_left_left, Int.gcd_comm]; exact this
/-- The neighbours of A / D with denominators up to m, as they are approached. -/
structure Nb (A D m ln ld hn hd : Int) : Prop where
  det : hn * ld - ln * hd = 1
  lo : 1 ≤ A * ld - ln * D
  hi : 1 ≤ hn * D - A * hd
  l1 : 1 ≤ ld
  h1 : 1 ≤ hd
  lm : ld ≤ m
  hm : hd ≤ m
/-- What both are off adds up to the denominator. -/
theorem Nb.sum {A D m ln ld hn hd : Int} (h : Nb A D m ln ld hn hd) : (A * ld - ln * D) * hd + (hn * D - A * hd) * ld = D := by
  have := h.det; grind
/-- A step of the lower side. -/
theorem coprime_dvd {A D n d : Int} (hc : Int.gcd A D = 1) (h : A * d = n * D) (hd : 1 ≤ d) : D ≤ d := by
  have h1 : D ∣ A * d := ⟨n, by grind⟩
  have h2 : D ∣ d := by
    have := Int.dvd_gcd_mul_iff_dvd_mul.2 h1
    rw [Int.gcd_comm, hc] at this; simpa using this
  exact Int.le_of_dvd (by omega) h2
theorem Nb.low {A D m ln ld hn hd t : Int} (h : Nb A D m ln ld hn hd) (hc : Int.gcd A D = 1) (hD : m < D) (ht : 0 ≤ t) (h1 : t * (hn * D - A * hd) ≤ A * ld - ln * D) (h2 : t * hd ≤ m - ld) :
    Nb A D m (ln + t * hn) (ld + t * hd) hn hd := by
  have hthd : 0 ≤ t * hd := Int.mul_nonneg ht (by have := h.h1; omega)
  have hl := h.l1
  refine ⟨by have := h.det; grind, ?_, h.hi, by omega, h.h1, by omega, h.hm⟩
  have e : A * (ld + t * hd) - (ln + t * hn) * D = (A * ld - ln * D) - t * (hn * D - A * hd) := by grind
  rw [e]
  by_cases h0 : (A * ld - ln * D) - t * (hn * D - A * hd) = 0
  · have := coprime_dvd hc (n := ln + t * hn) (d := ld + t * hd) (by grind) (by omega); omega
  · omega
theorem Nb.high {A D m ln ld hn hd t : Int} (h : Nb A D m ln ld hn hd) (hc : Int.gcd A D = 1) (hD : m < D) (ht : 0 ≤ t) (h1 : t * (A * ld - ln * D) ≤ hn * D - A * hd) (h2 : t * ld ≤ m - hd) :
    Nb A D m ln ld (hn + t * ln) (hd + t * ld) := by
  have hthd : 0 ≤ t * ld := Int.mul_nonneg ht (by have := h.l1; omega)
  have hl := h.h1
  refine ⟨by have := h.det; grind, h.lo, ?_, h.l1, by omega, h.lm, by omega⟩
  have e : (hn + t * ln) * D - A * (hd + t * ld) = (hn * D - A * hd) - t * (A * ld - ln * D) := by grind
  rw [e]
  by_cases h0 : (hn * D - A * hd) - t * (A * ld - ln * D) = 0
  · have := coprime_dvd hc (n := hn + t * ln) (d := hd + t * ld) (by grind) (by omega); omega
  · omega
theorem Nb.first {A D m : Int} (hD : 1 < D) (hc : Int.gcd A D = 1) (hm : 1 ≤ m) : Nb A D m (A / D) 1 (A / D + 1) 1 := by
  have e := Int.mul_ediv_add_emod A D
  have h0 := Int.emod_nonneg A (show D ≠ 0 by omega)
  have h1 := Int.emod_lt_of_pos A (show 0 < D by omega)
  refine ⟨by omega, ?_, ?_, by omega, by omega, hm, hm⟩
  · have e' : A * 1 - A / D * D = A % D := by grind
    rw [e']
    by_cases hz : A % D = 0
    · have := coprime_dvd hc (n := A / D) (d := 1) (by grind) (by omega); omega
    · omega
  · have e' : (A / D + 1) * D - A * 1 = D - A % D := by grind
    omega
/-- Behind the last step nothing with such a denominator lies between. -/
theorem Nb.gap {A D m ln ld hn hd x y : Int} (h : Nb A D m ln ld hn hd) (he : m < ld + hd) (hy : 1 ≤ y) (hym : y ≤ m) : x * ld ≤ ln * y ∨ hn * y ≤ x * hd := by
  by_cases h1 : x * ld ≤ ln * y
  · exact .inl h1
  by_cases h2 : hn * y ≤ x * hd
  · exact .inr h2
  have hdet := h.det
  have e : y = ld * (hn * y - x * hd) + hd * (x * ld - ln * y) := by grind
  have g1 : ld * 1 ≤ ld * (hn * y - x * hd) := Int.mul_le_mul_of_nonneg_left (by omega) (by have := h.l1; omega)
  have g2 : hd * 1 ≤ hd * (x * ld - ln * y) := Int.mul_le_mul_of_nonneg_left (by omega) (by have := h.h1; omega)
  omega
theorem Nb.cop_low {A D m ln ld hn hd : Int} (h : Nb A D m ln ld hn hd) : Int.gcd ln ld = 1 := by
  have hg : (Int.gcd ln ld : Int) ∣ 1 := by
    rw [← h.det]; exact Int.dvd_sub (Int.dvd_mul_of_dvd_right (Int.gcd_dvd_right _ _) ) (Int.dvd_mul_of_dvd_left (Int.gcd_dvd_left _ _))
  have := Int.le_of_dvd (by omega) hg
  have h1 := h.l1
  have : Int.gcd ln ld ≠ 0 := by rw [Ne, Int.gcd_eq_zero_iff]; omega
  omega
theorem Nb.cop_high {A D m ln ld hn hd : Int} (h : Nb A D m ln ld hn hd) : Int.gcd hn hd = 1 := by
  have hg : (Int.gcd hn hd : Int) ∣ 1 := by
    rw [← h.det]; exact Int.dvd_sub (Int.dvd_mul_of_dvd_left (Int.gcd_dvd_left _ _) ) (Int.dvd_mul_of_dvd_right (Int.gcd_dvd_right _ _))
  have := Int.le_of_dvd (by omega) hg
  have h1 := h.h1
  have : Int.gcd hn hd ≠ 0 := by rw [Ne, Int.gcd_eq_zero_iff]; omega
  omega
theorem Nb.dpos {A D m ln ld hn hd : Int} (h : Nb A D m ln ld hn hd) : 2 ≤ D := by
  have := h.sum
  have := Int.mul_le_mul_of_nonneg_left h.h1 (show 0 ≤ A * ld - ln * D by have := h.lo; omega)
  have := Int.mul_le_mul_of_nonneg_left h.l1 (show 0 ≤ hn * D - A * hd by have := h.hi; omega)
  have := h.lo
  have := h.hi
  omega
theorem cross {A D ln ld hn hd : Int} (hD : 0 < D) (h1 : 1 ≤ ld) (h2 : 1 ≤ hd) (l : 1 ≤ A * ld - ln * D) (h : 1 ≤ hn * D - A * hd) : ln * hd < hn * ld := by
  have g1 : hd * 1 ≤ hd * (A * ld - ln * D) := Int.mul_le_mul_of_nonneg_left l (by omega)
  have g2 : ld * 1 ≤ ld * (hn * D - A * hd) := Int.mul_le_mul_of_nonneg_left h (by omega)
  have g3 : D * (ln * hd) < D * (hn * ld) := by grind
  exact Int.lt_of_mul_lt_mul_left g3 (by omega)
theorem coprime_eq {n d n' d' : Int} (h : Int.gcd n d = 1) (h' : Int.gcd n' d' = 1) (hd : 1 ≤ d) (hd' : 1 ≤ d') (e : n * d' = n' * d) : n = n' ∧ d = d' := by
  have a := coprime_dvd h e hd'
  have b := coprime_dvd h' e.symm hd
  have : d = d' := by omega
  subst this
  exact ⟨Int.eq_of_mul_eq_mul_right (by omega) e, rfl⟩
theorem Nb.unique {A D m ln ld hn hd ln' ld' hn' hd' : Int} (h : Nb A D m ln ld hn hd) (he : m < ld + hd) (h' : Nb A D m ln' ld' hn' hd') (he' : m < ld' + hd') :
    (ln = ln' ∧ ld = ld') ∧ hn = hn' ∧ hd = hd' := by
  have hD := h.dpos
  have a1 := h.gap he h'.l1 h'.lm (x := ln')
  have a2 := h'.gap he' h.l1 h.lm (x := ln)
  have b1 := h.gap he h'.h1 h'.hm (x := hn')
  have b2 := h'.gap he' h.h1 h.hm (x := hn)
  have c1 := cross (by omega) h'.l1 h.h1 h'.lo h.hi
  have c2 := cross (by omega) h.l1 h'.h1 h.lo h'.hi
  exact ⟨coprime_eq h.cop_low h'.cop_low h.l1 h'.l1 (by omega), coprime_eq h.cop_high h'.cop_high h.h1 h'.h1 (by omega)⟩
/-- The numerators stay in range. -/
theorem Nb.bounds {A D m ln ld hn hd B : Int} (h : Nb A D m ln ld hn hd) (hc : Int.gcd A D = 1) (hm : m < D) (h1 : -B ≤ A) (h2 : A ≤ B) : (-B ≤ ln ∧ ln ≤ B) ∧ -B ≤ hn ∧ hn ≤ B := by
  have hD := h.dpos
  have hA : A ≠ 0 := by rintro rfl; simp at hc; omega
  have s := h.sum
  have l1 := h.l1
  have h1' := h.h1
  have lm := h.lm
  have hm' := h.hm
  have p1 := h.lo
  have p2 := h.hi
  have g1 := Int.mul_le_mul_of_nonneg_left h1' (show 0 ≤ A * ld - ln * D by omega)
  have g2 := Int.mul_le_mul_of_nonneg_left l1 (show 0 ≤ hn * D - A * hd by omega)
  have g3 : 1 * 1 ≤ (A * ld - ln * D) * hd := by have := Int.mul_le_mul p1 h1' (by omega) (by omega); omega
  have g4 : 1 * 1 ≤ (hn * D - A * hd) * ld := by have := Int.mul_le_mul p2 l1 (by omega) (by omega); omega
  have q1 : A * ld - ln * D < D := by omega
  have q2 : hn * D - A * hd < D := by omega
  rcases Int.lt_or_gt_of_ne hA with hA | hA
  · have e1 : -A * ld ≤ -A * (D - 1) := Int.mul_le_mul_of_nonneg_left (by omega) (by omega)
    have e2 : -A * hd ≤ -A * (D - 1) := Int.mul_le_mul_of_nonneg_left (by omega) (by omega)
    have e3 : -A * 1 ≤ -A * ld := Int.mul_le_mul_of_nonneg_left (by omega) (by omega)
    have e4 : -A * 1 ≤ -A * hd := Int.mul_le_mul_of_nonneg_left (by omega) (by omega)
    have f1 : D * (A - 1) < D * ln := by grind
    have f2 : D * (A - 1) < D * hn := by grind
    have f3 : D * ln < D * 1 := by grind
    have f4 : D * hn < D * 1 := by grind
    have := Int.lt_of_mul_lt_mul_left f1 (by omega)
    have := Int.lt_of_mul_lt_mul_left f2 (by omega)
    have := Int.lt_of_mul_lt_mul_left f3 (by omega)
    have := Int.lt_of_mul_lt_mul_left f4 (by omega)
    omega
  · have e1 : A * ld ≤ A * (D - 1) := Int.mul_le_mul_of_nonneg_left (by omega) (by omega)
    have e2 : A * hd ≤ A * (D - 1) := Int.mul_le_mul_of_nonneg_left (by omega) (by omega)
    have e3 : A * 1 ≤ A * ld := Int.mul_le_mul_of_nonneg_left (by omega) (by omega)
    have e4 : A * 1 ≤ A * hd := Int.mul_le_mul_of_nonneg_left (by omega) (by omega)
    have f1 : D * ln < D * (A + 1) := by grind
    have f2 : D * hn < D * (A + 1) := by grind
    have f3 : D * (-1) < D * ln := by grind
    have f4 : D * (-1) < D * hn := by grind
    have := Int.lt_of_mul_lt_mul_left f1 (by omega)
    have := Int.lt_of_mul_lt_mul_left f2 (by omega)
    have := Int.lt_of_mul_lt_mul_left f3 (by omega)
    have := Int.lt_of_mul_lt_mul_left f4 (by omega)
    omega
theorem Nb.near_low {A D m ln ld hn hd : Int} (h : Nb A D m ln ld hn hd) (he : m < ld + hd) (hle : (A * ld - ln * D) * hd ≤ (hn * D - A * hd) * ld) (x y : Int) (hy : 1 ≤ y) (hym : y ≤ m) :
    (A * ld - ln * D) * y ≤ max (A * y - x * D) (-(A * y - x * D)) * ld := by
  have hD := h.dpos
  have l1 := h.l1
  have h1 := h.h1
  rcases h.gap he hy hym (x := x) with g | g
  · have g2 : x * ld * D ≤ ln * y * D := Int.mul_le_mul_of_nonneg_right g (by omega)
    have g3 : (A * y - x * D) * ld ≤ max (A * y - x * D) (-(A * y - x * D)) * ld := Int.mul_le_mul_of_nonneg_right (by omega) (by omega)
    grind
  · have g2 : hn * y * D ≤ x * hd * D := Int.mul_le_mul_of_nonneg_right g (by omega)
    have g3 : -(A * y - x * D) * (ld * hd) ≤ max (A * y - x * D) (-(A * y - x * D)) * (ld * hd) := Int.mul_le_mul_of_nonneg_right (by omega) (Int.mul_nonneg (by omega) (by omega))
    have g4 : (A * ld - ln * D) * hd * y ≤ (hn * D - A * hd) * ld * y := Int.mul_le_mul_of_nonneg_right hle (by omega)
    have g6 : hn * y * D * ld ≤ x * hd * D * ld := Int.mul_le_mul_of_nonneg_right g2 (by omega)
    have g5 : hd * ((A * ld - ln * D) * y) ≤ hd * (max (A * y - x * D) (-(A * y - x * D)) * ld) := by grind
    exact Int.le_of_mul_le_mul_left g5 (by omega)
theorem Nb.near_high {A D m ln ld hn hd : Int} (h : Nb A D m ln ld hn hd) (he : m < ld + hd) (hle : (hn * D - A * hd) * ld ≤ (A * ld - ln * D) * hd) (x y : Int) (hy : 1 ≤ y) (hym : y ≤ m) :
    (hn * D - A * hd) * y ≤ max (A * y - x * D) (-(A * y - x * D)) * hd := by
  have hD := h.dpos
  have l1 := h.l1
  have h1 := h.h1
  rcases h.gap he hy hym (x := x) with g | g
  · have g2 : x * ld * D ≤ ln * y * D := Int.mul_le_mul_of_nonneg_right g (by omega)
    have g3 : (A * y - x * D) * (ld * hd) ≤ max (A * y - x * D) (-(A * y - x * D)) * (ld * hd) := Int.mul_le_mul_of_nonneg_right (by omega) (Int.mul_nonneg (by omega) (by omega))
    have g4 : (hn * D - A * hd) * ld * y ≤ (A * ld - ln * D) * hd * y := Int.mul_le_mul_of_nonneg_right hle (by omega)
    have g6 : x * ld * D * hd ≤ ln * y * D * hd := Int.mul_le_mul_of_nonneg_right g2 (by omega)
    have g5 : ld * ((hn * D - A * hd) * y) ≤ ld * (max (A * y - x * D) (-(A * y - x * D)) * hd) := by grind
    exact Int.le_of_mul_le_mul_left g5 (by omega)
  · have g2 : hn * y * D ≤ x * hd * D := Int.mul_le_mul_of_nonneg_right g (by omega)
    have g3 : -(A * y - x * D) * hd ≤ max (A * y - x * D) (-(A * y - x * D)) * hd := Int.mul_le_mul_of_nonneg_right (by omega) (by omega)
    grind
theorem rep_eq {r : Rat} {x y : Int} (h : rep r = ⟨x, y, 0⟩) : fits r = true ∧ x = r.num ∧ y = r.den := by
  have hf := rep_ok r (by rw [h])
  rw [rep_fits r hf] at h
  simp only [Res.mk.injEq] at h
  exact ⟨hf, h.1.symm, h.2.1.symm⟩
theorem opQ_valid {f : Int → Int → Int → Int → Res} {a b c d x y : Int} (h : opQ f a b c d = ⟨x, y, 0⟩) : validQ a b = true ∧ validQ c d = true := by
  unfold opQ at h
  by_cases h1 : validQ a b = true <;> by_cases h2 : validQ c d = true <;> simp_all
theorem opQ_bad {f : Int → Int → Int → Int → Res} {a b c d : Int} (h : ¬ (validQ a b = true ∧ validQ c d = true)) : opQ f a b c d = ⟨0, 0, 1⟩ := by
  unfold opQ
  by_cases h1 : validQ a b = true <;> by_cases h2 : validQ c d = true <;> simp_all
theorem addQ_ok {a b c d x y : Int} (h : addQ a b c d = ⟨x, y, 0⟩) : ∃ r s : Rat, (fits r = true ∧ fits s = true ∧ fits (r + s) = true) ∧ (a = r.num ∧ b = r.den) ∧ (c = s.num ∧ d = s.den) ∧ x = (r + s).num ∧ y = (r + s).den := by
  obtain ⟨hv, hw⟩ := opQ_valid h
  obtain ⟨r, hr, rfl, rfl⟩ := (validQ_iff _ _).1 hv
  obtain ⟨s, hs, rfl, rfl⟩ := (validQ_iff _ _).1 hw
  rw [addQ_rat r s hr hs] at h
  have := rep_eq h
  exact ⟨r, s, ⟨hr, hs, this.1⟩, ⟨rfl, rfl⟩, ⟨rfl, rfl⟩, this.2⟩
theorem mulQ_ok {a b c d x y : Int} (h : mulQ a b c d = ⟨x, y, 0⟩) : ∃ r s : Rat, (fits r = true ∧ fits s = true ∧ fits (r * s) = true) ∧ (a = r.num ∧ b = r.den) ∧ (c = s.num ∧ d = s.den) ∧ x = (r * s).num ∧ y = (r * s).den := by
  obtain ⟨hv, hw⟩ := opQ_valid h
  obtain ⟨r, hr, rfl, rfl⟩ := (validQ_iff _ _).1 hv
  obtain ⟨s, hs, rfl, rfl⟩ := (validQ_iff _ _).1 hw
  rw [mulQ_rat r s hr hs] at h
  have := rep_eq h
  exact ⟨r, s, ⟨hr, hs, this.1⟩, ⟨rfl, rfl⟩, ⟨rfl, rfl⟩, this.2⟩
theorem rat_eq {r s : Rat} (h : r.num = s.num) (h' : (r.den : Int) = s.den) : r = s := Rat.ext h (by omega)
theorem addQ_comm (a b c d : Int) : addQ a b c d = addQ c d a b := by
  by_cases h : validQ a b = true ∧ validQ c d = true
  · obtain ⟨r, hr, rfl, rfl⟩ := (validQ_iff _ _).1 h.1
    obtain ⟨s, hs, rfl, rfl⟩ := (validQ_iff _ _).1 h.2
    rw [addQ_rat r s hr hs, addQ_rat s r hs hr, Rat.add_comm]
  · rw [addQ, opQ_bad h, opQ_bad fun h' => h ⟨h'.2, h'.1⟩]
theorem mulQ_comm (a b c d : Int) : mulQ a b c d = mulQ c d a b := by
  by_cases h : validQ a b = true ∧ validQ c d = true
  · obtain ⟨r, hr, rfl, rfl⟩ := (validQ_iff _ _).1 h.1
    obtain ⟨s, hs, rfl, rfl⟩ := (validQ_iff _ _).1 h.2
    rw [mulQ_rat r s hr hs, mulQ_rat s r hs hr, Rat.mul_comm]
  · rw [mulQ, opQ_bad h, opQ_bad fun h' => h ⟨h'.2, h'.1⟩]
theorem sub_undoes {a b c d x y : Int} (h : addQ a b c d = ⟨x, y, 0⟩) : subQ x y c d = ⟨a, b, 0⟩ := by
  obtain ⟨r, s, ⟨hr, hs, hrs⟩, ⟨rfl, rfl⟩, ⟨rfl, rfl⟩, rfl, rfl⟩ := addQ_ok h
  rw [subQ_rat _ _ hrs hs, Rat.add_sub_cancel, rep_fits r hr]
theorem div_undoes {a b c d x y : Int} (h : mulQ a b c d = ⟨x, y, 0⟩) (h0 : c ≠ 0) : divQ x y c d = ⟨a, b, 0⟩ := by
  obtain ⟨r, s, ⟨hr, hs, hrs⟩, ⟨rfl, rfl⟩, ⟨rfl, rfl⟩, rfl, rfl⟩ := mulQ_ok h
  have h1 : s ≠ 0 := fun h => h0 (by rw [h]; rfl)
  rw [divQ_rat _ _ hrs hs h1, Rat.mul_div_cancel h1, rep_fits r hr]
theorem add_assoc {a b c d e f x y z t l m p q : Int} (h : addQ a b c d = ⟨x, y, 0⟩) (h1 : addQ c d e f = ⟨z, t, 0⟩) (h2 : addQ x y e f = ⟨l, m, 0⟩) (h3 : addQ a b z t = ⟨p, q, 0⟩) : l = p ∧ m = q := by
  obtain ⟨r, s, ⟨hr, hs, hrs⟩, ⟨rfl, rfl⟩, ⟨rfl, rfl⟩, rfl, rfl⟩ := addQ_ok h
  obtain ⟨r', s', ⟨hr', hs', hrs'⟩, ⟨e1, e2⟩, ⟨rfl, rfl⟩, rfl, rfl⟩ := addQ_ok h1
  obtain rfl := rat_eq e1 e2
  rw [addQ_rat _ _ hrs hs'] at h2
  rw [addQ_rat _ _ hr hrs', ← Rat.add_assoc] at h3
  have a := rep_eq h2
  have b := rep_eq h3
  exact ⟨a.2.1.trans b.2.1.symm, a.2.2.trans b.2.2.symm⟩
theorem mul_assoc {a b c d e f x y z t l m p q : Int} (h : mulQ a b c d = ⟨x, y, 0⟩) (h1 : mulQ c d e f = ⟨z, t, 0⟩) (h2 : mulQ x y e f = ⟨l, m, 0⟩) (h3 : mulQ a b z t = ⟨p, q, 0⟩) : l = p ∧ m = q := by
  obtain ⟨r, s, ⟨hr, hs, hrs⟩, ⟨rfl, rfl⟩, ⟨rfl, rfl⟩, rfl, rfl⟩ := mulQ_ok h
  obtain ⟨r', s', ⟨hr', hs', hrs'⟩, ⟨e1, e2⟩, ⟨rfl, rfl⟩, rfl, rfl⟩ := mulQ_ok h1
  obtain rfl := rat_eq e1 e2
  rw [mulQ_rat _ _ hrs hs'] at h2
  rw [mulQ_rat _ _ hr hrs', ← Rat.mul_assoc] at h3
  have a := rep_eq h2
  have b := rep_eq h3
  exact ⟨a.2.1.trans b.2.1.symm, a.2.2.trans b.2.2.symm⟩
theorem mul_add {a b c d e f x y z t l m p q u v : Int} (h : mulQ a b c d = ⟨x, y, 0⟩) (h1 : addQ c d e f = ⟨z, t, 0⟩) (h2 : mulQ a b z t = ⟨l, m, 0⟩) (h3 : mulQ a b e f = ⟨p, q, 0⟩) (h4 : addQ x y p q = ⟨u, v, 0⟩) : l = u ∧ m = v := by
  obtain ⟨r, s, ⟨hr, hs, hrs⟩, ⟨rfl, rfl⟩, ⟨rfl, rfl⟩, rfl, rfl⟩ := mulQ_ok h
  obtain ⟨r', s', ⟨hr', hs', hrs'⟩, ⟨e1, e2⟩, ⟨rfl, rfl⟩, rfl, rfl⟩ := addQ_ok h1
  obtain rfl := rat_eq e1 e2
  rw [mulQ_rat _ _ hr hrs', Rat.mul_add] at h2
  rw [mulQ_rat _ _ hr hs'] at h3
  have a := rep_eq h2
  obtain ⟨hf, rfl, rfl⟩ := rep_eq h3
  rw [addQ_rat _ _ hrs hf] at h4
  have b := rep_eq h4
  exact ⟨a.2.1.trans b.2.1.symm, a.2.2.trans b.2.2.symm⟩
/-- The sign of a difference. -/
def sgn (x y : Int) : Int := if x < y then -1 else if y < x then 1 else 0
/-- Cmp: a sign and an error. -/
def cmpQ (a b c d : Int) : Int × Int := if validQ a b && validQ c d then (sgn (a * d) (c * b), 0) else (0, 1)
theorem cmpQ_bad {a b c d : Int} (h : ¬ (validQ a b = true ∧ validQ c d = true)) : cmpQ a b c d = (0, 1) := by
  unfold cmpQ
  by_cases h1 : validQ a b = true <;> by_cases h2 : validQ c d = true <;> simp_all
theorem cmpQ_good {a b c d : Int} (h1 : validQ a b = true) (h2 : validQ c d = true) : cmpQ a b c d = (sgn (a * d) (c * b), 0) := by
  simp [cmpQ, h1, h2]
theorem rat_asymm (r s : Rat) (h : s < r) : ¬ r < s := by rw [Rat.lt_iff] at h ⊢; omega
theorem rat_trans {r s t : Rat} (h : r < s) (h' : s < t) : r < t :=
  Rat.lt_of_le_of_ne (Rat.le_trans (Rat.le_of_lt h) (Rat.le_of_lt h')) fun e => rat_asymm _ _ h (e ▸ h')
theorem sgn_neg (x y : Int) : sgn y x = - sgn x y := by unfold sgn; split <;> split <;> omega
theorem sgn_cases (x y : Int) : (x < y ∧ sgn x y = -1) ∨ (x = y ∧ sgn x y = 0) ∨ (y < x ∧ sgn x y = 1) := by unfold sgn; split <;> (try split) <;> omega
theorem sgn_rat (r s : Rat) : (r < s ∧ sgn (r.num * s.den) (s.num * r.den) = -1) ∨ (r = s ∧ sgn (r.num * s.den) (s.num * r.den) = 0) ∨ (s < r ∧ sgn (r.num * s.den) (s.num * r.den) = 1) := by
  rcases sgn_cases (r.num * s.den) (s.num * r.den) with ⟨h, e⟩ | ⟨h, e⟩ | ⟨h, e⟩
  · exact .inl ⟨(Rat.lt_iff _ _).2 h, e⟩
  · exact .inr (.inl ⟨Rat.eq_iff_mul_eq_mul.2 h, e⟩)
  · exact .inr (.inr ⟨(Rat.lt_iff _ _).2 h, e⟩)
theorem cmpQ_cases (a b c d : Int) : cmpQ a b c d = (0, 1) ∧ cmpQ c d a b = (0, 1) ∨ ∃ r s : Rat, (fits r = true ∧ fits s = true) ∧ (a = r.num ∧ b = r.den) ∧ (c = s.num ∧ d = s.den) ∧
    cmpQ a b c d = (sgn (r.num * s.den) (s.num * r.den), 0) ∧ cmpQ c d a b = (- sgn (r.num * s.den) (s.num * r.den), 0) := by
  by_cases h : validQ a b = true ∧ validQ c d = true
  · refine .inr ?_
    have h1 := cmpQ_good h.1 h.2
    have h2 := cmpQ_good h.2 h.1
    obtain ⟨r, hr, rfl, rfl⟩ := (validQ_iff _ _).1 h.1
    obtain ⟨s, hs, rfl, rfl⟩ := (validQ_iff _ _).1 h.2
    exact ⟨r, s, ⟨hr, hs⟩, ⟨rfl, rfl⟩, ⟨rfl, rfl⟩, h1, by rw [h2, sgn_neg]⟩
  · exact .inl ⟨cmpQ_bad h, cmpQ_bad fun h' => h ⟨h'.2, h'.1⟩⟩
theorem num_pos (q : Rat) : 0 < q.num ↔ 0 < q := by rw [Rat.lt_iff]; simp
theorem num_neg (q : Rat) : q.num < 0 ↔ q < 0 := by rw [Rat.lt_iff]; simp
/-- The sign of a difference of numbers. -/
theorem sub_sign (r s : Rat) : ((r - s).num > 0 ↔ sgn (r.num * s.den) (s.num * r.den) > 0) ∧ ((r - s).num < 0 ↔ sgn (r.num * s.den) (s.num * r.den) < 0) := by
  have h1 : 0 < (r - s).num ↔ s < r := by rw [num_pos, ← Rat.lt_iff_sub_pos]
  have h2 : (r - s).num < 0 ↔ r < s := by
    have : (r - s).num = -(s - r).num := by rw [← Rat.neg_num, Rat.neg_sub]
    rw [this, show (-(s - r).num < 0 ↔ 0 < (s - r).num) from by omega, num_pos, ← Rat.lt_iff_sub_pos]
  have a1 := rat_asymm r s
  have a2 : r < s → ¬ s < r := fun h h' => a1 h' h
  rcases sgn_rat r s with ⟨h, e⟩ | ⟨h, e⟩ | ⟨h, e⟩ <;> rw [e]
  · exact ⟨⟨fun h' => absurd (h1.1 h') (a2 h), fun h' => by omega⟩, ⟨fun _ => by omega, fun _ => h2.2 h⟩⟩
  · subst h; constructor <;> simp [gt_iff_lt, h1, h2, Rat.lt_irrefl]
  · exact ⟨⟨fun _ => by omega, fun _ => h1.2 h⟩, ⟨fun h' => absurd (h2.1 h') (a1 h), fun h' => by omega⟩⟩
theorem add_sgn (r s c : Rat) : sgn ((r + c).num * (s + c).den) ((s + c).num * (r + c).den) = sgn (r.num * s.den) (s.num * r.den) := by
  have a1 := rat_asymm
  have a3 : ∀ r s : Rat, s < r → ¬ s = r := fun r s h h' => by subst h'; exact Rat.lt_irrefl h
  rcases sgn_rat r s with ⟨h, e⟩ | ⟨h, e⟩ | ⟨h, e⟩ <;> rw [e] <;> rcases sgn_rat (r + c) (s + c) with ⟨h', e'⟩ | ⟨h', e'⟩ | ⟨h', e'⟩ <;> rw [e']
  · exact absurd (Rat.add_right_cancel c h') (a3 _ _ h)
  · exact absurd (Rat.add_lt_add_right.1 h') (a1 _ _ h)
  · exact absurd (Rat.add_lt_add_right.1 h') (h ▸ Rat.lt_irrefl)
  · exact absurd (Rat.add_lt_add_right.1 h') (h ▸ Rat.lt_irrefl)
  · exact absurd (Rat.add_lt_add_right.1 h') (a1 _ _ h)
  · exact absurd (Rat.add_right_cancel c h').symm (a3 _ _ h)
theorem sgn_trans (r s t : Rat) (h1 : sgn (r.num * s.den) (s.num * r.den) ≤ 0) (h2 : sgn (s.num * t.den) (t.num * s.den) ≤ 0) :
    sgn (r.num * t.den) (t.num * r.den) ≤ 0 ∧ (sgn (r.num * t.den) (t.num * r.den) < 0 ∨ sgn (r.num * s.den) (s.num * r.den) = 0 ∧ sgn (s.num * t.den) (t.num * s.den) = 0) := by
  have a1 := rat_asymm
  rcases sgn_rat r s with ⟨h, e⟩ | ⟨h, e⟩ | ⟨h, e⟩ <;> rcases sgn_rat s t with ⟨h', e'⟩ | ⟨h', e'⟩ | ⟨h', e'⟩ <;> rw [e] at h1 <;> rw [e'] at h2 <;> (try omega)
  · have g := rat_trans h h'
    rcases sgn_rat r t with ⟨h3, e3⟩ | ⟨h3, e3⟩ | ⟨h3, e3⟩
    · omega
    · exact absurd g (h3 ▸ Rat.lt_irrefl)
    · exact absurd g (a1 _ _ h3)
  · subst h'; omega
  · subst h; omega
  · subst h; subst h'; omega
/-- A side: numerator, denominator, what it is off. -/
structure Side where
  n : Int
  d : Int
  off : Int
/-- How often a side is moved. -/
def times (s o : Side) (m : Int) : Int := min (s.off / o.off) ((m - s.d) / o.d)
def toward (s o : Side) (m : Int) : Side := ⟨s.n + times s o m * o.n, s.d + times s o m * o.d, s.off - times s o m * o.off⟩
structure NbS (A D m : Int) (l h : Side) : Prop where
  nb : Nb A D m l.n l.d h.n h.d
  lo : l.off = A * l.d - l.n * D
  ho : h.off = h.n * D - A * h.d
theorem times_bounds {s o : Side} {m : Int} (h1 : 1 ≤ s.off) (h2 : 1 ≤ o.off) (h3 : s.d ≤ m) (h4 : 1 ≤ o.d) :
    0 ≤ times s o m ∧ times s o m * o.off ≤ s.off ∧ times s o m * o.d ≤ m - s.d := by
  have a := Int.ediv_mul_le s.off (show o.off ≠ 0 by omega)
  have b := Int.ediv_mul_le (m - s.d) (show o.d ≠ 0 by omega)
  have c : 0 ≤ s.off / o.off := Int.ediv_nonneg (by omega) (by omega)
  have d : 0 ≤ (m - s.d) / o.d := Int.ediv_nonneg (by omega) (by omega)
  have e1 : times s o m ≤ s.off / o.off := Int.min_le_left _ _
  have e2 : times s o m ≤ (m - s.d) / o.d := Int.min_le_right _ _
  refine ⟨by unfold times; omega, ?_, ?_⟩
  · have := Int.mul_le_mul_of_nonneg_right e1 (show 0 ≤ o.off by omega); omega
  · have := Int.mul_le_mul_of_nonneg_right e2 (show 0 ≤ o.d by omega); omega
theorem times_pos {s o : Side} {m : Int} (h1 : o.off ≤ s.off) (h2 : 1 ≤ o.off) (h3 : s.d + o.d ≤ m) (h4 : 1 ≤ o.d) : 1 ≤ times s o m := by
  have a : 1 ≤ s.off / o.off := (Int.le_ediv_iff_mul_le (by omega)).2 (by omega)
  have b : 1 ≤ (m - s.d) / o.d := (Int.le_ediv_iff_mul_le (by omega)).2 (by omega)
  unfold times; omega
theorem NbS.low {A D m : Int} {l h : Side} (H : NbS A D m l h) (hc : Int.gcd A D = 1) (hD : m < D) : NbS A D m (toward l h m) h := by
  have p1 := H.nb.lo
  have p2 := H.nb.hi
  have := H.lo
  have := H.ho
  obtain ⟨t0, t1, t2⟩ := times_bounds (s := l) (o := h) (m := m) (by omega) (by omega) H.nb.lm H.nb.h1
  refine ⟨H.nb.low hc hD t0 (by rw [← H.lo, ← H.ho]; exact t1) t2, ?_, H.ho⟩
  simp only [toward]
  rw [H.lo, H.ho]
  generalize times l h m = t
  grind
theorem NbS.high {A D m : Int} {l h : Side} (H : NbS A D m l h) (hc : Int.gcd A D = 1) (hD : m < D) : NbS A D m l (toward h l m) := by
  have p1 := H.nb.lo
  have p2 := H.nb.hi
  have := H.lo
  have := H.ho
  obtain ⟨t0, t1, t2⟩ := times_bounds (s := h) (o := l) (m := m) (by omega) (by omega) H.nb.hm H.nb.l1
  refine ⟨H.nb.high hc hD t0 (by rw [← H.lo, ← H.ho]; exact t1) t2, H.lo, ?_⟩
  simp only [toward]
  rw [H.lo, H.ho]
  generalize times h l m = t
  grind
theorem NbS.grows {A D m : Int} {l h : Side} (H : NbS A D m l h) (hc : Int.gcd A D = 1) (hD : m < D) (hs : l.d + h.d ≤ m) :
    l.d + h.d < (toward l h m).d + (toward h (toward l h m) m).d := by
  have p1 := H.nb.lo
  have p2 := H.nb.hi
  have := H.lo
  have := H.ho
  have b1 := H.nb.l1
  have b2 := H.nb.h1
  have G := H.low hc hD
  have g1 := G.nb.lo
  have g2 := G.lo
  have g3 := G.nb.l1
  obtain ⟨t0, t1, t2⟩ := times_bounds (s := l) (o := h) (m := m) (by omega) (by omega) H.nb.lm H.nb.h1
  obtain ⟨s0, s1, s2⟩ := times_bounds (s := h) (o := toward l h m) (m := m) (by omega) (by omega) H.nb.hm G.nb.l1
  have c1 : 0 ≤ times l h m * h.d := Int.mul_nonneg t0 (by omega)
  have c2 : 0 ≤ times h (toward l h m) m * (toward l h m).d := Int.mul_nonneg s0 (by omega)
  have d1 : (toward l h m).d = l.d + times l h m * h.d := rfl
  have d2 : (toward h (toward l h m) m).d = h.d + times h (toward l h m) m * (toward l h m).d := rfl
  by_cases hle : h.off ≤ l.off
  · have e := times_pos (s := l) (o := h) (m := m) hle (by omega) hs b2
    have := Int.mul_le_mul_of_nonneg_right e (show 0 ≤ h.d by omega)
    omega
  · have e : times l h m = 0 := by
      have : l.off / h.off = 0 := Int.ediv_eq_zero_of_lt (by omega) (by omega)
      have : 0 ≤ (m - l.d) / h.d := Int.ediv_nonneg (by omega) (by omega)
      unfold times; omega
    have e1 : (toward l h m).d = l.d := by rw [d1, e]; omega
    have e2 : (toward l h m).off = l.off := by simp only [toward]; rw [e]; omega
    have e := times_pos (s := h) (o := toward l h m) (m := m) (by omega) (by omega) (by omega) (by omega)
    have := Int.mul_le_mul_of_nonneg_right e (show 0 ≤ (toward l h m).d by omega)
    omega
theorem NbS.first {A D m : Int} (hD : 1 < D) (hc : Int.gcd A D = 1) (hm : 1 ≤ m) : NbS A D m ⟨A / D, 1, A - A / D * D⟩ ⟨A / D + 1, 1, (A / D + 1) * D - A⟩ :=
  ⟨Nb.first hD hc hm, by simp, by simp⟩
/-- What is returned of the two. -/
def nearer (l h : Side) : Int × Int := if l.off * h.d < h.off * l.d ∨ l.off * h.d = h.off * l.d ∧ l.d ≤ h.d then (l.n, l.d) else (h.n, h.d)
def nearP (A D m x y : Int) : Prop := (D ≤ m ∧ x = A ∧ y = D) ∨ (m < D ∧ ∃ l h : Side, NbS A D m l h ∧ m < l.d + h.d ∧ (x, y) = nearer l h)
theorem validQ_of {n d : Int} (h : BdQ n d) (hc : Int.gcd n d = 1) : validQ n d = true := by
  have := h.lo
  have := h.hi
  have := h.pos
  have := h.top
  simp only [validQ, Bool.and_eq_true, decide_eq_true_eq]
  exact ⟨⟨⟨by omega, by omega⟩, by omega⟩, hc⟩
theorem validQ_gcd {n d : Int} (h : validQ n d = true) : Int.gcd n d = 1 := by
  simp only [validQ, Bool.and_eq_true, decide_eq_true_eq] at h; exact h.2
theorem nearP_unique {A D m x y x' y' : Int} (h : nearP A D m x y) (h' : nearP A D m x' y') : x = x' ∧ y = y' := by
  rcases h with ⟨h1, rfl, rfl⟩ | ⟨h1, ⟨n, d, o⟩, ⟨n2, d2, o2⟩, H, hs, he⟩ <;> rcases h' with ⟨h1', rfl, rfl⟩ | ⟨h1', ⟨n', d', o'⟩, ⟨n2', d2', o2'⟩, H', hs', he'⟩
  · exact ⟨rfl, rfl⟩
  · omega
  · omega
  · have := H.nb.unique hs H'.nb hs'
    have a1 := H.lo
    have a2 := H.ho
    have b1 := H'.lo
    have b2 := H'.ho
    simp only at this a1 a2 b1 b2
    obtain ⟨⟨rfl, rfl⟩, rfl, rfl⟩ := this
    subst a1; subst a2; subst b1; subst b2
    rw [← he'] at he
    simpa using he
theorem nearer_cases (l h : Side) : (nearer l h = (l.n, l.d) ∧ l.off * h.d ≤ h.off * l.d) ∨ (nearer l h = (h.n, h.d) ∧ h.off * l.d ≤ l.off * h.d) := by
  unfold nearer; split
  · exact .inl ⟨rfl, by omega⟩
  · exact .inr ⟨rfl, by omega⟩
theorem nearP_valid {A D m x y : Int} (hv : validQ A D = true) (hm : 1 ≤ m) (h : nearP A D m x y) : validQ x y = true ∧ y ≤ m := by
  rcases h with ⟨h1, rfl, rfl⟩ | ⟨h1, l, h, H, hs, he⟩
  · exact ⟨hv, h1⟩
  · have hb := validQ_bd _ _ hv
    have hc := validQ_gcd hv
    have := hb.top
    have bd := H.nb.bounds hc h1 (B := 1000000000) hb.lo hb.hi
    have l1 := H.nb.l1
    have l2 := H.nb.h1
    have l3 := H.nb.lm
    have l4 := H.nb.hm
    rcases nearer_cases l h with ⟨e, _⟩ | ⟨e, _⟩ <;> rw [e] at he <;> simp only [Prod.mk.injEq] at he <;> obtain ⟨rfl, rfl⟩ := he
    · exact ⟨validQ_of ⟨bd.1.1, bd.1.2, l1, by omega⟩ H.nb.cop_low, l3⟩
    · exact ⟨validQ_of ⟨bd.2.1, bd.2.2, l2, by omega⟩ H.nb.cop_high, l4⟩
/-- The absolute value of a difference. -/
def gapQ (a b c d : Int) : Int := max (a * d - c * b) (-(a * d - c * b))
theorem nearP_least {A D m x y : Int} (h : nearP A D m x y) (hD : 1 ≤ D) (p q : Int) (hq : 1 ≤ q) (hqm : q ≤ m) : gapQ A D x y * q ≤ gapQ A D p q * y := by
  rcases h with ⟨h1, rfl, rfl⟩ | ⟨h1, l, h, H, hs, he⟩
  · have e : gapQ x y x y = 0 := by unfold gapQ; omega
    rw [e, Int.zero_mul]
    have : 0 ≤ gapQ x y p q := by unfold gapQ; omega
    exact Int.mul_nonneg this (by omega)
  · have lo := H.nb.lo
    have ho := H.nb.hi
    rcases nearer_cases l h with ⟨e, hle⟩ | ⟨e, hle⟩ <;> rw [e] at he <;> simp only [Prod.mk.injEq] at he <;> obtain ⟨rfl, rfl⟩ := he
    · have := H.nb.near_low hs (by rw [← H.lo, ← H.ho]; exact hle) p q hq hqm
      have e : gapQ A D l.n l.d = A * l.d - l.n * D := by unfold gapQ; omega
      rw [e]; exact this
    · have := H.nb.near_high hs (by rw [← H.lo, ← H.ho]; exact hle) p q hq hqm
      have e : gapQ A D h.n h.d = h.n * D - A * h.d := by unfold gapQ; omega
      rw [e]; exact this
def simpleP (a b c d x y : Int) : Prop := (0 < a ∧ Simp a b c d x y) ∨ (a ≤ 0 ∧ 0 ≤ c ∧ x = 0 ∧ y = 1) ∨ (a ≤ 0 ∧ c < 0 ∧ Simp (-c) d (-a) b (-x) y)
theorem simpleP_unique {a b c d x y x' y' : Int} (h : simpleP a b c d x y) (h' : simpleP a b c d x' y') : x = x' ∧ y = y' := by
  rcases h with ⟨h1, h⟩ | ⟨h1, h2, rfl, rfl⟩ | ⟨h1, h2, h⟩ <;> rcases h' with ⟨h1', h'⟩ | ⟨h1', h2', rfl, rfl⟩ | ⟨h1', h2', h'⟩ <;> (try omega)
  · exact h.unique h'
  · have := h.unique h'; omega
theorem simpleP_in {a b c d x y : Int} (hb : 1 ≤ b) (hd : 1 ≤ d) (h : simpleP a b c d x y) : 1 ≤ y ∧ a * y ≤ x * b ∧ x * d ≤ c * y := by
  rcases h with ⟨h1, h⟩ | ⟨h1, h2, rfl, rfl⟩ | ⟨h1, h2, h⟩
  · exact ⟨h.q1, h.low, h.high⟩
  · omega
  · refine ⟨h.q1, ?_, ?_⟩
    · have := h.high; grind
    · have := h.low; grind
theorem simpleP_least {a b c d x y : Int} (h : simpleP a b c d x y) (p q : Int) (hq : 1 ≤ q) (h1 : a * q ≤ p * b) (h2 : p * d ≤ c * q) : y ≤ q ∧ max x (-x) ≤ max p (-p) := by
  rcases h with ⟨h0, h⟩ | ⟨h0, h0', rfl, rfl⟩ | ⟨h0, h0', h⟩
  · have := h.least p q hq h1 h2
    have := h.p1
    omega
  · omega
  · have := h.least (-p) q hq (by grind) (by grind)
    have := h.p1
    omega
theorem simpleP_valid {a b c d x y : Int} (hv : validQ a b = true) (hw : validQ c d = true) (hle : a * d ≤ c * b) (h : simpleP a b c d x y) : validQ x y = true := by
  have h1 := validQ_bd _ _ hv
  have h2 := validQ_bd _ _ hw
  have := h1.lo
  have := h1.hi
  have := h1.pos
  have := h1.top
  have := h2.lo
  have := h2.hi
  have := h2.pos
  have := h2.top
  have hin := simpleP_in h1.pos h2.pos h
  have l1 := simpleP_least h a b h1.pos (by omega) (by omega)
  refine validQ_of ⟨by omega, by omega, by omega, by omega⟩ ?_
  rcases h with ⟨_, h⟩ | ⟨_, _, rfl, rfl⟩ | ⟨_, _, h⟩
  · exact h.cop
  · rfl
  · have := h.cop; rwa [Int.neg_gcd] at this
open Go.Lib
/-- The text of a number. -/
def textL (n d : Int) : List UInt8 := if d = 1 then itoa n else itoa n ++ 47 :: itoa d
theorem decDigits_all (u : Nat) : ∀ b ∈ decDigits u, 48 ≤ b.toNat ∧ b.toNat ≤ 57 := by
  induction u using Nat.strongRecOn with
  | ind u ih =>
    intro b hb
    rw [decDigits] at hb
    split at hb
    · simp only [List.mem_singleton] at hb
      subst hb
      simp; omega
    · rcases List.mem_append.1 hb with hb | hb
      · exact ih (u / 10) (by omega) b hb
      · simp only [List.mem_singleton] at hb
        subst hb
        simp; omega
theorem decDigits_ne (u : Nat) : decDigits u ≠ [] := by
  intro h; have h1 := decDigits_length u; rw [h, List.length_nil] at h1; have := nDigits_pos u; omega
theorem decFrom_append (l r : List UInt8) : ∀ acc, decFrom acc (l ++ r) = (decFrom acc l).bind fun m => decFrom m r := by
  induction l with
  | nil => intro acc; rfl
  | cons b l ih =>
    intro acc
    simp only [List.cons_append, decFrom]
    cases digitVal b with
    | none => rfl
    | some d => exact ih _
theorem digitVal_of (k : Nat) (h : k < 10) : digitVal (UInt8.ofNat (48 + k)) = some k := by
  have e : (UInt8.ofNat (48 + k)).toNat = 48 + k := by simp; omega
  simp only [digitVal, e]; rw [if_pos (by omega)]; congr 1; omega
theorem decFrom_decDigits (u : Nat) : decFrom 0 (decDigits u) = some u := by
  induction u using Nat.strongRecOn with
  | ind u ih =>
    rw [decDigits]
    split
    · rename_i h
      simp only [decFrom, digitVal_of u h]; congr 1; omega
    · rw [decFrom_append, ih (u / 10) (by omega)]
      simp only [Option.bind_some, decFrom, digitVal_of (u % 10) (by omega)]
      congr 1; omega
theorem decNat_decDigits (u : Nat) : decNat (decDigits u) = some u := by
  unfold decNat
  rw [if_neg (by simpa using decDigits_ne u)]; exact decFrom_decDigits u
theorem atoi_itoa (n : Int) : atoi (itoa n) = some n := by
  unfold itoa
  split
  · simp only [atoi, beq_self_eq_true, if_true, decNat_decDigits, Option.map_some]
    congr 1; omega
  · have hall := decDigits_all n.toNat
    have hd := decNat_decDigits n.toNat
    generalize hl : decDigits n.toNat = l at *
    cases l with
    | nil => exact absurd hl (decDigits_ne _)
    | cons b r =>
      have hb := hall b (by simp)
      have h45 : ¬ (b == 45) = true := by intro h; have : b = 45 := by simpa using h
                                          subst this; simp at hb
      have h43 : ¬ (b == 43) = true := by intro h; have : b = 43 := by simpa using h
                                          subst this; simp at hb
      simp only [atoi, if_neg h45, if_neg h43, hd, Option.map_some]
      congr 1; omega
theorem nDigits_le (k : Nat) : ∀ u, u < 10 ^ (k + 1) → nDigits u ≤ k + 1 := by
  induction k with
  | zero => intro u h; rw [nDigits_small (by simpa using h)]; omega
  | succ k ih =>
    intro u h
    by_cases h10 : u < 10
    · rw [nDigits_small h10]; omega
    · rw [nDigits_big h10]
      have := ih (u / 10) (by rw [Nat.pow_succ] at h; omega)
      omega
theorem itoa_len (n : Int) (h1 : -1000000000 ≤ n) (h2 : n ≤ 1000000000) : (itoa n).length ≤ 11 := by
  unfold itoa
  split
  · have := nDigits_le 9 n.natAbs (by omega)
    simp only [List.length_cons, decDigits_length]; omega
  · have := nDigits_le 9 n.toNat (by omega)
    rw [decDigits_length]; omega
theorem atoiAll_itoa (n : Int) (h1 : -1000000000 ≤ n) (h2 : n ≤ 1000000000) : atoiAll (itoa n) = .ok n := by
  rw [atoiAll_short _ (by have := itoa_len n h1 h2; omega), atoi_itoa]; rfl
theorem itoa_no47 (n : Int) : (47 : UInt8) ∉ itoa n := by
  unfold itoa
  split
  · intro h
    rcases List.mem_cons.1 h with h | h
    · simp at h
    · have := decDigits_all _ _ h; simp at this
  · intro h
    have := decDigits_all _ _ h; simp at this
theorem indexByte_append (l r : List UInt8) (c : UInt8) (h : c ∉ l) : indexByte (l ++ c :: r) c = l.length := by
  induction l with
  | nil => simp [indexByte]
  | cons b l ih =>
    have h1 : ¬ (b == c) = true := by intro h'; exact h (by have : b = c := by simpa using h'
                                                            simp [this])
    have h2 := ih (fun h' => h (by simp [h']))
    simp only [List.cons_append, indexByte, if_neg h1, h2]
    rw [if_neg (by simp)]; simp
theorem indexByte_none (l : List UInt8) (c : UInt8) (h : c ∉ l) : indexByte l c = -1 := by
  induction l with
  | nil => rfl
  | cons b l ih =>
    have h1 : ¬ (b == c) = true := by intro h'; exact h (by have : b = c := by simpa using h'
                                                            simp [this])
    simp only [indexByte, if_neg h1, ih (fun h' => h (by simp [h']))]; rfl
theorem cut_hit (l r : List UInt8) (c : UInt8) (h : c ∉ l) : cut (l ++ c :: r) [c] = (l, r, true) := by
  unfold cut
  rw [index_one, indexByte_append l r c h, if_pos (by omega)]
  simp
theorem cut_none (l : List UInt8) (c : UInt8) (h : c ∉ l) : cut l [c] = (l, [], false) := by
  unfold cut
  rw [index_one, indexByte_none l c h]; rfl
/-- What Parse reads: above and below of the text, then a test. -/
def readQ (l : List UInt8) : Res :=
  match atoiAll (cut l [47]).1, atoiAll (if (cut l [47]).2.2 then (cut l [47]).2.1 else [49]) with
  | .ok n, .ok d => if validQ n d = true ∧ textL n d = l then ⟨n, d, 0⟩ else ⟨0, 0, 8⟩
  | _, _ => ⟨0, 0, 8⟩
theorem readQ_text (n d : Int) (h : validQ n d = true) : readQ (textL n d) = ⟨n, d, 0⟩ := by
  have hb := validQ_bd _ _ h
  have := hb.lo
  have := hb.hi
  have := hb.pos
  have := hb.top
  have a1 := atoiAll_itoa n (by omega) (by omega)
  have a2 := atoiAll_itoa d (by omega) (by omega)
  unfold readQ
  by_cases h1 : d = 1
  · subst h1
    have e : textL n 1 = itoa n := by simp [textL]
    rw [e, cut_none _ _ (itoa_no47 n)]
    have a3 : atoiAll [49] = .ok 1 := by decide
    simp [a1, a3, h, e]
  · have e : textL n d = itoa n ++ 47 :: itoa d := by simp [textL, h1]
    rw [e, cut_hit _ _ _ (itoa_no47 n)]
    simp [a1, a2, h, e]
theorem readQ_ok {l : List UInt8} {n d : Int} (h : readQ l = ⟨n, d, 0⟩) : validQ n d = true ∧ textL n d = l := by
  unfold readQ at h
  split at h
  · split at h
    · rename_i h'; cases h; exact h'
    · cases h
  · cases h
theorem readQ_err {l : List UInt8} (h : ¬ (readQ l).e = 0) : readQ l = ⟨0, 0, 8⟩ := by
  unfold readQ at h ⊢
  split
  · split
    · rename_i a1 a2 h'; simp only [a1, a2, h', and_self, if_true, not_true] at h
    · rfl
  · rfl
end M
end Go.Proofs.YthfpkjeobdajiabGreatDoor

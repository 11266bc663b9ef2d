/- plain mathematics of scales: the order of pitches as that of a group; the octave; what lies within it. -/
import Derived.Test.YtomgihlkbmaleaaDoorPMath
namespace Go.Proofs.YtomgihlkbmaleaaDoor
open M
/-- n times the octave. -/
def oc (n : Int) : Nat → Int := fun i => if i = 0 then 12 * n else 0
def subV (a b : Nat → Int) : Nat → Int := fun i => a i - b i
def addV (a b : Nat → Int) : Nat → Int := fun i => a i + b i
theorem sg_rng (v : Nat → Int) : sg v = -1 ∨ sg v = 0 ∨ sg v = 1 := by
  unfold sg cmpI
  split
  · exact .inl rfl
  · split
    · exact .inr (.inr rfl)
    · exact .inr (.inl rfl)
theorem sg_anti {u v : Nat → Int} (h : ∀ i, i < 6 → u i = -v i) : sg u = -sg v := by rw [← sg_neg]; exact sg_congr h
theorem sg_le_sum {u v w : Nat → Int} (hu : sg u ≤ 0) (hv : sg v ≤ 0) (h : ∀ i, i < 6 → w i = u i + v i) : sg w ≤ 0 := by
  rw [sg_congr h]; exact sg_le_add hu hv
/-- A sum of two numbers that are at most 1, one of them less, is less. -/
theorem sg_lt_sum {u v w : Nat → Int} (hu : sg u < 0) (hv : sg v ≤ 0) (h : ∀ i, i < 6 → w i = u i + v i) : sg w < 0 := by
  have h1 := sg_le_sum (by omega) hv h
  refine Int.lt_of_not_ge fun h2 => ?_
  have h0 : sg w = 0 := by omega
  have hw := sg_zero.1 h0
  have e : sg u = -sg v := sg_anti fun i hi => by have := h i hi; have := hw i hi; omega
  have k : sg v = 0 ∨ 0 < sg v ∨ sg v < 0 := by omega
  rcases k with k | k | k <;> omega
theorem sg_lt_sum' {u v w : Nat → Int} (hu : sg u ≤ 0) (hv : sg v < 0) (h : ∀ i, i < 6 → w i = u i + v i) : sg w < 0 :=
  sg_lt_sum hv hu fun i hi => by rw [h i hi, Int.add_comm]
theorem sg_ge_sum {u v w : Nat → Int} (hu : 0 ≤ sg u) (hv : 0 ≤ sg v) (h : ∀ i, i < 6 → w i = u i + v i) : 0 ≤ sg w := by
  have := sg_le_sum (u := neg u) (v := neg v) (w := neg w) (by rw [sg_neg]; omega) (by rw [sg_neg]; omega) fun i hi => by simp only [neg]; rw [h i hi]; omega
  rw [sg_neg] at this; omega
theorem sg_gt_sum {u v w : Nat → Int} (hu : 0 < sg u) (hv : 0 ≤ sg v) (h : ∀ i, i < 6 → w i = u i + v i) : 0 < sg w := by
  have := sg_lt_sum (u := neg u) (v := neg v) (w := neg w) (by rw [sg_neg]; omega) (by rw [sg_neg]; omega) fun i hi => by simp only [neg]; rw [h i hi]; omega
  rw [sg_neg] at this; omega
theorem sg_oc_pos : sg (oc 1) = 1 := by decide +kernel
theorem sg_zero' : sg (fun _ => 0) = 0 := sg_zero.2 fun _ _ => rfl
theorem sg_oc {n : Int} (h : 0 < n) : sg (oc n) = 1 := by
  obtain ⟨k, rfl⟩ := Int.eq_ofNat_of_zero_le (Int.le_of_lt h)
  rw [show sg (oc k) = sg (fun i => (k : Int) * oc 1 i) from sg_congr fun i _ => by unfold oc; by_cases e : i = 0 <;> simp [e, Int.mul_comm], sg_smul (by omega)]
  exact sg_oc_pos
/-- Not lower than the unison, lower than the octave. -/
structure In1 (q : Nat → Int) : Prop where
  lo : 0 ≤ sg q
  hi : sg (subV q (oc 1)) < 0
/-- A pitch is in one octave alone. -/
theorem In1.one {q r : Nat → Int} {n : Int} (hq : In1 q) (hr : In1 r) (h : ∀ i, i < 6 → q i = r i + oc n i) : n = 0 := by
  have key : ∀ {q r : Nat → Int} {n : Int}, In1 q → In1 r → (∀ i, i < 6 → q i = r i + oc n i) → ¬ 0 < n := by
    intro q r n hq hr h hn
    have h1 := hq.hi
    have h2 : 0 ≤ sg (oc (n - 1)) := by
      by_cases e : n = 1
      · subst e; exact Int.le_of_eq (sg_zero.2 fun i _ => by unfold oc; split <;> rfl).symm
      · rw [sg_oc (by omega)]; decide
    have h3 := sg_ge_sum (w := subV q (oc 1)) hr.lo h2 fun i hi => by
      unfold subV; rw [h i hi]; unfold oc; split <;> omega
    omega
  have a := key hq hr h
  have b := key (n := -n) hr hq fun i hi => by rw [h i hi]; unfold oc; split <;> omega
  omega
theorem In1.same {q r : Nat → Int} {n : Int} (hq : In1 q) (hr : In1 r) (h : ∀ i, i < 6 → q i = r i + oc n i) : ∀ i, i < 6 → q i = r i := by
  intro i hi
  have := hq.one hr h
  subst this
  rw [h i hi]; unfold oc; split <;> omega
theorem sub_lt_trans {a b c : Nat → Int} (h1 : sg (subV a b) < 0) (h2 : sg (subV b c) < 0) : sg (subV a c) < 0 :=
  sg_lt_sum h1 (Int.le_of_lt h2) fun i _ => by unfold subV; omega
theorem sub_le_trans {a b c : Nat → Int} (h1 : sg (subV a b) ≤ 0) (h2 : sg (subV b c) ≤ 0) : sg (subV a c) ≤ 0 :=
  sg_le_sum h1 h2 fun i _ => by unfold subV; omega
theorem sub_anti (a b : Nat → Int) : sg (subV a b) = -sg (subV b a) := sg_anti fun i _ => by unfold subV; omega
theorem sub_eq {a b : Nat → Int} : sg (subV a b) = 0 ↔ ∀ i, i < 6 → a i = b i := by
  rw [sg_zero]; exact ⟨fun h i hi => by have := h i hi; unfold subV at this; omega, fun h i hi => by have := h i hi; unfold subV; omega⟩
theorem sub_self (a : Nat → Int) : sg (subV a a) = 0 := sub_eq.2 fun _ _ => rfl
end Go.Proofs.YtomgihlkbmaleaaDoor

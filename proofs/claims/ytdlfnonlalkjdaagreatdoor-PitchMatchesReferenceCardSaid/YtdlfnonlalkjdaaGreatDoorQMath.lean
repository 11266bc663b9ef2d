/- plain mathematics of the laws of pitch: what is made of an integer is unique; ratios; valid sums. -/
import Derived.Test.YtdlfnonlalkjdaaGreatDoorP4
namespace Go.Proofs.YtdlfnonlalkjdaaGreatDoor
open Go.RowKit M
theorem pr_cases (i : Nat) : pr i = 2 ∨ pr i = 3 ∨ pr i = 5 ∨ pr i = 7 ∨ pr i = 11 ∨ pr i = 13 := by unfold pr; repeat' split
                                                                                                     all_goals simp
theorem pr_prime (i : Nat) {g : Nat} (h : g ∣ pr i) : g = 1 ∨ g = pr i := by
  have hle : g ≤ pr i := Nat.le_of_dvd (pr_pos i) h
  have key : ∀ p, (p = 2 ∨ p = 3 ∨ p = 5 ∨ p = 7 ∨ p = 11 ∨ p = 13) → ∀ g, g < 14 → g ∣ p → g = 1 ∨ g = p := by
    intro p hp
    rcases hp with rfl | rfl | rfl | rfl | rfl | rfl <;> decide
  have h13 : pr i ≤ 13 := by rcases pr_cases i with h | h | h | h | h | h <;> omega
  exact key (pr i) (pr_cases i) g (by omega) h
theorem pr_coprime_of {i r : Nat} (h : ¬ pr i ∣ r) : Nat.Coprime (pr i) r := by
  rcases pr_prime i (Nat.gcd_dvd_left (pr i) r) with e | e
  · exact e
  · exact absurd (e ▸ Nat.gcd_dvd_right (pr i) r) h
theorem pr_coprime2 {i j : Nat} (hi : i < 6) (hj : j < 6) (hne : i ≠ j) : Nat.Coprime (pr i) (pr j) := by
  rcases Nat.lt_or_ge j i with h | h
  · exact pr_coprime hi h
  · exact (pr_coprime hj (by omega)).symm
theorem upN_split (v : Nat → Int) {i n : Nat} (hi : i < n) (hn : n ≤ 6) : ∃ A, upN v n = pr i ^ (v i).toNat * A ∧ Nat.Coprime (pr i) A := by
  induction n with
  | zero => omega
  | succ n ih =>
    by_cases e : i = n
    · subst e
      exact ⟨upN v i, Nat.mul_comm _ _, pr_coprime_up v (by omega) (Nat.le_refl i)⟩
    · obtain ⟨A, hA, hc⟩ := ih (by omega) (by omega)
      refine ⟨A * pr n ^ (v n).toNat, ?_, Nat.Coprime.mul_right hc (Nat.Coprime.pow_right _ (pr_coprime2 (by omega) (by omega) e))⟩
      show upN v n * pr n ^ (v n).toNat = _
      rw [hA, Nat.mul_assoc]
theorem FacR.unique {n : Nat} {u v : Nat → Int} {r s : Nat} (h : FacR n v r) (k : FacR n u s) : (∀ i, i < 6 → v i = u i) ∧ r = s := by
  have hv : ∀ i, i < 6 → v i = u i := by
    intro i hi
    obtain ⟨A, hA, cA⟩ := upN_split v hi (Nat.le_refl 6)
    obtain ⟨B, hB, cB⟩ := upN_split u hi (Nat.le_refl 6)
    have e1 : pr i ^ (v i).toNat * (A * r) = pr i ^ (u i).toNat * (B * s) := by
      rw [← Nat.mul_assoc, ← Nat.mul_assoc, ← hA, ← hB]; exact h.eq.symm.trans k.eq
    have := (sep (pr_gt i) (Nat.Coprime.mul_right cA (pr_coprime_of (h.no i hi))) (Nat.Coprime.mul_right cB (pr_coprime_of (k.no i hi))) e1).1
    have h1 := h.low i hi
    have h2 := k.low i hi
    omega
  refine ⟨hv, ?_⟩
  have e : up v = up u := up_congr fun i hi => by rw [hv i hi]
  have := h.eq.symm.trans k.eq
  rw [e] at this
  exact Nat.eq_of_mul_eq_mul_left (up_pos u) this
/-- Six integers as exponents. -/
def vec (a b c d e f : Int) : Nat → Int := fun i => if i = 0 then a else if i = 1 then b else if i = 2 then c else if i = 3 then d else if i = 4 then e else f
theorem upN_mul2 {u v x : Nat → Int} {n : Nat} (h : ∀ i, i < n → (u i).toNat + (v i).toNat = (x i).toNat) : upN u n * upN v n = upN x n := by
  induction n with
  | zero => rfl
  | succ n ih =>
    have e := ih fun i hi => h i (by omega)
    simp only [upN]
    rw [← e, ← h n (by omega), Nat.pow_add]; ac_rfl
/-- What Ratio returns has the numerator and the denominator of the quotient. -/
theorem ratio_frac {n d : Nat} {va vb u : Nat → Int} {r : Nat} (h : FacR n va r) (k : FacR d vb r) (hu : ∀ i, i < 6 → u i = va i - vb i) :
    up u * d = dn u * n ∧ up u ∣ n ∧ (∀ i, i < 6 → -30 ≤ u i ∧ u i ≤ 30) := by
  have e1 : up u * up (fun i => min (va i) (vb i)) = up va := by
    apply upN_mul2; intro i hi
    have := hu i hi; have := h.low i hi; have := k.low i hi
    omega
  have e2 : dn u * up (fun i => min (va i) (vb i)) = up vb := by
    apply upN_mul2; intro i hi
    have := hu i hi; have := h.low i hi; have := k.low i hi
    simp only [neg]; omega
  refine ⟨?_, ?_, ?_⟩
  · rw [h.eq, k.eq, ← e1, ← e2]; ac_rfl
  · rw [h.eq, ← e1, Nat.mul_assoc]; exact Nat.dvd_mul_right _ _
  · intro i hi
    have := hu i hi; have := h.low i hi; have := k.low i hi
    omega
theorem fac81 : FacR 81 (vec 0 4 0 0 0 0) 1 := ⟨by decide, by decide, by decide, by decide⟩
theorem fac80 : FacR 80 (vec 4 0 1 0 0 0) 1 := ⟨by decide, by decide, by decide, by decide⟩
theorem fac17 : FacR 17 (vec 0 0 0 0 0 0) 17 := ⟨by decide, by decide, by decide, by decide⟩
theorem fac34 : FacR 34 (vec 1 0 0 0 0 0) 17 := ⟨by decide, by decide, by decide, by decide⟩
theorem fac16 : FacR 16 (vec 4 0 0 0 0 0) 1 := ⟨by decide, by decide, by decide, by decide⟩
theorem PV_congr {u v : Nat → Int} (h : ∀ i, i < 6 → u i = v i) : PV u = PV v := by
  unfold PV; rw [h 0 (by omega), h 1 (by omega), h 2 (by omega), h 3 (by omega), h 4 (by omega), h 5 (by omega)]
theorem inB_mono {v : Nat → Int} {m k : Int} (h : inB v m) (hmk : m ≤ k) : inB v k := fun i hi => by have := h i hi; omega
theorem bdB_congr {u v : Nat → Int} {m : Int} (h : ∀ i, i < 6 → u i = v i) : bdB u m = bdB v m := by
  have : inB u m ↔ inB v m := ⟨fun k i hi => by rw [← h i hi]; exact k i hi, fun k i hi => by rw [h i hi]; exact k i hi⟩
  unfold bdB; exact decide_eq_decide.2 this
theorem zero_ok (m : Int) (h : 0 ≤ m) : bdB (fun _ => 0) m = true := bdB_yes.2 fun i _ => ⟨by omega, by omega⟩
theorem sg_pair (a b c : Nat → Int) (h1 : sg (fun i => a i - b i) ≤ 0) (h2 : sg (fun i => b i - c i) ≤ 0) : sg (fun i => a i - c i) ≤ 0 := by
  have := sg_le_add h1 h2
  rw [sg_congr (v := fun i => a i - c i) fun i _ => by omega] at this; exact this
theorem sg_swap (a b : Nat → Int) : sg (fun i => b i - a i) = -sg (fun i => a i - b i) := by
  rw [← sg_neg]; exact sg_congr fun i _ => by simp only [neg]; omega
theorem sg_eq {a b : Nat → Int} : sg (fun i => a i - b i) = 0 ↔ PV a = PV b := by
  rw [sg_zero]
  constructor
  · intro h; exact PV_congr fun i hi => by have := h i hi; omega
  · intro h
    simp only [PV, Value.agg.injEq, Array.mk.injEq, List.cons.injEq, Value.int.injEq, true_and, and_true] at h
    obtain ⟨h0, h1, h2, h3, h4, h5⟩ := h
    exact six (p := fun i => a i - b i = 0) (by omega) (by omega) (by omega) (by omega) (by omega) (by omega)
theorem sg_range (v : Nat → Int) : sg v = -1 ∨ sg v = 0 ∨ sg v = 1 := by
  unfold sg cmpI; split
  · exact .inl rfl
  · split
    · exact .inr (.inr rfl)
    · exact .inr (.inl rfl)
theorem sg_quo {a b p q : Nat → Int} {n d : Int} (hn : 0 < n) (hd : 0 < d) (hp : ∀ i, i < 6 → n * a i = d * p i) (hq : ∀ i, i < 6 → n * b i = d * q i) : sg (fun i => p i - q i) = sg (fun i => a i - b i) := by
  have e1 := sg_smul (k := n.toNat) (by omega) fun i => a i - b i
  have e2 := sg_smul (k := d.toNat) (by omega) fun i => p i - q i
  rw [← e1, ← e2]
  refine sg_congr fun i hi => ?_
  have h1 := hp i hi
  have h2 := hq i hi
  rw [Int.toNat_of_nonneg (by omega), Int.toNat_of_nonneg (by omega), Int.mul_sub, Int.mul_sub]; omega
end Go.Proofs.YtdlfnonlalkjdaaGreatDoor

/- plain mathematics of sizes: sums, differences, octaves, widths. -/
import Derived.Test.YtdlfnonlalkjdaaDoorSG
namespace Go.Proofs.YtdlfnonlalkjdaaDoor
open Go.RowKit M
theorem tHi_sub {i : Nat} (hi : i < 6) (x y : Int) : tHi i (x - y) ≤ tHi i x - tLo i y := by
  have : i = 0 ∨ i = 1 ∨ i = 2 ∨ i = 3 ∨ i = 4 ∨ i = 5 := by omega
  rcases this with rfl | rfl | rfl | rfl | rfl | rfl
  all_goals
    simp only [tHi, tLo, loN, hiN, Nat.reduceEqDiff, reduceIte]
    repeat' split
    all_goals omega
theorem tLo_sub {i : Nat} (hi : i < 6) (x y : Int) : tLo i x - tHi i y ≤ tLo i (x - y) := by
  have : i = 0 ∨ i = 1 ∨ i = 2 ∨ i = 3 ∨ i = 4 ∨ i = 5 := by omega
  rcases this with rfl | rfl | rfl | rfl | rfl | rfl
  all_goals
    simp only [tHi, tLo, loN, hiN, Nat.reduceEqDiff, reduceIte]
    repeat' split
    all_goals omega
theorem tHi_add {i : Nat} (hi : i < 6) (x y : Int) : tHi i (x + y) ≤ tHi i x + tHi i y := by
  have : i = 0 ∨ i = 1 ∨ i = 2 ∨ i = 3 ∨ i = 4 ∨ i = 5 := by omega
  rcases this with rfl | rfl | rfl | rfl | rfl | rfl
  all_goals
    simp only [tHi, loN, hiN, Nat.reduceEqDiff, reduceIte]
    repeat' split
    all_goals omega
theorem tLo_add {i : Nat} (hi : i < 6) (x y : Int) : tLo i x + tLo i y ≤ tLo i (x + y) := by
  have : i = 0 ∨ i = 1 ∨ i = 2 ∨ i = 3 ∨ i = 4 ∨ i = 5 := by omega
  rcases this with rfl | rfl | rfl | rfl | rfl | rfl
  all_goals
    simp only [tLo, loN, hiN, Nat.reduceEqDiff, reduceIte]
    repeat' split
    all_goals omega
theorem tHi_same {i : Nat} (hi : i < 6) (x y : Int) (h : (0 ≤ x ∧ 0 ≤ y) ∨ (x ≤ 0 ∧ y ≤ 0)) : tHi i (x + y) = tHi i x + tHi i y := by
  have : i = 0 ∨ i = 1 ∨ i = 2 ∨ i = 3 ∨ i = 4 ∨ i = 5 := by omega
  rcases this with rfl | rfl | rfl | rfl | rfl | rfl
  all_goals
    simp only [tHi, loN, hiN, Nat.reduceEqDiff, reduceIte]
    repeat' split
    all_goals omega
theorem tLo_same {i : Nat} (hi : i < 6) (x y : Int) (h : (0 ≤ x ∧ 0 ≤ y) ∨ (x ≤ 0 ∧ y ≤ 0)) : tLo i (x + y) = tLo i x + tLo i y := by
  have : i = 0 ∨ i = 1 ∨ i = 2 ∨ i = 3 ∨ i = 4 ∨ i = 5 := by omega
  rcases this with rfl | rfl | rfl | rfl | rfl | rfl
  all_goals
    simp only [tLo, loN, hiN, Nat.reduceEqDiff, reduceIte]
    repeat' split
    all_goals omega
theorem tHi_wide {i : Nat} (hi : i < 6) (hi0 : 1 ≤ i) (x : Int) : tHi i x - tLo i x = max x (-x) := by
  have : i = 0 ∨ i = 1 ∨ i = 2 ∨ i = 3 ∨ i = 4 ∨ i = 5 := by omega
  rcases this with rfl | rfl | rfl | rfl | rfl | rfl
  all_goals
    simp only [tHi, tLo, loN, hiN, Nat.reduceEqDiff, reduceIte]
    repeat' split
    all_goals omega
theorem t_neg {i : Nat} (hi : i < 6) (x : Int) : tLo i (-x) = -tHi i x := by
  have : i = 0 ∨ i = 1 ∨ i = 2 ∨ i = 3 ∨ i = 4 ∨ i = 5 := by omega
  rcases this with rfl | rfl | rfl | rfl | rfl | rfl
  all_goals
    simp only [tHi, tLo, loN, hiN, Nat.reduceEqDiff, reduceIte]
    repeat' split
    all_goals omega
theorem t0 (x : Int) : tLo 0 x = x * 1000000000 ∧ tHi 0 x = x * 1000000000 := by
  simp only [tHi, tLo, loN, hiN]; simp
theorem mHi_sub (u v : Nat → Int) : mHi (fun i => u i - v i) ≤ mHi u - mLo v := by
  rw [mHi_eq, mHi_eq u, mLo_eq]
  have h0 := tHi_sub (i := 0) (by omega) (u 0) (v 0)
  have h1 := tHi_sub (i := 1) (by omega) (u 1) (v 1)
  have h2 := tHi_sub (i := 2) (by omega) (u 2) (v 2)
  have h3 := tHi_sub (i := 3) (by omega) (u 3) (v 3)
  have h4 := tHi_sub (i := 4) (by omega) (u 4) (v 4)
  have h5 := tHi_sub (i := 5) (by omega) (u 5) (v 5)
  omega
theorem mLo_sub (u v : Nat → Int) : mLo u - mHi v ≤ mLo (fun i => u i - v i) := by
  rw [mLo_eq (fun i => u i - v i), mLo_eq u, mHi_eq]
  have h0 := tLo_sub (i := 0) (by omega) (u 0) (v 0)
  have h1 := tLo_sub (i := 1) (by omega) (u 1) (v 1)
  have h2 := tLo_sub (i := 2) (by omega) (u 2) (v 2)
  have h3 := tLo_sub (i := 3) (by omega) (u 3) (v 3)
  have h4 := tLo_sub (i := 4) (by omega) (u 4) (v 4)
  have h5 := tLo_sub (i := 5) (by omega) (u 5) (v 5)
  omega
theorem mHi_add (u v : Nat → Int) : mHi (fun i => u i + v i) ≤ mHi u + mHi v := by
  rw [mHi_eq (fun i => u i + v i), mHi_eq u, mHi_eq v]
  have h0 := tHi_add (i := 0) (by omega) (u 0) (v 0)
  have h1 := tHi_add (i := 1) (by omega) (u 1) (v 1)
  have h2 := tHi_add (i := 2) (by omega) (u 2) (v 2)
  have h3 := tHi_add (i := 3) (by omega) (u 3) (v 3)
  have h4 := tHi_add (i := 4) (by omega) (u 4) (v 4)
  have h5 := tHi_add (i := 5) (by omega) (u 5) (v 5)
  omega
theorem mLo_add (u v : Nat → Int) : mLo u + mLo v ≤ mLo (fun i => u i + v i) := by
  rw [mLo_eq (fun i => u i + v i), mLo_eq u, mLo_eq v]
  have h0 := tLo_add (i := 0) (by omega) (u 0) (v 0)
  have h1 := tLo_add (i := 1) (by omega) (u 1) (v 1)
  have h2 := tLo_add (i := 2) (by omega) (u 2) (v 2)
  have h3 := tLo_add (i := 3) (by omega) (u 3) (v 3)
  have h4 := tLo_add (i := 4) (by omega) (u 4) (v 4)
  have h5 := tLo_add (i := 5) (by omega) (u 5) (v 5)
  omega
theorem mHi_same (u v : Nat → Int) (h : ∀ i, i < 6 → (0 ≤ u i ∧ 0 ≤ v i) ∨ (u i ≤ 0 ∧ v i ≤ 0)) : mHi (fun i => u i + v i) = mHi u + mHi v := by
  rw [mHi_eq (fun i => u i + v i), mHi_eq u, mHi_eq v]
  have h0 := tHi_same (i := 0) (by omega) (u 0) (v 0) (h 0 (by omega))
  have h1 := tHi_same (i := 1) (by omega) (u 1) (v 1) (h 1 (by omega))
  have h2 := tHi_same (i := 2) (by omega) (u 2) (v 2) (h 2 (by omega))
  have h3 := tHi_same (i := 3) (by omega) (u 3) (v 3) (h 3 (by omega))
  have h4 := tHi_same (i := 4) (by omega) (u 4) (v 4) (h 4 (by omega))
  have h5 := tHi_same (i := 5) (by omega) (u 5) (v 5) (h 5 (by omega))
  omega
theorem mLo_same (u v : Nat → Int) (h : ∀ i, i < 6 → (0 ≤ u i ∧ 0 ≤ v i) ∨ (u i ≤ 0 ∧ v i ≤ 0)) : mLo (fun i => u i + v i) = mLo u + mLo v := by
  rw [mLo_eq (fun i => u i + v i), mLo_eq u, mLo_eq v]
  have h0 := tLo_same (i := 0) (by omega) (u 0) (v 0) (h 0 (by omega))
  have h1 := tLo_same (i := 1) (by omega) (u 1) (v 1) (h 1 (by omega))
  have h2 := tLo_same (i := 2) (by omega) (u 2) (v 2) (h 2 (by omega))
  have h3 := tLo_same (i := 3) (by omega) (u 3) (v 3) (h 3 (by omega))
  have h4 := tLo_same (i := 4) (by omega) (u 4) (v 4) (h 4 (by omega))
  have h5 := tLo_same (i := 5) (by omega) (u 5) (v 5) (h 5 (by omega))
  omega
theorem m_wide (u : Nat → Int) : mHi u - mLo u = 0 + max (u 1) (-u 1) + max (u 2) (-u 2) + max (u 3) (-u 3) + max (u 4) (-u 4) + max (u 5) (-u 5) := by
  rw [mHi_eq, mLo_eq]
  have h0 := t0 (u 0)
  have h1 := tHi_wide (i := 1) (by omega) (by omega) (u 1)
  have h2 := tHi_wide (i := 2) (by omega) (by omega) (u 2)
  have h3 := tHi_wide (i := 3) (by omega) (by omega) (u 3)
  have h4 := tHi_wide (i := 4) (by omega) (by omega) (u 4)
  have h5 := tHi_wide (i := 5) (by omega) (by omega) (u 5)
  omega
/-- Exponents whose first one is greater by k twelfths of an octave. -/
theorem m_octave (u v : Nat → Int) (k : Int) (h0 : v 0 = u 0 + k) (h : ∀ i, 1 ≤ i → i < 6 → v i = u i) : mLo v = mLo u + k * 1000000000 ∧ mHi v = mHi u + k * 1000000000 := by
  rw [mLo_eq, mHi_eq, mLo_eq u, mHi_eq u, h 1 (by omega) (by omega), h 2 (by omega) (by omega), h 3 (by omega) (by omega), h 4 (by omega) (by omega), h 5 (by omega) (by omega), (t0 (v 0)).1, (t0 (v 0)).2, (t0 (u 0)).1, (t0 (u 0)).2, h0]
  omega
def vec6 (a b c d e f : Int) : Nat → Int := fun i => if i = 0 then a else if i = 1 then b else if i = 2 then c else if i = 3 then d else if i = 4 then e else f
theorem m_oct {p q : Nat → Int} {k : Int} (hq : (fun i => p i + 1 * vec6 k 0 0 0 0 0 i) = q) : mLo q = mLo p + k * 1000000000 ∧ mHi q = mHi p + k * 1000000000 := by
  refine m_octave p q k (by rw [← hq]; simp [vec6]) ?_
  intro i h1 h2
  rw [← hq]
  have : i = 1 ∨ i = 2 ∨ i = 3 ∨ i = 4 ∨ i = 5 := by omega
  rcases this with rfl | rfl | rfl | rfl | rfl <;> simp [vec6]
theorem m_zero (u : Nat → Int) (h : ∀ i, i < 6 → u i = 0) : mLo u = 0 ∧ mHi u = 0 := by
  rw [mLo_eq, mHi_eq, h 0 (by omega), h 1 (by omega), h 2 (by omega), h 3 (by omega), h 4 (by omega), h 5 (by omega)]
  simp [tLo, tHi]
theorem m_congr {u v : Nat → Int} (h : ∀ i, i < 6 → u i = v i) : mLo u = mLo v ∧ mHi u = mHi v := by
  rw [mLo_eq, mHi_eq, mLo_eq v, mHi_eq v, h 0 (by omega), h 1 (by omega), h 2 (by omega), h 3 (by omega), h 4 (by omega), h 5 (by omega)]
  exact ⟨rfl, rfl⟩
theorem m_swap (u v : Nat → Int) : mLo (fun i => v i - u i) = -mHi (fun i => u i - v i) ∧ mHi (fun i => v i - u i) = -mLo (fun i => u i - v i) := by
  have e : neg (fun i => u i - v i) = fun i => v i - u i := by funext i; simp only [neg]; omega
  have h1 := mLo_neg (fun i => u i - v i)
  have h2 := mHi_neg (fun i => u i - v i)
  rw [e] at h1 h2
  exact ⟨h1, h2⟩
theorem bd_1152 {p : Nat → Int} (h : bdB p 576 = true) : ∀ i, i < 6 → -1152 ≤ p i ∧ p i ≤ 1152 := fun i hi => by have := bdB_yes.1 h i hi; omega
theorem of_ok {p : Nat → Int} (h : bdB p 576 = true) : ofR p = (mLo p, mHi p, 0) := by unfold ofR; rw [h]; rfl
theorem of_valid {p : Nat → Int} (h : bdB p 576 = true) : szB (mLo p) (mHi p) = true := m_valid (bd_1152 h)
theorem gp_ok {a b : Nat → Int} (ha : bdB a 576 = true) (hb : bdB b 576 = true) : gpR a b = (mLo fun i => a i - b i, mHi fun i => a i - b i, 0) := by unfold gpR; rw [ha, hb]; rfl
theorem PV_congr {u v : Nat → Int} (h : ∀ i, i < 6 → u i = v i) : PV u = PV v := by
  unfold PV; rw [h 0 (by omega), h 1 (by omega), h 2 (by omega), h 3 (by omega), h 4 (by omega), h 5 (by omega)]
theorem bdB_congr {u v : Nat → Int} {m : Int} (h : ∀ i, i < 6 → u i = v i) : bdB u m = bdB v m := by
  have : inB u m ↔ inB v m := ⟨fun k i hi => by rw [← h i hi]; exact k i hi, fun k i hi => by rw [h i hi]; exact k i hi⟩
  unfold bdB; exact decide_eq_decide.2 this
theorem zero_ok (m : Int) (h : 0 ≤ m) : bdB (fun _ => 0) m = true := bdB_yes.2 fun i _ => ⟨by omega, by omega⟩
theorem sg_swap (a b : Nat → Int) : sg (fun i => b i - a i) = -sg (fun i => a i - b i) := by
  rw [← sg_neg]; exact sg_congr fun i _ => by simp only [neg]; omega
theorem sg_range (v : Nat → Int) : sg v = -1 ∨ sg v = 0 ∨ sg v = 1 := by
  unfold sg cmpI; split
  · exact .inl rfl
  · split
    · exact .inr (.inr rfl)
    · exact .inr (.inl rfl)
theorem chk_ok {v : Nat → Int} (h : bdB v 576 = true) : chkV v = v ∧ chkE v = 0 := by simp [chkV, chkE, h]
theorem chkE_zero {v : Nat → Int} (h : chkE v = 0) : bdB v 576 = true := by
  unfold chkE at h; split at h <;> simp_all
theorem chkE_cases (v : Nat → Int) : chkE v = 0 ∨ chkE v = 3 := by unfold chkE; split <;> simp
/-- What a product without an error is. -/
theorem com_ok {a b : Nat → Int} {n : Int} (h : comE a b n = 0) : bdB a 576 = true ∧ bdB b 576 = true ∧ bdB (fun i => a i + n * b i) 576 = true ∧ comV a b n = fun i => a i + n * b i := by
  unfold comE at h
  split at h
  · rename_i hab
    have h3 := chkE_zero h
    have hab' := hab
    simp only [Bool.and_eq_true] at hab
    refine ⟨hab.1, hab.2, h3, ?_⟩
    unfold comV; rw [if_pos hab', (chk_ok h3).1]
  · omega
theorem com_of {a b r : Nat → Int} {n : Int} (ha : bdB a 576 = true) (hb : bdB b 576 = true) (hr : bdB r 576 = true) (h : ∀ i, a i + n * b i = r i) : comV a b n = r ∧ comE a b n = 0 := by
  have e : (fun i => a i + n * b i) = r := funext h
  unfold comV comE; rw [ha, hb]; simp only [Bool.and_self, if_true, e]; exact chk_ok hr
end Go.Proofs.YtdlfnonlalkjdaaDoor

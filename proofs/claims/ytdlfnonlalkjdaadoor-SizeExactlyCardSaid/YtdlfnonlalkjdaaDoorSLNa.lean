/- SizeNear, for all pitches and bounds. -/
import Derived.Test.YtdlfnonlalkjdaaDoorSLN
import Derived.Test.YtdlfnonlalkjdaaDoorSLPa
namespace Go.Proofs.YtdlfnonlalkjdaaDoor
open Go.RowKit M
theorem ne_val {a b : Nat → Int} {n : Int} (ha : bdB a 576 = true) (hb : bdB b 576 = true) (h0 : ¬ n < 0) (h1 : ¬ 2400000 < n) : neR a b n = (neV (mLo fun i => a i - b i) (mHi fun i => a i - b i) n, 0) := by
  unfold neR; rw [if_neg (by omega), ha, hb]; rfl
theorem ne_swap (p q : Nat → Int) (n : Int) : neV (mLo fun i => q i - p i) (mHi fun i => q i - p i) n = neV (mLo fun i => p i - q i) (mHi fun i => p i - q i) n := by
  rw [(m_swap p q).1, (m_swap p q).2]
  generalize mLo (fun i => p i - q i) = x
  generalize mHi (fun i => p i - q i) = y
  have e1 : (-n * 10000 ≤ -y ∧ -x ≤ n * 10000) = (-n * 10000 ≤ x ∧ y ≤ n * 10000) := by apply propext; omega
  have e2 : (-x < -n * 10000 ∨ n * 10000 < -y) = (y < -n * 10000 ∨ n * 10000 < x) := by apply propext; omega
  unfold neV
  simp only [e1, e2]
theorem ne_congr {u v : Nat → Int} (h : ∀ i, i < 6 → u i = v i) (n : Int) : neV (mLo u) (mHi u) n = neV (mLo v) (mHi v) n := by
  rw [(m_congr h).1, (m_congr h).2]
theorem ne_one {x y n : Int} : neV x y n = 1 ↔ (-n * 10000 ≤ x ∧ y ≤ n * 10000) := by
  unfold neV
  by_cases h : -n * 10000 ≤ x ∧ y ≤ n * 10000
  · rw [if_pos h]; exact ⟨fun _ => h, fun _ => rfl⟩
  · rw [if_neg h]
    constructor
    · intro k; split at k <;> omega
    · intro k; exact absurd k h
theorem ne_rel {x y m n : Int} (hxy : x ≤ y) (hmn : m ≤ n) (hm : 0 ≤ m) : (neV x y m = 1 ∧ neV x y n = 1) ∨ (neV x y m = -1 ∧ neV x y n = -1) ∨ (neV x y m = -1 ∧ ¬ neV x y n = -1) ∨ (neV x y m = 0 ∧ ¬ neV x y n = -1) := by
  unfold neV
  by_cases h1 : -m * 10000 ≤ x ∧ y ≤ m * 10000
  · rw [if_pos h1, if_pos (by omega)]; exact .inl ⟨rfl, rfl⟩
  · rw [if_neg h1]
    by_cases h2 : y < -m * 10000 ∨ m * 10000 < x
    · rw [if_pos h2]
      by_cases h3 : (if -n * 10000 ≤ x ∧ y ≤ n * 10000 then (1 : Int) else if y < -n * 10000 ∨ n * 10000 < x then -1 else 0) = -1
      · exact .inr (.inl ⟨rfl, h3⟩)
      · exact .inr (.inr (.inl ⟨rfl, h3⟩))
    · rw [if_neg h2]
      refine .inr (.inr (.inr ⟨rfl, ?_⟩))
      by_cases h4 : -n * 10000 ≤ x ∧ y ≤ n * 10000
      · rw [if_pos h4]; omega
      · rw [if_neg h4, if_neg (by omega)]; omega
theorem ne_tri {x1 y1 x2 y2 x y m n : Int} (d1 : neV x1 y1 m = 1) (d2 : neV x2 y2 n = 1) (s1 : x1 + x2 ≤ x) (s2 : y ≤ y1 + y2) : neV x y (m + n) = 1 := by
  have d1 := ne_one.1 d1
  have d2 := ne_one.1 d2
  exact ne_one.2 ⟨by omega, by omega⟩
theorem snear_all (p q r : Nat → Int) (m n : Int) (w : World) (hl : Lm w) :
    Calls Tryd.prog 9 #[PV p, PV q, PV r, .int .i64 m, .int .i64 n] w fun e w' => e = .returned (.bool true) ∧ Below w.heap.size w w' := by
  cases hp : bdB p 576
  · exact snear_p p q r m n w hl ⟨fun w => pvalid_any p w false hp⟩
  have V1 : Hx (∀ w, Calls Tryd.prog 33 #[PV p] w fun e w' => e = .returned (.bool true) ∧ Below w.heap.size w w') := ⟨fun w => pvalid_any p w true hp⟩
  cases hq : bdB q 576
  · exact snear_q p q r m n w hl V1 ⟨fun w => pvalid_any q w false hq⟩
  have V2 : Hx (∀ w, Calls Tryd.prog 33 #[PV q] w fun e w' => e = .returned (.bool true) ∧ Below w.heap.size w w') := ⟨fun w => pvalid_any q w true hq⟩
  cases hr : bdB r 576
  · exact snear_r p q r m n w hl V1 V2 ⟨fun w => pvalid_any r w false hr⟩
  have V3 : Hx (∀ w, Calls Tryd.prog 33 #[PV r] w fun e w' => e = .returned (.bool true) ∧ Below w.heap.size w w') := ⟨fun w => pvalid_any r w true hr⟩
  by_cases k0 : m < 0
  · exact snear_0 p q r m n w hl V1 V2 V3 k0
  by_cases k1 : n < m
  · exact snear_1 p q r m n w hl V1 V2 V3 k0 k1
  by_cases k2 : 2400000 < n
  · exact snear_2 p q r m n w hl V1 V2 V3 k0 k1 k2
  obtain ⟨s, hs⟩ : ∃ s, comV p r 1 = s := ⟨_, rfl⟩
  obtain ⟨i, hi⟩ : ∃ c, comE p r 1 = c := ⟨_, rfl⟩
  obtain ⟨t, ht⟩ : ∃ s, comV q r 1 = s := ⟨_, rfl⟩
  obtain ⟨k, hk⟩ : ∃ c, comE q r 1 = c := ⟨_, rfl⟩
  have lg := mLo_le_mHi fun i => p i - q i
  refine snear_ok p q r m n w hl V1 V2 V3 k0 k1 k2 (neV (mLo fun i => p i - q i) (mHi fun i => p i - q i) m) (neV (mLo fun i => p i - q i) (mHi fun i => p i - q i) n) (neV (mLo fun i => q i - r i) (mHi fun i => q i - r i) n) i k s t ⟨ne_rel lg (by omega) (by omega)⟩
    ⟨snear_any p q m _ _ (ne_val hp hq k0 (by omega))⟩ ⟨snear_any q p m _ _ (by rw [ne_val hq hp k0 (by omega), ne_swap])⟩ ⟨snear_any p q n _ _ (ne_val hp hq (by omega) k2)⟩ ⟨snear_any p p m _ _ ?_⟩
    ⟨fun w => pmul_any p r s i w hs hi⟩ ⟨fun w => pmul_any q r t k w ht hk⟩ ⟨fun e1 e2 => ?_⟩ ⟨snear_any q r n _ _ (ne_val hq hr (by omega) k2)⟩ ⟨fun e1 e2 e3 => ?_⟩
  · have z := m_zero (fun i => p i - p i) fun i _ => by omega
    rw [ne_val hp hp k0 (by omega), z.1, z.2]
    have : neV 0 0 m = 1 := ne_one.2 ⟨by omega, by omega⟩
    rw [this]
  · subst e1; subst e2
    obtain ⟨_, _, hsv, he⟩ := com_ok hi
    obtain ⟨_, _, htv, he'⟩ := com_ok hk
    rw [he] at hs
    rw [he'] at ht
    subst hs; subst ht
    refine ⟨snear_any _ _ m _ _ ?_⟩
    rw [ne_val hsv htv k0 (by omega)]
    rw [ne_congr (u := fun i => (fun i => p i + 1 * r i) i - (fun i => q i + 1 * r i) i) (v := fun i => p i - q i) (fun i _ => by simp only; omega) m]
  · refine ⟨snear_any p r (m + n) _ _ ?_⟩
    rw [ne_val hp hr (by omega) e3]
    have s1 := mLo_add (fun i => p i - q i) (fun i => q i - r i)
    have s2 := mHi_add (fun i => p i - q i) (fun i => q i - r i)
    have c := m_congr (u := fun i => (p i - q i) + (q i - r i)) (v := fun i => p i - r i) fun i _ => by omega
    rw [c.1] at s1
    rw [c.2] at s2
    rw [ne_tri e1 e2 s1 s2]
end Go.Proofs.YtdlfnonlalkjdaaDoor

/- SizeExactly, for all pitches. -/
import Derived.Test.YtdlfnonlalkjdaaDoorSLE
namespace Go.Proofs.YtdlfnonlalkjdaaDoor
open Go.RowKit M
theorem ne_less {x y n : Int} (h : neV x y n = -1) : y < -n * 10000 ∨ n * 10000 < x := by
  unfold neV at h
  by_cases h1 : -n * 10000 ≤ x ∧ y ≤ n * 10000
  · rw [if_pos h1] at h; omega
  · rw [if_neg h1] at h
    by_cases h2 : y < -n * 10000 ∨ n * 10000 < x
    · exact h2
    · rw [if_neg h2] at h; omega
theorem ne_cases (x y n : Int) : neV x y n = 1 ∨ neV x y n = -1 ∨ neV x y n = 0 := by
  unfold neV; split
  · exact .inl rfl
  · split
    · exact .inr (.inl rfl)
    · exact .inr (.inr rfl)
/-- The size of what is left of a quotient, moved by k twelfths. -/
theorem m_left {p q s : Nat → Int} {k : Int} (hs : (fun i => q i + 1 * vec6 k 0 0 0 0 0 i) = s) : mLo (fun i => p i - s i) = mLo (fun i => p i - q i) - k * 1000000000 ∧ mHi (fun i => p i - s i) = mHi (fun i => p i - q i) - k * 1000000000 := by
  have h := m_octave (fun i => p i - q i) (fun i => p i - s i) (-k) (by rw [← hs]; simp [vec6]; omega) ?_
  · rw [Int.neg_mul] at h; exact ⟨by rw [h.1]; omega, by rw [h.2]; omega⟩
  · intro i h1 h2
    rw [← hs]
    have : i = 1 ∨ i = 2 ∨ i = 3 ∨ i = 4 ∨ i = 5 := by omega
    rcases this with rfl | rfl | rfl | rfl | rfl <;> simp [vec6]
theorem near_exact {x lo hi k a b c d y z : Int} (hx : neV lo hi (100000 * k) = x) (ha : a = lo - k * 1000000000) (hb : b = hi - k * 1000000000) (hc : c = -hi - k * 1000000000) (hd : d = -lo - k * 1000000000)
    (y1 : b ≤ 0 → y ≤ 0) (y2 : 0 < a → y = 1) (z1 : d ≤ 0 → z ≤ 0) (z2 : 0 < c → z = 1) : (x = 1 ∧ y ≤ 0 ∧ z ≤ 0) ∨ (x = -1 ∧ y = 1) ∨ (x = -1 ∧ ¬ y = 1 ∧ z = 1) ∨ x = 0 := by
  rcases ne_cases lo hi (100000 * k) with e | e | e
  · have h := ne_one.1 e
    rw [e] at hx
    exact .inl ⟨hx.symm, y1 (by omega), z1 (by omega)⟩
  · have h := ne_less e
    rw [e] at hx
    by_cases hy : y = 1
    · exact .inr (.inl ⟨hx.symm, hy⟩)
    · refine .inr (.inr (.inl ⟨hx.symm, hy, z2 ?_⟩))
      rcases h with h | h
      · omega
      · exact absurd (y2 (by omega)) hy
  · rw [e] at hx; exact .inr (.inr (.inr hx.symm))
theorem sexactly_all (p q : Nat → Int) (k : Int) (w : World) (hp : Pm w) (hl : Lm w) :
    Calls Tryd.prog 10 #[PV p, PV q, .int .i64 k] w fun e w' => e = .returned (.bool true) ∧ Below w.heap.size w w' := by
  cases vp : bdB p 576
  · exact sex_p p q k w hl ⟨fun w => pvalid_any p w false vp⟩
  have V1 : Hx (∀ w, Calls Tryd.prog 33 #[PV p] w fun e w' => e = .returned (.bool true) ∧ Below w.heap.size w w') := ⟨fun w => pvalid_any p w true vp⟩
  cases vq : bdB q 576
  · exact sex_q p q k w hl V1 ⟨fun w => pvalid_any q w false vq⟩
  have V2 : Hx (∀ w, Calls Tryd.prog 33 #[PV q] w fun e w' => e = .returned (.bool true) ∧ Below w.heap.size w w') := ⟨fun w => pvalid_any q w true vq⟩
  by_cases k0 : k < 0
  · exact sex_0 p q k w hl V1 V2 k0
  by_cases k1 : 24 < k
  · exact sex_1 p q k w hl V1 V2 k0 k1
  obtain ⟨r, hr⟩ : ∃ s, comV p (vec6 k 0 0 0 0 0) 1 = s := ⟨_, rfl⟩
  obtain ⟨c, hc⟩ : ∃ c, comE p (vec6 k 0 0 0 0 0) 1 = c := ⟨_, rfl⟩
  obtain ⟨s, hs⟩ : ∃ s, comV q (vec6 k 0 0 0 0 0) 1 = s := ⟨_, rfl⟩
  obtain ⟨d, hd⟩ : ∃ c, comE q (vec6 k 0 0 0 0 0) 1 = c := ⟨_, rfl⟩
  have M1 : Hx (∀ w, Calls Tryd.prog 35 #[PV p, .agg #[.int .i64 k, .int .i64 0, .int .i64 0, .int .i64 0, .int .i64 0, .int .i64 0]] w (OutV w r c)) := ⟨fun w => pmul_any p (vec6 k 0 0 0 0 0) r c w hr hc⟩
  have M2 : Hx (∀ w, Calls Tryd.prog 35 #[PV q, .agg #[.int .i64 k, .int .i64 0, .int .i64 0, .int .i64 0, .int .i64 0, .int .i64 0]] w (OutV w s d)) := ⟨fun w => pmul_any q (vec6 k 0 0 0 0 0) s d w hs hd⟩
  obtain ⟨x, hx⟩ : ∃ x, neV (mLo fun i => p i - q i) (mHi fun i => p i - q i) (100000 * k) = x := ⟨_, rfl⟩
  have N1 := Hx.mk (snear_any p q (100000 * k) x 0 (by rw [ne_val vp vq (by omega) (by omega), hx]))
  by_cases c0 : c = 0
  · subst c0
    by_cases d0 : d = 0
    · subst d0
      obtain ⟨_, _, rv, re⟩ := com_ok hc
      obtain ⟨_, _, sv, se⟩ := com_ok hd
      rw [re] at hr
      rw [se] at hs
      have rv' : bdB r 576 = true := by rw [← hr]; exact rv
      have sv' : bdB s 576 = true := by rw [← hs]; exact sv
      have l1 := m_left (p := p) hs
      have l2 := m_left (p := q) hr
      have e1 := m_swap p q
      refine sex_ok p q k w hl hp V1 V2 k0 k1 x N1 r s (sg fun i => p i - s i) (sg fun i => q i - r i) ⟨near_exact hx l1.1 l1.2 ?_ ?_ sg_of_hi sg_of_lo' sg_of_hi sg_of_lo'⟩ M1 M2 ⟨fun w hP => pcmp_ok p s w hP vp sv'⟩ ⟨fun w hP => pcmp_ok q r w hP vq rv'⟩
      · rw [l2.1, e1.1]
      · rw [l2.2, e1.2]
    · exact sex_g p q k w hl V1 V2 k0 k1 x N1 r s d d0 M1 M2
  · exact sex_f p q k w hl V1 V2 k0 k1 x N1 r s c d c0 M1 M2
end Go.Proofs.YtdlfnonlalkjdaaDoor

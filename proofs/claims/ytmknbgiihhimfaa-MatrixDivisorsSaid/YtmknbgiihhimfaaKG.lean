/- The triangular form: what its steps keep. -/
import Derived.Test.YtmknbgiihhimfaaKF
namespace Go.Proofs.Ytmknbgiihhimfaa
open D
/-- The lattice of rows and of multiples of a number, from what is left of the rows, the form so far, and the multiples to come. -/
def Ge (m n0 : Nat) (A : Nat → Nat → Int) (D : Int) (c n : Nat) (R F : Nat → Nat → Int) (u : Nat) : Prop :=
  ∀ L, Sub m L → (((∀ t, t < n0 → L (A t)) ∧ ∀ k, k < m → L (unitV D k)) ↔ ((∀ t, t < n → L (R t)) ∧ (∀ k, k < c → L (F k)) ∧ ∀ k, u ≤ k → k < m → L (unitV D k)))
theorem D.Sub.add' {m : Nat} {L : (Nat → Int) → Prop} (h : Sub m L) {u v : Nat → Int} (hu : L u) (hv : L v) : L (fun j => u j + v j) := h.add _ _ hu hv
theorem D.Sub.mul' {m : Nat} {L : (Nat → Int) → Prop} (h : Sub m L) (c : Int) {u : Nat → Int} (hu : L u) : L (fun j => c * u j) := h.mul c _ hu
theorem D.Sub.congr' {m : Nat} {L : (Nat → Int) → Prop} (h : Sub m L) {u v : Nat → Int} (hu : L u) (e : ∀ j, j < m → v j = u j) : L v := h.congr _ _ e hu
theorem sub_shift {m u : Nat} {D : Int} {L : (Nat → Int) → Prop} (hL : Sub m L) (hu : ∀ k, u ≤ k → k < m → L (unitV D k)) {x y : Nat → Int} (h0 : ∀ j, j < u → j < m → x j = y j) (hd : ∀ j, j < m → D ∣ y j - x j) : L x → L y := by
  intro hx
  have hs : L (fun j => if j < u then 0 else y j - x j) := mults (i := u) (d := D) hL (fun j hj hm => hu j hj hm) (fun j hj => if_pos hj) (fun j hj => by
    by_cases h : j < u
    · simp only [if_pos h]; exact Int.dvd_zero D
    · simp only [if_neg h]; exact hd j hj)
  exact hL.congr' (hL.add' hx hs) fun j hj => by
    by_cases h : j < u
    · simp only [if_pos h]; rw [h0 j h hj]; omega
    · simp only [if_neg h]; omega
theorem Ge.start {m n : Nat} {A R : Nat → Nat → Int} {D : Int} (F : Nat → Nat → Int) (h : ∀ t, t < n → ∀ j, j < m → R t j = A t j % D) : Ge m n A D 0 n R F 0 := fun L hL => by
  have key : ∀ t j, t < n → j < m → D ∣ A t j - R t j := fun t j ht hj => by
    rw [h t ht j hj]; exact ⟨A t j / D, by have := Int.emod_add_mul_ediv (A t j) D; omega⟩
  have key' : ∀ t j, t < n → j < m → D ∣ R t j - A t j := fun t j ht hj => by
    obtain ⟨q, hq⟩ := key t j ht hj; exact ⟨-q, by rw [Int.mul_neg, ← hq]; omega⟩
  constructor
  · rintro ⟨h1, h2⟩
    exact ⟨fun t ht => sub_shift (u := 0) hL (fun k _ hk => h2 k hk) (fun j hj => by omega) (fun j hj => key' t j ht hj) (h1 t ht), fun k hk => by omega, fun k _ hk => h2 k hk⟩
  · rintro ⟨h1, _, h2⟩
    exact ⟨fun t ht => sub_shift (u := 0) hL (fun k _ hk => h2 k (by omega) hk) (fun j hj => by omega) (fun j hj => key t j ht hj) (h1 t ht), fun k hk => h2 k (by omega) hk⟩
theorem Ge.push {m n0 c n u : Nat} {A R R' F : Nat → Nat → Int} {D : Int} (h : Ge m n0 A D c n R F u) (hu : u < m) (h1 : ∀ t, t < n → R' t = R t) (h2 : ∀ j, j < m → R' n j = unitV D u j) : Ge m n0 A D c (n + 1) R' F (u + 1) := fun L hL => by
  rw [h L hL]
  constructor
  · rintro ⟨a, b, e⟩
    refine ⟨fun t ht => ?_, b, fun k hk hm => e k (by omega) hm⟩
    by_cases ht' : t = n
    · subst ht'; exact hL.congr' (e u (Nat.le_refl _) hu) h2
    · rw [h1 t (by omega)]; exact a t (by omega)
  · rintro ⟨a, b, e⟩
    refine ⟨fun t ht => by rw [← h1 t ht]; exact a t (by omega), b, fun k hk hm => ?_⟩
    by_cases hk' : k = u
    · subst hk'; exact hL.congr' (a n (by omega)) fun j hj => (h2 j hj).symm
    · exact e k (by omega) hm
theorem updR_ne {M : Nat → Nat → Int} {i r : Nat} {v : Nat → Int} (h : r ≠ i) : updR M i v r = M r := by funext s; unfold updR; rw [if_neg h]
theorem updR_self {M : Nat → Nat → Int} {i : Nat} {v : Nat → Int} : updR M i v i = v := by funext s; unfold updR; rw [if_pos rfl]
/-- A row less a multiple of another one, modulo the number behind the column. -/
theorem low_sub {m c : Nat} {D : Int} {L : (Nat → Int) → Prop} (hL : Sub m L) (hu : ∀ k, c + 1 ≤ k → k < m → L (unitV D k)) {u v : Nat → Int} (h0 : 0 ≤ u c) (hv : 0 < v c) (hd : v c ≤ D) (hz : ∀ j, j < c → v j = 0) (hLv : L v) : L u ↔ L (low u v c D) := by
  have hlo : ∀ j, j < c → low u v c D j = u j := fun j hj => by unfold low; rw [if_pos hj]
  have hat := low_at h0 hv hd
  have hsub : L (fun j => u j - u c / v c * v j) ↔ L u := by
    constructor
    · intro h
      exact hL.congr' (hL.add' h (hL.mul' (u c / v c) hLv)) fun j _ => by omega
    · intro h
      exact hL.congr' (hL.add' h (hL.mul' (-(u c / v c)) hLv)) fun j _ => by rw [Int.neg_mul]; omega
  rw [← hsub]
  have e1 : ∀ j, j < c + 1 → j < m → low u v c D j = u j - u c / v c * v j := fun j hj _ => by
    by_cases h : j < c
    · rw [hlo j h, hz j h, Int.mul_zero]; omega
    · obtain rfl : j = c := by omega
      rw [hat]
      have := Int.emod_add_mul_ediv (u j) (v j)
      rw [Int.mul_comm] at this; omega
  have e2 : ∀ j, j < m → D ∣ (u j - u c / v c * v j) - low u v c D j := fun j hj => by
    by_cases h : j < c + 1
    · rw [e1 j h hj]; exact ⟨0, by omega⟩
    · unfold low; rw [if_neg (by omega)]
      exact ⟨(u j - u c / v c * v j) / D, by have := Int.emod_add_mul_ediv (u j - u c / v c * v j) D; omega⟩
  constructor
  · exact sub_shift hL hu (fun j hj hm => (e1 j hj hm).symm) (fun j hj => by obtain ⟨q, hq⟩ := e2 j hj; exact ⟨-q, by rw [Int.mul_neg, ← hq]; omega⟩)
  · exact sub_shift hL hu e1 e2
/-- The elements of the columns before are 0. -/
def Zer (n c : Nat) (R : Nat → Nat → Int) : Prop := ∀ t, t < n → ∀ j, j < c → R t j = 0
theorem Els.zer {n c : Nat} {D : Int} {M N : Nat → Nat → Int} (k : Els n c D M N) (h : Zer n c M) : Zer n c N := by
  induction k with
  | refl => exact h
  | step i l _ h1 h2 h3 h4 h5 ih =>
    intro t ht j hj
    unfold updR
    by_cases e : t = i
    · subst e; simp only [if_true]; unfold low; rw [if_pos hj]; exact ih t ht j hj
    · simp only [if_neg e]; exact ih t ht j hj
theorem Ge.els {m n0 c n u : Nat} {A R N F : Nat → Nat → Int} {D : Int} (h : Ge m n0 A D c n R F (u + 1)) (k : Els n u D R N) (hz : Zer n u R) (ho : Okd n u D R) (hD : 0 < D) (hD2 : D ≤ 1000000000) (hu : u < 6) : Ge m n0 A D c n N F (u + 1) := by
  induction k with
  | refl => exact h
  | @step N i l k' h1 h2 h3 h4 h5 ih =>
    intro L hL
    rw [ih L hL]
    have zo := k'.zer hz
    have oo := k'.okd ho hD hD2 hu
    constructor
    · rintro ⟨a, b, e⟩
      refine ⟨fun t ht => ?_, b, e⟩
      unfold updR
      by_cases ht' : t = i
      · subst ht'; simp only [if_true]
        exact (low_sub hL e ((oo t ht).2 u (Nat.le_refl _) hu).1 h4 (oo l h2).1 (zo l h2) (a l h2)).1 (a t ht)
      · simp only [if_neg ht']; exact a t ht
    · rintro ⟨a, b, e⟩
      have al : L (N l) := by have := a l h2; rwa [updR_ne (Ne.symm h3)] at this
      refine ⟨fun t ht => ?_, b, e⟩
      have := a t ht
      unfold updR at this
      by_cases ht' : t = i
      · subst ht'; simp only [if_true] at this
        exact (low_sub hL e ((oo t ht).2 u (Nat.le_refl _) hu).1 h4 (oo l h2).1 (zo l h2) al).2 this
      · simp only [if_neg ht'] at this; exact this
theorem Ge.take {m n0 c n u f : Nat} {A N F F' : Nat → Nat → Int} {D : Int} (h : Ge m n0 A D c (n + 1) N F u) (hf : f < n + 1) (h1 : ∀ k, k < c → F' k = F k) (h2 : F' c = N f) : Ge m n0 A D (c + 1) n (delR N f) F' u := fun L hL => by
  rw [h L hL]
  constructor
  · rintro ⟨a, b, e⟩
    refine ⟨fun t ht => by unfold delR; split <;> exact a _ (by omega), fun k hk => ?_, e⟩
    by_cases hk' : k = c
    · subst hk'; rw [h2]; exact a f hf
    · rw [h1 k (by omega)]; exact b k (by omega)
  · rintro ⟨a, b, e⟩
    refine ⟨fun t ht => ?_, fun k hk => by rw [← h1 k hk]; exact b k (by omega), e⟩
    by_cases ht' : t = f
    · subst ht'; rw [← h2]; exact b c (by omega)
    · by_cases hlt : t < f
      · have := a t (by omega); unfold delR at this; rwa [if_pos hlt] at this
      · have := a (t - 1) (by omega); unfold delR at this; rwa [if_neg (by omega), show t - 1 + 1 = t by omega] at this
theorem Ge.above {m n0 c n a : Nat} {A R F : Nat → Nat → Int} {D : Int} (h : Ge m n0 A D (c + 1) n R F (c + 1)) (ha : a < c) (h0 : 0 ≤ F a c) (hv : 0 < F c c) (hd : F c c ≤ D) (hz : ∀ j, j < c → F c j = 0) : Ge m n0 A D (c + 1) n R (updR F a (low (F a) (F c) c D)) (c + 1) := fun L hL => by
  rw [h L hL]
  constructor
  · rintro ⟨x, b, e⟩
    refine ⟨x, fun k hk => ?_, e⟩
    unfold updR
    by_cases hk' : k = a
    · subst hk'; simp only [if_true]; exact (low_sub hL e h0 hv hd hz (b c (by omega))).1 (b k hk)
    · simp only [if_neg hk']; exact b k hk
  · rintro ⟨x, b, e⟩
    have bc : L (F c) := by have := b c (by omega); rwa [updR_ne (show c ≠ a by omega)] at this
    refine ⟨x, fun k hk => ?_, e⟩
    have := b k hk
    unfold updR at this
    by_cases hk' : k = a
    · subst hk'; simp only [if_true] at this; exact (low_sub hL e h0 hv hd hz bc).2 this
    · simp only [if_neg hk'] at this; exact this
/-- The form so far. -/
structure Frm (c e : Nat) (D : Int) (F : Nat → Nat → Int) : Prop where
  piv : ∀ k, k < c → 0 < F k k ∧ F k k ≤ D
  left : ∀ k j, k < c → j < k → F k j = 0
  red : ∀ i k, i < k → k < e → 0 ≤ F i k ∧ F i k < F k k
  bnd : ∀ k j, k < c → j < 6 → 0 ≤ F k j ∧ F k j ≤ D
end Go.Proofs.Ytmknbgiihhimfaa

/- The triangular form: its elements. -/
import Derived.Test.YtmknbgiihhimfaaKI
namespace Go.Proofs.Ytmknbgiihhimfaa
open D
/-- The elements are from 0 to less than a number. -/
def Bd (n : Nat) (D : Int) (R : Nat → Nat → Int) : Prop := ∀ t, t < n → ∀ j, j < 6 → 0 ≤ R t j ∧ R t j < D
/-- A row behind the others. -/
def snR (R : Nat → Nat → Int) (n : Nat) (v : Nat → Int) : Nat → Nat → Int := fun r => if r = n then v else R r
theorem snR_lt {R : Nat → Nat → Int} {n r : Nat} {v : Nat → Int} (h : r < n) : snR R n v r = R r := if_neg (by omega)
theorem snR_eq {R : Nat → Nat → Int} {n : Nat} {v : Nat → Int} : snR R n v n = v := if_pos rfl
theorem okd_push {n c : Nat} {D : Int} {R : Nat → Nat → Int} (h : Bd n D R) (hD : 0 < D) (hD2 : D ≤ 1000000000) (hc : c < 6) : Okd (n + 1) c D (snR R n (unitV D c)) := by
  intro i hi
  by_cases e : i = n
  · subst e; rw [snR_eq]; unfold unitV
    refine ⟨by rw [if_pos rfl]; omega, fun j _ _ => by split <;> omega⟩
  · rw [snR_lt (by omega)]
    exact ⟨by have := h i (by omega) c hc; omega, fun j _ hj => by have := h i (by omega) j hj; omega⟩
theorem zer_push {n c : Nat} {D : Int} {R : Nat → Nat → Int} (h : Zer n c R) : Zer (n + 1) c (snR R n (unitV D c)) := by
  intro i hi j hj
  by_cases e : i = n
  · subst e; rw [snR_eq]; unfold unitV; rw [if_neg (by omega)]
  · rw [snR_lt (by omega)]; exact h i (by omega) j hj
/-- But for one column. -/
def Bdc (n c : Nat) (D : Int) (R : Nat → Nat → Int) : Prop := ∀ t, t < n → ∀ j, j < 6 → j ≠ c → 0 ≤ R t j ∧ R t j < D
theorem bdc_push {n c : Nat} {D : Int} {R : Nat → Nat → Int} (h : Bd n D R) (hD : 0 < D) : Bdc (n + 1) c D (snR R n (unitV D c)) := by
  intro i hi j hj hne
  by_cases e : i = n
  · subst e; rw [snR_eq]; unfold unitV; rw [if_neg hne]; omega
  · rw [snR_lt (by omega)]; exact h i (by omega) j hj
theorem Els.bdc {n c : Nat} {D : Int} {M N : Nat → Nat → Int} (k : Els n c D M N) (h : Bdc n c D M) (hD : 0 < D) : Bdc n c D N := by
  induction k with
  | refl => exact h
  | step i l _ h1 h2 h3 h4 h5 ih =>
    intro t ht j hj hne
    by_cases e : t = i
    · subst e; rw [updR_self]; unfold low
      split
      · exact ih t ht j hj hne
      · exact ⟨Int.emod_nonneg _ (by omega), Int.emod_lt_of_pos _ hD⟩
    · rw [updR_ne e]; exact ih t ht j hj hne
theorem bd_del {n c f : Nat} {D : Int} {N : Nat → Nat → Int} (h : Bdc (n + 1) c D N) (hz : ∀ i, i < n + 1 → i ≠ f → N i c = 0) (hD : 0 < D) : Bd n D (delR N f) := by
  intro t ht j hj
  have key : ∀ i, i < n + 1 → i ≠ f → 0 ≤ N i j ∧ N i j < D := fun i hi hne => by
    by_cases e : j = c
    · subst e; rw [hz i hi hne]; omega
    · exact h i hi j hj e
  unfold delR
  split
  · exact key t (by omega) (by omega)
  · exact key (t + 1) (by omega) (by omega)
theorem zer_del {n c f : Nat} {N : Nat → Nat → Int} (h : Zer (n + 1) c N) (hz : ∀ i, i < n + 1 → i ≠ f → N i c = 0) : Zer n (c + 1) (delR N f) := by
  intro t ht j hj
  have key : ∀ i, i < n + 1 → i ≠ f → N i j = 0 := fun i hi hne => by
    by_cases e : j = c
    · subst e; exact hz i hi hne
    · exact h i hi j (by omega)
  unfold delR
  split
  · exact key t (by omega) (by omega)
  · exact key (t + 1) (by omega) (by omega)
theorem frm_take {c : Nat} {D : Int} {F : Nat → Nat → Int} {v : Nat → Int} (h : Frm c c D F) (hv0 : 0 < v c) (hv1 : v c ≤ D) (hz : ∀ j, j < c → v j = 0) (hb : ∀ j, j < 6 → 0 ≤ v j ∧ v j ≤ D) : Frm (c + 1) c D (snR F c v) where
  piv k hk := by
    by_cases e : k = c
    · subst e; rw [snR_eq]; exact ⟨hv0, hv1⟩
    · rw [snR_lt (by omega)]; exact h.piv k (by omega)
  left k j hk hj := by
    by_cases e : k = c
    · subst e; rw [snR_eq]; exact hz j hj
    · rw [snR_lt (by omega)]; exact h.left k j (by omega) hj
  red i k hi hk := by
    rw [snR_lt (by omega), snR_lt (by omega)]; exact h.red i k hi hk
  bnd k j hk hj := by
    by_cases e : k = c
    · subst e; rw [snR_eq]; exact hb j hj
    · rw [snR_lt (by omega)]; exact h.bnd k j (by omega) hj
def Abv (c a : Nat) (F : Nat → Nat → Int) : Prop := ∀ i, i < a → 0 ≤ F i c ∧ F i c < F c c
theorem frm_low {c a : Nat} {D : Int} {F : Nat → Nat → Int} (h : Frm (c + 1) c D F) (ha : a < c) (hA : Abv c a F) (hc : c < 6) (hD : 0 < D) : Frm (c + 1) c D (updR F a (low (F a) (F c) c D)) ∧ Abv c (a + 1) (updR F a (low (F a) (F c) c D)) := by
  have h0 := (h.bnd a c (by omega) hc).1
  have hp := h.piv c (by omega)
  have hat := low_at h0 hp.1 hp.2
  have hlo : ∀ j, j < c → low (F a) (F c) c D j = F a j := fun j hj => by unfold low; rw [if_pos hj]
  refine ⟨⟨fun k hk => ?_, fun k j hk hj => ?_, fun i k hi hk => ?_, fun k j hk hj => ?_⟩, fun i hi => ?_⟩
  · by_cases e : k = a
    · subst e; rw [updR_self, hlo k ha]; exact h.piv k hk
    · rw [updR_ne e]; exact h.piv k hk
  · by_cases e : k = a
    · subst e; rw [updR_self, hlo j (by omega)]; exact h.left k j hk hj
    · rw [updR_ne e]; exact h.left k j hk hj
  · have e1 : updR F a (low (F a) (F c) c D) i k = F i k := by
      by_cases e : i = a
      · subst e; rw [updR_self, hlo k hk]
      · rw [updR_ne e]
    have e2 : updR F a (low (F a) (F c) c D) k k = F k k := by
      by_cases e : k = a
      · subst e; rw [updR_self, hlo k hk]
      · rw [updR_ne e]
    rw [e1, e2]; exact h.red i k hi hk
  · by_cases e : k = a
    · subst e; rw [updR_self]; unfold low
      split
      · exact h.bnd k j hk hj
      · have := Int.emod_nonneg (F k j - F k c / F c c * F c j) (show D ≠ 0 by omega)
        have := Int.emod_lt_of_pos (F k j - F k c / F c c * F c j) hD
        omega
    · rw [updR_ne e]; exact h.bnd k j hk hj
  · rw [updR_ne (show c ≠ a by omega)]
    by_cases e : i = a
    · subst e; rw [updR_self, hat]
      exact ⟨Int.emod_nonneg _ (by omega), Int.emod_lt_of_pos _ hp.1⟩
    · rw [updR_ne e]; exact hA i (by omega)
theorem frm_done {c : Nat} {D : Int} {F : Nat → Nat → Int} (h : Frm (c + 1) c D F) (hA : Abv c c F) : Frm (c + 1) (c + 1) D F :=
  ⟨h.piv, h.left, fun i k hi hk => if e : k = c then by subst e; exact hA i hi else h.red i k hi (by omega), h.bnd⟩
/-- What the main loop keeps. -/
structure Tri (m n : Nat) (A : Nat → Nat → Int) (D : Int) (c : Nat) (R F : Nat → Nat → Int) : Prop where
  zer : Zer n c R
  bd : Bd n D R
  frm : Frm c c D F
  ge : Ge m n A D c n R F c
/-- What a column's elimination makes of it. -/
theorem Tri.next {m n c f : Nat} {A R F N : Nat → Nat → Int} {D : Int} (h : Tri m n A D c R F) (hD : 0 < D) (hD2 : D ≤ 1000000000) (hc : c < m) (hm : m ≤ 6) (hE : Els (n + 1) c D (snR R n (unitV D c)) N) (hf : f < n + 1) (h0 : 0 < N f c) (hz : ∀ i, i < n + 1 → i ≠ f → N i c = 0) :
    Zer n (c + 1) (delR N f) ∧ Bd n D (delR N f) ∧ Frm (c + 1) c D (snR F c (N f)) ∧ Ge m n A D (c + 1) n (delR N f) (snR F c (N f)) (c + 1) := by
  have ho := okd_push (c := c) h.bd hD hD2 (by omega)
  have hzp := zer_push (D := D) h.zer
  have hzN := hE.zer hzp
  have hoN := hE.okd ho hD hD2 (by omega)
  have hbN := hE.bdc (bdc_push h.bd hD) hD
  refine ⟨zer_del hzN hz, bd_del hbN hz hD, frm_take h.frm h0 (hoN f hf).1 (fun j hj => hzN f hf j hj) (fun j hj => ?_), ?_⟩
  · by_cases e : j = c
    · subst e; have := (hoN f hf).1; omega
    · have := hbN f hf j hj e; omega
  · have g1 := h.ge.push (R' := snR R n (unitV D c)) hc (fun t ht => snR_lt ht) (fun j _ => by rw [snR_eq])
    have g2 := g1.els hE hzp ho hD hD2 (by omega)
    exact g2.take hf (fun k hk => snR_lt hk) snR_eq
end Go.Proofs.Ytmknbgiihhimfaa

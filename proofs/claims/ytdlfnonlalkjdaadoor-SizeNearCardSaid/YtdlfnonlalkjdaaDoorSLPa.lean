/- SizeProducts, for all pitches. -/
import Derived.Test.YtdlfnonlalkjdaaDoorSLP
namespace Go.Proofs.YtdlfnonlalkjdaaDoor
open Go.RowKit M
theorem op_ok {x y : Int} (h : szB x y = true) : opR true x y = (x, y, 0) := by unfold opR; rw [h]; rfl
theorem pair_576 (p q : Nat → Int) (i : Nat) (h : ¬ (p i < 0 ∧ 0 < q i) ∧ ¬ (0 < p i ∧ q i < 0)) : (0 ≤ p i ∧ 0 ≤ q i) ∨ (p i ≤ 0 ∧ q i ≤ 0) := by omega
theorem sproducts_all (p q : Nat → Int) (w : World) (hl : Lm w) :
    Calls Tryd.prog 5 #[PV p, PV q] w fun e w' => e = .returned (.bool true) ∧ Below w.heap.size w w' := by
  cases hvp : bdB p 576
  · exact sproducts_p p q w hl ⟨fun w => pvalid_any p w false hvp⟩
  · cases hvq : bdB q 576
    · exact sproducts_q p q w hl ⟨fun w => pvalid_any p w true hvp⟩ ⟨fun w => pvalid_any q w false hvq⟩
    · have bp := m_bd (bd_1152 hvp)
      have bq := m_bd (bd_1152 hvq)
      have lp := mLo_le_mHi p
      have lq := mLo_le_mHi q
      have bg := m_bd (dif_bd hvp hvq)
      have lg := mLo_le_mHi fun i => p i - q i
      obtain ⟨r, hr⟩ : ∃ r, comV p q 1 = r := ⟨_, rfl⟩
      obtain ⟨mc, hmc⟩ : ∃ c, comE p q 1 = c := ⟨_, rfl⟩
      obtain ⟨r2, hr2⟩ : ∃ r, comV p q (-1) = r := ⟨_, rfl⟩
      obtain ⟨dc, hdc⟩ : ∃ c, comE p q (-1) = c := ⟨_, rfl⟩
      have hs : szB (mLo p + mLo q) (mHi p + mHi q) = true := szB_yes.2 ⟨by omega, by omega, by omega⟩
      have hd : szB (mLo p - mHi q) (mHi p - mLo q) = true := szB_yes.2 ⟨by omega, by omega, by omega⟩
      have hG2 : gpR q p = (-(mHi fun i => p i - q i), -(mLo fun i => p i - q i), 0) := by
        rw [gp_ok hvq hvp, (m_swap p q).1, (m_swap p q).2]
      have hG3 : gpR p p = (0, 0, 0) := by
        have := m_zero (fun i => p i - p i) fun i _ => by omega
        rw [gp_ok hvp hvp, this.1, this.2]
      refine sproducts_ok p q w hl (mLo p) (mHi p) (mLo q) (mHi q) (mLo p + mLo q) (mHi p + mHi q) (mLo p - mHi q) (mHi p - mLo q) (mLo fun i => p i - q i) (mHi fun i => p i - q i) (mLo r) (mHi r) mc dc r r2 bg.1 bg.2 lg
        ⟨fun w => pvalid_any p w true hvp⟩ ⟨fun w => pvalid_any q w true hvq⟩ ⟨fun w hL => sof_any p _ _ _ (of_ok hvp) w hL⟩ ⟨fun w hL => sof_any q _ _ _ (of_ok hvq) w hL⟩
        ⟨sadd_any _ _ _ _ _ _ _ (by rw [of_valid hvp, of_valid hvq]; exact op_ok hs)⟩ ⟨ssub_any _ _ _ _ _ _ _ (by rw [of_valid hvp, of_valid hvq]; exact op_ok hd)⟩
        ⟨sgap_any p q _ _ _ (gp_ok hvp hvq)⟩ ⟨sgap_any q p _ _ _ hG2⟩ ⟨sgap_any p p _ _ _ hG3⟩ ⟨fun w => pmul_any p q r mc w hr hmc⟩ ⟨fun h0 => ?_⟩ ⟨fun w => pdiv_any p q r2 dc w hr2 hdc⟩ ⟨fun h0 => ?_⟩
      · subst h0
        obtain ⟨_, _, hv, he⟩ := com_ok hmc
        rw [he] at hr
        have e : (fun i => p i + 1 * q i) = fun i => p i + q i := by funext i; omega
        rw [e] at hr hv
        subst hr
        refine ⟨⟨sof_any _ _ _ _ (of_ok hv)⟩, mLo_add p q, mHi_add p q, fun hk => ?_⟩
        have hsame := fun i hi => pair_576 p q i (hk i hi)
        exact ⟨mLo_same p q hsame, mHi_same p q hsame⟩
      · subst h0
        obtain ⟨_, _, hv, he⟩ := com_ok hdc
        rw [he] at hr2
        have e : (fun i => p i + -1 * q i) = fun i => p i - q i := by funext i; omega
        rw [e] at hr2 hv
        subst hr2
        exact ⟨⟨sof_any _ _ _ _ (of_ok hv)⟩, mLo_sub p q, mHi_sub p q⟩
end Go.Proofs.YtdlfnonlalkjdaaDoor

/- natural.quotient. -/
import Derived.Test.YtegjhkjmejckdaaDoorN12
namespace Go.Proofs.YtegjhkjmejckdaaDoor
open Go.RowKit M
theorem RetPair.after {w w1 : World} {q r : Nat} {e : Ending} {w' : World} (hb : Below w.heap.size w w1) (h : RetPair w1 q r e w') : RetPair w q r e w' :=
  let ⟨v1, v2, he, h1, h2, hb'⟩ := h; ⟨v1, v2, he, h1, h2, hb.trans (hb'.mono hb.size)⟩
theorem quotient_zero (ao bo : Option Addr) (m ca cb : Nat) (w : World) : Calls Tryd.prog 53 #[.slice ao m ca, .slice bo 0 cb] w (Raised w 7) := by
  go_enter Tryd.func53, Tryd.ntmps53
  go_wp2
  exact ⟨rfl, rfl, Below.refl _ _⟩
theorem quotient_any (ao bo : Option Addr) (a b : Nat) (m n ca cb : Nat) (w : World) (hm : (limbs a).length = m) (hn : (limbs b).length = n) (ha : (a : Int) < pw 640) (hb : (b : Int) < pw 640) (hb0 : b ≠ 0)
    (hca : CellsK .u32 w ao (limbs a)) (hcb : CellsK .u32 w bo (limbs b)) : Calls Tryd.prog 53 #[.slice ao m ca, .slice bo n cb] w (RetPair w (a / b) (a % b)) := by
  have hm6 : m ≤ 640 := by rw [← hm]; exact limbs_length_le.2 ha
  have hn6 : n ≤ 640 := by rw [← hn]; exact limbs_length_le.2 hb
  have hn0 : n ≠ 0 := by intro e; subst e; exact hb0 (limbs_nil.1 (by simpa using hn))
  have hnb : ((n : Int) == 0) = false := beq_eq_false_iff_ne.2 (by omega)
  have hcmp := compare_any ao bo (limbs a) (limbs b) m n ca cb w hm hn (by omega) (by omega) (ok_limbs a) (ok_limbs b) (limbs_last a) (limbs_last b) hca hcb
  rw [val_limbs, val_limbs] at hcmp
  by_cases hlt : (a : Int) < b
  · rw [cmpI_lt hlt] at hcmp
    have hq : a / b = 0 := Nat.div_eq_of_lt (by omega)
    have hr : a % b = a := Nat.mod_eq_of_lt (by omega)
    have HQ := Bx.mk hq
    have HR := Bx.mk hr
    have HC := Bx.mk hcmp
    clear hcmp hlt ha hb hq hr
    by_cases hao : ao = none
    · subst hao
      have ha0 : limbs a = [] := by
        by_cases e : limbs a = []
        · exact e
        · obtain ⟨x, hx, _⟩ := hca e; cases hx
      have hm0 : m = 0 := by rw [← hm, ha0]; rfl
      subst hm0
      go_enter Tryd.func53, Tryd.ntmps53
      go_wp2_with fail
      refine HC.out.mono ?_
      rintro e w1 ⟨rfl, hq⟩
      have HB := Bx.mk (hq.below w.heap.size)
      have htrim := trim_any none [] 0 0 w1 rfl (Nat.le_refl _) (by unfold maxLen; omega) Ok.nil CellsK.nil
      have HT := Bx.mk htrim
      clear htrim
      go_wp2_with fail
      refine (clone_nil _ _ _).mono ?_
      rintro e w2 ⟨rfl, rfl⟩
      go_wp2_with fail
      refine HT.out.mono ?_
      rintro e w2 ⟨rfl, rfl⟩
      go_wp2
      go_ret2
      refine ⟨_, _, rfl, ?_, ?_, HB.out⟩
      · rw [HQ.out, limbs_zero]; exact Rd.nil _
      · rw [HR.out, ha0]; simp only [trimL_nil]; exact Rd.nil _
    · obtain ⟨x, rfl⟩ := Option.ne_none_iff_exists'.1 hao
      go_enter Tryd.func53, Tryd.ntmps53
      go_wp2_with fail
      refine HC.out.mono ?_
      rintro e w1 ⟨rfl, hq⟩
      have hb1 := hq.below w.heap.size
      have hclone := clone_any x (limbs a) m ca w1 hm (by omega) (ok_limbs a) (hca.keep hb1)
      have HB := Bx.mk hb1
      have HCL := Bx.mk hclone
      clear hclone hb1 hq
      go_wp2_with fail
      refine HCL.out.mono ?_
      rintro e w2 ⟨g, cap, rfl, hc1, hc2, hown⟩
      have htrim := trim_any (some ⟨g, 0, none⟩) (limbs a) m cap w2 hm hc1 hc2 (ok_limbs a) hown.cells
      have HT := Bx.mk htrim
      clear htrim
      go_wp2_with fail
      refine HT.out.mono ?_
      rintro e w3 ⟨rfl, rfl⟩
      go_wp2
      go_ret2
      refine ⟨_, _, rfl, ?_, ?_, HB.out.trans (hown.below.mono HB.out.size)⟩
      · rw [HQ.out, limbs_zero]; exact Rd.nil _
      · rw [HR.out]; exact Rd.trimmed hown.cells (ok_limbs a) (cap := cap) (by omega) hc2 (val_limbs a)
  · obtain ⟨sg, hsg⟩ : ∃ sg, sg = cmpI (a : Int) b := ⟨_, rfl⟩
    rw [← hsg] at hcmp
    have hs0 : decide (sg < 0) = false := by rw [hsg, decide_eq_false_iff_not]; unfold cmpI; split <;> (try split) <;> omega
    have hnm : n ≤ m := by
      by_cases h : n ≤ m
      · exact h
      · have := val_lt_of_len (ok_limbs a) (ok_limbs b) (limbs_last b) (by omega)
        rw [val_limbs, val_limbs] at this; omega
    have HC := Bx.mk hcmp
    clear hsg hcmp hlt
    by_cases h1 : n = 1
    · subst h1
      obtain ⟨d, hd⟩ : ∃ d, limbs b = [d] := by
        match h : limbs b, hn with
        | [d], _ => exact ⟨d, rfl⟩
      have hbd : (b : Int) = d := by have := val_limbs b; rw [hd] at this; simpa [val] using this.symm
      have hdb := (ok_limbs b) d (by rw [hd]; simp)
      obtain ⟨bb, rfl, _, hbc⟩ := hcb (by rw [hd]; simp)
      have hcd := hbc 0 (by omega)
      rw [hd, add_zero_addr] at hcd
      have hcd : w.cell? bb = some (.int .u32 d) := hcd
      obtain ⟨x, rfl, _⟩ := hca (by intro e; rw [e] at hm; simp at hm; omega)
      have hd0 : 0 < d := by omega
      go_enter Tryd.func53, Tryd.ntmps53
      go_wp2_with fail
      refine HC.out.mono ?_
      rintro e w1 ⟨rfl, hq⟩
      have hb1 := hq.below w.heap.size
      have hclone := clone_any x (limbs a) m ca w1 hm (by omega) (ok_limbs a) (hca.keep hb1)
      have HB := Bx.mk hb1
      have HCL := Bx.mk hclone
      have hcb1 := hcb.keep hb1
      clear hclone hb1 hq
      go_wp2_with fail
      refine HCL.out.mono ?_
      rintro e w2 ⟨g, cap, rfl, hc1, hc2, hown⟩
      obtain ⟨b2, hb2, _, hbc2⟩ := (hcb1.keep hown.below) (by rw [hd]; simp)
      obtain rfl := Option.some.inj hb2
      have hcd2 := hbc2 0 (by omega)
      rw [hd, add_zero_addr] at hcd2
      have hcd2 : w2.cell? bb = some (.int .u32 d) := hcd2
      have hdiv := divideBy_any w1.heap.size w1 w2 g m cap (limbs a) d hm (by omega) hd0 hdb.2 hown
      have HD := Bx.mk hdiv
      clear hdiv hbc hbc2 hcb1 hcb hown
      go_wp2_with fail
      refine HD.out.mono ?_
      rintro e w3 ⟨r, L', rfl, r0, r1, hL', hv, hown, _⟩
      have htrim := trim_any (some ⟨g, 0, none⟩) L' m cap w3 hL' hc1 hc2 hown.ok hown.cells
      have HT := Bx.mk htrim
      obtain ⟨rn, rfl⟩ := Int.eq_ofNat_of_zero_le r0
      have hmake := make_any rn w3 (by omega)
      have HM := Bx.mk hmake
      have HV := Bx.mk hv
      clear htrim hmake hv
      go_wp2_with fail
      refine HT.out.mono ?_
      rintro e w4 ⟨rfl, rfl⟩
      go_wp2_with fail
      refine HM.out.mono ?_
      rintro e w5 hret
      obtain ⟨v, rfl, hrd, hb5⟩ := hret
      go_wp2
      go_ret2
      have hv := HV.out
      rw [val_limbs] at hv
      have hLn := val_nonneg hown.ok
      obtain ⟨q, hq⟩ := Int.eq_ofNat_of_zero_le hLn
      have hqr : a / b = q ∧ a % b = rn := by
        rw [hq, ← hbd] at hv
        have e : a = b * q + rn := by have : ((b * q + rn : Nat) : Int) = (b : Int) * q + rn := by push_cast; rfl
                                      omega
        have hrb : rn < b := by omega
        rw [e]
        exact ⟨by rw [Nat.mul_add_div (by omega), Nat.div_eq_of_lt hrb, Nat.add_zero], by rw [Nat.mul_add_mod, Nat.mod_eq_of_lt hrb]⟩
      refine ⟨_, _, rfl, ?_, ?_, HB.out.trans ((hown.below.mono HB.out.size).trans (hb5.mono ?_))⟩
      · rw [hqr.1]; exact (Rd.trimmed hown.cells hown.ok (cap := cap) (by omega) hc2 hq).keep hb5
      · rw [hqr.2]; exact hrd
      · exact Nat.le_trans HB.out.size hown.below.size
    · obtain ⟨n', rfl⟩ : ∃ n', n = n' + 1 := ⟨n - 1, by omega⟩
      have hnb1 : (((n' + 1 : Nat) : Int) == 1) = false := beq_eq_false_iff_ne.2 (by omega)
      have e1 : (val (limbs a) / val (limbs b)).toNat = a / b := by rw [val_limbs, val_limbs, ← Int.natCast_ediv, Int.toNat_natCast]
      have e2 : (val (limbs a) % val (limbs b)).toNat = a % b := by rw [val_limbs, val_limbs, ← Int.natCast_emod, Int.toNat_natCast]
      have E1 := Bx.mk e1
      have E2 := Bx.mk e2
      clear ha hb e1 e2
      go_enter Tryd.func53, Tryd.ntmps53
      go_wp2_with fail
      refine HC.out.mono ?_
      rintro e w1 ⟨rfl, hq⟩
      have hb1 := hq.below w.heap.size
      have hld := longDivision_any ao bo (limbs a) (limbs b) m n' ca cb w1 hm hn hm6 (by omega) (ok_limbs a) (ok_limbs b) (limbs_last b) hnm (hca.keep hb1) (hcb.keep hb1)
      rw [E1.out, E2.out] at hld
      have HB := Bx.mk hb1
      have HLD := Bx.mk hld
      clear hld hb1 hq
      go_wp2_with fail
      refine HLD.out.mono ?_
      rintro e w2 hret
      obtain ⟨v1, v2, rfl, h1, h2, hb2⟩ := RetPair.after HB.out hret
      clear hret
      go_wp2
      go_ret2
      exact ⟨v1, v2, rfl, h1, h2, hb2⟩
end Go.Proofs.YtegjhkjmejckdaaDoor

/- natural.longDivision. -/
import Derived.Test.YtegjhkjmejckdaaDoorN11
import Derived.Test.YtegjhkjmejckdaaDoorLMath
namespace Go.Proofs.YtegjhkjmejckdaaDoor
open Go.RowKit M
/-- A quotient and a remainder come back. -/
def RetPair (w : World) (q r : Nat) (e : Ending) (w' : World) : Prop := ∃ v1 v2, e = .returned (.tuple #[v1, v2]) ∧ Rd w' v1 (limbs q) ∧ Rd w' v2 (limbs r) ∧ Below w.heap.size w w'
theorem OwnB.of_wrote {w wr : World} {M : Nat} {L : List Int} (h : Wrote w wr M L) : OwnB w.heap.size w wr w.heap.size L := OwnB.of_owns (n := M) (cap := M) h.own h.ok h.below
theorem OwnB.later {base : Nat} {w0 wr w' : World} {g : Nat} {L : List Int} (h : OwnB base w0 wr g L) (hb : Below wr.heap.size wr w') (hbb : base ≤ wr.heap.size) : OwnB base w0 w' g L := by
  obtain ⟨cur, hg, hs, hc⟩ := h.blk
  exact ⟨h.ok, h.ge, ⟨cur, by rw [hb.block g h.lt]; exact hg, hs, hc⟩, h.below.trans (hb.mono hbb)⟩
/-- The state of the long division. -/
structure LdSt (w wr : World) (g2 g3 : Nat) (RA D : List Int) (M k : Nat) (R Q : List Int) : Prop where
  rest : OwnB w.heap.size w wr w.heap.size R
  quo : OwnB w.heap.size w wr g3 (List.replicate k 0 ++ Q)
  div : CellsK .u32 wr (some ⟨g2, 0, none⟩) D
  len : Q.length + k = M
  rel : LdRel RA D k R Q
set_option maxHeartbeats 3200000 in
theorem longDivision_any (ao bo : Option Addr) (A B : List Int) (m n ca cb : Nat) (w : World) (hm : A.length = m) (hn : B.length = n + 1) (hm6 : m ≤ 640) (hn0 : n ≠ 0) (hA : Ok A) (hB : Ok B) (lB : B.getLast? ≠ some 0) (hnm : n + 1 ≤ m)
    (hca : CellsK .u32 w ao A) (hcb : CellsK .u32 w bo B) :
    Calls Tryd.prog 75 #[.slice ao m ca, .slice bo (n + 1 : Nat) cb] w (RetPair w (val A / val B).toNat (val A % val B).toNat) := by
  have hBne : B ≠ [] := by intro e; subst e; simp at hn
  obtain ⟨b, rfl, hbb, hbc⟩ := hcb hBne
  have hctop := hbc n (by omega)
  have htop := hB.getD n
  have htop1 : 1 ≤ B.getD n 0 := by
    have e : B.getLast? = some (B.getD n 0) := by rw [List.getLast?_eq_getElem?, List.getD_eq_getElem?_getD, hn, Nat.add_sub_cancel, List.getElem?_eq_getElem (by omega)]; rfl
    rw [e] at lB
    have : B.getD n 0 ≠ 0 := by simpa using lB
    omega
  obtain ⟨top, htt⟩ : ∃ top, B.getD n 0 = top := ⟨_, rfl⟩
  rw [htt] at hctop htop htop1
  have hlz := fun w => Tryd.bits_LeadingZeros32 top w (by omega) (by omega)
  have hbl := bitLen_bounds top.toNat (by omega)
  have hble : Lib.bitLen top.toNat ≤ 32 := Lib.bitLen_le top.toNat 32 (by omega) (by omega)
  have hbl1 : Lib.bitLen top.toNat ≠ 0 := by intro e; rw [e] at hbl; simp at hbl; omega
  obtain ⟨t, htl⟩ : ∃ t, Lib.bitLen top.toNat = t := ⟨_, rfl⟩
  rw [htl] at hbl hble hbl1
  obtain ⟨s, hs⟩ : ∃ s, s = 32 - t := ⟨_, rfl⟩
  have hlz2 : ∀ w, Calls Tryd.prog 84 #[.int .u32 top] w fun e w' => e = .returned (.int .i64 (s : Int)) ∧ w' = w := by
    intro w; have := hlz w; rw [htl, show (32 : Int) - (t : Int) = (s : Int) from by omega] at this; exact this
  have hbl2 : top < 2 ^ t := by
    have e : ((top.toNat : Nat) : Int) < ((2 ^ t : Nat) : Int) := by omega
    have e2 : ((2 ^ t : Nat) : Int) = (2 : Int) ^ t := by push_cast; rfl
    omega
  have hsh1 := shifted_any ao A m ca s w hm (by omega) (by omega) hA hca
  have HLZ := Bx.mk hlz2
  have HBL := Bx.mk hbl2
  have HS1 := Bx.mk hsh1
  have HST := Bx.mk (show s + t = 32 by omega)
  have HTT := Bx.mk htt
  have hs32 : s < 32 := by omega
  clear hlz hbl hble hbl1 htl hs hlz2 hbl2 hsh1 hbc htt
  go_enter Tryd.func75, Tryd.ntmps75
  go_wp2_with fail
  refine (HLZ.out _).mono ?_
  rintro e w' ⟨rfl, he⟩
  obtain rfl : w = w' := he.symm
  go_wp2_with fail
  refine HS1.out.mono ?_
  rintro e w1 ⟨RA, rfl, hvA, hWA⟩
  have hcb1 := (hcb.keep hWA.below)
  have hsh2 := shifted_any (some b) B (n + 1) cb s w1 hn (by omega) hs32 hB hcb1
  clear hcb1 HLZ HS1
  go_wp2_with fail
  refine hsh2.mono ?_
  rintro e w2 ⟨RB, rfl, hvB, hWB⟩
  have hst := shifted_top hB hWB.ok hn hWB.len HTT.out htop1 HBL.out HST.out hvB
  have hvD := (val_take_of_lt hWB.ok hst.1).1
  have hDlen : (RB.take (n + 1)).length = n + 1 := by rw [List.length_take, hWB.len]; omega
  have hDok := hWB.ok.take (n + 1)
  have hDc : CellsK .u32 w2 (some ⟨w1.heap.size, 0, none⟩) (RB.take (n + 1)) := ((OwnB.of_wrote hWB).take (n + 1)).cells
  rw [hvB] at hvD
  obtain ⟨D, hDD⟩ : ∃ D, RB.take (n + 1) = D := ⟨_, rfl⟩
  rw [hDD] at hst hvD hDlen hDok hDc
  have hrel0 := ldRel_start hA hB lB hn hm (by omega) hnm hvA hvD
  have hOA := (OwnB.of_wrote hWA).later hWB.below hWA.below.size
  have hRAlen := hWA.len
  have hlt12 : w.heap.size < w1.heap.size := (OwnB.of_wrote hWA).lt
  have hbel2 := hWA.below.trans (hWB.below.mono hWA.below.size)
  have hsz12 := hWB.below.size
  have hlt2 : w1.heap.size < w2.heap.size := (OwnB.of_wrote hWB).lt
  have hlt3 : w.heap.size < w2.heap.size := by omega
  obtain ⟨i0, hi, hz0, hz1, hz2⟩ := info_parts Tryd.info42
  have HREL := Bx.mk hrel0
  have HVA := Bx.mk hvA
  have HVD := Bx.mk hvD
  have HTOP := Bx.mk hst.2
  have HOA := Bx.mk hOA
  have HDC := Bx.mk hDc
  have HBEL := Bx.mk hbel2
  clear hrel0 hvA hvD hst hOA hWA hWB hbel2 hDD hvB hsh2 hDc
  go_wp2_with (at_make; refine wpList_make_full _ rfl _ _ 22 rfl w2.heap.size 42 i0 (.int .u32 0) 1 Tryd.underlying22 hi hz0 hz1 .i64 .i64 _ _ (m - n) rfl rfl (by omega) (by omega) (by rw [hz2]; omega) (by unfold maxLen; omega) (Nat.le_refl _) ?_; intro w3 hown hgrow)
  have hW := Wrote.made hown hgrow
  clear hown hgrow hi hz0 hz1 hz2
  have hO3 := OwnB.of_wrote hW
  have hb3 := hW.below
  have hbel3 := HBEL.out.trans (hb3.mono (by omega))
  have hst0 : LdSt w w3 w1.heap.size w2.heap.size RA D (m - n) (m - n) RA [] := by
    refine ⟨HOA.out.later hb3 (by omega), ⟨by simpa using hO3.ok, by omega, by simpa using hO3.blk, hbel3⟩, HDC.out.keep hb3, by simp, ?_⟩
    have := HREL.out
    rw [show m - (n + 1) + 1 = m - n from by omega] at this; exact this
  have HST0 := Bx.mk hst0
  have hApos : 0 < val B := by
    have := val_ge hB (by assumption) hBne
    have := pw_pos (B.length - 1)
    omega
  clear hst0 hO3 hb3 hbel3 hW HOA HDC HREL HBEL
  go_loopw [11] (fun v wr => ∃ (k : Nat) (R Q : List Int), k ≤ m - n ∧ v = .int .i64 ((k : Int) - 1) ∧ LdSt w wr w1.heap.size w2.heap.size RA D (m - n) k R Q) (fun v _ => (intOf v + 1).toNat)
  case atStart => exact ⟨m - n, RA, [], Nat.le_refl _, by go_num, HST0.out⟩
  case round =>
    obtain ⟨k, R, Q, hk, rfl, hst⟩ := hrel
    by_cases hk0 : k = 0
    · subst hk0
      have hqok := hst.quo.ok
      have hend := ldRel_end hA hst.rest.ok hApos HVA.out HVD.out hst.rel
      have hlenQ := hst.len
      have hRl : R.length = m + 1 := by have := hst.rel.1; omega
      have hqrow := hst.quo
      rw [List.replicate_zero, List.nil_append] at hqrow
      have hRrow := hst.rest.take (n + 1)
      have hRlen : (R.take (n + 1)).length = n + 1 := by rw [List.length_take]; omega
      have hRv : val (R.take (n + 1)) = val R := by
        refine (val_take_of_lt hst.rest.ok ?_).1
        have h3 := hst.rel.2.2
        rw [pw_zero, Int.one_mul] at h3
        have h4 := val_lt hDok
        rw [hDlen] at h4; omega
      have htq := fun w' (hb : Below wr.heap.size wr w') => trim_any (some ⟨w2.heap.size, 0, none⟩) Q (m - n) (m - n) w' (by omega) (Nat.le_refl _) (by unfold maxLen; omega) hqrow.ok (hqrow.cells.keep hb)
      have hsb := fun w' cc (hb : Below wr.heap.size wr w') => shiftedBack_any (some ⟨w.heap.size, 0, none⟩) (R.take (n + 1)) (n + 1) cc s w' hRlen (by omega) hs32 hRrow.ok (hRrow.cells.keep hb)
      have hfin : ∀ (w5 : World) (LR : List Int), Wrote wr.drew w5 (n + 1) LR → val LR = val (R.take (n + 1)) / 2 ^ s →
          RetPair w (val A / val B).toNat (val A % val B).toNat (.returned (.tuple #[.slice (some ⟨w2.heap.size, 0, none⟩) (trimL Q).length (trimL Q).length, .slice (some ⟨wr.heap.size, 0, none⟩) (trimL LR).length (trimL LR).length])) w5 := by
        intro w5 LR hWR hvR
        have hb5 : Below wr.heap.size wr w5 := (Below.refl _ _).drew.trans hWR.below
        have hA0 := val_nonneg hA
        have q0 : 0 ≤ val A / val B := Int.ediv_nonneg hA0 (by omega)
        have r0 : 0 ≤ val A % val B := Int.emod_nonneg _ (by omega)
        refine ⟨_, _, rfl, Rd.trimmed (hqrow.cells.keep hb5) hqrow.ok (cap := m - n) (by omega) (by unfold maxLen; omega) (by rw [hend.1]; omega),
          Rd.trimmed (ao := some ⟨wr.heap.size, 0, none⟩) hWR.cells hWR.ok (cap := n + 1) (by have := hWR.len; omega) (by unfold maxLen; omega) (by rw [hvR, hRv, hend.2]; omega), hqrow.below.trans (hb5.mono hqrow.below.size)⟩
      have HFIN := Bx.mk hfin
      have HTQ := Bx.mk htq
      have HSB := Bx.mk hsb
      have HEND := Bx.mk hend
      have HRV := Bx.mk hRv
      have HQROW := Bx.mk hqrow
      clear htq hsb hend hRv hRrow hqok hst hqrow hfin
      go_wp2
      have htq1 := HTQ.out wr.drew (Below.refl _ _).drew
      have hsb1 := HSB.out wr.drew (m + 1) (Below.refl _ _).drew
      go_region_with (first | (go_at_call 87; ((with_reducible refine hsb1.mono ?_); rintro e w5 ⟨LR, rfl, hvR, hWR⟩; have ht2 := trim_any (some ⟨wr.heap.size, 0, none⟩) LR (n + 1) (n + 1) w5 hWR.len (Nat.le_refl _) (by unfold maxLen; omega) hWR.ok hWR.cells)) | (go_at_call 35; ((with_reducible refine htq1.mono ?_); rintro e w6 ⟨rfl, rfl⟩)) | (go_at_call 35; ((with_reducible refine (HTQ.out _ ((Below.refl _ _).drew.trans hWR.below)).mono ?_); rintro e w6 ⟨rfl, rfl⟩)) | (go_at_call 35; ((with_reducible refine ht2.mono ?_); rintro e w6 ⟨rfl, rfl⟩)))
      all_goals
        have HF := Bx.mk (HFIN.out _ _ hWR hvR)
        clear hWR hvR ht2 htq1 hsb1
        go_wp2
        first | go_ret2 | skip
        exact HF.out
    · have hlenR := hst.rel.1
      have hRl : R.length = m + 1 := by omega
      have hrel1 : LdRel RA D (k - 1 + 1) R Q := by rw [show k - 1 + 1 = k from by omega]; exact hst.rel
      have hDpos : 0 < val D := by rw [HVD.out]; exact Int.mul_pos hApos (Int.pow_pos (by omega))
      have hsmall := ldRel_small hst.rest.ok hDok (n := n + 1) hrel1 (by omega)
      have htake := fun cc cx => takeOut_any w.heap.size w wr w.heap.size (k - 1) (n + 1) cc cx (some ⟨w1.heap.size, 0, none⟩) R D hDlen (by omega) (by omega) (by omega) hDok hst.rest HTOP.out hsmall hst.div (by intro _ a ha; obtain rfl := Option.some.inj ha; show w1.heap.size ≠ w.heap.size; omega)
      have HTK := Bx.mk htake
      have HSTT := Bx.mk hst
      have HR1 := Bx.mk hrel1
      have HDP := Bx.mk hDpos
      have hb1 : (0 : Int) ≤ (k : Int) - 1 := by omega
      clear htake hst hrel1 hsmall hDpos hlenR
      go_wp2_with fail
      rw [show k - 1 + (n + 1) + 1 - (k - 1) = n + 1 + 1 from by omega]
      refine (HTK.out _ _).mono ?_
      rintro e w4 ⟨tq, C, R', rfl, ht, hw, hC, hown, hbut⟩
      have hnew := ldRel_step HSTT.out.rest.ok hown.ok hDok hDlen HDP.out HR1.out (by have := HR1.out.1; omega) ht hw hC
      have hV0 := val_nonneg ((HSTT.out.rest.ok.drop (k - 1)).take (n + 1 + 1))
      have ht0 : 0 ≤ tq := by rw [ht]; exact Int.ediv_nonneg hV0 (by have := HDP.out; omega)
      have ht1 : tq < 4294967296 := by rw [ht]; exact Int.ediv_lt_of_lt_mul HDP.out (ldRel_small HSTT.out.rest.ok hDok HR1.out (by have := HR1.out.1; omega))
      have hq := HSTT.out.quo.but hbut (show w2.heap.size ≠ w.heap.size by omega) hown.below
      have hql := HSTT.out.len
      have hcell := hq.cell (k - 1) (by simp; omega)
      have hfree := hq.free (k - 1)
      have hqs := hq.store (k - 1) ht0 ht1
      rw [show List.replicate k (0 : Int) = List.replicate (k - 1 + 1) 0 from by rw [show k - 1 + 1 = k from by omega], set_low] at hqs
      have hbs := (But.refl w2.heap.size w4).setCell (k - 1) (.int .u32 tq)
      have hnext : LdSt w (w4.setCell ⟨w2.heap.size, k - 1, none⟩ (.int .u32 tq)) w1.heap.size w2.heap.size RA D (m - n) (k - 1) R' (tq :: Q) := by
        refine ⟨hown.but hbs (by omega) hqs.below, hqs, hbs.cells (hbut.cells HSTT.out.div ?_) ?_, by simp; omega, hnew⟩
        · intro _ a ha; obtain rfl := Option.some.inj ha; show w1.heap.size ≠ w.heap.size; omega
        · intro _ a ha; obtain rfl := Option.some.inj ha; show w1.heap.size ≠ w2.heap.size; omega
      have HNX := Bx.mk hnext
      clear hnew hV0 hq hql hqs hbs hnext ht hw hC hown hbut
      go_wp2
      go_roundw
      case rel => exact ⟨k - 1, R', _, by omega, by go_num, HNX.out⟩
      case measure => simp [intOf]; omega
end Go.Proofs.YtegjhkjmejckdaaDoor

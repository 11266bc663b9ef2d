/- the reference's Div on natural numbers, walked. -/
import Derived.Test.YthfpkjeobdajiaaDoorFL
namespace Go.Proofs.YthfpkjeobdajiaaDoor
open Go.RowKit M
theorem len_641 {r v : Nat} (h : Fits r) (hv : v ≤ 2 * r + 1) : (limbs v).length ≤ 641 := by
  have h1 := h.lt
  have h2 := pw_succ 640
  exact limbs_length_le.2 (by rw [h2]; omega)
set_option maxHeartbeats 1600000 in
theorem refDiv_walk (ao bo : Option Addr) (a b na nb ca cb : Nat) (w : World) (hna : (limbs a).length = na) (hnb : (limbs b).length = nb) (ha : Fits a) (hb : Fits b) (ha0 : 0 < a) (hb0 : 0 < b) (hca : CellsK .u32 w ao (limbs a)) (hcb : CellsK .u32 w bo (limbs b)) :
    Calls Tryd.prog 17 #[.slice ao na ca, .slice bo nb cb] w (OutD w (a / b) (a % b) 0) := by
  obtain ⟨i0, hi, hz0, hz1, hz2⟩ := info_parts Tryd.info41
  have hboth := refBoth_any ao bo (limbs a) (limbs b) na nb ca cb w hna hnb hca hcb
  rw [isNat_limbs ha.lt, isNat_limbs hb.lt] at hboth
  have H1 := Bx.mk hboth
  have hla := ha.len
  have hlb := hb.len
  have hnb0 : nb ≠ 0 := by
    intro e
    have : limbs b = [] := by rw [← List.length_eq_zero_iff]; omega
    rw [limbs_nil] at this; omega
  have hna0 : na ≠ 0 := by
    intro e
    have : limbs a = [] := by rw [← List.length_eq_zero_iff]; omega
    rw [limbs_nil] at this; omega
  have hz : ((nb : Int) == 0) = false := beq_eq_false_iff_ne.2 (by omega)
  clear hboth
  go_enter Tryd.func17, Tryd.ntmps17
  go_wp2_with fail
  refine H1.out.mono ?_
  rintro e w1 ⟨rfl, rfl⟩
  go_wp2_with (at_make; refine wpList_make_full _ rfl _ _ 23 rfl w.heap.size 41 i0 (.int .u32 0) 1 Tryd.underlying23 hi hz0 hz1 .i64 .i64 _ _ na rfl rfl (by push_cast; rfl) (by push_cast; rfl) (by rw [hz2]; omega) (by unfold maxLen; omega) (Nat.le_refl _) ?_; intro w1 hown hgrow)
  have hW0 := OwnB.of_wrote (Wrote.made hown hgrow)
  have hrel0 := dvRel_first (b := b) (n := na - 1) (ok_limbs a) (by omega) hb0
  rw [show na - 1 + 1 = na from by omega] at hrel0
  clear hown hgrow hi hz0 hz1 hz2 H1
  go_loopw [8, 9] (fun rv iv wr => ∃ (j rr : Nat) (L : List Int), j ≤ na ∧ iv = .int .i64 ((j : Int) - 1) ∧ Rd wr rv (limbs rr) ∧ OwnB w.heap.size w wr w.heap.size L ∧ Bx (if j = 0 then DvRel (limbs a) b 0 0 rr L else DvRel (limbs a) b (j - 1) 32 rr L)) (fun _ iv _ => (intOf iv + 1).toNat)
  case atStart => exact ⟨na, 0, _, Nat.le_refl _, by go_num, by rw [limbs_zero]; exact Rd.nil _, hW0, ⟨by rw [if_neg (by omega)]; exact hrel0⟩⟩
  case round =>
    obtain ⟨j, rr, L, hj, rfl, hrd, hown, HRel⟩ := hrel
    by_cases h0 : j = 0
    · subst h0
      have hrel := HRel.out
      rw [if_pos rfl] at hrel
      have hlast := dvRel_last (ok_limbs a) hown.ok (by omega) hrel
      rw [val_limbs, Int.toNat_natCast] at hlast
      have hlen := hrel.len
      have hnn := val_nonneg hown.ok
      have htr := refTrim_any (some ⟨w.heap.size, 0, none⟩) L na na wr (by omega) (Nat.le_refl _) (by unfold maxLen; omega) hown.ok hown.cells
      have HT := Bx.mk htr
      have HQ := Bx.mk (Rd.trimmedC (s := a / b) hown.cells hown.ok (cap := na) (by omega) (by unfold maxLen; omega) (by omega))
      rw [hlast.1] at hrd
      have HRD := Bx.mk hrd
      have HB := Bx.mk hown.below
      clear hrel hlast hlen hnn htr hown hrd HRel
      go_wp2_with fail
      refine HT.out.mono ?_
      rintro e w6 ⟨rfl, rfl⟩
      go_wp2
      go_ret3
      exact ⟨_, _, rfl, HQ.out, HRD.out, HB.out⟩
    · have hrel := HRel.out
      rw [if_neg h0] at hrel
      have hb1 : (0 : Int) ≤ (j : Int) - 1 := by omega
      have hj1 : (1 : Int) ≤ (j : Int) := by omega
      have hb2 : (j : Int) - 1 < (na : Int) := by omega
      clear HRel
      go_wp2_with fail
      go_loopw [8, 10] (fun rv kv wr => ∃ (k rr : Nat) (L : List Int), k ≤ 32 ∧ kv = .int .i64 ((k : Int) - 1) ∧ Rd wr rv (limbs rr) ∧ OwnB w.heap.size w wr w.heap.size L ∧ Bx (DvRel (limbs a) b (j - 1) k rr L)) (fun _ kv _ => (intOf kv + 1).toNat)
      case atStart => exact ⟨32, rr, L, Nat.le_refl _, by go_num, hrd, hown, ⟨hrel⟩⟩
      case round =>
        obtain ⟨k, rr, L, hk, rfl, hrd, hown, HR⟩ := hrel
        by_cases hk0 : k = 0
        · subst hk0
          have HO := Bx.mk hown
          have HRD := Bx.mk hrd
          have HN : Bx (if j - 1 = 0 then DvRel (limbs a) b 0 0 rr L else DvRel (limbs a) b (j - 1 - 1) 32 rr L) := ⟨by
            by_cases h1 : j - 1 = 0
            · rw [if_pos h1]; have := HR.out; rwa [h1] at this
            · rw [if_neg h1]
              have := HR.out
              rw [show j - 1 = (j - 1 - 1) + 1 from by omega] at this
              exact dvRel_limb (ok_limbs _) hown.ok (by omega) this⟩
          clear hown hrd HR
          go_wp2
          go_roundw
          case rel => exact ⟨j - 1, rr, L, by omega, by go_num, HRD.out, HO.out, HN⟩
          case measure => simp [intOf]; omega
        · obtain ⟨kk, rfl⟩ : ∃ kk, k = kk + 1 := ⟨k - 1, by omega⟩
          obtain ⟨po, cp, rfl, hpc, hpm, hpo⟩ := hrd.shape
          have hrb : rr < b := by rw [HR.out.rest]; exact Nat.mod_lt _ hb0
          have hfr : Fits rr := hb.mono (by omega)
          have hp := refPlus_nat po po rr rr _ _ cp cp wr rfl rfl (by have := hfr.len; omega) (by have := hfr.len; omega) hpo hpo
          have HP := Bx.mk hp
          have HO := Bx.mk hown
          have e1 : ((kk + 1 : Nat) : Int) - 1 = (kk : Int) := by omega
          rw [e1]
          clear hp hrd hown
          go_wp2_with fail
          refine HP.out.mono ?_
          rintro e w3 ⟨v, rfl, hr3, hb3⟩
          obtain ⟨qo, cq, rfl, hqc, hqm, hqo⟩ := hr3.shape
          have HO := Bx.mk (HO.out.later hb3 HO.out.below.size)
          have hA := (hca.keep HO.out.below) (by intro e; rw [e] at hna; simp at hna; omega)
          obtain ⟨a0, rfl, _, hac⟩ := hA
          have hcA := hac (j - 1) (by omega)
          have hxb := (ok_limbs a).getD (j - 1)
          obtain ⟨x, hx⟩ : ∃ x, (limbs a).getD (j - 1) 0 = x := ⟨_, rfl⟩
          rw [hx] at hcA hxb
          have hk1 : (kk : Int) < 32 := by omega
          clear hac e1
          obtain ⟨p, hp2⟩ : ∃ p : Nat, 2 ^ kk = p := ⟨_, rfl⟩
          have hple : p ≤ 2147483648 := by
            rw [← hp2]; exact Nat.pow_le_pow_right (n := 2) (by omega) (show kk ≤ 31 by omega)
          have hp1 : 1 ≤ p := by rw [← hp2]; exact Nat.one_le_two_pow
          have hpi : (2 : Int) ^ kk = (p : Int) := by rw [← hp2]; push_cast; rfl
          have hwr : IntKind.u32.wrap ((2 : Int) ^ kk) = (p : Int) := by rw [hpi]; exact IntWalk.u32_in _ ⟨by omega, by omega⟩
          have hpz : ((p : Int) == 0) = false := beq_eq_false_iff_ne.2 (by omega)
          obtain ⟨tb, htb⟩ : ∃ tb : Bool, ((x / (p : Int)).tmod 2 == 1) = tb := ⟨_, rfl⟩
          have hbit : (if tb then 1 else 0) = x.toNat / 2 ^ kk % 2 := by
            obtain ⟨xn, rfl⟩ := Int.eq_ofNat_of_zero_le hxb.1
            rw [hp2, Int.toNat_natCast]
            have e : ((xn : Int) / (p : Int)) = ((xn / p : Nat) : Int) := by push_cast; rfl
            rw [e, Int.tmod_eq_emod_of_nonneg (Int.natCast_nonneg _)] at htb
            cases tb with
            | true => simp only [beq_iff_eq] at htb; simp only [if_true]; omega
            | false => simp only [beq_eq_false_iff_ne, ne_eq] at htb; simp only [Bool.false_eq_true, if_false]; omega
          have HBIT := Bx.mk hbit
          have HP2 := Bx.mk hp2
          have HPI := Bx.mk hpi
          clear hbit hp2 hpi
          have hdv := dvRel_bit (A := limbs a) (L := L) (b := b) (i := j - 1) (k := kk) (r := rr) (bit := if tb then 1 else 0) HO.out.ok hb0 (by omega) (by omega) HR.out (by rw [hx]; exact HBIT.out)
          have HDV := Bx.mk hdv
          have HR3 := Bx.mk hr3
          have HFR := Bx.mk hfr
          clear hdv hr3 hb3 hfr HBIT hx
          go_wp2_with fail
          go_quiet (fail)
          cases tb
          · have HBV := Bx.mk (by simpa only [Bool.false_eq_true, if_false, Nat.add_zero, Nat.two_mul] using HDV.out)
            have HO := Bx.mk (HO.out.drew nq)
            have HRD := Bx.mk (HR3.out.keep (below_drewN (Below.refl _ _) nq))
            have HFV : Bx ((limbs (rr + rr)).length ≤ 641) := ⟨len_641 HFR.out (by omega)⟩
            clear HDV HR3 hqo hqc hqm
            have hro := HRD.out.shape
            obtain ⟨qo', cq', eqv, hqc', hqm', hqo'⟩ := hro
            simp only [Value.slice.injEq] at eqv
            obtain ⟨rfl, -, rfl⟩ := eqv
            have hcb2 := hcb.keep HO.out.below
            have hord := refOrder_any qo bo (limbs (rr + rr)) (limbs b) _ nb cq cb (w3.drewN nq) rfl hnb (by have := HFV.out; omega) (by omega) (ok_limbs _) (ok_limbs _) (limbs_last _) (limbs_last _) hqo' hcb2
            rw [val_limbs, val_limbs] at hord
            by_cases hge : b ≤ rr + rr
            · have hmin := fun w' (h : Below ((w3.drewN nq)).heap.size (w3.drewN nq) w') => refMinus_natF qo bo (rr + rr) b _ nb cq cb w' rfl hnb (by have := HFV.out; omega) (by omega) hge (hqo'.keep h) (hcb2.keep h)
              have hc : cmpI (((rr + rr : Nat)) : Int) b = 0 ∨ cmpI (((rr + rr : Nat)) : Int) b = 1 := by
                rcases Nat.lt_or_eq_of_le hge with h | h
                · right; exact cmpI_gt (by omega)
                · left; rw [← h]; exact cmpI_eq _
              have hstep := (HBV.out.1 (by simpa using hge))
              have HS := Bx.mk hstep
              have hs1 := hstep.1
              have HOR := Bx.mk hord
              have HMI := Bx.mk hmin
              generalize cmpI (((rr + rr : Nat)) : Int) b = c at *
              have hc0 : ¬ c < 0 := by omega
              have hc2 : 0 ≤ c := by omega
              clear hord hmin hc hge hstep hqo' hcb2
              go_wp2_with fail
              refine HOR.out.mono ?_
              rintro e w5 ⟨rfl, hq⟩
              have hqb := hq.below ((w3.drewN nq)).heap.size
              have HQ := Bx.mk hqb
              clear hq hqb
              go_wp2_with fail
              refine (HMI.out _ HQ.out).mono ?_
              rintro e w6 ⟨v6, rfl, hr6, hb6, ao6, n6, c6, hv6, hf6⟩
              have HF6 := Bx.mk (fun u => hr6.apart (g := w.heap.size) hv6 (fun x hx => by have h1 := hf6 x hx; have h2 := HQ.out.size; have h3 := HO.out.lt; omega) (j - 1) u)
              have HO6 := Bx.mk ((HO.out.later HQ.out HO.out.below.size).later hb6 (by have := HO.out.below.size; have := HQ.out.size; omega))
              have HR6 := Bx.mk hr6
              have hl6 := HO6.out.cell (j - 1) (by have := HR.out.len; omega)
              have hz6 := HO6.out.free (j - 1)
              have hlen6 := HR.out.len
              have hlk := HO6.out.ok.getD (j - 1)
              obtain ⟨y, hy⟩ : ∃ y, L.getD (j - 1) 0 = y := ⟨_, rfl⟩
              rw [hy] at hl6 hlk HS hs1
              rw [HPI.out] at hs1 HS
              have hs1' : y + (p : Int) ≤ 4294967295 := by omega
              have HST := Bx.mk (fun q => (HO6.out.drew q).store (j - 1) (x := y + (p : Int)) (by omega) (by omega))
              clear hr6 hb6 hs1 hv6 hf6
              go_wp2_with fail
              go_region
              all_goals
                go_wp2
                go_roundw
                case rel => exact ⟨kk, _, _, by omega, by go_num, (HF6.out _).keep (Below.refl _ _).drew, (HST.out 0).drew 1, ⟨HS.out.2⟩⟩
                case measure => simp [intOf]
            · have hstep := (HBV.out.2 (by simpa using hge))
              have HS := Bx.mk hstep
              rw [cmpI_lt (by omega)] at hord
              have HOR := Bx.mk hord
              clear hord hge hstep hqo' hcb2
              go_wp2_with fail
              refine HOR.out.mono ?_
              rintro e w5 ⟨rfl, hq⟩
              have HO5 := Bx.mk (HO.out.later (hq.below _) HO.out.below.size)
              have HR5 := Bx.mk (HRD.out.keep (hq.below _))
              clear hq
              go_wp2
              go_roundw
              case rel => exact ⟨kk, _, L, by omega, by go_num, HR5.out, HO5.out, ⟨HS.out⟩⟩
              case measure => simp [intOf]
          · have HBV := Bx.mk (by simpa only [if_true, Nat.two_mul] using HDV.out)
            have HO0 := Bx.mk (HO.out.drew nq)
            have hbl : Below w3.heap.size w3 ((w3.drewN nq).alloc (.cells #[.int .u32 1] 41)) := (below_drewN (Below.refl _ _) nq).alloc (Nat.le_refl _) _
            have hr1 := rd_one (w3.drewN nq)
            obtain ⟨lo, lc, eql, hl1, hl2, hl3⟩ := hr1.shape
            simp only [Value.slice.injEq] at eql
            obtain ⟨rfl, -, rfl⟩ := eql
            have hp2 := refPlus_nat qo (some ⟨(w3.drewN nq).heap.size, 0, none⟩) (rr + rr) 1 _ 1 cq 1 ((w3.drewN nq).alloc (.cells #[.int .u32 1] 41)) rfl (by decide +kernel) (by have := len_641 (v := rr + rr) HFR.out (by omega); omega) (by omega) (hqo.keep hbl) hl3
            have HP2 := Bx.mk hp2
            have HBL := Bx.mk hbl
            clear HDV hp2 hbl hr1 hl1 hl2 hl3 hqo
            go_wp2_with fail
            refine HP2.out.mono ?_
            rintro e w4 ⟨v4, rfl, hr4, hb4⟩
            obtain ⟨ro, cr, rfl, hrc, hrm, hro4⟩ := hr4.shape
            have HO := Bx.mk ((HO0.out.later ((Below.refl _ _).alloc (Nat.le_refl _) (.cells #[.int .u32 1] 41)) HO0.out.below.size).later hb4 (by have := HO0.out.below.size; simp at this ⊢; omega))
            have HRD := Bx.mk hr4
            have HFV : Bx ((limbs (rr + rr + 1)).length ≤ 641) := ⟨len_641 HFR.out (by omega)⟩
            clear HR3 HO0 hr4 hb4 hro4 hrc hrm hqc hqm
            have hro := HRD.out.shape
            obtain ⟨qo', cq', eqv, hqc', hqm', hqo'⟩ := hro
            simp only [Value.slice.injEq] at eqv
            obtain ⟨rfl, -, rfl⟩ := eqv
            have hcb2 := hcb.keep HO.out.below
            have hord := refOrder_any ro bo (limbs (rr + rr + 1)) (limbs b) _ nb cr cb w4 rfl hnb (by have := HFV.out; omega) (by omega) (ok_limbs _) (ok_limbs _) (limbs_last _) (limbs_last _) hqo' hcb2
            rw [val_limbs, val_limbs] at hord
            by_cases hge : b ≤ rr + rr + 1
            · have hmin := fun w' (h : Below (w4).heap.size w4 w') => refMinus_natF ro bo (rr + rr + 1) b _ nb cr cb w' rfl hnb (by have := HFV.out; omega) (by omega) hge (hqo'.keep h) (hcb2.keep h)
              have hc : cmpI (((rr + rr + 1 : Nat)) : Int) b = 0 ∨ cmpI (((rr + rr + 1 : Nat)) : Int) b = 1 := by
                rcases Nat.lt_or_eq_of_le hge with h | h
                · right; exact cmpI_gt (by omega)
                · left; rw [← h]; exact cmpI_eq _
              have hstep := (HBV.out.1 (by simpa using hge))
              have HS := Bx.mk hstep
              have hs1 := hstep.1
              have HOR := Bx.mk hord
              have HMI := Bx.mk hmin
              generalize cmpI (((rr + rr + 1 : Nat)) : Int) b = c at *
              have hc0 : ¬ c < 0 := by omega
              have hc2 : 0 ≤ c := by omega
              clear hord hmin hc hge hstep hqo' hcb2
              go_wp2_with fail
              refine HOR.out.mono ?_
              rintro e w5 ⟨rfl, hq⟩
              have hqb := hq.below (w4).heap.size
              have HQ := Bx.mk hqb
              clear hq hqb
              go_wp2_with fail
              refine (HMI.out _ HQ.out).mono ?_
              rintro e w6 ⟨v6, rfl, hr6, hb6, ao6, n6, c6, hv6, hf6⟩
              have HF6 := Bx.mk (fun u => hr6.apart (g := w.heap.size) hv6 (fun x hx => by have h1 := hf6 x hx; have h2 := HQ.out.size; have h3 := HO.out.lt; omega) (j - 1) u)
              have HO6 := Bx.mk ((HO.out.later HQ.out HO.out.below.size).later hb6 (by have := HO.out.below.size; have := HQ.out.size; omega))
              have HR6 := Bx.mk hr6
              have hl6 := HO6.out.cell (j - 1) (by have := HR.out.len; omega)
              have hz6 := HO6.out.free (j - 1)
              have hlen6 := HR.out.len
              have hlk := HO6.out.ok.getD (j - 1)
              obtain ⟨y, hy⟩ : ∃ y, L.getD (j - 1) 0 = y := ⟨_, rfl⟩
              rw [hy] at hl6 hlk HS hs1
              rw [HPI.out] at hs1 HS
              have hs1' : y + (p : Int) ≤ 4294967295 := by omega
              have HST := Bx.mk (fun q => (HO6.out.drew q).store (j - 1) (x := y + (p : Int)) (by omega) (by omega))
              clear hr6 hb6 hs1 hv6 hf6
              go_wp2_with fail
              go_region
              all_goals
                go_wp2
                go_roundw
                case rel => exact ⟨kk, _, _, by omega, by go_num, (HF6.out _).keep (Below.refl _ _).drew, (HST.out 0).drew 1, ⟨HS.out.2⟩⟩
                case measure => simp [intOf]
            · have hstep := (HBV.out.2 (by simpa using hge))
              have HS := Bx.mk hstep
              rw [cmpI_lt (by omega)] at hord
              have HOR := Bx.mk hord
              clear hord hge hstep hqo' hcb2
              go_wp2_with fail
              refine HOR.out.mono ?_
              rintro e w5 ⟨rfl, hq⟩
              have HO5 := Bx.mk (HO.out.later (hq.below _) HO.out.below.size)
              have HR5 := Bx.mk (HRD.out.keep (hq.below _))
              clear hq
              go_wp2
              go_roundw
              case rel => exact ⟨kk, _, L, by omega, by go_num, HR5.out, HO5.out, ⟨HS.out⟩⟩
              case measure => simp [intOf]
end Go.Proofs.YthfpkjeobdajiaaDoor

/- the reference's Text of a natural number. -/
import Derived.Test.YthfpkjeobdajiaaDoorFO
import Derived.Test.YthfpkjeobdajiaaDoorT13
namespace Go.Proofs.YthfpkjeobdajiaaDoor
open Go.RowKit M
/-- A slice of bytes of the call's own that grows by append. -/
structure Apy (w wr : World) (v : Value) (C : List Int) : Prop where
  own : wr.ownsRow w.heap.size 5 1 v C.length (C.map (Value.int .u8))
  below : Below w.heap.size w wr
theorem Apy.nil (w : World) : Apy w w (.slice none 0 0) [] := ⟨World.ownsRow_nil w _ _ _, Below.refl _ _⟩
theorem Apy.drewN {w wr : World} {v : Value} {C : List Int} (h : Apy w wr v C) (n : Nat) : Apy w (wr.drewN n) v C := ⟨h.own, below_drewN h.below n⟩
theorem Apy.next {w wr w3 : World} {v v' : Value} {C : List Int} (h : Apy w wr v C) {x : Int}
    (hown : w3.ownsRow w.heap.size 5 1 v' (C.length + 1) (C.map (Value.int .u8) ++ [.int .u8 x])) (hg : (wr.alloc (.cells #[.int .u8 x] 5)).grownBy w3 v.ownBlock) : Apy w w3 v' (C ++ [x]) := by
  refine ⟨by simpa using hown, ?_⟩
  have hb := h.below.alloc h.below.size (.cells #[.int .u8 x] 5)
  exact hb.grown hg (by simpa using Nat.le_trans h.below.size (Nat.le_succ _)) (fun k hk => (h.own.lt k hk).1)
theorem Apy.shape {w wr : World} {v : Value} {C : List Int} (h : Apy w wr v C) (hne : C.length ≠ 0) : ∃ g cap, v = .slice (some ⟨g, 0, none⟩) C.length cap ∧ C.length ≤ cap ∧ OwnY w.heap.size w wr g C := by
  have hown := h.own
  rcases h.own.2 with ⟨h', h2⟩ | ⟨g, cap, cur, h', hb, hg, hnc, hm, hs, ht⟩
  · exact absurd h2 hne
  · subst h'
    exact ⟨g, cap, rfl, hnc, OwnY.of_owns (n := C.length) (cap := cap) hown h.below⟩
theorem dig_len {a : Nat} (h : Fits a) : (dig a).length ≤ 6401 := by
  have h1 := tx_bound h
  rw [tx_size] at h1
  by_cases h0 : a = 0
  · subst h0; rw [dig_zero]; simp
  · simp only [text, if_neg h0, List.length_reverse] at h1; exact h1
/-- One limb divided by 10. -/
theorem divRel_ten {L : List Int} {k : Nat} {r : Int} {L' : List Int} (hL : Ok L) (h : DivRel L 10 (k + 1) r L') (hk : k < L.length) :
    L'.getD k 0 = L.getD k 0 ∧ DivRel L 10 k ((r * 4294967296 + L.getD k 0) % 10) (L'.set k ((r * 4294967296 + L.getD k 0) / 10)) := divRel_step hL (by omega) h hk
theorem refText_none (w : World) : Calls Tryd.prog 23 #[.slice none 0 0] w fun e w' => e = .returned (.tuple #[.string ⟨#[48]⟩, .int .i64 0]) ∧ Below w.heap.size w w' := by
  obtain ⟨i0, hi, hi0, hi1, hi2⟩ := info_parts Tryd.info41
  have hv := refValid_any none [] 0 0 w rfl (cells_nil w none)
  rw [show isNat [] = true from rfl] at hv
  have H1 := Bx.mk hv
  have hown0 : (w.alloc (.cells #[] 41)).ownsRow w.heap.size 41 1 (.slice (some ⟨w.heap.size, 0, none⟩) 0 0) 0 [] := World.ownsRow_lit w #[] 0 (Nat.le_refl _) (by unfold maxLen; omega) rfl
  clear hv
  go_enter Tryd.func23, Tryd.ntmps23
  go_wp2_with fail
  refine H1.out.mono ?_
  rintro e w1 ⟨rfl, rfl⟩
  go_wp2_with (at_builtin; refine wpList_append_own_none rfl _ _ 23 rfl w.heap.size 41 i0 1 Tryd.underlying23 hi _ 0 [] rfl hown0 rfl ?_)
  go_loopw [4, 5] (fun dv lv wr => dv = .slice none 0 0 ∧ lv = .slice (some ⟨w.heap.size, 0, none⟩) 0 0 ∧ wr = w.alloc (.cells #[] 41)) (fun _ _ _ => 0)
  case atStart => exact ⟨rfl, rfl, rfl⟩
  case round =>
    obtain ⟨rfl, rfl, rfl⟩ := hrel
    clear hown0
    go_wp2
    go_ret2
    exact ⟨rfl, (Below.refl _ _).alloc (Nat.le_refl _) _⟩
set_option maxHeartbeats 3200000 in
set_option maxRecDepth 20000 in
theorem refText_some (x : Addr) (a n ca : Nat) (w : World) (hn : (limbs a).length = n) (ha : Fits a) (hca : CellsK .u32 w (some x) (limbs a)) :
    Calls Tryd.prog 23 #[.slice (some x) n ca] w fun e w' => e = .returned (.tuple #[.string (tx a), .int .i64 0]) ∧ Below w.heap.size w w' := by
  obtain ⟨i0, hi, hi0, hi1, hi2⟩ := info_parts Tryd.info41
  obtain ⟨j0, hj, hj0, hj1, hj2⟩ := info_parts Tryd.info5
  have hv := refValid_any (some x) (limbs a) n ca w hn hca
  rw [isNat_limbs ha.lt] at hv
  have hn6 := ha.len
  rw [hn] at hn6
  have H1 := Bx.mk hv
  have HN := Bx.mk hn
  have HF := Bx.mk ha
  have HN2 := Bx.mk (news_of x (limbs a) w hca)
  have hown0 : (w.alloc (.cells #[] 41)).ownsRow w.heap.size 41 1 (.slice (some ⟨w.heap.size, 0, none⟩) 0 0) 0 [] := World.ownsRow_lit w #[] 0 (Nat.le_refl _) (by unfold maxLen; omega) rfl
  clear hv hca hn ha
  go_enter Tryd.func23, Tryd.ntmps23
  go_wp2_with fail
  refine H1.out.mono ?_
  rintro e w1 ⟨rfl, rfl⟩
  go_wp2_with (at_builtin; refine wpList_append_own _ rfl _ _ 23 rfl w.heap.size 41 i0 (.int .u32 0) 1 4 Tryd.underlying23 hi hi0 hi1 hi2 rfl (by decide) _ 0 [] rfl hown0 x n ca ((limbs a).map (Value.int .u32)) rfl (by simp [HN.out]) HN2.out (ints_oneCell _ _) (by unfold maxLen; omega) (by omega) (by simp) ?_; intro v' w3 hown' hgrow' hnn)
  rw [Nat.zero_add, List.nil_append] at hown'
  have hb : Below w.heap.size w w3 := ((Below.refl w.heap.size w).alloc (Nat.le_refl _) (.cells #[] 41)).grown hgrow' (by simp) (by intro k hk; have e := Option.some.inj (show some w.heap.size = some k from hk); omega)
  obtain ⟨g, cap, rfl, hc1, hc2, hown⟩ : ∃ g cap, v' = .slice (some ⟨g, 0, none⟩) n cap ∧ n ≤ cap ∧ cap ≤ maxLen ∧ OwnB w.heap.size w w3 g (limbs a) := by
    rcases hown'.2 with ⟨h', _⟩ | ⟨g, cap, cur, rfl, hg, hh, hnc, hm, _⟩
    · exact absurd (hnn.1 h').1 (by intro e; cases e)
    · exact ⟨g, cap, rfl, hnc, hm, OwnB.of_owns hown' (ok_limbs a) hb⟩
  have hst0 : ∃ (m c : Nat) (D : List Int), (Value.slice (some ⟨g, 0, none⟩) n cap) = .slice (some ⟨g, 0, none⟩) (limbs m).length c ∧ (limbs m).length ≤ c ∧ c ≤ maxLen ∧ OwnB w.heap.size w w3 g (limbs m) ∧
      w3.ownsRow w.heap.size 5 1 (.slice none 0 0) D.length (D.map (Value.int .u8)) ∧ Bx (dig a = D ++ dig m) ∧ Bx (m ≤ a) :=
    ⟨a, cap, [], by rw [HN.out], by rw [HN.out]; exact hc1, hc2, hown, World.ownsRow_nil w3 _ _ _, ⟨rfl⟩, ⟨Nat.le_refl _⟩⟩
  have HST0 := Bx.mk hst0
  have HL := Bx.mk (dig_len HF.out)
  clear hst0 hown' hgrow' hnn hb hown hown0 hi hi0 hi1 hi2 HN2 H1 hc1 hc2
  go_loopw [4, 5] (fun dv lv wr => ∃ (m c : Nat) (D : List Int), lv = .slice (some ⟨g, 0, none⟩) (limbs m).length c ∧ (limbs m).length ≤ c ∧ c ≤ maxLen ∧ OwnB w.heap.size w wr g (limbs m) ∧
      wr.ownsRow w.heap.size 5 1 dv D.length (D.map (Value.int .u8)) ∧ Bx (dig a = D ++ dig m) ∧ Bx (m ≤ a)) (fun dv _ _ => 30000 - tlen dv)
  case atStart => exact HST0.out
  case round =>
    obtain ⟨m, c, D, rfl, hc1, hc2, hown, hrow, HD, HM⟩ := hrel
    have hDlen : D.length ≤ 6401 := by
      have h1 := HL.out
      rw [HD.out, List.length_append] at h1
      omega
    by_cases hm0 : m = 0
    · subst hm0
      have hlz : (limbs 0).length = 0 := by rw [limbs_zero]; rfl
      have hDd : D = dig a := by have := HD.out; rw [dig_zero, List.append_nil] at this; exact this.symm
      have hB1 := hown.below
      rw [hlz]
      by_cases ha0 : a = 0
      · subst ha0
        obtain rfl : D = [] := by rw [hDd, dig_zero]
        have HB := Bx.mk hB1
        have htx : tx 0 = ⟨#[48]⟩ := rfl
        rcases hrow.2 with ⟨rfl, _⟩ | ⟨g', cap', cur, rfl, _⟩
        all_goals
          clear hrow hown hB1 hc1 hc2 hDd HD
          go_wp2
          go_ret2
          exact ⟨rfl, HB.out⟩
      · have hpos : D.length ≠ 0 := by
          intro e
          have h1 := List.length_eq_zero_iff.1 e
          rw [h1] at hDd
          have h2 := dig_pos a ha0
          rw [← hDd] at h2
          cases h2
        have htx : tx a = strOfNums D.reverse := by rw [hDd]; simp [tx, text, ha0]
        obtain ⟨gd, cd, rfl, hcd, hY⟩ := (Apy.mk hrow hB1).shape hpos
        obtain ⟨t, ht⟩ : ∃ t, D.length = t := ⟨_, rfl⟩
        rw [ht] at hpos hDlen hcd ⊢
        have hz : ((t : Int) == 0) = false := beq_eq_false_iff_ne.2 (by omega)
        have hYl := hY.lt
        have HY := Bx.mk hY
        have HTX := Bx.mk htx
        have HTL := Bx.mk ht
        have HB := Bx.mk hB1
        clear hrow hown hB1 hc1 hc2 hDd HD hY htx ht hlz
        go_wp2_with fail
        obtain ⟨wo, hwo⟩ : ∃ x, x = wr := ⟨_, rfl⟩
        subst hwo
        go_loopw [9, 10] (fun ov iv w2 => ∃ j : Nat, j ≤ t ∧ iv = .int .i64 ((j : Int) - 1) ∧ Apy wo w2 ov (D.reverse.take (t - j))) (fun _ iv _ => (intOf iv + 1).toNat)
        case atStart => exact ⟨t, Nat.le_refl _, by go_num, by rw [Nat.sub_self, List.take_zero]; exact Apy.nil _⟩
        case round =>
          obtain ⟨k, hk, rfl, hap⟩ := hrel
          have hlt : (D.reverse.take (t - k)).length = t - k := by rw [List.length_take, List.length_reverse, HTL.out]; omega
          by_cases hk0 : k = 0
          · subst hk0
            rw [Nat.sub_zero, List.take_of_length_le (by rw [List.length_reverse, HTL.out]; omega)] at hap
            obtain ⟨go, co, rfl, hco, hYo⟩ := hap.shape (by rw [List.length_reverse, HTL.out]; exact hpos)
            have hconv := run_convert_bytes_arg (P := Tryd.prog) wr 63 5 Tryd.underlying63 Tryd.underlying5 go 0 D.reverse.length co D.reverse rfl (fun i hi => by rw [Nat.zero_add]; exact hYo.cell i (by simpa using hi)) 9 Tryd.underlying9
            rw [List.length_reverse] at hconv
            have HBo := Bx.mk (HB.out.trans (hYo.below.mono HB.out.size))
            clear hYo hap
            go_wp2
            go_ret2
            exact ⟨by rw [HTX.out]; rfl, HBo.out⟩
          · have hcell := HY.out.cell (k - 1) (by rw [HTL.out]; omega)
            have hcell2 := (hap.below.cell (p := ⟨gd, k - 1, none⟩) hYl).trans hcell
            obtain ⟨y, hy⟩ : ∃ y, D.getD (k - 1) 0 = y := ⟨_, rfl⟩
            rw [hy] at hcell2
            have hnx : D.reverse.take (t - (k - 1)) = D.reverse.take (t - k) ++ [y] := by
              have h1 : t - (k - 1) = (t - k) + 1 := by omega
              have h2 : t - k < D.reverse.length := by rw [List.length_reverse, HTL.out]; omega
              have hkD : k - 1 < D.length := by rw [HTL.out]; omega
              have h3 : D.length - 1 - (t - k) = k - 1 := by rw [HTL.out]; omega
              rw [h1, List.take_succ_eq_append_getElem h2, List.getElem_reverse, ← hy, List.getD_eq_getElem?_getD, List.getElem?_eq_getElem hkD]
              simp only [Option.getD_some, h3]
            have HNX := Bx.mk hnx
            have HAP := Bx.mk hap
            have hws := hap.below.size
            clear hcell hy hnx
            go_wp2_with (at_builtin; refine wpList_append_own _ rfl _ _ 63 rfl wo.heap.size 5 j0 (.int .u8 0) 1 1 Tryd.underlying63 hj hj0 hj1 hj2 rfl (by decide) _ _ _ rfl (hap.own.alloc _) ⟨wr.heap.size, 0, none⟩ 1 1 [.int .u8 y] rfl rfl ?c1 ?c2 ?c3 ?c4 ?c5 ?_)
            case c1 =>
              intro j u hj
              match j, hj with
              | 0, hj => simp at hj; subst hj; simp [Addr.add]
            case c2 => intro u hu; simp at hu; subst hu; rfl
            case c3 => unfold maxLen; omega
            case c4 => omega
            case c5 => simp; omega
            intro v' w4 hown' hgrow' _
            have hA' := HAP.out.next (by rw [hlt, List.map_take, List.map_reverse]; exact hown') hgrow'
            rw [← HNX.out] at hA'
            have HA' := Bx.mk hA'
            clear hown' hgrow' hA' hap
            go_wp2
            go_roundw
            case rel => exact ⟨k - 1, by omega, by go_num, HA'.out⟩
            case measure => simp [intOf]; omega
    · have hlm : 0 < (limbs m).length := List.length_pos_iff.2 (by intro e; exact hm0 (limbs_nil.1 e))
      have hfm : Fits m := HF.out.mono HM.out
      have hl6 := hfm.len
      have hokm := ok_limbs m
      have hvm := val_limbs m
      have hne := row_ne hrow hown
      have htl := tlen_owns hrow
      obtain ⟨L, hL⟩ : ∃ L, limbs m = L := ⟨_, rfl⟩
      rw [hL] at hlm hl6 hokm hvm hown hc1 ⊢
      obtain ⟨nl, hnl⟩ : ∃ nl, L.length = nl := ⟨_, rfl⟩
      rw [hnl] at hlm hl6 hc1 ⊢
      have HO := Bx.mk hown
      have HR := Bx.mk hrow
      have HNE := Bx.mk hne
      have HTL := Bx.mk htl
      have HV := Bx.mk hvm
      have HNL := Bx.mk hnl
      clear hown hrow hne htl hvm hL hfm
      go_wp2_with fail
      obtain ⟨wo, hwo⟩ : ∃ x, x = wr := ⟨_, rfl⟩
      subst hwo
      go_loopw [6, 7] (fun rv iv w2 => ∃ (k : Nat) (r : Int) (L' : List Int), k ≤ nl ∧ iv = .int .i64 ((k : Int) - 1) ∧ rv = .int .u64 r ∧ L'.length = nl ∧ DivRel L 10 k r L' ∧ OwnB w.heap.size w w2 g L' ∧ But g wo w2) (fun _ iv _ => (intOf iv + 1).toNat)
      case atStart => exact ⟨nl, 0, L, Nat.le_refl _, by go_num, rfl, HNL.out, ⟨Int.le_refl _, by omega, [], by simp [List.take_of_length_le (Nat.le_of_eq HNL.out)], by simp; omega, by rw [List.drop_eq_nil_of_le (by rw [HNL.out]; omega)]; simp [val]⟩, HO.out, But.refl _ _⟩
      case round =>
        obtain ⟨k, r, L', hk, rfl, rfl, hL', hrel, hown, hbut⟩ := hrel
        have h0 := hrel.1
        have h1 := hrel.2.1
        by_cases hk0 : k = 0
        · subst hk0
          obtain ⟨_, _, Q, hQ1, hQ2, hv⟩ := hrel
          rw [List.take_zero, List.nil_append] at hQ1
          rw [List.drop_zero, HV.out, ← hQ1] at hv
          have hLn := val_nonneg hown.ok
          obtain ⟨q, hq⟩ := Int.eq_ofNat_of_zero_le hLn
          obtain ⟨rr, rfl⟩ := Int.eq_ofNat_of_zero_le h0
          have hqr : rr = m % 10 ∧ q = m / 10 := by rw [hq] at hv; omega
          have htrim' := hown.trimmed hq
          have htc := refTrim_any (some ⟨g, 0, none⟩) L' nl c wr hL' hc1 hc2 hown.ok hown.cells
          rw [htrim'.2.2] at htc
          have hrow2 := owns_keep HR.out hbut HNE.out
          have hne2 := row_ne hrow2 hown
          have hlq : (limbs q).length ≤ c := by have := htrim'.2.1; omega
          have hDn : dig a = (D ++ [((48 + rr : Nat) : Int)]) ++ dig q := by
            rw [HD.out, dig_pos m hm0, hqr.1, hqr.2, List.append_assoc]; rfl
          have hqa : q ≤ a := Nat.le_trans (by rw [hqr.2]; exact Nat.div_le_self _ _) HM.out
          have hrr : rr ≤ 9 := by omega
          have HOW := Bx.mk htrim'.1
          have HTC := Bx.mk htc
          have HRB := Bx.mk hrow2.lt
          have hws := hown.below.size
          have HNE2 := Bx.mk hne2
          have HDN := Bx.mk hDn
          have HQA := Bx.mk hqa
          clear hqr htrim' htc hv hLn hq hQ1 hQ2 hDn hqa hne2 h0 h1
          go_wp2_with fail
          refine HTC.out.mono ?_
          rintro e w5 ⟨rfl, rfl⟩
          go_wp2_with (at_builtin; refine wpList_append_own _ rfl _ _ 63 rfl w.heap.size 5 j0 (.int .u8 0) 1 1 Tryd.underlying63 hj hj0 hj1 hj2 rfl (by decide) _ _ _ rfl (hrow2.alloc _) ⟨wr.heap.size, 0, none⟩ 1 1 [.int .u8 ((48 + rr : Nat) : Int)] rfl rfl ?c1 ?c2 ?c3 ?c4 ?c5 ?_)
          case c1 =>
            intro j u hj
            match j, hj with
            | 0, hj => simp at hj; subst hj; simp [Addr.add]
          case c2 => intro u hu; simp at hu; subst hu; rfl
          case c3 => unfold maxLen; omega
          case c4 => omega
          case c5 => simp; omega
          intro v' w4 hown' hgrow' _
          have hrow' : w4.ownsRow w.heap.size 5 1 v' (D ++ [((48 + rr : Nat) : Int)]).length ((D ++ [((48 + rr : Nat) : Int)]).map (Value.int .u8)) := by simpa using hown'
          have hOR' := HOW.out.grown hgrow' HNE2.out hws (fun k hk => (HRB.out k hk).1)
          have HR' := Bx.mk hrow'
          have HO' := Bx.mk hOR'
          have HT' := Bx.mk (tlen_owns hrow')
          clear hown' hgrow' hrow' hOR' hrow2 hown
          go_wp2
          go_roundw
          case rel => exact ⟨q, c, _, rfl, hlq, hc2, HO'.out, HR'.out, HDN, HQA⟩
          case measure => rw [HT'.out, HTL.out]; simp; omega
        · have hcell := hown.cell (k - 1) (by omega)
          have hfree := hown.free (k - 1)
          have hst := divRel_ten hokm (k := k - 1) (by rw [show k - 1 + 1 = k from by omega]; exact hrel) (by rw [HNL.out]; omega)
          rw [hst.1] at hcell
          have hx := hokm.getD (k - 1)
          obtain ⟨y, hy⟩ : ∃ y, L.getD (k - 1) 0 = y := ⟨_, rfl⟩
          rw [hy] at hcell hst hx
          have hx0 := hx.1
          have hx1 : y ≤ 4294967295 := by omega
          have h9 : r ≤ 9 := by omega
          have hq0 : 0 ≤ (r * 4294967296 + y) / 10 := by omega
          have hq1 : (r * 4294967296 + y) / 10 < 4294967296 := by omega
          have hs2 := hown.store (k - 1) hq0 hq1
          have HR2 := Bx.mk hst.2
          have HS := Bx.mk hs2
          have HBB := Bx.mk (hbut.setCell (k - 1) (.int .u32 ((r * 4294967296 + y) / 10)))
          have HO2 := Bx.mk hown
          have hb1 : (0 : Int) ≤ (k : Int) - 1 := by omega
          clear hst hs2 hrel hown hx hy hbut h1
          go_wp2
          go_roundw
          case rel => exact ⟨k - 1, _, _, by omega, by go_num, rfl, by simp [hL'], HR2.out, HS.out, HBB.out⟩
          case measure => simp [intOf]; omega
end Go.Proofs.YthfpkjeobdajiaaDoor

/- hermite of the program. -/
import Derived.Test.YtnbamjoadankmaaKT
namespace Go.Proofs.Ytnbamjoadankmaa
open Go.RowKit D
/-- The rows whose leading columns are copied so far. -/
def shc (M : Nat → Nat → Int) (cs : List Nat) (k l : Nat) : Nat → Nat → Int := fun r s => if (r < k ∨ (r = k ∧ s < l)) ∧ s < cs.length then M r (cs.getD s 0) else 0
set_option maxRecDepth 100000 in
set_option maxHeartbeats 16000000 in
theorem phermite_any (ao : Option Addr) (n c1 : Nat) (M : Nat → Nat → Int) (w : World) (hv : VM M n) (hc1 : n ≤ c1) (hR : CV w ao n M) :
    Calls Try.prog 68 #[.slice ao n c1] w fun e w' => ∃ (v : Value) (O : Nat → Nat → Int) (q : Nat) (p : Nat → Nat), e = .returned v ∧ w'.ownsRow w.heap.size 36 6 v q (rowsL O q) ∧ q ≤ 6 ∧ Hf O q 6 p ∧ (∀ t, t < n → Sp O q 6 (M t)) ∧ (∀ i, i < q → Sp M n 6 (O i)) ∧ Below w.heap.size w w' := by
  have hmx : Try.prog.follows .mixedOrders = true := by kernel_rfl
  have hn8 := hv.1
  obtain ⟨tj, htj, htj2⟩ := Option.map_eq_some_iff.1 info_rows2
  simp only [Prod.mk.injEq] at htj2
  obtain ⟨hy0, hy1, hy2⟩ := htj2
  have HTJ := Bx.mk htj
  have FA := Bx.mk (first2_any ao n c1 M w hv hc1 hR)
  have HV := Bx.mk hv
  have HR := Bx.mk hR
  clear htj hv hR
  go_enter Try.func68, Try.ntmps68
  go_wp2_with (first
    | (go_at_call 81; refine FA.out.mono ?_; clear FA; rintro e w2 ⟨is, cs, fo, ro, fc, rc, q, om, rfl, HQ, HOM, HGR, hq6, hom0, hom1, HMB, HF, HRV, HB2⟩)
    | (at_make; refine wpList_make_full _ rfl _ _ 22 rfl 0 36 tj _ 6 Try.underlying22 HTJ.out hy0 hy1 .i64 .i64 _ _ n rfl rfl rfl rfl (by rw [hy2]; omega) (by unfold maxLen; omega) (Nat.zero_le _) ?_; intro w4 hown4 hg4))
  obtain ⟨w3, hw3⟩ : ∃ w3, w2.alloc (.cells #[.slice fo q fc, .int .i64 om, .slice ro q rc] 96) = w3 := ⟨_, rfl⟩
  have hs3 : w3.heap.size = w2.heap.size + 1 := by rw [← hw3]; simp
  have hF3 : FB w3 w2.heap.size (.slice fo q fc) (.int .i64 om) (.slice ro q rc) := by rw [← hw3]; exact World.alloc_heap_new w2 _
  have hB23 : Below w2.heap.size w2 w3 := by rw [← hw3]; exact (Below.refl _ w2).alloc (Nat.le_refl _) _
  rw [hw3] at hown4 hg4
  rw [hs3] at hown4
  have hof := own_keep HF.out fun k _ hks => hB23.block k hks
  have hor := own_keep HRV.out fun k _ hks => hB23.block k hks
  have hB3 : Below w.heap.size w w3 := HB2.out.trans (hB23.mono HB2.out.size)
  have HFB := Bx.mk hF3
  have HOF := Bx.mk hof
  have HOR := Bx.mk hor
  have HB3 := Bx.mk hB3
  have HR4 := Bx.mk (RB.of_own (M := fun _ _ => 0) hown4 (made_rows n))
  have HB34 : Bx (Below (w2.heap.size + 1) w3 w4) := ⟨(Below.refl _ w3).grown hg4 (by omega) (fun k e => by cases e)⟩
  have hgl := HR4.out.lt
  have HS3 := Bx.mk hs3
  clear hw3 hF3 hB23 hof hor hB3 hown4 hg4 HF HRV HB2 hs3
  go_loopw [18] (fun ix wr => ∃ k : Nat, k ≤ n ∧ ix = .int .i64 k ∧ Bx (RB wr (w2.heap.size + 1) n n (shc M cs k 0)) ∧ Bx (Below (w2.heap.size + 1) w3 wr)) (fun ix _ => n - (intOf ix).toNat)
  case atStart => exact ⟨0, by omega, rfl, ⟨HR4.out.congr fun i j _ _ => by unfold shc; rw [if_neg (by omega)]⟩, HB34⟩
  case round =>
    clear HR4 HB34 hgl
    obtain ⟨k, hk, rfl, HG, HB⟩ := hrel
    have hfb := HFB.out.lt
    have e0 := (HFB.out.keep (HB.out.block _ (by omega))).c0
    have e1 := (HFB.out.keep (HB.out.block _ (by omega))).c1
    have hw3s := HS3.out
    have hbw := HB.out.size
    by_cases hlt : k < n
    · obtain ⟨b, o, rfl, hb, hcr⟩ := (HR.out.keep HB3.out) (by omega)
      have hb' : b < w2.heap.size + 1 := by omega
      have a0 := HB.out.cell (p := ⟨b, o + k * 6 + 0, none⟩) hb'
      have a1 := HB.out.cell (p := ⟨b, o + k * 6 + 1, none⟩) hb'
      have a2 := HB.out.cell (p := ⟨b, o + k * 6 + 2, none⟩) hb'
      have a3 := HB.out.cell (p := ⟨b, o + k * 6 + 3, none⟩) hb'
      have a4 := HB.out.cell (p := ⟨b, o + k * 6 + 4, none⟩) hb'
      have a5 := HB.out.cell (p := ⟨b, o + k * 6 + 5, none⟩) hb'
      rw [hcr k _ hlt (by omega)] at a0 a1 a2 a3 a4 a5
      rw [Nat.add_zero] at a0
      clear hcr
      have hgl := HG.out.lt
      have hal := (Below.refl wr.heap.size wr).alloc (Nat.le_refl _) (.cells #[.int .i64 (M k 0), .int .i64 (M k 1), .int .i64 (M k 2), .int .i64 (M k 3), .int .i64 (M k 4), .int .i64 (M k 5)] 36)
      have HG1 := Bx.mk (HG.out.below hal hgl)
      have HB1 := Bx.mk (HB.out.trans (hal.mono (by omega)))
      have e2 := (HFB.out.keep (HB1.out.block _ (by omega))).c0
      have HBC := Bx.mk (box_cell wr (M k) 36)
      have HWS := Bx.mk (show wr.heap.size < (wr.alloc (.cells #[.int .i64 (M k 0), .int .i64 (M k 1), .int .i64 (M k 2), .int .i64 (M k 3), .int .i64 (M k 4), .int .i64 (M k 5)] 36)).heap.size by simp)
      have hcn := cn_of_owns HOF.out
      obtain ⟨fo', fc', ef, lf, -, nf⟩ := hcn
      simp only [Value.slice.injEq] at ef
      obtain ⟨rfl, -, rfl⟩ := ef
      have NF := Bx.mk nf
      have lfq : q ≤ fc := by have := HQ.out; omega
      clear hal nf lf
      go_wp2_with fail
      go_loopw [26] (fun ix wr' => ∃ l : Nat, l ≤ q ∧ ix = .int .i64 l ∧ Bx (RB wr' (w2.heap.size + 1) n n (shc M cs k l)) ∧ Bx (∀ t, t < 6 → wr'.cell? ⟨wr.heap.size, t, none⟩ = some (.int .i64 (M k t))) ∧ wr.heap.size < wr'.heap.size ∧ Bx (Below (w2.heap.size + 1) w3 wr')) (fun ix _ => q - (intOf ix).toNat)
      case atStart => exact ⟨0, by omega, rfl, HG1, HBC, HWS.out, HB1⟩
      case round =>
        obtain ⟨l, hl, rfl, HG2, HBX, hwz, HB2⟩ := hrel
        by_cases hlq : l < q
        · obtain ⟨b5, o5, rfl, hb5, hcj⟩ := NF.out (by intro e; have := HQ.out; subst e; simp at this; omega)
          have hb5' : b5 < w2.heap.size + 1 := by omega
          obtain ⟨c, hc⟩ : ∃ c, cs.getD l 0 = c := ⟨_, rfl⟩
          have ej := HB2.out.cell (p := ⟨b5, o5 + l, none⟩) hb5'
          rw [hcj l (by rw [HQ.out]; exact hlq), hc] at ej
          have hc6 : c < 6 := by rw [← hc]; exact HGR.out.1.cols _ (getD_mem (by rw [HQ.out]; exact hlq))
          have ex := HBX.out c hc6
          have hl6 : l < 6 := by omega
          have c1' := HG2.out.cell hlt hl6
          have c2' := HG2.out.frozen (k * 6 + l)
          have HC := Bx.mk hc
          obtain ⟨x, hx⟩ : ∃ x, M k c = x := ⟨_, rfl⟩
          rw [hx] at ex
          have HX := Bx.mk hx
          have hg2l := HG2.out.lt
          have hlfc : l < fc := by omega
          have i1 : (c : Int) < 6 := by omega
          have i2 : (l : Int) < 6 := by omega
          have i3 : (k : Int) < (n : Int) := by omega
          clear hc hcj hx
          go_wp2_with fail
          refine wp_region_still_tail 8 hmx (by kernel_rfl) ?_
          simp only [List.take_succ_cons, List.take_zero, List.drop_succ_cons, List.drop_zero]
          change wpStill _ _ wr.drew (fun a' => wpList _ _ _ _ a' wr.drew) _ _
          iterate 8 still_step
          refine wpStill_nil ?_
          go_wp2_with fail
          go_roundw
          case rel =>
            have hne : ∀ t, (wr.setCell ⟨w2.heap.size + 1, k * 6 + l, none⟩ (.int .i64 x)).cell? t = (wr.setCell ⟨w2.heap.size + 1, k * 6 + l, none⟩ (.int .i64 x)).drew.cell? t := fun t => rfl
            exact ⟨l + 1, by omega, by go_num, ⟨(HG2.out.set hlt hl6 x).congr fun i j hi hj => by
              unfold shc
              by_cases e : i = k ∧ j = l
              · rw [if_pos e, if_pos (by have := HQ.out; omega), e.1, e.2, HC.out, HX.out]
              · rw [if_neg e]
                by_cases e2 : (i < k ∨ (i = k ∧ j < l)) ∧ j < cs.length
                · rw [if_pos e2, if_pos (by omega)]
                · rw [if_neg e2, if_neg (by omega)]⟩, ⟨fun t ht => (World.cell?_setCell_other wr _ _ _ (by first | (simp; done) | (simp; omega))).trans (HBX.out t ht)⟩, by simpa [World.setCell, World.drew] using hwz, ⟨below_drew (HB2.out.setCell (p := ⟨w2.heap.size + 1, k * 6 + l, none⟩) (by simp) _)⟩⟩
          case measure => simp [intOf]; omega
        · obtain rfl : q = l := by omega
          go_wp2_with fail
          go_roundw
          case rel => exact ⟨k + 1, by omega, by go_num, ⟨HG2.out.congr fun i j hi hj => by
              unfold shc
              have := HQ.out
              by_cases e2 : (i < k + 1 ∨ (i = k + 1 ∧ j < 0)) ∧ j < cs.length
              · rw [if_pos e2, if_pos (by omega)]
              · rw [if_neg e2, if_neg (by omega)]⟩, HB2⟩
          case measure => simp [intOf]; omega
    · obtain rfl : n = k := by omega
      have HSH : Bx (RB wr (w2.heap.size + 1) n n (short M cs)) := ⟨HG.out.congr fun i j hi _ => by
        unfold short shc
        by_cases e : j < cs.length
        · rw [if_pos e, if_pos ⟨Or.inl hi, e⟩]
        · rw [if_neg e, if_neg (fun h => e h.2)]⟩
      have TA := Bx.mk (triangle_any (some ⟨w2.heap.size + 1, 0, none⟩) n n q om om.natAbs (short M cs) wr hn8 (Nat.le_refl _) hq6 hom0 rfl hom1 HSH.out.cv (short_bound HV.out HGR.out.1.cols))
      have e3 := e0
      have e4 := e1
      go_wp2_with (go_at_call 114; refine TA.out.mono ?_; clear TA; rintro e w6 ⟨v, H, rfl, hov, hfr, ⟨R, hz, hge⟩, hb6⟩
                   obtain ⟨vo, vc, rfl⟩ := own_any hov
                   have HOV := Bx.mk hov
                   have HFR := Bx.mk hfr
                   have HZR := Bx.mk hz
                   have HGE := Bx.mk hge
                   have HB6 := Bx.mk hb6
                   clear hov hfr hz hge hb6)
      obtain ⟨O, hO⟩ : ∃ O, outR M H is cs = O := ⟨_, rfl⟩
      obtain ⟨G, hG⟩ : ∃ G : Nat → Nat → Int, (fun t c => mn (is.map M) (cs.set t c)) = G := ⟨_, rfl⟩
      have HMB' : Bx (∀ t c, t < q → c < 6 → (G t c).natAbs ≤ 1000000000) := ⟨fun t c ht hc => by rw [← hG]; exact HMB.out t c ht hc⟩
      have HOR' := HOR.out
      rw [hG] at HOR'
      have HCV := Bx.mk (own_cv HOR')
      have HOE : Bx (∀ t, (fun c => (cmb (H t) G q c).tdiv om) = O t) := ⟨fun t => by rw [← hO, ← hG, ← HQ.out, ← HOM.out]; rfl⟩
      have HMATH := hermite_math HGR.out.1 HGR.out.2 (by rw [HOM.out]) (by rw [HQ.out]; exact HFR.out) (by rw [HQ.out]; exact HGE.out) (by rw [HQ.out]; exact HZR.out)
      rw [hO, HQ.out] at HMATH
      have HMA := Bx.mk HMATH
      have hlw := HG.out.lt
      have HB6' : Bx (Below (w2.heap.size + 1) w3 w6) := ⟨HB.out.trans (HB6.out.mono (by omega))⟩
      have HOV' : Bx (w6.ownsRow (w2.heap.size + 1) 36 6 (.slice vo q vc) q (rowsL (mixR O H 0) q)) := ⟨by rw [rowsL_congr (B := H) fun r _ => by unfold mixR; rw [if_neg (by omega)]]; exact own_low HOV.out (by omega)⟩
      have hrq : q ≤ rc := by
        rcases HOR'.2 with ⟨e, e2⟩ | ⟨g, cap, cur, e, _, _, h2, _⟩
        · omega
        · simp only [Value.slice.injEq] at e; omega
      clear hO hG HMATH HOR' HG HSH HB HOV HGE HZR HB6 e0 e1 e3 e4 hlw hbw
      go_loopw [50] (fun ix wr' => ∃ t : Nat, t ≤ q ∧ ix = .int .i64 t ∧ Bx (wr'.ownsRow (w2.heap.size + 1) 36 6 (.slice vo q vc) q (rowsL (mixR O H t) q)) ∧ Bx (Below (w2.heap.size + 1) w3 wr')) (fun ix _ => q - (intOf ix).toNat)
      case atStart => exact ⟨0, by omega, rfl, HOV', HB6'⟩
      case round =>
        clear HOV' HB6'
        obtain ⟨t, ht, rfl, HO, HB⟩ := hrel
        by_cases htq : t < q
        · obtain ⟨gf, cf, ef, hgf0, hgfs⟩ := own_form HO.out (by omega)
          simp only [Value.slice.injEq, true_and] at ef
          obtain ⟨rfl, rfl⟩ := ef
          have HK := Bx.mk (RB.of_own HO.out fun i j hi hj => rowsL_get hi hj)
          have e0 := (HFB.out.keep (HB.out.block _ (by omega))).c1
          have e1 := (HFB.out.keep (HB.out.block _ (by omega))).c2
          have hbw := HB.out.size
          have hKt : mixR O H t t = H t := by unfold mixR; rw [if_neg (by omega)]
          have hcm : vc ≤ maxLen := by
            rcases HO.out.2 with ⟨e, _⟩ | ⟨g, cap, cur, e, _, _, _, h2, _⟩
            · cases e
            · simp only [Value.slice.injEq] at e; omega
          have CA : Bx (∀ w', Below wr.heap.size wr w' → Calls Try.prog 115 #[.slice (some ⟨gf, t * 6, none⟩) 6 6, .slice ro q rc, .int .i64 om] w' fun e w'' => e = .returned (PV (O t)) ∧ Bx (Below wr.heap.size wr w'')) := ⟨fun w' hb => by
            have h := combined_any ro gf (t * 6) 6 6 q rc (H t) G om w' hq6 hq6 (Nat.le_refl _) hrq hom0 (by omega) (by omega) (Nat.lt_of_lt_of_le hgfs hb.size) (fun s hs => by rw [hb.cell (p := ⟨gf, t * 6 + s, none⟩) hgfs, HK.out.cell htq (by omega), hKt]) ((HCV.out.keep (HB.out.mono (by omega))).keep hb) (fun s hs => by have := HFR.out.bnd t s htq (by omega); omega) (fun s c hs hc => HMB'.out s c hs hc)
            exact h.mono fun e w'' h => ⟨by rw [h.1, HOE.out t], ⟨hb.trans (h.2.mono hb.size)⟩⟩⟩
          obtain ⟨v, hv⟩ : ∃ v, O t = v := ⟨_, rfl⟩
          rw [hv] at CA
          unfold PV at CA
          have HVV := Bx.mk hv
          have HKT := Bx.mk hKt
          have i1 : (t : Int) < (q : Int) := by omega
          clear hv hKt
          go_wp2_with fail
          go_region_with (go_at_call 115; refine (CA.out _ (by repeat (first | with_reducible exact Below.refl _ _ | with_reducible apply below_drewN | with_reducible apply below_drew))).mono ?_; rintro e w8 ⟨rfl, HB8⟩
                          have HK8 := Bx.mk (HK.out.below HB8.out hgfs)
                          have s0 := HK8.out.cell htq (j := 0) (by omega)
                          have s1 := HK8.out.cell htq (j := 1) (by omega)
                          have s2 := HK8.out.cell htq (j := 2) (by omega)
                          have s3 := HK8.out.cell htq (j := 3) (by omega)
                          have s4 := HK8.out.cell htq (j := 4) (by omega)
                          have s5 := HK8.out.cell htq (j := 5) (by omega)
                          rw [Nat.add_zero] at s0
                          have z0 := HK8.out.frozen (t * 6)
                          have z1 := HK8.out.frozen (t * 6 + 1)
                          have z2 := HK8.out.frozen (t * 6 + 2)
                          have z3 := HK8.out.frozen (t * 6 + 3)
                          have z4 := HK8.out.frozen (t * 6 + 4)
                          have z5 := HK8.out.frozen (t * 6 + 5))
          all_goals go_wp2_with fail
          all_goals
            go_roundw
            case rel =>
              have hb6 := But.six6 (b := gf) w8 (t * 6) v
              exact ⟨t + 1, by omega, by go_num, ⟨by
                have h := (HK8.out.row htq v).own (base := w2.heap.size + 1) hgf0 hcm (Nat.le_refl _)
                rw [rowsL_congr (B := mixR O H (t + 1)) fun r hr => by
                  unfold updR mixR
                  by_cases e : r = t
                  · funext s; rw [if_pos e, if_pos (by omega), e, HVV.out]
                  · funext s; rw [if_neg e]; by_cases e2 : r < t
                    · rw [if_pos e2, if_pos (by omega)]
                    · rw [if_neg e2, if_neg (by omega)]] at h
                exact h⟩, ⟨(HB.out.trans (HB8.out.mono (by omega))).trans (hb6.below (Nat.le_trans hbw HB8.out.size |> Nat.le_trans (by omega)) hgf0)⟩⟩
            case measure => simp [intOf]; omega
        · obtain rfl : q = t := by omega
          have HOF' := HO.out
          rw [rowsL_congr (B := O) fun r hr => by unfold mixR; rw [if_pos hr]] at HOF'
          have HOF'' := Bx.mk HOF'
          have hbs := HB3.out.size
          clear HOF'
          go_wp2_with fail
          go_ret
          exact ⟨_, O, q, _, rfl, own_low HOF''.out (by omega), hq6, HMA.out.1, HMA.out.2.1, HMA.out.2.2, HB3.out.trans (HB.out.mono (by omega))⟩
end Go.Proofs.Ytnbamjoadankmaa
/- slices.Contains of the program, and the free columns. -/
namespace Go.Proofs.Ytnbamjoadankmaa
open Go.RowKit D
set_option maxRecDepth 100000 in
set_option maxHeartbeats 8000000 in
theorem index_any (ao : Option Addr) (n c1 x : Nat) (l : List Nat) (w : World) (hn : l.length = n) (hc1 : n ≤ c1) (hc2 : n ≤ 1000) (hR : CN w ao l) :
    Calls Try.prog 149 #[.slice ao n c1, .int .i64 x] w fun e w' => ∃ r : Int, e = .returned (.int .i64 r) ∧ (0 ≤ r ↔ x ∈ l) ∧ Below w.heap.size w w' := by
  have HN := Bx.mk hn
  clear hn
  go_enter Try.func149, Try.ntmps149
  go_wp2_with fail
  go_loopw [8] (fun i wr => ∃ k : Nat, k ≤ n ∧ i = .int .i64 k ∧ Bx (∀ t, t < k → l.getD t 0 ≠ x) ∧ Below w.heap.size w wr) (fun i _ => n - (intOf i).toNat)
  case atStart => exact ⟨0, by omega, rfl, ⟨fun i hi => by omega⟩, Below.refl _ _⟩
  case round =>
    obtain ⟨k, hk, rfl, HE, hB'⟩ := hrel
    by_cases hlt : k < n
    · obtain ⟨b1, o1, rfl, hb1, hca⟩ := hR (by intro e; have := HN.out; subst e; simp at this; omega)
      have ha := hB'.cell (p := ⟨b1, o1 + k, none⟩) hb1
      rw [hca k (by have := HN.out; omega)] at ha
      obtain ⟨y, hy⟩ : ∃ y, l.getD k 0 = y := ⟨_, rfl⟩
      rw [hy] at ha
      clear hca
      by_cases hxy : x = y
      · subst hxy
        have HM : Bx (x ∈ l) := ⟨by rw [← hy]; exact getD_mem (by have := HN.out; omega)⟩
        clear hy
        go_wp2_with fail
        go_ret
        exact ⟨k, rfl, ⟨fun _ => HM.out, fun _ => by omega⟩, hB'⟩
      · have hxy' : ((x : Int) == (y : Int)) = false := by simp; omega
        have HE' := Bx.mk (show ∀ i, i < k + 1 → l.getD i 0 ≠ x from fun i hi => by
          rcases Nat.lt_or_eq_of_le (Nat.le_of_lt_succ hi) with z | z
          · exact HE.out i z
          · rw [z, hy]; omega)
        clear hy hxy
        go_wp2_with fail
        go_roundw
        case rel => exact ⟨k + 1, by omega, by go_num, HE', hB'⟩
        case measure => simp [intOf]; omega
    · obtain rfl : k = n := by omega
      go_wp2_with fail
      go_ret
      refine ⟨-1, rfl, ⟨fun h => by omega, fun h => ?_⟩, hB'⟩
      obtain ⟨t, ht, e⟩ := List.mem_iff_getElem.1 h
      exact absurd (by rw [List.getD_eq_getElem?_getD, List.getElem?_eq_getElem ht, e]; rfl) (HE.out t (by have := HN.out; omega))
theorem contains_any (ao : Option Addr) (n c1 x : Nat) (l : List Nat) (w : World) (hn : l.length = n) (hc1 : n ≤ c1) (hc2 : n ≤ 1000) (hR : CN w ao l) :
    Calls Try.prog 118 #[.slice ao n c1, .int .i64 x] w fun e w' => e = .returned (.bool (l.contains x)) ∧ Below w.heap.size w w' := by
  have IA := Bx.mk (index_any ao n c1 x l w hn hc1 hc2 hR)
  clear hn hR
  go_enter Try.func118, Try.ntmps118
  go_wp2_with (go_at_call 149; refine IA.out.mono ?_; clear IA; rintro e w2 ⟨r, rfl, hr, hb⟩)
  go_ret
  refine ⟨?_, hb⟩
  by_cases h : x ∈ l
  · have := hr.2 h; simp [h, this]
  · have h2 : ¬ 0 ≤ r := fun h' => h (hr.1 h')
    simp [h, h2] <;> omega
/-- How many columns before a column are free. -/
def frees (cs : List Nat) (c : Nat) : Nat := (rest c cs).length
theorem rest_one (cs : List Nat) (c : Nat) : rest (c + 1) cs = if cs.contains c then rest c cs else rest c cs ++ [c] := by
  unfold rest
  rw [List.range_succ, List.filter_append]
  by_cases h : c ∈ cs <;> simp [h, List.filter_cons]
theorem rest_zero (cs : List Nat) : rest 0 cs = [] := rfl
theorem rest_six {cs : List Nat} (hn : cs.Nodup) (hm : ∀ j ∈ cs, j < 6) : cs.length + (rest 6 cs).length = 6 := by
  have := (rest_perm hn hm).length_eq
  simp at this; omega
theorem rest_le {cs : List Nat} : ∀ {c : Nat}, c ≤ 6 → (rest c cs).length ≤ (rest 6 cs).length := by
  intro c hc
  have : ∀ d, (rest c cs).length ≤ (rest (c + d) cs).length := by
    intro d
    induction d with
    | zero => exact Nat.le_refl _
    | succ d ih =>
      rw [← Nat.add_assoc, rest_one]
      split
      · exact ih
      · simp; omega
  have h := this (6 - c)
  rwa [show c + (6 - c) = 6 by omega] at h
theorem rest_pre {cs : List Nat} {c t : Nat} (hc : c ≤ 6) (ht : t < (rest c cs).length) : (rest 6 cs).getD t 0 = (rest c cs).getD t 0 := by
  have : ∀ d, (rest (c + d) cs).getD t 0 = (rest c cs).getD t 0 ∧ t < (rest (c + d) cs).length := by
    intro d
    induction d with
    | zero => exact ⟨rfl, ht⟩
    | succ d ih =>
      rw [← Nat.add_assoc, rest_one]
      split
      · exact ih
      · refine ⟨?_, by simp; omega⟩
        rw [← ih.1, List.getD_eq_getElem?_getD, List.getD_eq_getElem?_getD, List.getElem?_append_left ih.2]
  have h := (this (6 - c)).1
  rwa [show c + (6 - c) = 6 by omega] at h
theorem rest_at {cs : List Nat} {c : Nat} (hc : c < 6) (hm : cs.contains c = false) : (rest 6 cs).getD (rest c cs).length 0 = c ∧ (rest c cs).length < (rest 6 cs).length := by
  have e : rest (c + 1) cs = rest c cs ++ [c] := by rw [rest_one, hm]; simp
  have hl : (rest c cs).length < (rest (c + 1) cs).length := by rw [e]; simp
  refine ⟨?_, Nat.lt_of_lt_of_le hl (rest_le (by omega))⟩
  rw [rest_pre (by omega) hl, e]
  simp
end Go.Proofs.Ytnbamjoadankmaa
/- The kernel: the lattice of the free elements. -/
namespace Go.Proofs.Ytnbamjoadankmaa
open Go.RowKit D
theorem sm_app (a b : Nat) (f : Nat → Int) : sm (a + b) f = sm a f + sm b (fun t => f (a + t)) := by
  induction b with
  | zero => simp [sm]
  | succ b ih => rw [← Nat.add_assoc]; simp only [sm]; rw [ih]; omega
theorem sm_one {n p : Nat} (hp : p < n) {f : Nat → Int} (h : ∀ t, t < n → t ≠ p → f t = 0) : sm n f = f p := by
  rw [← sm_unit hp f]
  refine sm_congr fun t ht => ?_
  by_cases e : t = p
  · simp [e]
  · simp [e, h t ht e]
theorem low_shift {H : Nat → Nat → Int} {q u m : Nat} {z : Nat → Int} (hm : q + u = m) (hp : ∀ k, k < m → 0 < H k k) (hl : ∀ k j, k < m → j < k → H k j = 0) (hz : Sp H m m z) (h0 : ∀ k, k < q → z k = 0) : Sp (fun i j => H (q + i) (q + j)) u u (fun j => z (q + j)) := by
  subst hm
  obtain ⟨c, hc⟩ := hz
  have hc0 : ∀ k, k < q → c k = 0 := by
    intro k
    induction k using Nat.strongRecOn with
    | ind k ih =>
      intro hk
      have h := hc k (by omega)
      rw [h0 k hk, sm_one (p := k) (by omega) fun t ht hne => by
        rcases Nat.lt_or_ge t k with h' | h'
        · rw [ih t h' (by omega)]; simp
        · rw [hl t k ht (by omega)]; simp] at h
      rcases Int.mul_eq_zero.1 h.symm with h' | h'
      · exact h'
      · have := hp k (by omega); omega
  refine ⟨fun t => c (q + t), fun j hj => ?_⟩
  show z (q + j) = sm u (fun t => c (q + t) * H (q + t) (q + j))
  rw [hc (q + j) (by omega), sm_app, sm_congr (n := q) (g := fun _ => 0) fun t ht => by rw [hc0 t ht]; simp, sm_zero]
  simp
theorem ker_lat {q u m : Nat} {om D : Int} {K L H R : Nat → Nat → Int} (hm : q + u = m) (hD : D = om.natAbs) (hL : ∀ t j, t < u → j < m → L t j = if j < q then K j t else if j = q + t then 1 else 0) (hF : Frm m m D H) (hge : Ge m u L D m u R H m) (hz : Zer u m R) :
    ∀ x, Sp (fun i j => H (q + i) (q + j)) u u x ↔ ∀ k, k < q → om ∣ sm u (fun t => K k t * x t) := by
  obtain ⟨f1, f2, f3⟩ := hge.fin hz
  have hdv : om ∣ D := by rw [hD]; exact Int.dvd_natAbs_self
  intro x
  constructor
  · intro hx
    -- the elements that lead to multiples
    have hS : Sub m (fun z => ∀ k, k < q → om ∣ z k - sm u (fun t => K k t * z (q + t))) := by
      refine ⟨fun k hk => ?_, fun y z hy hz k hk => ?_, fun c y hy k hk => ?_, fun y z e hy k hk => ?_⟩
      · simp [sm_zero]
      · have e : y k + z k - sm u (fun t => K k t * (y (q + t) + z (q + t))) = (y k - sm u (fun t => K k t * y (q + t))) + (z k - sm u (fun t => K k t * z (q + t))) := by
          rw [sm_congr (g := fun t => K k t * y (q + t) + K k t * z (q + t)) fun t _ => Int.mul_add _ _ _, sm_add]; omega
        show om ∣ y k + z k - sm u (fun t => K k t * (y (q + t) + z (q + t)))
        rw [e]; exact Int.dvd_add (hy k hk) (hz k hk)
      · have e : c * y k - sm u (fun t => K k t * (c * y (q + t))) = c * (y k - sm u (fun t => K k t * y (q + t))) := by
          rw [sm_congr (g := fun t => c * (K k t * y (q + t))) fun t _ => by rw [Int.mul_left_comm], sm_mul, Int.mul_sub]
        show om ∣ c * y k - sm u (fun t => K k t * (c * y (q + t)))
        rw [e]; exact Int.dvd_trans (hy k hk) (Int.dvd_mul_left _ _)
      · have h := hy k hk
        rw [e k (by omega), sm_congr (g := fun t => K k t * y (q + t)) fun t ht => by rw [e (q + t) (by omega)]]
        exact h
    have hH := f3 _ hS (fun t ht k hk => by
      rw [hL t k ht (by omega), if_pos hk, sm_one ht fun s hs hne => by rw [hL t (q + s) ht (by omega), if_neg (by omega), if_neg (by omega)]; simp]
      rw [hL t (q + t) ht (by omega), if_neg (by omega), if_pos rfl]; simp) (fun j hj k hk => by
      refine Int.dvd_sub ?_ (sm_dvd fun t ht => ?_)
      · unfold unitV; split
        · exact hdv
        · exact Int.dvd_zero _
      · unfold unitV; split
        · exact Int.dvd_trans hdv (Int.dvd_mul_left _ _)
        · simp)
    have hP : Sub u (fun z => ∀ k, k < q → om ∣ sm u (fun t => K k t * z t)) := by
      refine ⟨fun k hk => ?_, fun y z hy hz k hk => ?_, fun c y hy k hk => ?_, fun y z e hy k hk => ?_⟩
      · simp [sm_zero]
      · show om ∣ sm u (fun t => K k t * (y t + z t))
        rw [sm_congr (g := fun t => K k t * y t + K k t * z t) fun t _ => Int.mul_add _ _ _, sm_add]; exact Int.dvd_add (hy k hk) (hz k hk)
      · show om ∣ sm u (fun t => K k t * (c * y t))
        rw [sm_congr (g := fun t => c * (K k t * y t)) fun t _ => by rw [Int.mul_left_comm], sm_mul]; exact Int.dvd_trans (hy k hk) (Int.dvd_mul_left _ _)
      · have h := hy k hk
        rw [sm_congr (g := fun t => K k t * y t) fun t ht => by rw [e t ht]]
        exact h
    refine hP.of_sp hx fun i hi k hk => ?_
    have h := hH (q + i) (by omega) k hk
    rw [hF.left (q + i) k (by omega) (by omega)] at h
    have e : (0 : Int) - sm u (fun t => K k t * H (q + i) (q + t)) = -(sm u (fun t => K k t * H (q + i) (q + t))) := by omega
    rw [e] at h
    exact Int.dvd_neg.1 h
  · intro hx
    have h1 : Sp H m m (fun j => sm u (fun t => x t * L t j)) := Sp.sum f1
    -- what is to be taken away in the chosen columns
    have h2 : ∃ g : Nat → Int, ∀ k, k < q → sm u (fun t => K k t * x t) = D * g k := by
      refine ⟨fun k => sm u (fun t => K k t * x t) / D, fun k hk => ?_⟩
      have hd : D ∣ sm u (fun t => K k t * x t) := by rw [hD]; exact Int.natAbs_dvd.2 (hx k hk)
      exact (Int.mul_ediv_cancel' hd).symm
    obtain ⟨g, hg⟩ := h2
    have h3 : Sp H m m (fun j => sm q (fun k => g k * unitV D k j)) := Sp.sum fun k hk => f2 k (by omega)
    have h4 := h1.add (h3.mul (-1))
    have h5 := low_shift hm (fun k hk => (hF.piv k hk).1) (fun k j hk hj => hF.left k j hk hj) h4 (fun k hk => by
      show sm u (fun t => x t * L t k) + -1 * sm q (fun s => g s * unitV D s k) = 0
      rw [sm_one (n := q) hk (fun s hs hne => by unfold unitV; rw [if_neg (by omega)]; simp), sm_congr (g := fun t => K k t * x t) fun t ht => by rw [hL t k ht (by omega), if_pos hk, Int.mul_comm], hg k hk]
      unfold unitV; simp [Int.mul_comm]; omega)
    refine h5.congr fun j hj => ?_
    show x j = sm u (fun t => x t * L t (q + j)) + -1 * sm q (fun s => g s * unitV D s (q + j))
    rw [sm_congr (n := q) (g := fun _ => 0) (fun s hs => by unfold unitV; rw [if_neg (by omega)]; simp), sm_zero, sm_one hj fun t ht hne => by rw [hL t (q + j) ht (by omega), if_neg (by omega), if_neg (by omega)]; simp]
    rw [hL j (q + j) hj (by omega), if_neg (by omega), if_pos rfl]; simp
/-- The rows that lead the free elements to the chosen columns. -/
def leadR (G : Nat → Nat → Int) (cs : List Nat) : Nat → Nat → Int := fun t j => if j < cs.length then G j ((rest 6 cs).getD t 0) else if j = cs.length + t then 1 else 0
/-- The elements in the chosen columns that are written so far. -/
def solS (G : Nat → Nat → Int) (cs : List Nat) (c k : Nat) : Nat → Int := fun s => if cs.idxOf s < k then -(G (cs.idxOf s) c) else 0
def solR (G : Nat → Nat → Int) (cs : List Nat) (om : Int) : Nat → Nat → Int := fun t s => if s = (rest 6 cs).getD t 0 then om else solS G cs ((rest 6 cs).getD t 0) cs.length s
def outK (G H : Nat → Nat → Int) (cs : List Nat) (om : Int) : Nat → Nat → Int := fun i c => (cmb (fun t => H (cs.length + i) (cs.length + t)) (solR G cs om) (rest 6 cs).length c).tdiv om
theorem cs_nodup {cs : List Nat} (h : cs.Pairwise (· > ·)) : cs.Nodup := h.imp fun h => by omega
theorem idx_at {cs : List Nat} (hn : cs.Nodup) {k : Nat} (hk : k < cs.length) : cs.idxOf (cs.getD k 0) = k := by
  rw [List.getD_eq_getElem?_getD, List.getElem?_eq_getElem hk]
  exact hn.idxOf_getElem k hk
theorem kernel_math {M H R L : Nat → Nat → Int} {n : Nat} {is cs : List Nat} {D om : Int} {G : Nat → Nat → Int} (hG : Gr M n 6 (· ≥ ·) is cs) (hs : cs.Pairwise (· > ·)) (hO : mn (is.map M) cs = om) (hGG : ∀ k c, mn (is.map M) (cs.set k c) = G k c) (hD : D = om.natAbs)
    (hL : ∀ t j, t < (rest 6 cs).length → j < 6 → L t j = leadR G cs t j) (hF : Frm 6 6 D H) (hge : Ge 6 (rest 6 cs).length L D 6 (rest 6 cs).length R H 6) (hz : Zer (rest 6 cs).length 6 R) :
    Hf (outK G H cs om) (rest 6 cs).length 6 (fun t => (rest 6 cs).getD t 0) ∧ (∀ i k, i < (rest 6 cs).length → k < n → dot 6 (M k) (outK G H cs om i) = 0) ∧ ∀ y, (∀ k, k < n → dot 6 (M k) y = 0) → Sp (outK G H cs om) (rest 6 cs).length 6 y := by
  have hn := cs_nodup hs
  have hm := rest_six hn hG.cols
  have hlat := ker_lat (K := fun k t => G k ((rest 6 cs).getD t 0)) hm hD hL hF hge hz
  have hom : om ≠ 0 := hO ▸ hG.ne
  have hfree : ∀ t, t < (rest 6 cs).length → (rest 6 cs).getD t 0 < 6 ∧ (rest 6 cs).getD t 0 ∉ cs := fun t ht => mem_rest.1 (getD_mem ht)
  have hfn : (rest 6 cs).Nodup := List.nodup_range.filter _
  have hinj : ∀ s t, s < (rest 6 cs).length → t < (rest 6 cs).length → (rest 6 cs).getD s 0 = (rest 6 cs).getD t 0 → s = t := fun s t h1 h2 e => by
    rw [← idx_at hfn h1, e, idx_at hfn h2]
  refine hG.kernel hn (X := fun i j => H (cs.length + i) (cs.length + j)) ⟨fun k hk => hk, fun i k hik _ => hik, fun k hk => (hF.piv (cs.length + k) (by omega)).1, fun k j hk hj => hF.left (cs.length + k) (cs.length + j) (by omega) (by simp only [id] at hj; omega), fun i k hik hk => hF.red (cs.length + i) (cs.length + k) (by omega) (by omega)⟩ (fun x => ?_) (fun i t hi ht => ?_) (fun i k hi hk => ?_)
  · rw [hlat x]
    refine forall_congr' fun k => forall_congr' fun hk => ?_
    rw [hO, show (fun t => mn (is.map M) (cs.set k ((rest 6 cs).getD t 0)) * x t) = fun t => G k ((rest 6 cs).getD t 0) * x t from funext fun t => by rw [hGG]]
  · unfold outK cmb
    rw [sm_one ht fun s hs2 hne => by
      unfold solR solS
      rw [if_neg (fun e => hne (hinj _ _ ht hs2 e).symm), if_neg (by rw [List.idxOf_eq_length (hfree t ht).2]; omega)]; simp]
    unfold solR
    rw [if_pos rfl, Int.mul_tdiv_cancel _ hom]
  · rw [hO]
    have e : cmb (fun t => H (cs.length + i) (cs.length + t)) (solR G cs om) (rest 6 cs).length (cs.getD k 0) = - sm (rest 6 cs).length (fun t => H (cs.length + i) (cs.length + t) * G k ((rest 6 cs).getD t 0)) := by
      unfold cmb
      rw [sm_congr (g := fun t => (-1) * (H (cs.length + i) (cs.length + t) * G k ((rest 6 cs).getD t 0))) fun t ht => by
        unfold solR solS
        rw [if_neg (fun (e : cs.getD k 0 = (rest 6 cs).getD t 0) => (hfree t ht).2 (e ▸ getD_mem hk)), idx_at hn hk, if_pos hk]; grind, sm_mul]; omega
    have hd : om ∣ sm (rest 6 cs).length (fun t => H (cs.length + i) (cs.length + t) * G k ((rest 6 cs).getD t 0)) := by
      have h := (hlat (fun t => H (cs.length + i) (cs.length + t))).1 (Sp.unit (M := fun i j => H (cs.length + i) (cs.length + j)) hi) k hk
      rw [sm_congr (g := fun t => G k ((rest 6 cs).getD t 0) * H (cs.length + i) (cs.length + t)) fun t _ => Int.mul_comm _ _]
      exact h
    unfold outK
    rw [e, Int.mul_tdiv_cancel' (Int.dvd_neg.2 hd), sm_congr fun t ht => by rw [← hGG]]
end Go.Proofs.Ytnbamjoadankmaa

/- hermite of the program. -/
import Derived.Test.YtmknbgiihhimfaaKT
namespace Go.Proofs.Ytmknbgiihhimfaa
open Go.RowKit D
/-- The rows whose leading columns are copied so far. -/
def shc (M : Nat → Nat → Int) (cs : List Nat) (k l : Nat) : Nat → Nat → Int := fun r s => if (r < k ∨ (r = k ∧ s < l)) ∧ s < cs.length then M r (cs.getD s 0) else 0
set_option maxRecDepth 100000 in
set_option maxHeartbeats 16000000 in
theorem phermite_any (ao : Option Addr) (n c1 : Nat) (M : Nat → Nat → Int) (w : World) (hv : VM M n) (hc1 : n ≤ c1) (hR : CV w ao n M) :
    Calls Try.prog 30 #[.slice ao n c1] w fun e w' => ∃ (v : Value) (O : Nat → Nat → Int) (q : Nat) (p : Nat → Nat), e = .returned v ∧ w'.ownsRow w.heap.size 37 6 v q (rowsL O q) ∧ q ≤ 6 ∧ Hf O q 6 p ∧ (∀ t, t < n → Sp O q 6 (M t)) ∧ (∀ i, i < q → Sp M n 6 (O i)) ∧ Below w.heap.size w w' := by
  have hmx : Try.prog.follows .mixedOrders = true := by kernel_rfl
  have hn8 := hv.1
  obtain ⟨tj, htj, htj2⟩ := Option.map_eq_some_iff.1 info_rows2
  simp only [Prod.mk.injEq] at htj2
  obtain ⟨hy0, hy1, hy2⟩ := htj2
  have HTJ := Bx.mk htj
  have FA := Bx.mk (first2_any ao n c1 M w hv hc1 hR)
  have HV := Bx.mk hv
  have HR := Bx.mk hR
  clear htj hv hR
  go_enter Try.func30, Try.ntmps30
  go_wp2_with (first
    | (go_at_call 42; refine FA.out.mono ?_; clear FA; rintro e w2 ⟨is, cs, fo, ro, fc, rc, q, om, rfl, HQ, HOM, HGR, hq6, hom0, hom1, HMB, HF, HRV, HB2⟩)
    | (at_make; refine wpList_make_full _ rfl _ _ 22 rfl 0 37 tj _ 6 Try.underlying22 HTJ.out hy0 hy1 .i64 .i64 _ _ n rfl rfl rfl rfl (by rw [hy2]; omega) (by unfold maxLen; omega) (Nat.zero_le _) ?_; intro w4 hown4 hg4))
  obtain ⟨w3, hw3⟩ : ∃ w3, w2.alloc (.cells #[.slice fo q fc, .int .i64 om, .slice ro q rc] 61) = w3 := ⟨_, rfl⟩
  have hs3 : w3.heap.size = w2.heap.size + 1 := by rw [← hw3]; simp
  have hF3 : FB w3 w2.heap.size (.slice fo q fc) (.int .i64 om) (.slice ro q rc) := by rw [← hw3]; exact World.alloc_heap_new w2 _
  have hB23 : Below w2.heap.size w2 w3 := by rw [← hw3]; exact (Below.refl _ w2).alloc (Nat.le_refl _) _
  rw [hw3] at hown4 hg4
  rw [hs3] at hown4
  have hof := own_keep HF.out fun k _ hks => hB23.block k hks
  have hor := own_keep HRV.out fun k _ hks => hB23.block k hks
  have hB3 : Below w.heap.size w w3 := HB2.out.trans (hB23.mono HB2.out.size)
  have HFB := Bx.mk hF3
  have HOF := Bx.mk hof
  have HOR := Bx.mk hor
  have HB3 := Bx.mk hB3
  have HR4 := Bx.mk (RB.of_own (M := fun _ _ => 0) hown4 (made_rows n))
  have HB34 : Bx (Below (w2.heap.size + 1) w3 w4) := ⟨(Below.refl _ w3).grown hg4 (by omega) (fun k e => by cases e)⟩
  have hgl := HR4.out.lt
  have HS3 := Bx.mk hs3
  clear hw3 hF3 hB23 hof hor hB3 hown4 hg4 HF HRV HB2 hs3
  go_loopw [18] (fun ix wr => ∃ k : Nat, k ≤ n ∧ ix = .int .i64 k ∧ Bx (RB wr (w2.heap.size + 1) n n (shc M cs k 0)) ∧ Bx (Below (w2.heap.size + 1) w3 wr)) (fun ix _ => n - (intOf ix).toNat)
  case atStart => exact ⟨0, by omega, rfl, ⟨HR4.out.congr fun i j _ _ => by unfold shc; rw [if_neg (by omega)]⟩, HB34⟩
  case round =>
    clear HR4 HB34 hgl
    obtain ⟨k, hk, rfl, HG, HB⟩ := hrel
    have hfb := HFB.out.lt
    have e0 := (HFB.out.keep (HB.out.block _ (by omega))).c0
    have e1 := (HFB.out.keep (HB.out.block _ (by omega))).c1
    have hw3s := HS3.out
    have hbw := HB.out.size
    by_cases hlt : k < n
    · obtain ⟨b, o, rfl, hb, hcr⟩ := (HR.out.keep HB3.out) (by omega)
      have hb' : b < w2.heap.size + 1 := by omega
      have a0 := HB.out.cell (p := ⟨b, o + k * 6 + 0, none⟩) hb'
      have a1 := HB.out.cell (p := ⟨b, o + k * 6 + 1, none⟩) hb'
      have a2 := HB.out.cell (p := ⟨b, o + k * 6 + 2, none⟩) hb'
      have a3 := HB.out.cell (p := ⟨b, o + k * 6 + 3, none⟩) hb'
      have a4 := HB.out.cell (p := ⟨b, o + k * 6 + 4, none⟩) hb'
      have a5 := HB.out.cell (p := ⟨b, o + k * 6 + 5, none⟩) hb'
      rw [hcr k _ hlt (by omega)] at a0 a1 a2 a3 a4 a5
      rw [Nat.add_zero] at a0
      clear hcr
      have hgl := HG.out.lt
      have hal := (Below.refl wr.heap.size wr).alloc (Nat.le_refl _) (.cells #[.int .i64 (M k 0), .int .i64 (M k 1), .int .i64 (M k 2), .int .i64 (M k 3), .int .i64 (M k 4), .int .i64 (M k 5)] 37)
      have HG1 := Bx.mk (HG.out.below hal hgl)
      have HB1 := Bx.mk (HB.out.trans (hal.mono (by omega)))
      have e2 := (HFB.out.keep (HB1.out.block _ (by omega))).c0
      have HBC := Bx.mk (box_cell wr (M k) 37)
      have HWS := Bx.mk (show wr.heap.size < (wr.alloc (.cells #[.int .i64 (M k 0), .int .i64 (M k 1), .int .i64 (M k 2), .int .i64 (M k 3), .int .i64 (M k 4), .int .i64 (M k 5)] 37)).heap.size by simp)
      have hcn := cn_of_owns HOF.out
      obtain ⟨fo', fc', ef, lf, -, nf⟩ := hcn
      simp only [Value.slice.injEq] at ef
      obtain ⟨rfl, -, rfl⟩ := ef
      have NF := Bx.mk nf
      have lfq : q ≤ fc := by have := HQ.out; omega
      clear hal nf lf
      go_wp2_with fail
      go_loopw [26] (fun ix wr' => ∃ l : Nat, l ≤ q ∧ ix = .int .i64 l ∧ Bx (RB wr' (w2.heap.size + 1) n n (shc M cs k l)) ∧ Bx (∀ t, t < 6 → wr'.cell? ⟨wr.heap.size, t, none⟩ = some (.int .i64 (M k t))) ∧ wr.heap.size < wr'.heap.size ∧ Bx (Below (w2.heap.size + 1) w3 wr')) (fun ix _ => q - (intOf ix).toNat)
      case atStart => exact ⟨0, by omega, rfl, HG1, HBC, HWS.out, HB1⟩
      case round =>
        obtain ⟨l, hl, rfl, HG2, HBX, hwz, HB2⟩ := hrel
        by_cases hlq : l < q
        · obtain ⟨b5, o5, rfl, hb5, hcj⟩ := NF.out (by intro e; have := HQ.out; subst e; simp at this; omega)
          have hb5' : b5 < w2.heap.size + 1 := by omega
          obtain ⟨c, hc⟩ : ∃ c, cs.getD l 0 = c := ⟨_, rfl⟩
          have ej := HB2.out.cell (p := ⟨b5, o5 + l, none⟩) hb5'
          rw [hcj l (by rw [HQ.out]; exact hlq), hc] at ej
          have hc6 : c < 6 := by rw [← hc]; exact HGR.out.1.cols _ (getD_mem (by rw [HQ.out]; exact hlq))
          have ex := HBX.out c hc6
          have hl6 : l < 6 := by omega
          have c1' := HG2.out.cell hlt hl6
          have c2' := HG2.out.frozen (k * 6 + l)
          have HC := Bx.mk hc
          obtain ⟨x, hx⟩ : ∃ x, M k c = x := ⟨_, rfl⟩
          rw [hx] at ex
          have HX := Bx.mk hx
          have hg2l := HG2.out.lt
          have hlfc : l < fc := by omega
          have i1 : (c : Int) < 6 := by omega
          have i2 : (l : Int) < 6 := by omega
          have i3 : (k : Int) < (n : Int) := by omega
          clear hc hcj hx
          go_wp2_with fail
          refine wp_region_still_tail 8 hmx (by kernel_rfl) ?_
          simp only [List.take_succ_cons, List.take_zero, List.drop_succ_cons, List.drop_zero]
          change wpStill _ _ wr.drew (fun a' => wpList _ _ _ _ a' wr.drew) _ _
          iterate 8 still_step
          refine wpStill_nil ?_
          go_wp2_with fail
          go_roundw
          case rel =>
            have hne : ∀ t, (wr.setCell ⟨w2.heap.size + 1, k * 6 + l, none⟩ (.int .i64 x)).cell? t = (wr.setCell ⟨w2.heap.size + 1, k * 6 + l, none⟩ (.int .i64 x)).drew.cell? t := fun t => rfl
            exact ⟨l + 1, by omega, by go_num, ⟨(HG2.out.set hlt hl6 x).congr fun i j hi hj => by
              unfold shc
              by_cases e : i = k ∧ j = l
              · rw [if_pos e, if_pos (by have := HQ.out; omega), e.1, e.2, HC.out, HX.out]
              · rw [if_neg e]
                by_cases e2 : (i < k ∨ (i = k ∧ j < l)) ∧ j < cs.length
                · rw [if_pos e2, if_pos (by omega)]
                · rw [if_neg e2, if_neg (by omega)]⟩, ⟨fun t ht => (World.cell?_setCell_other wr _ _ _ (by first | (simp; done) | (simp; omega))).trans (HBX.out t ht)⟩, by simpa [World.setCell, World.drew] using hwz, ⟨below_drew (HB2.out.setCell (p := ⟨w2.heap.size + 1, k * 6 + l, none⟩) (by simp) _)⟩⟩
          case measure => simp [intOf]; omega
        · obtain rfl : q = l := by omega
          go_wp2_with fail
          go_roundw
          case rel => exact ⟨k + 1, by omega, by go_num, ⟨HG2.out.congr fun i j hi hj => by
              unfold shc
              have := HQ.out
              by_cases e2 : (i < k + 1 ∨ (i = k + 1 ∧ j < 0)) ∧ j < cs.length
              · rw [if_pos e2, if_pos (by omega)]
              · rw [if_neg e2, if_neg (by omega)]⟩, HB2⟩
          case measure => simp [intOf]; omega
    · obtain rfl : n = k := by omega
      have HSH : Bx (RB wr (w2.heap.size + 1) n n (short M cs)) := ⟨HG.out.congr fun i j hi _ => by
        unfold short shc
        by_cases e : j < cs.length
        · rw [if_pos e, if_pos ⟨Or.inl hi, e⟩]
        · rw [if_neg e, if_neg (fun h => e h.2)]⟩
      have TA := Bx.mk (triangle_any (some ⟨w2.heap.size + 1, 0, none⟩) n n q om om.natAbs (short M cs) wr hn8 (Nat.le_refl _) hq6 hom0 rfl hom1 HSH.out.cv (short_bound HV.out HGR.out.1.cols))
      have e3 := e0
      have e4 := e1
      go_wp2_with (go_at_call 46; refine TA.out.mono ?_; clear TA; rintro e w6 ⟨v, H, rfl, hov, hfr, ⟨R, hz, hge⟩, hb6⟩
                   obtain ⟨vo, vc, rfl⟩ := own_any hov
                   have HOV := Bx.mk hov
                   have HFR := Bx.mk hfr
                   have HZR := Bx.mk hz
                   have HGE := Bx.mk hge
                   have HB6 := Bx.mk hb6
                   clear hov hfr hz hge hb6)
      obtain ⟨O, hO⟩ : ∃ O, outR M H is cs = O := ⟨_, rfl⟩
      obtain ⟨G, hG⟩ : ∃ G : Nat → Nat → Int, (fun t c => mn (is.map M) (cs.set t c)) = G := ⟨_, rfl⟩
      have HMB' : Bx (∀ t c, t < q → c < 6 → (G t c).natAbs ≤ 1000000000) := ⟨fun t c ht hc => by rw [← hG]; exact HMB.out t c ht hc⟩
      have HOR' := HOR.out
      rw [hG] at HOR'
      have HCV := Bx.mk (own_cv HOR')
      have HOE : Bx (∀ t, (fun c => (cmb (H t) G q c).tdiv om) = O t) := ⟨fun t => by rw [← hO, ← hG, ← HQ.out, ← HOM.out]; rfl⟩
      have HMATH := hermite_math HGR.out.1 HGR.out.2 (by rw [HOM.out]) (by rw [HQ.out]; exact HFR.out) (by rw [HQ.out]; exact HGE.out) (by rw [HQ.out]; exact HZR.out)
      rw [hO, HQ.out] at HMATH
      have HMA := Bx.mk HMATH
      have hlw := HG.out.lt
      have HB6' : Bx (Below (w2.heap.size + 1) w3 w6) := ⟨HB.out.trans (HB6.out.mono (by omega))⟩
      have HOV' : Bx (w6.ownsRow (w2.heap.size + 1) 37 6 (.slice vo q vc) q (rowsL (mixR O H 0) q)) := ⟨by rw [rowsL_congr (B := H) fun r _ => by unfold mixR; rw [if_neg (by omega)]]; exact own_low HOV.out (by omega)⟩
      have hrq : q ≤ rc := by
        rcases HOR'.2 with ⟨e, e2⟩ | ⟨g, cap, cur, e, _, _, h2, _⟩
        · omega
        · simp only [Value.slice.injEq] at e; omega
      clear hO hG HMATH HOR' HG HSH HB HOV HGE HZR HB6 e0 e1 e3 e4 hlw hbw
      go_loopw [50] (fun ix wr' => ∃ t : Nat, t ≤ q ∧ ix = .int .i64 t ∧ Bx (wr'.ownsRow (w2.heap.size + 1) 37 6 (.slice vo q vc) q (rowsL (mixR O H t) q)) ∧ Bx (Below (w2.heap.size + 1) w3 wr')) (fun ix _ => q - (intOf ix).toNat)
      case atStart => exact ⟨0, by omega, rfl, HOV', HB6'⟩
      case round =>
        clear HOV' HB6'
        obtain ⟨t, ht, rfl, HO, HB⟩ := hrel
        by_cases htq : t < q
        · obtain ⟨gf, cf, ef, hgf0, hgfs⟩ := own_form HO.out (by omega)
          simp only [Value.slice.injEq, true_and] at ef
          obtain ⟨rfl, rfl⟩ := ef
          have HK := Bx.mk (RB.of_own HO.out fun i j hi hj => rowsL_get hi hj)
          have e0 := (HFB.out.keep (HB.out.block _ (by omega))).c1
          have e1 := (HFB.out.keep (HB.out.block _ (by omega))).c2
          have hbw := HB.out.size
          have hKt : mixR O H t t = H t := by unfold mixR; rw [if_neg (by omega)]
          have hcm : vc ≤ maxLen := by
            rcases HO.out.2 with ⟨e, _⟩ | ⟨g, cap, cur, e, _, _, _, h2, _⟩
            · cases e
            · simp only [Value.slice.injEq] at e; omega
          have CA : Bx (∀ w', Below wr.heap.size wr w' → Calls Try.prog 47 #[.slice (some ⟨gf, t * 6, none⟩) 6 6, .slice ro q rc, .int .i64 om] w' fun e w'' => e = .returned (PV (O t)) ∧ Bx (Below wr.heap.size wr w'')) := ⟨fun w' hb => by
            have h := combined_any ro gf (t * 6) 6 6 q rc (H t) G om w' hq6 hq6 (Nat.le_refl _) hrq hom0 (by omega) (by omega) (Nat.lt_of_lt_of_le hgfs hb.size) (fun s hs => by rw [hb.cell (p := ⟨gf, t * 6 + s, none⟩) hgfs, HK.out.cell htq (by omega), hKt]) ((HCV.out.keep (HB.out.mono (by omega))).keep hb) (fun s hs => by have := HFR.out.bnd t s htq (by omega); omega) (fun s c hs hc => HMB'.out s c hs hc)
            exact h.mono fun e w'' h => ⟨by rw [h.1, HOE.out t], ⟨hb.trans (h.2.mono hb.size)⟩⟩⟩
          obtain ⟨v, hv⟩ : ∃ v, O t = v := ⟨_, rfl⟩
          rw [hv] at CA
          unfold PV at CA
          have HVV := Bx.mk hv
          have HKT := Bx.mk hKt
          have i1 : (t : Int) < (q : Int) := by omega
          clear hv hKt
          go_wp2_with fail
          go_region_with (go_at_call 47; refine (CA.out _ (by repeat (first | with_reducible exact Below.refl _ _ | with_reducible apply below_drewN | with_reducible apply below_drew))).mono ?_; rintro e w8 ⟨rfl, HB8⟩
                          have HK8 := Bx.mk (HK.out.below HB8.out hgfs)
                          have s0 := HK8.out.cell htq (j := 0) (by omega)
                          have s1 := HK8.out.cell htq (j := 1) (by omega)
                          have s2 := HK8.out.cell htq (j := 2) (by omega)
                          have s3 := HK8.out.cell htq (j := 3) (by omega)
                          have s4 := HK8.out.cell htq (j := 4) (by omega)
                          have s5 := HK8.out.cell htq (j := 5) (by omega)
                          rw [Nat.add_zero] at s0
                          have z0 := HK8.out.frozen (t * 6)
                          have z1 := HK8.out.frozen (t * 6 + 1)
                          have z2 := HK8.out.frozen (t * 6 + 2)
                          have z3 := HK8.out.frozen (t * 6 + 3)
                          have z4 := HK8.out.frozen (t * 6 + 4)
                          have z5 := HK8.out.frozen (t * 6 + 5))
          all_goals go_wp2_with fail
          all_goals
            go_roundw
            case rel =>
              have hb6 := But.six6 (b := gf) w8 (t * 6) v
              exact ⟨t + 1, by omega, by go_num, ⟨by
                have h := (HK8.out.row htq v).own (base := w2.heap.size + 1) hgf0 hcm (Nat.le_refl _)
                rw [rowsL_congr (B := mixR O H (t + 1)) fun r hr => by
                  unfold updR mixR
                  by_cases e : r = t
                  · funext s; rw [if_pos e, if_pos (by omega), e, HVV.out]
                  · funext s; rw [if_neg e]; by_cases e2 : r < t
                    · rw [if_pos e2, if_pos (by omega)]
                    · rw [if_neg e2, if_neg (by omega)]] at h
                exact h⟩, ⟨(HB.out.trans (HB8.out.mono (by omega))).trans (hb6.below (Nat.le_trans hbw HB8.out.size |> Nat.le_trans (by omega)) hgf0)⟩⟩
            case measure => simp [intOf]; omega
        · obtain rfl : q = t := by omega
          have HOF' := HO.out
          rw [rowsL_congr (B := O) fun r hr => by unfold mixR; rw [if_pos hr]] at HOF'
          have HOF'' := Bx.mk HOF'
          have hbs := HB3.out.size
          clear HOF'
          go_wp2_with fail
          go_ret
          exact ⟨_, O, q, _, rfl, own_low HOF''.out (by omega), hq6, HMA.out.1, HMA.out.2.1, HMA.out.2.2, HB3.out.trans (HB.out.mono (by omega))⟩
end Go.Proofs.Ytmknbgiihhimfaa

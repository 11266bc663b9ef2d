/- ScaleThreeGaps, walked. -/
import Derived.Test.YtomgihlkbmaleaaDoorRH
import Derived.BigQuiet
import Derived.Deep.QuietTactic
namespace Go.Proofs.YtomgihlkbmaleaaDoor
open Go.RowKit M
/-- What stands in the list of sizes behind i steps. -/
structure Szs (T : Nat → Nat → Int) (i k : Nat) (G : Nat → Nat → Int) : Prop where
  le : k ≤ i
  from' : ∀ r, r < k → ∃ s, s < i ∧ pEq (G r) (T s)
  all : ∀ s, s < i → ∃ r, r < k ∧ pEq (T s) (G r)
  ne : ∀ r s, r < s → s < k → ¬ pEq (G r) (G s)
theorem Szs.skip {T G : Nat → Nat → Int} {i k : Nat} (h : Szs T i k G) (m : ∃ r, r < k ∧ pEq (T i) (G r)) : Szs T (i + 1) k G :=
  ⟨Nat.le_succ_of_le h.le, fun r hr => by obtain ⟨s, a, b⟩ := h.from' r hr; exact ⟨s, by omega, b⟩, fun s hs => by
    rcases Nat.lt_or_ge s i with e | e
    · exact h.all s e
    · obtain rfl : s = i := by omega
      exact m, h.ne⟩
theorem Szs.more {T G : Nat → Nat → Int} {i k : Nat} (h : Szs T i k G) (m : ¬ ∃ r, r < k ∧ pEq (T i) (G r)) : Szs T (i + 1) (k + 1) (fun r => if r < k then G r else T i) := by
  refine ⟨by have := h.le; omega, fun r hr => ?_, fun s hs => ?_, fun r s hrs hs => ?_⟩
  · by_cases e : r < k
    · obtain ⟨s, a, b⟩ := h.from' r e; exact ⟨s, by omega, by rw [if_pos e]; exact b⟩
    · exact ⟨i, by omega, by rw [if_neg e]; exact pEq.rfl' _⟩
  · rcases Nat.lt_or_ge s i with e | e
    · obtain ⟨r, a, b⟩ := h.all s e; exact ⟨r, by omega, by rw [if_pos a]; exact b⟩
    · obtain rfl : s = i := by omega
      exact ⟨k, by omega, by rw [if_neg (by omega)]; exact pEq.rfl' _⟩
  · rw [if_pos (by omega)]
    by_cases e : s < k
    · rw [if_pos e]; exact h.ne r s hrs e
    · rw [if_neg e]; exact fun q => m ⟨r, by omega, q.sy⟩
theorem Szs.three {T G : Nat → Nat → Int} {i k : Nat} (h : Szs T i k G) (hT : ∃ A B, ∀ r, r < i → pEq (T r) A ∨ pEq (T r) B ∨ pEq (T r) (addV A B)) : k ≤ 3 ∧ (k = 3 → ∃ i, i < 3 ∧ pEq (G i) (addV (G ((i + 1) % 3)) (G ((i + 2) % 3)))) := by
  obtain ⟨A, B, hT⟩ := hT
  have hG : ∀ r, r < k → pEq (G r) A ∨ pEq (G r) B ∨ pEq (G r) (addV A B) := fun r hr => by
    obtain ⟨s, a, b⟩ := h.from' r hr
    exact (hT s a).imp (fun k => b.tr k) (Or.imp (fun k => b.tr k) fun k => b.tr k)
  exact ⟨few hG h.ne, fun e => by subst e; exact sum3 hG h.ne⟩
theorem steps_two (ao : Option Addr) (n c : Nat) (M : Nat → Nat → Int) (w : World) (hv : SV M n) (hcn : n ≤ c) (hS : CV w ao n M) (hs : Sm w) : Calls Tryd.prog 14 #[.slice ao n c] w (fun e w' => (∃ g cap, e = .returned (.tuple #[.slice (some ⟨g, 0, none⟩) n cap, .int .i64 0]) ∧ Bx (CV w' (some ⟨g, 0, none⟩) n (stp M n)) ∧ Bx (∀ i, i < n → bdB (stp M n i) 576 = true) ∧ Below w.heap.size w w') ∨ (e = .returned (.tuple #[.slice none 0 0, .int .i64 3]) ∧ Below w.heap.size w w')) := by
  by_cases h : ∀ i, i < n → bdB (stp M n i) 576 = true
  · exact (steps_ok ao n c M w hcn hS hs hv h).mono fun e w' ⟨g, cap, h1, h2, h3, h4⟩ => .inl ⟨g, cap, h1, ⟨h3⟩, ⟨h⟩, h4⟩
  · exact (steps_no ao n c M w hcn hS hs hv h).mono fun e w' h => .inr h
theorem kinds {g : Nat → Int} {n : Nat} {Q M : Nat → Nat → Int} (h : Chn g n Q) (hp : (lsM M n).Perm (lsM Q n)) (hv : SV M n) : ∃ A B : Nat → Int, ∀ r, r < n → pEq (stp M n r) A ∨ pEq (stp M n r) B ∨ pEq (stp M n r) (addV A B) := by
  by_cases e : 2 ≤ n
  · exact three_gaps h hp hv e
  · exact ⟨stp M n 0, stp M n 0, fun r hr => by
      obtain rfl : r = 0 := by omega
      exact .inl (pEq.rfl' _)⟩
theorem lit_below {n b : Nat} {w W : World} (h : Below n w W) (hb : n ≤ b) (v : Nat → Int) : Below n w ((((((W.setCell ⟨b, 0, none⟩ (.int .i64 (v 0))).setCell ⟨b, 1, none⟩ (.int .i64 (v 1))).setCell ⟨b, 2, none⟩ (.int .i64 (v 2))).setCell ⟨b, 3, none⟩ (.int .i64 (v 3))).setCell ⟨b, 4, none⟩ (.int .i64 (v 4))).setCell ⟨b, 5, none⟩ (.int .i64 (v 5))) :=
  (((((h.setCell (p := ⟨b, 0, none⟩) hb _).setCell (p := ⟨b, 1, none⟩) hb _).setCell (p := ⟨b, 2, none⟩) hb _).setCell (p := ⟨b, 3, none⟩) hb _).setCell (p := ⟨b, 4, none⟩) hb _).setCell (p := ⟨b, 5, none⟩) hb _
theorem set_blk {W : World} {b : Nat} {cs : Array Value} {t : TypeId} {k : Nat} (h : W.heap[b]? = some (.cells cs t (0, 0))) (x : Value) : (W.setCell ⟨b, k, none⟩ x).heap[b]? = some (.cells (cs.setIfInBounds k x) t (0, 0)) := by
  simp [World.setCell, Array.getElem?_modify, h]
theorem VT.lit {W : World} {b : Nat} {t : TypeId} {y : Nat → Int} (h : VT W b t y) (v : Nat → Int) : VT ((((((W.setCell ⟨b, 0, none⟩ (.int .i64 (v 0))).setCell ⟨b, 1, none⟩ (.int .i64 (v 1))).setCell ⟨b, 2, none⟩ (.int .i64 (v 2))).setCell ⟨b, 3, none⟩ (.int .i64 (v 3))).setCell ⟨b, 4, none⟩ (.int .i64 (v 4))).setCell ⟨b, 5, none⟩ (.int .i64 (v 5))) b t v := by
  have h' : W.heap[b]? = _ := h
  have a0 := set_blk (k := 0) h' (.int .i64 (v 0))
  have a1 := set_blk (k := 1) a0 (.int .i64 (v 1))
  have a2 := set_blk (k := 2) a1 (.int .i64 (v 2))
  have a3 := set_blk (k := 3) a2 (.int .i64 (v 3))
  have a4 := set_blk (k := 4) a3 (.int .i64 (v 4))
  have a5 := set_blk (k := 5) a4 (.int .i64 (v 5))
  unfold VT
  simpa using a5
set_option maxRecDepth 100000 in
set_option maxHeartbeats 40000000 in
theorem sg3_ok (g : Nat → Int) (n : Nat) (w : World) (hs : Sm w) (h24 : ¬ 24 < (n : Int)) (hn0 : 0 < n) (Q : Nat → Nat → Int) (HK : Bx (∀ i, i < n → InCh g Q i)) (HC : Bx (Chn g n Q)) (H1 : Hx (∀ w, Sm w → Calls Tryd.prog 13 #[PV g, .int .i64 n] w (ChainR w n Q))) :
    Calls Tryd.prog 4 #[PV g, .int .i64 (n : Nat)] w fun e w' => e = .returned (.bool true) ∧ Below w.heap.size w w' := by
  obtain ⟨ti, hti, hti2⟩ := Option.map_eq_some_iff.1 info_pitch2
  simp only [Prod.mk.injEq] at hti2
  obtain ⟨hz0, hz1, hz2⟩ := hti2
  have HTI := Bx.mk hti
  clear hti
  have S : Bx (SS w w []) := ⟨SS.start w hs⟩
  replace S := Bx.mk (S.out.push #[.int .i64 (g 0), .int .i64 (g 1), .int .i64 (g 2), .int .i64 (g 3), .int .i64 (g 4), .int .i64 (g 5)] 23)
  go_enter Tryd.func4, Tryd.ntmps4
  go_wp2_with fail
  refine (shead_any _ S.out.sm).mono ?_
  rintro e w1 ⟨rfl, hb⟩
  replace S := Bx.mk (S.out.call hb)
  clear hb
  obtain ⟨c0_0, c0_1, c0_2, c0_3, c0_4, c0_5, z0⟩ := S.out.six w.heap.size 23 (.int .i64 (g 0)) (.int .i64 (g 1)) (.int .i64 (g 2)) (.int .i64 (g 3)) (.int .i64 (g 4)) (.int .i64 (g 5)) List.mem_cons_self
  go_wp2_with fail
  refine (H1.out _ S.out.sm).mono ?_
  rintro e w2 ⟨g1, c1, M, rfl, k1, m1, CM, PM, LM, hb⟩
  replace S := Bx.mk (S.out.call hb)
  clear hb
  clear c0_0 c0_1 c0_2 c0_3 c0_4 c0_5 z0
  have hv := chain_sv HC.out (by omega) HK.out PM LM
  have KD := Bx.mk (kinds HC.out PM hv)
  have ST := steps_two (some ⟨g1, 0, none⟩) n c1 M _ hv k1 CM S.out.sm
  clear CM PM LM H1 HK HC
  go_wp2_with fail
  refine ST.mono ?_
  rintro e w3 (⟨g2, c2, rfl, CT, BT, hb⟩ | ⟨rfl, hb⟩)
  · replace S := Bx.mk (S.out.call hb)
    have hBL := Bx.mk S.out.bl
    have hSM := Bx.mk S.out.sm
    clear hb S ST
    obtain ⟨T, hT⟩ : ∃ T, stp M n = T := ⟨_, rfl⟩
    rw [hT] at CT KD BT
    obtain ⟨b2, o2, e2, hb2, hc2⟩ := CT.out hn0
    cases e2
    have D2 := Bx.mk hc2
    clear hc2 CT hT hv
    obtain ⟨W, hW⟩ : ∃ W, w3 = W := ⟨_, rfl⟩
    rw [hW] at D2 hb2 hBL hSM
    go_wp2_with fail
    try rw [hW]
    go_loopw [10, 44] (fun v ix wr => ∃ (i k : Nat) (G : Nat → Nat → Int), i ≤ n ∧ ix = .int .i64 i ∧ Bx (Below W.heap.size W wr) ∧ Bx (wr.ownsRow W.heap.size 23 6 v k (rowsL G k)) ∧ Bx (Szs T i k G)) (fun _ ix _ => n - (intOf ix).toNat)
    case atStart => exact ⟨0, 0, fun _ _ => 0, by omega, rfl, ⟨Below.refl _ _⟩, ⟨World.ownsRow_nil _ _ _ _⟩, ⟨⟨Nat.le_refl _, (fun r hr => by omega), (fun s hs => by omega), (fun r s h1 h2 => by omega)⟩⟩⟩
    case round =>
      obtain ⟨i, k, G, hi, rfl, HW, HO, HZ⟩ := hrel
      obtain ⟨ag, cg, rfl, hkc, hcm, CG⟩ := own_pitch_cv HO.out
      have hki := HZ.out.le
      by_cases hin : i < n
      · have hin' : (i : Int) < (n : Int) := by omega
        obtain ⟨a0, a1, a2, a3, a4, a5⟩ := row_six D2.out hb2 HW.out hin
        obtain ⟨x, hx⟩ : ∃ x, T i = x := ⟨_, rfl⟩
        rw [hx] at a0 a1 a2 a3 a4 a5
        simp only [Nat.zero_add] at a0 a1 a2 a3 a4 a5
        have HX := Bx.mk hx
        have HCG := Bx.mk CG
        clear hx CG
        go_wp2_with fail
        clear a0 a1 a2 a3 a4 a5
        obtain ⟨xb, hxb⟩ : ∃ xb, wr.heap.size = xb := ⟨_, rfl⟩
        have V1 := VT.new wr 23 x
        have B1 := above_new wr (.cells #[.int .i64 (x 0), .int .i64 (x 1), .int .i64 (x 2), .int .i64 (x 3), .int .i64 (x 4), .int .i64 (x 5)] 23)
        have HO1 := Bx.mk (own_keep HO.out (w' := wr.alloc (.cells #[.int .i64 (x 0), .int .i64 (x 1), .int .i64 (x 2), .int .i64 (x 3), .int .i64 (x 4), .int .i64 (x 5)] 23)) fun k _ hk => B1.block k hk)
        have HB1 := Bx.mk (HW.out.trans (B1.mono HW.out.size))
        have HG1 := Bx.mk (HCG.out.keep B1)
        have hsz := HW.out.size
        have HV1 := Bx.mk V1
        clear V1 B1
        generalize hW1 : wr.alloc _ = W1
        rw [hW1] at HO1 HB1 HG1 HV1
        rw [hxb] at HV1 hsz ⊢
        clear hW1 HO HW HCG hxb
        go_loopw [13, 50] (fun kn jx wz => ∃ (q : Nat) (bb : Bool), q ≤ k ∧ jx = .int .i64 q ∧ kn = .bool bb ∧ Bx (bb = true ↔ ∃ r, r < q ∧ pEq x (G r)) ∧ Bx (Below W1.heap.size W1 wz)) (fun _ jx _ => k - (intOf jx).toNat)
        case atStart => exact ⟨0, false, by omega, rfl, rfl, ⟨by simp⟩, ⟨Below.refl _ _⟩⟩
        case round =>
          obtain ⟨q, bb, hq, rfl, rfl, HI, HW2⟩ := hrel
          by_cases hqk : q < k
          · have hqk' : (q : Int) < (k : Int) := by omega
            obtain ⟨b4, o4, rfl, hb4, hc4⟩ := HG1.out (by omega)
            obtain ⟨y0, y1, y2, y3, y4, y5⟩ := row_six hc4 hb4 HW2.out hqk
            obtain ⟨y, hy⟩ : ∃ y, G q = y := ⟨_, rfl⟩
            rw [hy] at y0 y1 y2 y3 y4 y5
            have VX := HV1.out.keep (HW2.out.block xb HV1.out.lt)
            have x0 := VX.c0; have x1 := VX.c1; have x2 := VX.c2; have x3 := VX.c3; have x4 := VX.c4; have x5 := VX.c5
            have xl := VX.lt
            have HY := Bx.mk hy
            clear hy hc4 VX
            cases bb with
            | true =>
              go_wp2_with fail
              exact ⟨⟨q + 1, true, by omega, by go_num, rfl, ⟨⟨fun _ => by obtain ⟨r, h1, h2⟩ := HI.out.1 rfl; exact ⟨r, by omega, h2⟩, fun _ => rfl⟩⟩, ⟨HW2.out.alloc HW2.out.size _⟩⟩, by simp [intOf]; omega⟩
            | false =>
              obtain ⟨b5, hb5⟩ := bool_of (∀ j, j < 6 → x j = y j)
              have E := eq6_is 23 und_pitch x y b5 hb5
              unfold PV at E
              have HB5 := Bx.mk hb5
              clear hb5
              go_wp2_with fail
              refine ⟨⟨q + 1, b5, by omega, by go_num, rfl, ⟨?_⟩, ⟨HW2.out.alloc HW2.out.size _⟩⟩, by simp [intOf]; omega⟩
              rw [HB5.out]
              refine ⟨fun h => ⟨q, by omega, by rw [HY.out]; exact h⟩, fun ⟨r, h1, h2⟩ => ?_⟩
              rcases Nat.lt_or_ge r q with f | f
              · exact absurd (HI.out.2 ⟨r, f, h2⟩) (by simp)
              · obtain rfl : r = q := by omega
                rw [HY.out] at h2; exact h2
          · obtain rfl : q = k := by omega
            have VX := HV1.out.keep (HW2.out.block xb HV1.out.lt)
            have x0 := VX.c0; have x1 := VX.c1; have x2 := VX.c2; have x3 := VX.c3; have x4 := VX.c4; have x5 := VX.c5
            have xl := VX.lt
            clear VX
            have O2 := own_keep HO1.out (w' := wr) (fun k _ hk => HW2.out.block k hk)
            have hs1 := HB1.out.size
            have hs2 := HW2.out.size
            have HB2 := Bx.mk (HB1.out.trans (HW2.out.mono HB1.out.size))
            have hqq : ¬ (q : Int) < (q : Int) := by omega
            cases bb with
            | true =>
              have HO2 := Bx.mk O2
              clear O2
              go_wp2_with fail
              exact ⟨⟨i + 1, q, G, by omega, by go_num, HB2, HO2, ⟨HZ.out.skip (by rw [HX.out]; exact HI.out.1 rfl)⟩⟩, by simp [intOf]; omega⟩
            | false =>
              have OA := fun (o : Obj) => own_keep O2 (w' := wr.alloc o) (fun k _ hk => Below.heap_alloc _ _ _ hk)
              have OZ : ∀ o : Obj, W.heap.size ≤ (wr.alloc o).heap.size := fun o => by rw [World.size_alloc]; omega
              have HB4 : ∀ o : Obj, Below W.heap.size W (wr.alloc o) := fun o => HB2.out.alloc (by omega) o
              have NP := news_pitch wr x
              have HO2 := Bx.mk O2
              clear O2
              go_wp2_with (at_builtin; go_loud (refine wpList_append_fresh rfl (.tmp 63) (.tmp 65) 32 rfl W.heap.size 23 ti (.agg #[.int .i64 0, .int .i64 0, .int .i64 0, .int .i64 0, .int .i64 0, .int .i64 0]) 6 48 Tryd.underlying32 HTI.out hz0 hz1 hz2 rfl (by decide) _ q _ rfl (OA _) _ 1 _ (rowsL (fun _ => x) 1) rfl (rowsL_length _ _) (by intro h; cases h) NP (rowsL_one _ _) (by unfold maxLen; omega) (by omega) (OZ _) ?_))
              intro v8 w8 ho8 hg8 hf8
              have eR : rowsL G q ++ rowsL (fun _ => x) 1 = rowsL (fun r => if r < q then G r else T i) (q + 1) := by
                rw [← rowsL_more (G := fun r => if r < q then G r else T i) (z := x) (i := q) (fun j _ => by rw [if_neg (by omega), HX.out])]
                congr 1
                unfold rowsL
                refine List.map_congr_left fun t ht => ?_
                show _ = Value.int .i64 ((if t / 6 < q then G (t / 6) else T i) (t % 6))
                rw [if_pos (by have := List.mem_range.1 ht; omega)]
              rw [eR] at ho8
              have HO8 := Bx.mk ho8
              have HB8 : Bx (Below W.heap.size W w8) := ⟨Below.grown (HB4 _) hg8 (OZ _) (fun k hk => (own_lt HO2.out k hk).1)⟩
              have HZ8 : Bx (Szs T (i + 1) (q + 1) (fun r => if r < q then G r else T i)) := ⟨HZ.out.more (by rw [HX.out]; exact fun h => absurd (HI.out.2 h) (by simp))⟩
              clear ho8 hg8 hf8
              go_wp2_with fail
              exact ⟨⟨i + 1, q + 1, _, by omega, by go_num, HB8, HO8, HZ8⟩, by simp [intOf]; omega⟩
      · obtain rfl : i = n := by omega
        obtain ⟨h3, hs3⟩ := HZ.out.three KD.out
        have HVG : Bx (∀ r, r < k → bdB (G r) 576 = true) := ⟨fun r hr => by
          obtain ⟨s, a, b⟩ := HZ.out.from' r hr
          exact bdB_yes.2 fun j hj => by rw [b j hj]; exact bdB_yes.1 (BT.out s a) j hj⟩
        have nn : ((i : Int) == (i : Int)) = true := by simp
        have g3 : decide ((3 : Int) < (k : Int)) = false := by simp; omega
        have hll : ¬ (i : Int) < (i : Int) := by omega
        have HFIN : Bx (∀ y, Below wr.heap.size wr y → Below w.heap.size w y) := ⟨fun y hy => hBL.out.trans ((HW.out.trans (hy.mono HW.out.size)).mono hBL.out.size)⟩
        by_cases hk : k < 3
        · have hk' : decide ((k : Int) < 3) = true := by simp; omega
          go_wp2_with fail
          go_ret
          exact ⟨rfl, HFIN.out _ (Below.refl _ _)⟩
        · obtain rfl : k = 3 := by omega
          obtain ⟨t, ht, hsum⟩ := hs3 rfl
          have HSUM := Bx.mk hsum
          obtain ⟨b4, o4, e4, hb4, hc4⟩ := CG (by omega)
          cases e4
          have C4 := Bx.mk hc4
          clear hc4 CG hs3 hsum HO HZ HW KD BT hBL D2
          obtain ⟨Wo, hWo⟩ : ∃ Wo, wr = Wo := ⟨_, rfl⟩
          rw [hWo] at C4 hb4 HFIN
          go_wp2_with fail
          try rw [hWo]
          clear hWo
          go_loopw [83] (fun ix wz => ∃ q : Nat, q ≤ t ∧ ix = .int .i64 q ∧ Bx (Below Wo.heap.size Wo wz)) (fun ix _ => 3 - (intOf ix).toNat)
          case atStart => exact ⟨0, by omega, rfl, ⟨Below.refl _ _⟩⟩
          case round =>
            obtain ⟨q, hq, rfl, HL⟩ := hrel
            have hq3 : q < 3 := by omega
            have hq3' : (q : Int) < 3 := by omega
            obtain ⟨p1, hp1⟩ : ∃ p1, (q + 1) % 3 = p1 := ⟨_, rfl⟩
            obtain ⟨p2, hp2⟩ : ∃ p2, (q + 2) % 3 = p2 := ⟨_, rfl⟩
            have r1 : ((q : Int) + 1) % 3 = (p1 : Int) := by omega
            have r2 : ((q : Int) + 2) % 3 = (p2 : Int) := by omega
            have ww1 : IntKind.i64.wrap ((q : Int) + 1) = (q : Int) + 1 := IntWalk.i64_in _ ⟨by omega, by omega⟩
            have ww2 : IntKind.i64.wrap ((q : Int) + 2) = (q : Int) + 2 := IntWalk.i64_in _ ⟨by omega, by omega⟩
            have mm1 : Int.tmod ((q : Int) + 1) 3 = (p1 : Int) := by rw [Int.tmod_eq_emod_of_nonneg (by omega)]; exact r1
            have mm2 : Int.tmod ((q : Int) + 2) 3 = (p2 : Int) := by rw [Int.tmod_eq_emod_of_nonneg (by omega)]; exact r2
            have vv1 : IntKind.i64.wrap (p1 : Int) = (p1 : Int) := IntWalk.i64_in _ ⟨by omega, by omega⟩
            have vv2 : IntKind.i64.wrap (p2 : Int) = (p2 : Int) := IntWalk.i64_in _ ⟨by omega, by omega⟩
            have l1 : p1 < 3 := by omega
            have l2 : p2 < 3 := by omega
            have l1' : (p1 : Int) < 3 := by omega
            have l2' : (p2 : Int) < 3 := by omega
            obtain ⟨a0, a1, a2, a3, a4, a5⟩ := row_six C4.out hb4 HL.out hq3
            obtain ⟨x, hx⟩ : ∃ x, G q = x := ⟨_, rfl⟩
            obtain ⟨u, hu⟩ : ∃ u, G p1 = u := ⟨_, rfl⟩
            obtain ⟨v, hv2⟩ : ∃ v, G p2 = v := ⟨_, rfl⟩
            rw [hx] at a0 a1 a2 a3 a4 a5
            have HU := Bx.mk hu
            have HV := Bx.mk hv2
            obtain ⟨z, hz⟩ : ∃ z, comV u v 1 = z := ⟨_, rfl⟩
            obtain ⟨kz, hkz⟩ : ∃ kz, comE u v 1 = kz := ⟨_, rfl⟩
            have HMz : Bx (∀ w, Calls Tryd.prog 15 #[PV u, PV v] w fun e w' => e = .returned (.tuple #[PV z, .int .i64 kz]) ∧ Below w.heap.size w w') := ⟨fun w => pmul_any u v z kz w hz hkz⟩
            unfold PV at HMz
            have HEND : Bx (q = t → kz = 0 ∧ ∀ j, j < 6 → z j = x j) := ⟨fun e => by
              subst e
              have hs := HSUM.out
              rw [hp1, hp2, hx, hu, hv2] at hs
              have bx := HVG.out q hq3
              have bu := HVG.out p1 l1
              have bv := HVG.out p2 l2
              rw [hx] at bx
              rw [hu] at bu
              rw [hv2] at bv
              have bs : bdB (fun j => u j + v j) 576 = true := bdB_yes.2 fun j hj => by have := bdB_yes.1 bx j hj; rw [hs j hj] at this; exact this
              refine ⟨?_, fun j hj => ?_⟩
              · rw [← hkz]; simp [comE, bu, bv, chkE, bs]
              · rw [← hz]; simp [comV, bu, bv, chkV, bs]; rw [hs j hj]; rfl⟩
            clear hx hu hv2 hz hkz hp1 hp2
            go_wp2_with fail
            clear a0 a1 a2 a3 a4 a5
            have V1 := VT.new wr 23 x
            have B1 := above_new wr (.cells #[.int .i64 (x 0), .int .i64 (x 1), .int .i64 (x 2), .int .i64 (x 3), .int .i64 (x 4), .int .i64 (x 5)] 23)
            have HB1 := Bx.mk (HL.out.trans (B1.mono HL.out.size))
            obtain ⟨xb, hxb⟩ : ∃ xb, wr.heap.size = xb := ⟨_, rfl⟩
            have HV1 := Bx.mk V1
            clear V1 B1
            generalize hW1 : wr.alloc _ = W1
            rw [hW1] at HB1 HV1
            rw [hxb] at HV1 ⊢
            clear hW1 hxb HL
            have HSR : Bx (∀ W, Below W1.heap.size W1 W → W.cell? ⟨b4, o4 + p1 * 6, none⟩ = some (.int .i64 (u 0)) ∧ W.cell? ⟨b4, o4 + p1 * 6 + 1, none⟩ = some (.int .i64 (u 1)) ∧ W.cell? ⟨b4, o4 + p1 * 6 + 2, none⟩ = some (.int .i64 (u 2)) ∧ W.cell? ⟨b4, o4 + p1 * 6 + 3, none⟩ = some (.int .i64 (u 3)) ∧ W.cell? ⟨b4, o4 + p1 * 6 + 4, none⟩ = some (.int .i64 (u 4)) ∧ W.cell? ⟨b4, o4 + p1 * 6 + 5, none⟩ = some (.int .i64 (u 5)) ∧ W.cell? ⟨b4, o4 + p2 * 6, none⟩ = some (.int .i64 (v 0)) ∧ W.cell? ⟨b4, o4 + p2 * 6 + 1, none⟩ = some (.int .i64 (v 1)) ∧ W.cell? ⟨b4, o4 + p2 * 6 + 2, none⟩ = some (.int .i64 (v 2)) ∧ W.cell? ⟨b4, o4 + p2 * 6 + 3, none⟩ = some (.int .i64 (v 3)) ∧ W.cell? ⟨b4, o4 + p2 * 6 + 4, none⟩ = some (.int .i64 (v 4)) ∧ W.cell? ⟨b4, o4 + p2 * 6 + 5, none⟩ = some (.int .i64 (v 5))) := ⟨fun W hW => by
              obtain ⟨a0, a1, a2, a3, a4, a5⟩ := row_six C4.out hb4 (HB1.out.trans (hW.mono HB1.out.size)) l1
              obtain ⟨c0, c1, c2, c3, c4, c5⟩ := row_six C4.out hb4 (HB1.out.trans (hW.mono HB1.out.size)) l2
              rw [HU.out] at a0 a1 a2 a3 a4 a5
              rw [HV.out] at c0 c1 c2 c3 c4 c5
              exact ⟨a0, a1, a2, a3, a4, a5, c0, c1, c2, c3, c4, c5⟩⟩
            go_cut [18, 19] (fun rp kx wx => ∃ rb : Nat, rp = .pointer (some ⟨rb, 0, none⟩) ∧ kx = .int .i64 kz ∧ Bx (Below W1.heap.size W1 wx) ∧ Bx (VT wx rb 23 z))
            case first =>
              have HS1 : W1.drew.cell? ⟨b4, o4 + p1 * 6, none⟩ = some (.int .i64 (u 0)) ∧ W1.drew.cell? ⟨b4, o4 + p1 * 6 + 1, none⟩ = some (.int .i64 (u 1)) ∧ W1.drew.cell? ⟨b4, o4 + p1 * 6 + 2, none⟩ = some (.int .i64 (u 2)) ∧ W1.drew.cell? ⟨b4, o4 + p1 * 6 + 3, none⟩ = some (.int .i64 (u 3)) ∧ W1.drew.cell? ⟨b4, o4 + p1 * 6 + 4, none⟩ = some (.int .i64 (u 4)) ∧ W1.drew.cell? ⟨b4, o4 + p1 * 6 + 5, none⟩ = some (.int .i64 (u 5)) ∧ W1.drew.cell? ⟨b4, o4 + p2 * 6, none⟩ = some (.int .i64 (v 0)) ∧ W1.drew.cell? ⟨b4, o4 + p2 * 6 + 1, none⟩ = some (.int .i64 (v 1)) ∧ W1.drew.cell? ⟨b4, o4 + p2 * 6 + 2, none⟩ = some (.int .i64 (v 2)) ∧ W1.drew.cell? ⟨b4, o4 + p2 * 6 + 3, none⟩ = some (.int .i64 (v 3)) ∧ W1.drew.cell? ⟨b4, o4 + p2 * 6 + 4, none⟩ = some (.int .i64 (v 4)) ∧ W1.drew.cell? ⟨b4, o4 + p2 * 6 + 5, none⟩ = some (.int .i64 (v 5)) := HSR.out _ (Below.refl _ _).drew
              have HS0 : (W1.alloc (.cells #[.int .i64 0, .int .i64 0, .int .i64 0, .int .i64 0, .int .i64 0, .int .i64 0] 23)).drew.cell? ⟨b4, o4 + p1 * 6, none⟩ = some (.int .i64 (u 0)) ∧ (W1.alloc (.cells #[.int .i64 0, .int .i64 0, .int .i64 0, .int .i64 0, .int .i64 0, .int .i64 0] 23)).drew.cell? ⟨b4, o4 + p1 * 6 + 1, none⟩ = some (.int .i64 (u 1)) ∧ (W1.alloc (.cells #[.int .i64 0, .int .i64 0, .int .i64 0, .int .i64 0, .int .i64 0, .int .i64 0] 23)).drew.cell? ⟨b4, o4 + p1 * 6 + 2, none⟩ = some (.int .i64 (u 2)) ∧ (W1.alloc (.cells #[.int .i64 0, .int .i64 0, .int .i64 0, .int .i64 0, .int .i64 0, .int .i64 0] 23)).drew.cell? ⟨b4, o4 + p1 * 6 + 3, none⟩ = some (.int .i64 (u 3)) ∧ (W1.alloc (.cells #[.int .i64 0, .int .i64 0, .int .i64 0, .int .i64 0, .int .i64 0, .int .i64 0] 23)).drew.cell? ⟨b4, o4 + p1 * 6 + 4, none⟩ = some (.int .i64 (u 4)) ∧ (W1.alloc (.cells #[.int .i64 0, .int .i64 0, .int .i64 0, .int .i64 0, .int .i64 0, .int .i64 0] 23)).drew.cell? ⟨b4, o4 + p1 * 6 + 5, none⟩ = some (.int .i64 (u 5)) ∧ (W1.alloc (.cells #[.int .i64 0, .int .i64 0, .int .i64 0, .int .i64 0, .int .i64 0, .int .i64 0] 23)).drew.cell? ⟨b4, o4 + p2 * 6, none⟩ = some (.int .i64 (v 0)) ∧ (W1.alloc (.cells #[.int .i64 0, .int .i64 0, .int .i64 0, .int .i64 0, .int .i64 0, .int .i64 0] 23)).drew.cell? ⟨b4, o4 + p2 * 6 + 1, none⟩ = some (.int .i64 (v 1)) ∧ (W1.alloc (.cells #[.int .i64 0, .int .i64 0, .int .i64 0, .int .i64 0, .int .i64 0, .int .i64 0] 23)).drew.cell? ⟨b4, o4 + p2 * 6 + 2, none⟩ = some (.int .i64 (v 2)) ∧ (W1.alloc (.cells #[.int .i64 0, .int .i64 0, .int .i64 0, .int .i64 0, .int .i64 0, .int .i64 0] 23)).drew.cell? ⟨b4, o4 + p2 * 6 + 3, none⟩ = some (.int .i64 (v 3)) ∧ (W1.alloc (.cells #[.int .i64 0, .int .i64 0, .int .i64 0, .int .i64 0, .int .i64 0, .int .i64 0] 23)).drew.cell? ⟨b4, o4 + p2 * 6 + 4, none⟩ = some (.int .i64 (v 4)) ∧ (W1.alloc (.cells #[.int .i64 0, .int .i64 0, .int .i64 0, .int .i64 0, .int .i64 0, .int .i64 0] 23)).drew.cell? ⟨b4, o4 + p2 * 6 + 5, none⟩ = some (.int .i64 (v 5)) := HSR.out _ (above_new W1 _).drew
              go_region_held3 (fun w' => w'.cell? ⟨b4, o4 + p1 * 6, none⟩ = some (.int .i64 (u 0)) ∧ w'.cell? ⟨b4, o4 + p1 * 6 + 1, none⟩ = some (.int .i64 (u 1)) ∧ w'.cell? ⟨b4, o4 + p1 * 6 + 2, none⟩ = some (.int .i64 (u 2)) ∧ w'.cell? ⟨b4, o4 + p1 * 6 + 3, none⟩ = some (.int .i64 (u 3)) ∧ w'.cell? ⟨b4, o4 + p1 * 6 + 4, none⟩ = some (.int .i64 (u 4)) ∧ w'.cell? ⟨b4, o4 + p1 * 6 + 5, none⟩ = some (.int .i64 (u 5)) ∧ w'.cell? ⟨b4, o4 + p2 * 6, none⟩ = some (.int .i64 (v 0)) ∧ w'.cell? ⟨b4, o4 + p2 * 6 + 1, none⟩ = some (.int .i64 (v 1)) ∧ w'.cell? ⟨b4, o4 + p2 * 6 + 2, none⟩ = some (.int .i64 (v 2)) ∧ w'.cell? ⟨b4, o4 + p2 * 6 + 3, none⟩ = some (.int .i64 (v 3)) ∧ w'.cell? ⟨b4, o4 + p2 * 6 + 4, none⟩ = some (.int .i64 (v 4)) ∧ w'.cell? ⟨b4, o4 + p2 * 6 + 5, none⟩ = some (.int .i64 (v 5)))
                (first
                  | with_reducible exact HS1
                  | with_reducible exact HS0
                  | with_reducible exact HS2
                  | with_reducible exact HS4
                  | with_reducible exact HS5
                  | with_reducible exact HS7
                  | go_keep)
                (first
                  | (go_at_call 15; refine (HMz.out _).mono ?_; rintro e w6 ⟨rfl, k6⟩
                     first
                       | (have k6a : Below W1.drew.heap.size W1.drew w6 := by with_reducible exact k6
                          have K6 : Bx (Below W1.heap.size W1 w6) := ⟨(Below.drew (Below.refl W1.heap.size W1)).trans k6a⟩)
                       | (have k6a : Below (W1.alloc (.cells #[.int .i64 0, .int .i64 0, .int .i64 0, .int .i64 0, .int .i64 0, .int .i64 0] 23)).drew.heap.size (W1.alloc (.cells #[.int .i64 0, .int .i64 0, .int .i64 0, .int .i64 0, .int .i64 0, .int .i64 0] 23)).drew w6 := by with_reducible exact k6
                          have K6 : Bx (Below W1.heap.size W1 w6) := ⟨(Below.drew (above_new W1 (.cells #[.int .i64 0, .int .i64 0, .int .i64 0, .int .i64 0, .int .i64 0, .int .i64 0] 23))).trans (k6a.mono (by simp))⟩
                          have HZ6 : Bx (VT w6 W1.heap.size 23 (fun _ => 0)) := ⟨(VT.new W1 23 (fun _ => 0)).keep (k6a.block _ (VT.new W1 23 (fun _ => 0)).lt)⟩
                          have HS4 : ((((((w6.setCell ⟨W1.heap.size, 0, none⟩ (.int .i64 (z 0))).setCell ⟨W1.heap.size, 1, none⟩ (.int .i64 (z 1))).setCell ⟨W1.heap.size, 2, none⟩ (.int .i64 (z 2))).setCell ⟨W1.heap.size, 3, none⟩ (.int .i64 (z 3))).setCell ⟨W1.heap.size, 4, none⟩ (.int .i64 (z 4))).setCell ⟨W1.heap.size, 5, none⟩ (.int .i64 (z 5))).cell? ⟨b4, o4 + p1 * 6, none⟩ = some (.int .i64 (u 0)) ∧ ((((((w6.setCell ⟨W1.heap.size, 0, none⟩ (.int .i64 (z 0))).setCell ⟨W1.heap.size, 1, none⟩ (.int .i64 (z 1))).setCell ⟨W1.heap.size, 2, none⟩ (.int .i64 (z 2))).setCell ⟨W1.heap.size, 3, none⟩ (.int .i64 (z 3))).setCell ⟨W1.heap.size, 4, none⟩ (.int .i64 (z 4))).setCell ⟨W1.heap.size, 5, none⟩ (.int .i64 (z 5))).cell? ⟨b4, o4 + p1 * 6 + 1, none⟩ = some (.int .i64 (u 1)) ∧ ((((((w6.setCell ⟨W1.heap.size, 0, none⟩ (.int .i64 (z 0))).setCell ⟨W1.heap.size, 1, none⟩ (.int .i64 (z 1))).setCell ⟨W1.heap.size, 2, none⟩ (.int .i64 (z 2))).setCell ⟨W1.heap.size, 3, none⟩ (.int .i64 (z 3))).setCell ⟨W1.heap.size, 4, none⟩ (.int .i64 (z 4))).setCell ⟨W1.heap.size, 5, none⟩ (.int .i64 (z 5))).cell? ⟨b4, o4 + p1 * 6 + 2, none⟩ = some (.int .i64 (u 2)) ∧ ((((((w6.setCell ⟨W1.heap.size, 0, none⟩ (.int .i64 (z 0))).setCell ⟨W1.heap.size, 1, none⟩ (.int .i64 (z 1))).setCell ⟨W1.heap.size, 2, none⟩ (.int .i64 (z 2))).setCell ⟨W1.heap.size, 3, none⟩ (.int .i64 (z 3))).setCell ⟨W1.heap.size, 4, none⟩ (.int .i64 (z 4))).setCell ⟨W1.heap.size, 5, none⟩ (.int .i64 (z 5))).cell? ⟨b4, o4 + p1 * 6 + 3, none⟩ = some (.int .i64 (u 3)) ∧ ((((((w6.setCell ⟨W1.heap.size, 0, none⟩ (.int .i64 (z 0))).setCell ⟨W1.heap.size, 1, none⟩ (.int .i64 (z 1))).setCell ⟨W1.heap.size, 2, none⟩ (.int .i64 (z 2))).setCell ⟨W1.heap.size, 3, none⟩ (.int .i64 (z 3))).setCell ⟨W1.heap.size, 4, none⟩ (.int .i64 (z 4))).setCell ⟨W1.heap.size, 5, none⟩ (.int .i64 (z 5))).cell? ⟨b4, o4 + p1 * 6 + 4, none⟩ = some (.int .i64 (u 4)) ∧ ((((((w6.setCell ⟨W1.heap.size, 0, none⟩ (.int .i64 (z 0))).setCell ⟨W1.heap.size, 1, none⟩ (.int .i64 (z 1))).setCell ⟨W1.heap.size, 2, none⟩ (.int .i64 (z 2))).setCell ⟨W1.heap.size, 3, none⟩ (.int .i64 (z 3))).setCell ⟨W1.heap.size, 4, none⟩ (.int .i64 (z 4))).setCell ⟨W1.heap.size, 5, none⟩ (.int .i64 (z 5))).cell? ⟨b4, o4 + p1 * 6 + 5, none⟩ = some (.int .i64 (u 5)) ∧ ((((((w6.setCell ⟨W1.heap.size, 0, none⟩ (.int .i64 (z 0))).setCell ⟨W1.heap.size, 1, none⟩ (.int .i64 (z 1))).setCell ⟨W1.heap.size, 2, none⟩ (.int .i64 (z 2))).setCell ⟨W1.heap.size, 3, none⟩ (.int .i64 (z 3))).setCell ⟨W1.heap.size, 4, none⟩ (.int .i64 (z 4))).setCell ⟨W1.heap.size, 5, none⟩ (.int .i64 (z 5))).cell? ⟨b4, o4 + p2 * 6, none⟩ = some (.int .i64 (v 0)) ∧ ((((((w6.setCell ⟨W1.heap.size, 0, none⟩ (.int .i64 (z 0))).setCell ⟨W1.heap.size, 1, none⟩ (.int .i64 (z 1))).setCell ⟨W1.heap.size, 2, none⟩ (.int .i64 (z 2))).setCell ⟨W1.heap.size, 3, none⟩ (.int .i64 (z 3))).setCell ⟨W1.heap.size, 4, none⟩ (.int .i64 (z 4))).setCell ⟨W1.heap.size, 5, none⟩ (.int .i64 (z 5))).cell? ⟨b4, o4 + p2 * 6 + 1, none⟩ = some (.int .i64 (v 1)) ∧ ((((((w6.setCell ⟨W1.heap.size, 0, none⟩ (.int .i64 (z 0))).setCell ⟨W1.heap.size, 1, none⟩ (.int .i64 (z 1))).setCell ⟨W1.heap.size, 2, none⟩ (.int .i64 (z 2))).setCell ⟨W1.heap.size, 3, none⟩ (.int .i64 (z 3))).setCell ⟨W1.heap.size, 4, none⟩ (.int .i64 (z 4))).setCell ⟨W1.heap.size, 5, none⟩ (.int .i64 (z 5))).cell? ⟨b4, o4 + p2 * 6 + 2, none⟩ = some (.int .i64 (v 2)) ∧ ((((((w6.setCell ⟨W1.heap.size, 0, none⟩ (.int .i64 (z 0))).setCell ⟨W1.heap.size, 1, none⟩ (.int .i64 (z 1))).setCell ⟨W1.heap.size, 2, none⟩ (.int .i64 (z 2))).setCell ⟨W1.heap.size, 3, none⟩ (.int .i64 (z 3))).setCell ⟨W1.heap.size, 4, none⟩ (.int .i64 (z 4))).setCell ⟨W1.heap.size, 5, none⟩ (.int .i64 (z 5))).cell? ⟨b4, o4 + p2 * 6 + 3, none⟩ = some (.int .i64 (v 3)) ∧ ((((((w6.setCell ⟨W1.heap.size, 0, none⟩ (.int .i64 (z 0))).setCell ⟨W1.heap.size, 1, none⟩ (.int .i64 (z 1))).setCell ⟨W1.heap.size, 2, none⟩ (.int .i64 (z 2))).setCell ⟨W1.heap.size, 3, none⟩ (.int .i64 (z 3))).setCell ⟨W1.heap.size, 4, none⟩ (.int .i64 (z 4))).setCell ⟨W1.heap.size, 5, none⟩ (.int .i64 (z 5))).cell? ⟨b4, o4 + p2 * 6 + 4, none⟩ = some (.int .i64 (v 4)) ∧ ((((((w6.setCell ⟨W1.heap.size, 0, none⟩ (.int .i64 (z 0))).setCell ⟨W1.heap.size, 1, none⟩ (.int .i64 (z 1))).setCell ⟨W1.heap.size, 2, none⟩ (.int .i64 (z 2))).setCell ⟨W1.heap.size, 3, none⟩ (.int .i64 (z 3))).setCell ⟨W1.heap.size, 4, none⟩ (.int .i64 (z 4))).setCell ⟨W1.heap.size, 5, none⟩ (.int .i64 (z 5))).cell? ⟨b4, o4 + p2 * 6 + 5, none⟩ = some (.int .i64 (v 5)) := HSR.out _ (lit_below K6.out (Nat.le_refl _) z)
                          have zc0 := HZ6.out.c0; have zf0 := HZ6.out.f 0; have zc1 := HZ6.out.c1; have zf1 := HZ6.out.f 1; have zc2 := HZ6.out.c2; have zf2 := HZ6.out.f 2; have zc3 := HZ6.out.c3; have zf3 := HZ6.out.f 3; have zc4 := HZ6.out.c4; have zf4 := HZ6.out.f 4; have zc5 := HZ6.out.c5; have zf5 := HZ6.out.f 5)
                     have HS2 : w6.cell? ⟨b4, o4 + p1 * 6, none⟩ = some (.int .i64 (u 0)) ∧ w6.cell? ⟨b4, o4 + p1 * 6 + 1, none⟩ = some (.int .i64 (u 1)) ∧ w6.cell? ⟨b4, o4 + p1 * 6 + 2, none⟩ = some (.int .i64 (u 2)) ∧ w6.cell? ⟨b4, o4 + p1 * 6 + 3, none⟩ = some (.int .i64 (u 3)) ∧ w6.cell? ⟨b4, o4 + p1 * 6 + 4, none⟩ = some (.int .i64 (u 4)) ∧ w6.cell? ⟨b4, o4 + p1 * 6 + 5, none⟩ = some (.int .i64 (u 5)) ∧ w6.cell? ⟨b4, o4 + p2 * 6, none⟩ = some (.int .i64 (v 0)) ∧ w6.cell? ⟨b4, o4 + p2 * 6 + 1, none⟩ = some (.int .i64 (v 1)) ∧ w6.cell? ⟨b4, o4 + p2 * 6 + 2, none⟩ = some (.int .i64 (v 2)) ∧ w6.cell? ⟨b4, o4 + p2 * 6 + 3, none⟩ = some (.int .i64 (v 3)) ∧ w6.cell? ⟨b4, o4 + p2 * 6 + 4, none⟩ = some (.int .i64 (v 4)) ∧ w6.cell? ⟨b4, o4 + p2 * 6 + 5, none⟩ = some (.int .i64 (v 5)) := HSR.out _ K6.out
                     have HS5 : (w6.alloc (.cells #[.int .i64 0, .int .i64 0, .int .i64 0, .int .i64 0, .int .i64 0, .int .i64 0] 23)).cell? ⟨b4, o4 + p1 * 6, none⟩ = some (.int .i64 (u 0)) ∧ (w6.alloc (.cells #[.int .i64 0, .int .i64 0, .int .i64 0, .int .i64 0, .int .i64 0, .int .i64 0] 23)).cell? ⟨b4, o4 + p1 * 6 + 1, none⟩ = some (.int .i64 (u 1)) ∧ (w6.alloc (.cells #[.int .i64 0, .int .i64 0, .int .i64 0, .int .i64 0, .int .i64 0, .int .i64 0] 23)).cell? ⟨b4, o4 + p1 * 6 + 2, none⟩ = some (.int .i64 (u 2)) ∧ (w6.alloc (.cells #[.int .i64 0, .int .i64 0, .int .i64 0, .int .i64 0, .int .i64 0, .int .i64 0] 23)).cell? ⟨b4, o4 + p1 * 6 + 3, none⟩ = some (.int .i64 (u 3)) ∧ (w6.alloc (.cells #[.int .i64 0, .int .i64 0, .int .i64 0, .int .i64 0, .int .i64 0, .int .i64 0] 23)).cell? ⟨b4, o4 + p1 * 6 + 4, none⟩ = some (.int .i64 (u 4)) ∧ (w6.alloc (.cells #[.int .i64 0, .int .i64 0, .int .i64 0, .int .i64 0, .int .i64 0, .int .i64 0] 23)).cell? ⟨b4, o4 + p1 * 6 + 5, none⟩ = some (.int .i64 (u 5)) ∧ (w6.alloc (.cells #[.int .i64 0, .int .i64 0, .int .i64 0, .int .i64 0, .int .i64 0, .int .i64 0] 23)).cell? ⟨b4, o4 + p2 * 6, none⟩ = some (.int .i64 (v 0)) ∧ (w6.alloc (.cells #[.int .i64 0, .int .i64 0, .int .i64 0, .int .i64 0, .int .i64 0, .int .i64 0] 23)).cell? ⟨b4, o4 + p2 * 6 + 1, none⟩ = some (.int .i64 (v 1)) ∧ (w6.alloc (.cells #[.int .i64 0, .int .i64 0, .int .i64 0, .int .i64 0, .int .i64 0, .int .i64 0] 23)).cell? ⟨b4, o4 + p2 * 6 + 2, none⟩ = some (.int .i64 (v 2)) ∧ (w6.alloc (.cells #[.int .i64 0, .int .i64 0, .int .i64 0, .int .i64 0, .int .i64 0, .int .i64 0] 23)).cell? ⟨b4, o4 + p2 * 6 + 3, none⟩ = some (.int .i64 (v 3)) ∧ (w6.alloc (.cells #[.int .i64 0, .int .i64 0, .int .i64 0, .int .i64 0, .int .i64 0, .int .i64 0] 23)).cell? ⟨b4, o4 + p2 * 6 + 4, none⟩ = some (.int .i64 (v 4)) ∧ (w6.alloc (.cells #[.int .i64 0, .int .i64 0, .int .i64 0, .int .i64 0, .int .i64 0, .int .i64 0] 23)).cell? ⟨b4, o4 + p2 * 6 + 5, none⟩ = some (.int .i64 (v 5)) := HSR.out _ (K6.out.trans ((above_new w6 _).mono K6.out.size))
                     have HS7 : (w6.alloc (.cells #[.int .i64 (z 0), .int .i64 (z 1), .int .i64 (z 2), .int .i64 (z 3), .int .i64 (z 4), .int .i64 (z 5)] 23)).cell? ⟨b4, o4 + p1 * 6, none⟩ = some (.int .i64 (u 0)) ∧ (w6.alloc (.cells #[.int .i64 (z 0), .int .i64 (z 1), .int .i64 (z 2), .int .i64 (z 3), .int .i64 (z 4), .int .i64 (z 5)] 23)).cell? ⟨b4, o4 + p1 * 6 + 1, none⟩ = some (.int .i64 (u 1)) ∧ (w6.alloc (.cells #[.int .i64 (z 0), .int .i64 (z 1), .int .i64 (z 2), .int .i64 (z 3), .int .i64 (z 4), .int .i64 (z 5)] 23)).cell? ⟨b4, o4 + p1 * 6 + 2, none⟩ = some (.int .i64 (u 2)) ∧ (w6.alloc (.cells #[.int .i64 (z 0), .int .i64 (z 1), .int .i64 (z 2), .int .i64 (z 3), .int .i64 (z 4), .int .i64 (z 5)] 23)).cell? ⟨b4, o4 + p1 * 6 + 3, none⟩ = some (.int .i64 (u 3)) ∧ (w6.alloc (.cells #[.int .i64 (z 0), .int .i64 (z 1), .int .i64 (z 2), .int .i64 (z 3), .int .i64 (z 4), .int .i64 (z 5)] 23)).cell? ⟨b4, o4 + p1 * 6 + 4, none⟩ = some (.int .i64 (u 4)) ∧ (w6.alloc (.cells #[.int .i64 (z 0), .int .i64 (z 1), .int .i64 (z 2), .int .i64 (z 3), .int .i64 (z 4), .int .i64 (z 5)] 23)).cell? ⟨b4, o4 + p1 * 6 + 5, none⟩ = some (.int .i64 (u 5)) ∧ (w6.alloc (.cells #[.int .i64 (z 0), .int .i64 (z 1), .int .i64 (z 2), .int .i64 (z 3), .int .i64 (z 4), .int .i64 (z 5)] 23)).cell? ⟨b4, o4 + p2 * 6, none⟩ = some (.int .i64 (v 0)) ∧ (w6.alloc (.cells #[.int .i64 (z 0), .int .i64 (z 1), .int .i64 (z 2), .int .i64 (z 3), .int .i64 (z 4), .int .i64 (z 5)] 23)).cell? ⟨b4, o4 + p2 * 6 + 1, none⟩ = some (.int .i64 (v 1)) ∧ (w6.alloc (.cells #[.int .i64 (z 0), .int .i64 (z 1), .int .i64 (z 2), .int .i64 (z 3), .int .i64 (z 4), .int .i64 (z 5)] 23)).cell? ⟨b4, o4 + p2 * 6 + 2, none⟩ = some (.int .i64 (v 2)) ∧ (w6.alloc (.cells #[.int .i64 (z 0), .int .i64 (z 1), .int .i64 (z 2), .int .i64 (z 3), .int .i64 (z 4), .int .i64 (z 5)] 23)).cell? ⟨b4, o4 + p2 * 6 + 3, none⟩ = some (.int .i64 (v 3)) ∧ (w6.alloc (.cells #[.int .i64 (z 0), .int .i64 (z 1), .int .i64 (z 2), .int .i64 (z 3), .int .i64 (z 4), .int .i64 (z 5)] 23)).cell? ⟨b4, o4 + p2 * 6 + 4, none⟩ = some (.int .i64 (v 4)) ∧ (w6.alloc (.cells #[.int .i64 (z 0), .int .i64 (z 1), .int .i64 (z 2), .int .i64 (z 3), .int .i64 (z 4), .int .i64 (z 5)] 23)).cell? ⟨b4, o4 + p2 * 6 + 5, none⟩ = some (.int .i64 (v 5)) := HSR.out _ (K6.out.trans ((above_new w6 _).mono K6.out.size))))
              all_goals go_wp2_with fail
              all_goals go_meet
              · exact ⟨w6.heap.size, rfl, rfl, ⟨K6.out.trans ((above_new w6 (.cells #[.int .i64 (z 0), .int .i64 (z 1), .int .i64 (z 2), .int .i64 (z 3), .int .i64 (z 4), .int .i64 (z 5)] 23)).mono K6.out.size)⟩, ⟨VT.new w6 23 z⟩⟩
              · exact ⟨W1.heap.size, rfl, rfl, ⟨lit_below K6.out (Nat.le_refl _) z⟩, ⟨HZ6.out.lit z⟩⟩
            case rest =>
              obtain ⟨rb, rfl, rfl, KB, ZB⟩ := hcut
              have JB := Bx.mk (HB1.out.trans (KB.out.mono HB1.out.size))
              have VX := HV1.out.keep (KB.out.block xb HV1.out.lt)
              have x0 := VX.c0; have x1 := VX.c1; have x2 := VX.c2; have x3 := VX.c3; have x4 := VX.c4; have x5 := VX.c5
              have z0 := ZB.out.c0; have z1 := ZB.out.c1; have z2 := ZB.out.c2; have z3 := ZB.out.c3; have z4 := ZB.out.c4; have z5 := ZB.out.c5
              clear VX
              by_cases hk0 : kz = 0
              · obtain ⟨b5, hb5⟩ := bool_of (∀ j, j < 6 → z j = x j)
                have E := eq6_is 23 und_pitch z x b5 hb5
                unfold PV at E
                have HB5 := Bx.mk hb5
                clear hb5
                cases b5 with
                | true =>
                  go_wp2_with fail
                  go_ret
                  exact ⟨rfl, HFIN.out _ JB.out⟩
                | false =>
                  have hqt : q < t := by
                    refine Nat.lt_of_le_of_ne hq fun e => ?_
                    have := HB5.out.2 (HEND.out e).2
                    cases this
                  go_wp2_with fail
                  first
                    | exact ⟨⟨q + 1, by omega, by go_num, JB⟩, by simp [intOf]; omega⟩
                    | exact ⟨⟨_, _, _, _, _, _, _, _, _, _, _, _, _, _, _, _, _, _, _, _, ⟨q + 1, by omega, by go_num, JB⟩, rfl⟩, by simp [intOf]; omega⟩
                    | exact ⟨⟨_, _, _, _, _, _, _, _, _, _, _, _, _, _, _, _, _, _, _, _, _, ⟨q + 1, by omega, by go_num, JB⟩, rfl⟩, by simp [intOf]; omega⟩
                    | exact ⟨⟨_, _, _, _, _, _, _, _, _, _, _, _, _, _, _, _, _, _, _, _, _, _, ⟨q + 1, by omega, by go_num, JB⟩, rfl⟩, by simp [intOf]; omega⟩
                    | exact ⟨⟨_, _, _, _, _, _, _, _, _, _, _, _, _, _, _, _, _, _, _, _, _, _, _, ⟨q + 1, by omega, by go_num, JB⟩, rfl⟩, by simp [intOf]; omega⟩
                    | exact ⟨⟨_, _, _, _, _, _, _, _, _, _, _, _, _, _, _, _, _, _, _, _, _, _, _, _, ⟨q + 1, by omega, by go_num, JB⟩, rfl⟩, by simp [intOf]; omega⟩
                    | exact ⟨⟨_, _, _, _, _, _, _, _, _, _, _, _, _, _, _, _, _, _, _, _, _, _, _, _, _, ⟨q + 1, by omega, by go_num, JB⟩, rfl⟩, by simp [intOf]; omega⟩
                    | exact ⟨⟨_, _, _, _, _, _, _, _, _, _, _, _, _, _, _, _, _, _, _, _, _, _, _, _, _, _, ⟨q + 1, by omega, by go_num, JB⟩, rfl⟩, by simp [intOf]; omega⟩
                    | exact ⟨⟨_, _, _, _, _, _, _, _, _, _, _, _, _, _, _, _, _, _, _, _, _, _, _, _, _, _, _, ⟨q + 1, by omega, by go_num, JB⟩, rfl⟩, by simp [intOf]; omega⟩
                    | exact ⟨⟨_, _, _, _, _, _, _, _, _, _, _, _, _, _, _, _, _, _, _, _, _, _, _, _, _, _, _, _, ⟨q + 1, by omega, by go_num, JB⟩, rfl⟩, by simp [intOf]; omega⟩
                    | exact ⟨⟨_, _, _, _, _, _, _, _, _, _, _, _, _, _, _, _, _, _, _, _, _, _, _, _, _, _, _, _, _, ⟨q + 1, by omega, by go_num, JB⟩, rfl⟩, by simp [intOf]; omega⟩
                    | exact ⟨⟨_, _, _, _, _, _, _, _, _, _, _, _, _, _, _, _, _, _, _, _, _, _, _, _, _, _, _, _, _, _, ⟨q + 1, by omega, by go_num, JB⟩, rfl⟩, by simp [intOf]; omega⟩
                    | exact ⟨⟨_, _, _, _, _, _, _, _, _, _, _, _, _, _, _, _, _, _, _, _, _, _, _, _, _, _, _, _, _, _, _, ⟨q + 1, by omega, by go_num, JB⟩, rfl⟩, by simp [intOf]; omega⟩
                    | exact ⟨⟨_, _, _, _, _, _, _, _, _, _, _, _, _, _, _, _, _, _, _, _, _, _, _, _, _, _, _, _, _, _, _, _, ⟨q + 1, by omega, by go_num, JB⟩, rfl⟩, by simp [intOf]; omega⟩
                    | exact ⟨⟨_, _, _, _, _, _, _, _, _, _, _, _, _, _, _, _, _, _, _, _, _, _, _, _, _, _, _, _, _, _, _, _, _, ⟨q + 1, by omega, by go_num, JB⟩, rfl⟩, by simp [intOf]; omega⟩
                    | exact ⟨⟨_, _, _, _, _, _, _, _, _, _, _, _, _, _, _, _, _, _, _, _, _, _, _, _, _, _, _, _, _, _, _, _, _, _, ⟨q + 1, by omega, by go_num, JB⟩, rfl⟩, by simp [intOf]; omega⟩
                    | exact ⟨⟨_, _, _, _, _, _, _, _, _, _, _, _, _, _, _, _, _, _, _, _, _, _, _, _, _, _, _, _, _, _, _, _, _, _, _, ⟨q + 1, by omega, by go_num, JB⟩, rfl⟩, by simp [intOf]; omega⟩
                    | exact ⟨⟨_, _, _, _, _, _, _, _, _, _, _, _, _, _, _, _, _, _, _, _, _, _, _, _, _, _, _, _, _, _, _, _, _, _, _, _, ⟨q + 1, by omega, by go_num, JB⟩, rfl⟩, by simp [intOf]; omega⟩
                    | exact ⟨⟨_, _, _, _, _, _, _, _, _, _, _, _, _, _, _, _, _, _, _, _, _, _, _, _, _, _, _, _, _, _, _, _, _, _, _, _, _, ⟨q + 1, by omega, by go_num, JB⟩, rfl⟩, by simp [intOf]; omega⟩
                    | exact ⟨⟨_, _, _, _, _, _, _, _, _, _, _, _, _, _, _, _, _, _, _, _, _, _, _, _, _, _, _, _, _, _, _, _, _, _, _, _, _, _, ⟨q + 1, by omega, by go_num, JB⟩, rfl⟩, by simp [intOf]; omega⟩
                    | exact ⟨⟨_, _, _, _, _, _, _, _, _, _, _, _, _, _, _, _, _, _, _, _, _, _, _, _, _, _, _, _, _, _, _, _, _, _, _, _, _, _, _, ⟨q + 1, by omega, by go_num, JB⟩, rfl⟩, by simp [intOf]; omega⟩
                    | exact ⟨⟨_, _, _, _, _, _, _, _, _, _, _, _, _, _, _, _, _, _, _, _, _, _, _, _, _, _, _, _, _, _, _, _, _, _, _, _, _, _, _, _, ⟨q + 1, by omega, by go_num, JB⟩, rfl⟩, by simp [intOf]; omega⟩
                    | exact ⟨⟨_, _, _, _, _, _, _, _, _, _, _, _, _, _, _, _, _, _, _, _, _, _, _, _, _, _, _, _, _, _, _, _, _, _, _, _, _, _, _, _, _, ⟨q + 1, by omega, by go_num, JB⟩, rfl⟩, by simp [intOf]; omega⟩
                    | exact ⟨⟨_, _, _, _, _, _, _, _, _, _, _, _, _, _, _, _, _, _, _, _, _, _, _, _, _, _, _, _, _, _, _, _, _, _, _, _, _, _, _, _, _, _, ⟨q + 1, by omega, by go_num, JB⟩, rfl⟩, by simp [intOf]; omega⟩
                    | exact ⟨⟨_, _, _, _, _, _, _, _, _, _, _, _, _, _, _, _, _, _, _, _, _, _, _, _, _, _, _, _, _, _, _, _, _, _, _, _, _, _, _, _, _, _, _, ⟨q + 1, by omega, by go_num, JB⟩, rfl⟩, by simp [intOf]; omega⟩
                    | exact ⟨⟨_, _, _, _, _, _, _, _, _, _, _, _, _, _, _, _, _, _, _, _, _, _, _, _, _, _, _, _, _, _, _, _, _, _, _, _, _, _, _, _, _, _, _, _, ⟨q + 1, by omega, by go_num, JB⟩, rfl⟩, by simp [intOf]; omega⟩
                    | exact ⟨⟨_, _, _, _, _, _, _, _, _, _, _, _, _, _, _, _, _, _, _, _, _, _, _, _, _, _, _, _, _, _, _, _, _, _, _, _, _, _, _, _, _, _, _, _, _, ⟨q + 1, by omega, by go_num, JB⟩, rfl⟩, by simp [intOf]; omega⟩
              · have hk' : (kz == 0) = false := by simp [hk0]
                have hqt : q < t := Nat.lt_of_le_of_ne hq fun e => hk0 (HEND.out e).1
                go_wp2_with fail
                first
                  | exact ⟨⟨q + 1, by omega, by go_num, JB⟩, by simp [intOf]; omega⟩
                  | exact ⟨⟨_, _, _, _, _, _, _, _, _, _, _, _, _, _, _, _, _, _, _, _, ⟨q + 1, by omega, by go_num, JB⟩, rfl⟩, by simp [intOf]; omega⟩
                  | exact ⟨⟨_, _, _, _, _, _, _, _, _, _, _, _, _, _, _, _, _, _, _, _, _, ⟨q + 1, by omega, by go_num, JB⟩, rfl⟩, by simp [intOf]; omega⟩
                  | exact ⟨⟨_, _, _, _, _, _, _, _, _, _, _, _, _, _, _, _, _, _, _, _, _, _, ⟨q + 1, by omega, by go_num, JB⟩, rfl⟩, by simp [intOf]; omega⟩
                  | exact ⟨⟨_, _, _, _, _, _, _, _, _, _, _, _, _, _, _, _, _, _, _, _, _, _, _, ⟨q + 1, by omega, by go_num, JB⟩, rfl⟩, by simp [intOf]; omega⟩
                  | exact ⟨⟨_, _, _, _, _, _, _, _, _, _, _, _, _, _, _, _, _, _, _, _, _, _, _, _, ⟨q + 1, by omega, by go_num, JB⟩, rfl⟩, by simp [intOf]; omega⟩
                  | exact ⟨⟨_, _, _, _, _, _, _, _, _, _, _, _, _, _, _, _, _, _, _, _, _, _, _, _, _, ⟨q + 1, by omega, by go_num, JB⟩, rfl⟩, by simp [intOf]; omega⟩
                  | exact ⟨⟨_, _, _, _, _, _, _, _, _, _, _, _, _, _, _, _, _, _, _, _, _, _, _, _, _, _, ⟨q + 1, by omega, by go_num, JB⟩, rfl⟩, by simp [intOf]; omega⟩
                  | exact ⟨⟨_, _, _, _, _, _, _, _, _, _, _, _, _, _, _, _, _, _, _, _, _, _, _, _, _, _, _, ⟨q + 1, by omega, by go_num, JB⟩, rfl⟩, by simp [intOf]; omega⟩
                  | exact ⟨⟨_, _, _, _, _, _, _, _, _, _, _, _, _, _, _, _, _, _, _, _, _, _, _, _, _, _, _, _, ⟨q + 1, by omega, by go_num, JB⟩, rfl⟩, by simp [intOf]; omega⟩
                  | exact ⟨⟨_, _, _, _, _, _, _, _, _, _, _, _, _, _, _, _, _, _, _, _, _, _, _, _, _, _, _, _, _, ⟨q + 1, by omega, by go_num, JB⟩, rfl⟩, by simp [intOf]; omega⟩
                  | exact ⟨⟨_, _, _, _, _, _, _, _, _, _, _, _, _, _, _, _, _, _, _, _, _, _, _, _, _, _, _, _, _, _, ⟨q + 1, by omega, by go_num, JB⟩, rfl⟩, by simp [intOf]; omega⟩
                  | exact ⟨⟨_, _, _, _, _, _, _, _, _, _, _, _, _, _, _, _, _, _, _, _, _, _, _, _, _, _, _, _, _, _, _, ⟨q + 1, by omega, by go_num, JB⟩, rfl⟩, by simp [intOf]; omega⟩
                  | exact ⟨⟨_, _, _, _, _, _, _, _, _, _, _, _, _, _, _, _, _, _, _, _, _, _, _, _, _, _, _, _, _, _, _, _, ⟨q + 1, by omega, by go_num, JB⟩, rfl⟩, by simp [intOf]; omega⟩
                  | exact ⟨⟨_, _, _, _, _, _, _, _, _, _, _, _, _, _, _, _, _, _, _, _, _, _, _, _, _, _, _, _, _, _, _, _, _, ⟨q + 1, by omega, by go_num, JB⟩, rfl⟩, by simp [intOf]; omega⟩
                  | exact ⟨⟨_, _, _, _, _, _, _, _, _, _, _, _, _, _, _, _, _, _, _, _, _, _, _, _, _, _, _, _, _, _, _, _, _, _, ⟨q + 1, by omega, by go_num, JB⟩, rfl⟩, by simp [intOf]; omega⟩
                  | exact ⟨⟨_, _, _, _, _, _, _, _, _, _, _, _, _, _, _, _, _, _, _, _, _, _, _, _, _, _, _, _, _, _, _, _, _, _, _, ⟨q + 1, by omega, by go_num, JB⟩, rfl⟩, by simp [intOf]; omega⟩
                  | exact ⟨⟨_, _, _, _, _, _, _, _, _, _, _, _, _, _, _, _, _, _, _, _, _, _, _, _, _, _, _, _, _, _, _, _, _, _, _, _, ⟨q + 1, by omega, by go_num, JB⟩, rfl⟩, by simp [intOf]; omega⟩
                  | exact ⟨⟨_, _, _, _, _, _, _, _, _, _, _, _, _, _, _, _, _, _, _, _, _, _, _, _, _, _, _, _, _, _, _, _, _, _, _, _, _, ⟨q + 1, by omega, by go_num, JB⟩, rfl⟩, by simp [intOf]; omega⟩
                  | exact ⟨⟨_, _, _, _, _, _, _, _, _, _, _, _, _, _, _, _, _, _, _, _, _, _, _, _, _, _, _, _, _, _, _, _, _, _, _, _, _, _, ⟨q + 1, by omega, by go_num, JB⟩, rfl⟩, by simp [intOf]; omega⟩
                  | exact ⟨⟨_, _, _, _, _, _, _, _, _, _, _, _, _, _, _, _, _, _, _, _, _, _, _, _, _, _, _, _, _, _, _, _, _, _, _, _, _, _, _, ⟨q + 1, by omega, by go_num, JB⟩, rfl⟩, by simp [intOf]; omega⟩
                  | exact ⟨⟨_, _, _, _, _, _, _, _, _, _, _, _, _, _, _, _, _, _, _, _, _, _, _, _, _, _, _, _, _, _, _, _, _, _, _, _, _, _, _, _, ⟨q + 1, by omega, by go_num, JB⟩, rfl⟩, by simp [intOf]; omega⟩
                  | exact ⟨⟨_, _, _, _, _, _, _, _, _, _, _, _, _, _, _, _, _, _, _, _, _, _, _, _, _, _, _, _, _, _, _, _, _, _, _, _, _, _, _, _, _, ⟨q + 1, by omega, by go_num, JB⟩, rfl⟩, by simp [intOf]; omega⟩
                  | exact ⟨⟨_, _, _, _, _, _, _, _, _, _, _, _, _, _, _, _, _, _, _, _, _, _, _, _, _, _, _, _, _, _, _, _, _, _, _, _, _, _, _, _, _, _, ⟨q + 1, by omega, by go_num, JB⟩, rfl⟩, by simp [intOf]; omega⟩
                  | exact ⟨⟨_, _, _, _, _, _, _, _, _, _, _, _, _, _, _, _, _, _, _, _, _, _, _, _, _, _, _, _, _, _, _, _, _, _, _, _, _, _, _, _, _, _, _, ⟨q + 1, by omega, by go_num, JB⟩, rfl⟩, by simp [intOf]; omega⟩
                  | exact ⟨⟨_, _, _, _, _, _, _, _, _, _, _, _, _, _, _, _, _, _, _, _, _, _, _, _, _, _, _, _, _, _, _, _, _, _, _, _, _, _, _, _, _, _, _, _, ⟨q + 1, by omega, by go_num, JB⟩, rfl⟩, by simp [intOf]; omega⟩
                  | exact ⟨⟨_, _, _, _, _, _, _, _, _, _, _, _, _, _, _, _, _, _, _, _, _, _, _, _, _, _, _, _, _, _, _, _, _, _, _, _, _, _, _, _, _, _, _, _, _, ⟨q + 1, by omega, by go_num, JB⟩, rfl⟩, by simp [intOf]; omega⟩
  · replace S := Bx.mk (S.out.call hb)
    clear hb
    go_wp2_with fail
    go_ret
    exact ⟨rfl, S.out.bl⟩
theorem sgaps_all (g : Nat → Int) (n : Int) (w : World) (hs : Sm w) :
    Calls Tryd.prog 4 #[PV g, .int .i64 n] w fun e w' => e = .returned (.bool true) ∧ Below w.heap.size w w' := by
  by_cases h : 24 < n
  · exact sg3_n g n w hs h
  cases chain_any g n with
  | err c hc H => exact sg3_err g n w hs h c hc ⟨H⟩ ⟨fun w hs => steps_bad none 0 0 (fun _ _ => 0) w (by decide) (by decide) (fun h => absurd h (by omega)) hs (fun h => absurd h.pos (by omega))⟩
  | ok m Q e h0 h64 hg hok hd =>
    subst e
    exact sg3_ok g m w hs h h0 Q ⟨hok⟩ ⟨chain_chn h0 hok hd⟩ ⟨fun w hs => chain_ok g m Q w hs hg h0 h64 hok hd⟩
end Go.Proofs.YtomgihlkbmaleaaDoor

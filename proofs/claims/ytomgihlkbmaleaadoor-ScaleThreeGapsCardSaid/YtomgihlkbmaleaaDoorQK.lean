/- The program's scale: Mode. -/
import Derived.Test.YtomgihlkbmaleaaDoorQJ
namespace Go.Proofs.YtomgihlkbmaleaaDoor
open Go.RowKit M
/-- The pitches of the mode of degree d, where k degrees stand from it on. -/
def md (M : Nat → Nat → Int) (d k i : Nat) : Nat → Int := fun j => if i < k then M (d + i) j - M d j else M (i - k) j + oc 1 j - M d j
set_option maxRecDepth 100000 in
set_option maxHeartbeats 16000000 in
theorem mode_loop (b o d k c : Nat) (M : Nat → Nat → Int) (w : World) (hk0 : 0 < k) (hn : d + k ≤ 64) (hcn : d + k ≤ c) (hcm : c ≤ maxLen) (hb : b < w.heap.size) (hcr : ∀ i j, i < d + k → j < 6 → w.cell? ⟨b, o + i * 6 + j, none⟩ = some (.int .i64 (M i j))) (hs : Sm w) (hv : SV M (d + k)) (r : Bool) (hr : r = true ↔ ∀ i, i < d + k → bdB (md M d k i) 576 = true) :
    Calls Tryd.prog 17 #[.slice (some ⟨b, o, none⟩) (d + k : Nat) c, .int .i64 d] w fun e w' => if r then ListR w (d + k) (md M d k) e w' else NilR w 3 e w' := by
  obtain ⟨ti, hti, hti2⟩ := Option.map_eq_some_iff.1 info_pitch2
  simp only [Prod.mk.injEq] at hti2
  obtain ⟨hz0, hz1, hz2⟩ := hti2
  obtain ⟨n, hnk⟩ : ∃ n, d + k = n := ⟨_, rfl⟩
  rw [hnk] at hn hcn hcr hv hr ⊢
  have HNK := Bx.mk hnk
  have HTI := Bx.mk hti
  have HC := Bx.mk hcr
  have hS : CV w (some ⟨b, o, none⟩) n M := fun _ => ⟨b, o, rfl, hb, hcr⟩
  have HS := Bx.mk hS
  have HM := Bx.mk hs
  have HR := Bx.mk hr
  have HB : Bx (∀ i, i < n → inB (M i) 576) := ⟨fun i hi => bdB_yes.1 (lwB_iff.1 (hv.up i hi)).1⟩
  have V1 := Bx.mk (svalid_any (some ⟨b, o, none⟩) n c M (by omega) hcn true (by simp [hv]))
  have hd0 : ¬ (d : Int) < 0 := by omega
  have hd1 : ¬ (d : Int) ≥ (n : Int) := by omega
  have hd2 : (d : Int) ≤ (n : Int) := by omega
  have hd3 : (d : Int) < (n : Int) := by omega
  have hcd : (d : Int) ≤ (c : Int) := by omega
  have hnc : (n : Int) ≤ (c : Int) := by omega
  have hdn : d < n := by omega
  have hde1 : decide (n ≤ d) = false := by simp; omega
  have hde0 : decide ((d : Int) < 0) = false := by simp <;> omega
  have hk64 : k ≤ 64 := by omega
  have hd64 : d ≤ 64 := by omega
  clear hti hcr hS hs hv hr hnk
  go_enter Tryd.func17, Tryd.ntmps17
  go_wp2_with (go_at_call 19; refine (V1.out w HS.out HM.out).mono ?_; rintro e w1 ⟨rfl, hb1⟩)
  have B1 := Bx.mk hb1
  clear hb1
  rw [show n - d = k by have := HNK.out; omega]
  go_loopw [6, 28] (fun v ix wr => ∃ i : Nat, i ≤ k ∧ ix = .int .i64 i ∧ Bx (Below w.heap.size w wr) ∧ Bx (wr.ownsRow w.heap.size 23 6 v i (rowsL (md M d k) i))) (fun _ ix _ => k - (intOf ix).toNat)
  case atStart => exact ⟨0, by omega, rfl, B1, ⟨World.ownsRow_nil _ _ _ _⟩⟩
  case round =>
    obtain ⟨i, hi, rfl, HW, HO⟩ := hrel
    by_cases hin : i < k
    · have hin' : (i : Int) < (k : Int) := by omega
      have hdi : d + i < n := by have := HNK.out; omega
      obtain ⟨a0, a1, a2, a3, a4, a5⟩ := row_six HC.out hb HW.out hdi
      rw [show o + (d + i) * 6 = o + d * 6 + i * 6 by omega] at a0 a1 a2 a3 a4 a5
      obtain ⟨x, hx⟩ : ∃ x, M (d + i) = x := ⟨_, rfl⟩
      rw [hx] at a0 a1 a2 a3 a4 a5
      have hxb := HB.out (d + i) hdi
      rw [hx] at hxb
      go_wp2_with fail
      clear a0 a1 a2 a3 a4 a5
      generalize hW1 : World.alloc wr _ = W1
      have HB1 : Bx (Below w.heap.size w W1) := ⟨hW1 ▸ HW.out.alloc HW.out.size _⟩
      have HP : Bx (VT W1 wr.heap.size 23 x) := ⟨hW1 ▸ VT.new wr 23 x⟩
      have HO1 : Bx (W1.ownsRow w.heap.size 23 6 u6 i (rowsL (md M d k) i)) := ⟨hW1 ▸ own_keep HO.out fun k _ hk => Below.heap_alloc _ _ _ hk⟩
      have hlt : wr.heap.size < W1.heap.size := HP.out.lt
      have hws : w.heap.size ≤ W1.heap.size := HB1.out.size
      clear hW1
      have q0 := HP.out.c0; have q1 := HP.out.c1; have q2 := HP.out.c2; have q3 := HP.out.c3; have q4 := HP.out.c4; have q5 := HP.out.c5
      obtain ⟨y0, y1, y2, y3, y4, y5⟩ := row_six HC.out hb HB1.out hdn
      obtain ⟨y, hy⟩ : ∃ y, M d = y := ⟨_, rfl⟩
      rw [hy] at y0 y1 y2 y3 y4 y5
      have hyb := HB.out d hdn
      rw [hy] at hyb
      obtain ⟨z, hz⟩ : ∃ z : Nat → Int, (fun j => x j - y j) = z := ⟨_, rfl⟩
      have HZ : Bx (∀ j, j < 6 → md M d k i j = z j) := ⟨fun j _ => by unfold md; rw [if_pos hin, hx, hy, ← hz]⟩
      have HQ : Bx (∀ w, Calls Tryd.prog 32 #[PV x, PV y] w fun e w' => e = .returned (PV z) ∧ Below w.heap.size w w') := ⟨fun w => quot_any x y z (fun k _ => by rw [← hz]) (fun k hk => by have := hxb k hk; omega) (fun k hk => by have := hyb k hk; omega) w⟩
      unfold PV at HQ
      clear hz hxb hyb hx
      go_region_law (first
        | (refine step_go_call2 rfl 32 #[.agg #[.int .i64 (x 0), .int .i64 (x 1), .int .i64 (x 2), .int .i64 (x 3), .int .i64 (x 4), .int .i64 (x 5)], .agg #[.int .i64 (y 0), .int .i64 (y 1), .int .i64 (y 2), .int .i64 (y 3), .int .i64 (y 4), .int .i64 (y 5)]] (.agg #[.int .i64 (z 0), .int .i64 (z 1), .int .i64 (z 2), .int .i64 (z 3), .int .i64 (z 4), .int .i64 (z 5)]) (fun w3 => Below W1.heap.size W1 w3) (by simp [execOp, resolve, invoke, go_sem]) ((HQ.out _).mono fun e w' h => ⟨h.1, (Below.refl W1.heap.size W1).drew.trans h.2⟩) ?_
           intro w3 B3
           have s3 := B3.size
           have HB3 : Bx (Below w.heap.size w w3) := ⟨HB1.out.trans (B3.mono hws)⟩
           have O3 := own_keep HO1.out (w' := w3) (fun k e hk => B3.block k hk)
           have OA := fun (o : Obj) => own_keep O3 (w' := w3.alloc o) (fun k _ hk => Below.heap_alloc _ _ _ hk)
           have OZ : ∀ o : Obj, w.heap.size ≤ (w3.alloc o).heap.size := fun o => by rw [World.size_alloc]; omega
           have HB4 : ∀ o : Obj, Below w.heap.size w (w3.alloc o) := fun o => HB3.out.alloc (by omega) o)
        | (refine step_append_fresh rfl (.tmp 32) (.tmp 39) 32 rfl w.heap.size 23 ti (.agg #[.int .i64 0, .int .i64 0, .int .i64 0, .int .i64 0, .int .i64 0, .int .i64 0]) 6 48 Tryd.underlying32 HTI.out hz0 hz1 hz2 rfl (by decide) u6 i _ rfl (OA _) _ 1 _ (rowsL (fun _ => z) 1) rfl (rowsL_length _ _) (by intro h; cases h) (news_pitch w3 z) (rowsL_one _ _) (by unfold maxLen; omega) (by omega) (OZ _) ?_
           intro v8 w8 ho8 hg8 hf8
           rw [rowsL_more HZ.out] at ho8
           have HO8 := Bx.mk ho8
           have HB8 : Bx (Below w.heap.size w w8) := ⟨Below.grown (HB4 _) hg8 (OZ _) (fun k hk => (own_lt HO1.out k hk).1)⟩
           clear ho8 hg8 hf8))
      all_goals go_wp2_with fail
      all_goals exact ⟨⟨i + 1, by omega, by go_num, HB8, HO8⟩, by simp [intOf]; omega⟩
    · obtain rfl : k = i := by omega
      have HW1 := HW
      have HO2 := HO
      go_wp2_with fail
      go_loopw [6, 46] (fun v ix wr => ∃ i : Nat, i ≤ d ∧ ix = .int .i64 i ∧ Bx (Below w.heap.size w wr) ∧ Bx (wr.ownsRow w.heap.size 23 6 v (k + i) (rowsL (md M d k) (k + i)))) (fun _ ix _ => d - (intOf ix).toNat)
      case atStart => exact ⟨0, by omega, rfl, HW1, HO2⟩
      case round =>
       clear HW HO HW1 HO2
       obtain ⟨i, hi, rfl, HW, HO⟩ := hrel
       by_cases hin : i < d
       · have hin' : (i : Int) < (d : Int) := by omega
         have hdi : i < n := by omega
         obtain ⟨a0, a1, a2, a3, a4, a5⟩ := row_six HC.out hb HW.out hdi
         obtain ⟨x, hx⟩ : ∃ x, M i = x := ⟨_, rfl⟩
         rw [hx] at a0 a1 a2 a3 a4 a5
         have hxb := HB.out i hdi
         rw [hx] at hxb
         go_wp2_with fail
         clear a0 a1 a2 a3 a4 a5
         generalize hW1 : World.alloc wr _ = W1
         have HB1 : Bx (Below w.heap.size w W1) := ⟨hW1 ▸ HW.out.alloc HW.out.size _⟩
         have HP : Bx (VT W1 wr.heap.size 23 x) := ⟨hW1 ▸ VT.new wr 23 x⟩
         have HO1 : Bx (W1.ownsRow w.heap.size 23 6 u6 (k + i) (rowsL (md M d k) (k + i))) := ⟨hW1 ▸ own_keep HO.out fun k _ hk => Below.heap_alloc _ _ _ hk⟩
         have hlt : wr.heap.size < W1.heap.size := HP.out.lt
         have hws : w.heap.size ≤ W1.heap.size := HB1.out.size
         clear hW1
         have q0 := HP.out.c0; have q1 := HP.out.c1; have q2 := HP.out.c2; have q3 := HP.out.c3; have q4 := HP.out.c4; have q5 := HP.out.c5
         obtain ⟨y0, y1, y2, y3, y4, y5⟩ := row_six HC.out hb HB1.out hdn
         obtain ⟨y, hy⟩ : ∃ y, M d = y := ⟨_, rfl⟩
         rw [hy] at y0 y1 y2 y3 y4 y5
         have hyb := HB.out d hdn
         rw [hy] at hyb
         obtain ⟨u, hu⟩ : ∃ u : Nat → Int, (fun j => x j + oc 1 j) = u := ⟨_, rfl⟩
         obtain ⟨z, hz⟩ : ∃ z : Nat → Int, (fun j => u j - y j) = z := ⟨_, rfl⟩
         have HZ : Bx (∀ j, j < 6 → md M d k (k + i) j = z j) := ⟨fun j _ => by unfold md; rw [if_neg (by omega), show k + i - k = i by omega, hx, hy, ← hz, ← hu]⟩
         have hx0 := hxb 0 (by omega)
         have hub : ∀ j, j < 6 → -1000000 ≤ u j ∧ u j ≤ 1000000 := fun j hj => by have := hxb j hj; rw [← hu]; simp only [oc]; split <;> omega
         have HU : Bx (∀ W, Below w.heap.size w W → Calls Tryd.prog 23 #[PV x, .int .i64 1] W fun e w' => e = .returned (PV u) ∧ Below W.heap.size W w') := ⟨fun W hW => qraised_any x u 1 (fun j _ => by rw [← hu]) (by omega) (by omega) (by omega) (by omega) W (HM.out.keep hW)⟩
         have HQ : Bx (∀ w, Calls Tryd.prog 32 #[PV u, PV y] w fun e w' => e = .returned (PV z) ∧ Below w.heap.size w w') := ⟨fun w => quot_any u y z (fun k _ => by rw [← hz]) hub (fun k hk => by have := hyb k hk; omega) w⟩
         unfold PV at HQ HU
         clear hz hu hxb hub hx0 hyb hx
         go_region_law (first
          | (refine step_go_call2 rfl 23 #[.agg #[.int .i64 (x 0), .int .i64 (x 1), .int .i64 (x 2), .int .i64 (x 3), .int .i64 (x 4), .int .i64 (x 5)], .int .i64 1] (.agg #[.int .i64 (u 0), .int .i64 (u 1), .int .i64 (u 2), .int .i64 (u 3), .int .i64 (u 4), .int .i64 (u 5)]) (fun w2 => Below W1.heap.size W1 w2) (by simp [execOp, resolve, invoke, go_sem]) ((HU.out _ (HB1.out.drew)).mono fun e w' h => ⟨h.1, (Below.refl W1.heap.size W1).drew.trans h.2⟩) ?_
             intro w2 hb2
             have s2 := hb2.size
             have HB2 := Bx.mk hb2
             obtain ⟨y0, y1, y2, y3, y4, y5⟩ := row_six HC.out hb (HB1.out.trans (hb2.mono hws)) hdn
             rw [hy] at y0 y1 y2 y3 y4 y5)
          | (refine step_go_call2 rfl 32 #[.agg #[.int .i64 (u 0), .int .i64 (u 1), .int .i64 (u 2), .int .i64 (u 3), .int .i64 (u 4), .int .i64 (u 5)], .agg #[.int .i64 (y 0), .int .i64 (y 1), .int .i64 (y 2), .int .i64 (y 3), .int .i64 (y 4), .int .i64 (y 5)]] (.agg #[.int .i64 (z 0), .int .i64 (z 1), .int .i64 (z 2), .int .i64 (z 3), .int .i64 (z 4), .int .i64 (z 5)]) (fun w3 => Below w2.heap.size w2 w3) (by simp [execOp, resolve, invoke, go_sem]) (HQ.out _) ?_
             intro w3 hb3
             have s3 := hb3.size
             have B3 := HB2.out.trans (hb3.mono HB2.out.size)
             have HB3 : Bx (Below w.heap.size w w3) := ⟨HB1.out.trans (B3.mono hws)⟩
             have O3 := own_keep HO1.out (w' := w3) (fun k e hk => B3.block k hk)
             have OA := fun (o : Obj) => own_keep O3 (w' := w3.alloc o) (fun k _ hk => Below.heap_alloc _ _ _ hk)
             have OZ : ∀ o : Obj, w.heap.size ≤ (w3.alloc o).heap.size := fun o => by rw [World.size_alloc]; omega
             have HB4 : ∀ o : Obj, Below w.heap.size w (w3.alloc o) := fun o => HB3.out.alloc (by omega) o)
          | (refine step_append_fresh rfl (.tmp 50) (.tmp 58) 32 rfl w.heap.size 23 ti (.agg #[.int .i64 0, .int .i64 0, .int .i64 0, .int .i64 0, .int .i64 0, .int .i64 0]) 6 48 Tryd.underlying32 HTI.out hz0 hz1 hz2 rfl (by decide) u6 (k + i) _ rfl (OA _) _ 1 _ (rowsL (fun _ => z) 1) rfl (rowsL_length _ _) (by intro h; cases h) (news_pitch w3 z) (rowsL_one _ _) (by unfold maxLen; omega) (by omega) (OZ _) ?_
             intro v8 w8 ho8 hg8 hf8
             rw [rowsL_more HZ.out] at ho8
             have HO8 := Bx.mk ho8
             have HB8 : Bx (Below w.heap.size w w8) := ⟨Below.grown (HB4 _) hg8 (OZ _) (fun k hk => (own_lt HO1.out k hk).1)⟩
             clear ho8 hg8 hf8))
         all_goals go_wp2_with fail
         all_goals exact ⟨⟨i + 1, by omega, by go_num, HB8, HO8⟩, by simp [intOf]; omega⟩
       · obtain rfl : d = i := by omega
         have hkd : k + d = n := by have := HNK.out; omega
         rw [hkd] at HO
         obtain ⟨g, cap, rfl, hg0, hg1⟩ := own_form HO.out (by omega)
         obtain ⟨hgc, hcv⟩ := own_cv HO.out (by omega)
         have HX := Bx.mk hcv
         have HG := Bx.mk hgc
         clear hkd
         cases r with
         | true =>
           have H := checked_ok9 g 0 n cap (md M d k) wr (by omega) (by omega) hg1 hcv HR.out
           clear hcv hgc
           go_wp2_with (go_at_call 34; refine H.mono ?_; rintro e w9 ⟨rfl, hb9⟩)
           refine bodyPost_ret_by (v := .tuple #[.slice (some ⟨g, 0, none⟩) n cap, .int .i64 0]) (by simp [results, Tryd.results17, go_sem]) rfl ?_
           exact ⟨g, cap, rfl, HG.out, (show CV wr (some ⟨g, 0, none⟩) n (md M d k) from fun _ => ⟨g, 0, rfl, hg1, HX.out⟩).keep hb9, HW.out.trans (hb9.mono HW.out.size)⟩
         | false =>
           have H := checked_no9 g 0 n cap (md M d k) wr (by omega) (by omega) hg1 hcv HR.out
           clear hcv hgc
           go_wp2_with (go_at_call 34; refine H.mono ?_; rintro e w9 ⟨rfl, hb9⟩)
           refine bodyPost_ret_by (v := .tuple #[.slice none 0 0, .int .i64 3]) (by simp [results, Tryd.results17, go_sem]) rfl ?_
           exact ⟨rfl, HW.out.trans (hb9.mono HW.out.size)⟩
set_option maxRecDepth 100000 in
theorem mode_bad1 (ao : Option Addr) (n c : Nat) (dd : Int) (M : Nat → Nat → Int) (w : World) (hn : n ≤ 4611686018427387904) (hcn : n ≤ c) (hS : CV w ao n M) (hs : Sm w) (hv : ¬ SV M n) : Calls Tryd.prog 17 #[.slice ao n c, .int .i64 dd] w (NilR w 1) := by
  have H1 := Bx.mk (svalid_any ao n c M hn hcn false (by simp [hv]))
  have HS := Bx.mk hS
  have HM := Bx.mk hs
  clear hS hs hv
  go_enter Tryd.func17, Tryd.ntmps17
  go_wp2_with fail
  refine (H1.out _ HS.out HM.out).mono ?_
  rintro e w1 ⟨rfl, hb⟩
  obtain ⟨hc1, hf1⟩ := bcell hb
  have hz1 := hb.size
  (try simp at hz1)
  have hB : Hx (Below w.heap.size w w1) := ⟨Below.trans (by repeat (first | with_reducible exact hB.out | with_reducible exact Below.refl _ _ | (with_reducible refine Below.setCell ?_ ?side _; case side => (first | omega | (simp <;> omega))) | (with_reducible refine Below.alloc ?_ ?side _; case side => (first | omega | (simp <;> omega))) | with_reducible apply below_drewN)) (hb.mono (by first | omega | (simp <;> omega)))⟩
  clear hb
  go_wp2_with fail
  refine bodyPost_ret_by (v := .tuple #[.slice none 0 0, .int .i64 1]) (by simp [results, Tryd.results17, go_sem, hc1, hf1, hz1]) rfl ?_
  exact ⟨rfl, (by repeat (first | with_reducible exact hB.out | with_reducible exact Below.refl _ _ | (with_reducible refine Below.setCell ?_ ?side _; case side => (first | omega | (simp <;> omega))) | (with_reducible refine Below.alloc ?_ ?side _; case side => (first | omega | (simp <;> omega))) | with_reducible apply below_drewN))⟩
set_option maxRecDepth 100000 in
theorem mode_bad2 (ao : Option Addr) (n c : Nat) (dd : Int) (M : Nat → Nat → Int) (w : World) (hn : n ≤ 4611686018427387904) (hcn : n ≤ c) (hS : CV w ao n M) (hs : Sm w) (hv : SV M n) (hd : dd < 0) : Calls Tryd.prog 17 #[.slice ao n c, .int .i64 dd] w (NilR w 1) := by
  have H1 := Bx.mk (svalid_any ao n c M hn hcn true (by simp [hv]))
  have HS := Bx.mk hS
  have HM := Bx.mk hs
  have h1 : decide (dd < 0) = true := by simpa using hd
  clear hS hs hv
  go_enter Tryd.func17, Tryd.ntmps17
  go_wp2_with fail
  refine (H1.out _ HS.out HM.out).mono ?_
  rintro e w1 ⟨rfl, hb⟩
  obtain ⟨hc1, hf1⟩ := bcell hb
  have hz1 := hb.size
  (try simp at hz1)
  have hB : Hx (Below w.heap.size w w1) := ⟨Below.trans (by repeat (first | with_reducible exact hB.out | with_reducible exact Below.refl _ _ | (with_reducible refine Below.setCell ?_ ?side _; case side => (first | omega | (simp <;> omega))) | (with_reducible refine Below.alloc ?_ ?side _; case side => (first | omega | (simp <;> omega))) | with_reducible apply below_drewN)) (hb.mono (by first | omega | (simp <;> omega)))⟩
  clear hb
  go_wp2_with fail
  refine bodyPost_ret_by (v := .tuple #[.slice none 0 0, .int .i64 1]) (by simp [results, Tryd.results17, go_sem, hc1, hf1, hz1]) rfl ?_
  exact ⟨rfl, (by repeat (first | with_reducible exact hB.out | with_reducible exact Below.refl _ _ | (with_reducible refine Below.setCell ?_ ?side _; case side => (first | omega | (simp <;> omega))) | (with_reducible refine Below.alloc ?_ ?side _; case side => (first | omega | (simp <;> omega))) | with_reducible apply below_drewN))⟩
set_option maxRecDepth 100000 in
theorem mode_bad3 (ao : Option Addr) (n c : Nat) (dd : Int) (M : Nat → Nat → Int) (w : World) (hn : n ≤ 4611686018427387904) (hcn : n ≤ c) (hS : CV w ao n M) (hs : Sm w) (hv : SV M n) (hd : ¬ dd < 0) (hd2 : (n : Int) ≤ dd) : Calls Tryd.prog 17 #[.slice ao n c, .int .i64 dd] w (NilR w 1) := by
  have H1 := Bx.mk (svalid_any ao n c M hn hcn true (by simp [hv]))
  have HS := Bx.mk hS
  have HM := Bx.mk hs
  have h1 : decide (dd < 0) = false := by simpa using hd
  have h2 : decide ((n : Int) ≤ dd) = true := by simpa using hd2
  clear hS hs hv
  go_enter Tryd.func17, Tryd.ntmps17
  go_wp2_with fail
  refine (H1.out _ HS.out HM.out).mono ?_
  rintro e w1 ⟨rfl, hb⟩
  obtain ⟨hc1, hf1⟩ := bcell hb
  have hz1 := hb.size
  (try simp at hz1)
  have hB : Hx (Below w.heap.size w w1) := ⟨Below.trans (by repeat (first | with_reducible exact hB.out | with_reducible exact Below.refl _ _ | (with_reducible refine Below.setCell ?_ ?side _; case side => (first | omega | (simp <;> omega))) | (with_reducible refine Below.alloc ?_ ?side _; case side => (first | omega | (simp <;> omega))) | with_reducible apply below_drewN)) (hb.mono (by first | omega | (simp <;> omega)))⟩
  clear hb
  go_wp2_with fail
  refine bodyPost_ret_by (v := .tuple #[.slice none 0 0, .int .i64 1]) (by simp [results, Tryd.results17, go_sem, hc1, hf1, hz1]) rfl ?_
  exact ⟨rfl, (by repeat (first | with_reducible exact hB.out | with_reducible exact Below.refl _ _ | (with_reducible refine Below.setCell ?_ ?side _; case side => (first | omega | (simp <;> omega))) | (with_reducible refine Below.alloc ?_ ?side _; case side => (first | omega | (simp <;> omega))) | with_reducible apply below_drewN))⟩
theorem mode_ok (ao : Option Addr) (n d k c : Nat) (M : Nat → Nat → Int) (w : World) (hnk : d + k = n) (hk : 0 < k) (hcn : n ≤ c) (hcm : c ≤ maxLen) (hS : CV w ao n M) (hs : Sm w) (hv : SV M n) (hr : ∀ i, i < n → bdB (md M d k i) 576 = true) : Calls Tryd.prog 17 #[.slice ao n c, .int .i64 d] w (ListR w n (md M d k)) := by
  obtain ⟨b, o, rfl, hb, hcr⟩ := hS hv.pos
  subst hnk
  exact mode_loop b o d k c M w hk hv.le hcn hcm hb hcr hs hv true (by simpa using hr)
theorem mode_no (ao : Option Addr) (n d k c : Nat) (M : Nat → Nat → Int) (w : World) (hnk : d + k = n) (hk : 0 < k) (hcn : n ≤ c) (hcm : c ≤ maxLen) (hS : CV w ao n M) (hs : Sm w) (hv : SV M n) (hr : ¬ ∀ i, i < n → bdB (md M d k i) 576 = true) : Calls Tryd.prog 17 #[.slice ao n c, .int .i64 d] w (NilR w 3) := by
  obtain ⟨b, o, rfl, hb, hcr⟩ := hS hv.pos
  subst hnk
  exact mode_loop b o d k c M w hk hv.le hcn hcm hb hcr hs hv false (by simpa using hr)
end Go.Proofs.YtomgihlkbmaleaaDoor

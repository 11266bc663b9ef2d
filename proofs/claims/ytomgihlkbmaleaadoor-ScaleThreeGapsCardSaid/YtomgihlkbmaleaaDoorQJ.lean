/- The program's scale: Steps. -/
import Derived.Test.YtomgihlkbmaleaaDoorQI
namespace Go.Proofs.YtomgihlkbmaleaaDoor
open Go.RowKit M
/-- What a call returns: a list of its own; nothing and an error. -/
def ListR (w : World) (n : Nat) (G : Nat → Nat → Int) (e : Ending) (w' : World) : Prop :=
  ∃ g cap, e = .returned (.tuple #[.slice (some ⟨g, 0, none⟩) n cap, .int .i64 0]) ∧ (n ≤ cap ∧ cap ≤ maxLen) ∧ CV w' (some ⟨g, 0, none⟩) n G ∧ Below w.heap.size w w'
def NilR (w : World) (k : Int) (e : Ending) (w' : World) : Prop := e = .returned (.tuple #[.slice none 0 0, .int .i64 k]) ∧ Below w.heap.size w w'
theorem own_cv {w : World} {base n g cap : Nat} {G : Nat → Nat → Int} (h : w.ownsRow base 23 6 (.slice (some ⟨g, 0, none⟩) n cap) n (rowsL G n)) (hn : 0 < n) : (n ≤ cap ∧ cap ≤ maxLen) ∧ ∀ i j, i < n → j < 6 → w.cell? ⟨g, 0 + i * 6 + j, none⟩ = some (.int .i64 (G i j)) := by
  obtain ⟨ao, c, hv, h1, h2, hc⟩ := own_pitch_cv h
  cases hv
  obtain ⟨b, o, hb, _, hcr⟩ := hc hn
  cases hb
  exact ⟨⟨h1, h2⟩, hcr⟩
/-- The steps of a scale. -/
def stp (M : Nat → Nat → Int) (n i : Nat) : Nat → Int := fun k => nx M n i k - M i k
theorem news_pitch (w : World) (z : Nat → Int) : ∀ ad, some (⟨w.heap.size, 0, none⟩ : Addr) = some ad → ∀ (j : Nat) u, (rowsL (fun _ => z) 1)[j]? = some u → (w.alloc (.cells #[.int .i64 (z 0), .int .i64 (z 1), .int .i64 (z 2), .int .i64 (z 3), .int .i64 (z 4), .int .i64 (z 5)] 23)).cell? (ad.add j) = some u := by
  intro ad had; cases had
  intro j u hu
  have hj : j < 6 := by
    have := (List.getElem?_eq_some_iff.1 hu).1
    rw [rowsL_length] at this; omega
  have e := rowsL_get (M := fun _ => z) (k := 1) (i := 0) (j := j) (by omega) hj
  rw [show 0 * 6 + j = j by omega, hu] at e
  rw [e]
  have := (VT.new w 23 z).cellk hj
  rcases six_cases' hj with rfl | rfl | rfl | rfl | rfl | rfl <;> first | (simp [Addr.add]; done) | simpa [Addr.add] using this
set_option maxRecDepth 100000 in
set_option maxHeartbeats 8000000 in
theorem steps_loop (b o n c : Nat) (M : Nat → Nat → Int) (w : World) (hn0 : 0 < n) (hn : n ≤ 64) (hcn : n ≤ c) (hb : b < w.heap.size) (hcr : ∀ i j, i < n → j < 6 → w.cell? ⟨b, o + i * 6 + j, none⟩ = some (.int .i64 (M i j))) (hs : Sm w) (hv : SV M n)
    (r : Bool) (hr : r = true ↔ ∀ i, i < n → bdB (stp M n i) 576 = true) :
    Calls Tryd.prog 14 #[.slice (some ⟨b, o, none⟩) n c] w fun e w' => if r then ListR w n (stp M n) e w' else NilR w 3 e w' := by
  obtain ⟨ti, hti, hti2⟩ := Option.map_eq_some_iff.1 info_pitch2
  simp only [Prod.mk.injEq] at hti2
  obtain ⟨hz0, hz1, hz2⟩ := hti2
  have HTI := Bx.mk hti
  have HC := Bx.mk hcr
  have hS : CV w (some ⟨b, o, none⟩) n M := fun _ => ⟨b, o, rfl, hb, hcr⟩
  have HS := Bx.mk hS
  have HM := Bx.mk hs
  have HV := Bx.mk hv
  have HR := Bx.mk hr
  have V1 := Bx.mk (svalid_any (some ⟨b, o, none⟩) n c M (by omega) hcn true (by simp [hv]))
  clear hti hcr hS hs hv hr
  go_enter Tryd.func14, Tryd.ntmps14
  go_wp2_with (go_at_call 19; refine (V1.out w HS.out HM.out).mono ?_; rintro e w1 ⟨rfl, hb1⟩)
  have B1 := Bx.mk hb1
  clear hb1
  go_loopw [4, 12] (fun v ix wr => ∃ i : Nat, i ≤ n ∧ ix = .int .i64 i ∧ Bx (Below w.heap.size w wr) ∧ Bx (wr.ownsRow w.heap.size 23 6 v i (rowsL (stp M n) i))) (fun _ ix _ => n - (intOf ix).toNat)
  case atStart => exact ⟨0, by omega, rfl, B1, ⟨World.ownsRow_nil _ _ _ _⟩⟩
  case round =>
    obtain ⟨i, hi, rfl, HW, HO⟩ := hrel
    by_cases hin : i < n
    · have hin' : (i : Int) < (n : Int) := by omega
      obtain ⟨a0, a1, a2, a3, a4, a5⟩ := row_six HC.out hb HW.out hin
      obtain ⟨x, hx⟩ : ∃ x, M i = x := ⟨_, rfl⟩
      rw [hx] at a0 a1 a2 a3 a4 a5
      obtain ⟨y, hy⟩ : ∃ y, nx M n i = y := ⟨_, rfl⟩
      obtain ⟨z, hz⟩ : ∃ z : Nat → Int, (fun k => y k - x k) = z := ⟨_, rfl⟩
      have hup := lwB_iff.1 (HV.out.up i hin)
      rw [hx, hy] at hup
      have hxb := bdB_yes.1 hup.1
      have hyb := bdB_yes.1 hup.2.1
      have HZ : Bx (∀ j, j < 6 → stp M n i j = z j) := ⟨fun j _ => by unfold stp; rw [hx, hy, ← hz]⟩
      have HQ : Bx (∀ w, Calls Tryd.prog 32 #[PV y, PV x] w fun e w' => e = .returned (PV z) ∧ Below w.heap.size w w') := ⟨fun w => quot_any y x z (fun k _ => by rw [← hz]) (fun k hk => by have := hyb k hk; omega) (fun k hk => by have := hxb k hk; omega) w⟩
      have HN : Bx (∀ W, Below w.heap.size w W → Calls Tryd.prog 33 #[.slice (some ⟨b, o, none⟩) n c, .int .i64 i] W fun e w' => e = .returned (PV y) ∧ Below W.heap.size W w') := ⟨fun W hW => next_any _ n c i M y hy (by omega) hcn hin W (HS.out.keep hW) (HM.out.keep hW)⟩
      unfold PV at HQ HN
      clear hup hxb hyb hx hy hz
      go_wp2_with fail
      clear a0 a1 a2 a3 a4 a5
      generalize hW1 : World.alloc wr _ = W1
      have HB1 : Bx (Below w.heap.size w W1) := ⟨hW1 ▸ HW.out.alloc HW.out.size _⟩
      have HP : Bx (VT W1 wr.heap.size 23 x) := ⟨hW1 ▸ VT.new wr 23 x⟩
      have HO1 : Bx (W1.ownsRow w.heap.size 23 6 u4 i (rowsL (stp M n) i)) := ⟨hW1 ▸ own_keep HO.out fun k _ hk => Below.heap_alloc _ _ _ hk⟩
      have hlt : wr.heap.size < W1.heap.size := HP.out.lt
      have hws : w.heap.size ≤ W1.heap.size := HB1.out.size
      clear hW1
      have q0 := HP.out.c0; have q1 := HP.out.c1; have q2 := HP.out.c2; have q3 := HP.out.c3; have q4 := HP.out.c4; have q5 := HP.out.c5
      go_region_law (first
        | (refine step_go_call2 rfl 33 #[.slice (some ⟨b, o, none⟩) n c, .int .i64 i] (.agg #[.int .i64 (y 0), .int .i64 (y 1), .int .i64 (y 2), .int .i64 (y 3), .int .i64 (y 4), .int .i64 (y 5)]) (fun w2 => Below W1.heap.size W1 w2) (by simp [execOp, resolve, invoke, go_sem]) ((HN.out _ (HB1.out.drew)).mono fun e w' h => ⟨h.1, (Below.refl W1.heap.size W1).drew.trans h.2⟩) ?_
           intro w2 hb2
           have P2 := HP.out.keep (hb2.block wr.heap.size hlt)
           have c0 := P2.c0; have c1 := P2.c1; have c2 := P2.c2; have c3 := P2.c3; have c4 := P2.c4; have c5 := P2.c5
           have s2 := hb2.size
           have HB2 := Bx.mk hb2
           clear P2)
        | (refine step_go_call2 rfl 32 #[.agg #[.int .i64 (y 0), .int .i64 (y 1), .int .i64 (y 2), .int .i64 (y 3), .int .i64 (y 4), .int .i64 (y 5)], .agg #[.int .i64 (x 0), .int .i64 (x 1), .int .i64 (x 2), .int .i64 (x 3), .int .i64 (x 4), .int .i64 (x 5)]] (.agg #[.int .i64 (z 0), .int .i64 (z 1), .int .i64 (z 2), .int .i64 (z 3), .int .i64 (z 4), .int .i64 (z 5)]) (fun w3 => Below w2.heap.size w2 w3) (by simp [execOp, resolve, invoke, go_sem]) (HQ.out _) ?_
           intro w3 hb3
           have s3 := hb3.size
           have B3 := HB2.out.trans (hb3.mono HB2.out.size)
           have HB3 : Bx (Below w.heap.size w w3) := ⟨HB1.out.trans (B3.mono hws)⟩
           have O3 := own_keep HO1.out (w' := w3) (fun k e hk => B3.block k hk)
           have OA := fun (o : Obj) => own_keep O3 (w' := w3.alloc o) (fun k _ hk => Below.heap_alloc _ _ _ hk)
           have OZ : ∀ o : Obj, w.heap.size ≤ (w3.alloc o).heap.size := fun o => by rw [World.size_alloc]; omega
           have HB4 : ∀ o : Obj, Below w.heap.size w (w3.alloc o) := fun o => HB3.out.alloc (by omega) o)
        | (refine step_append_fresh rfl (.tmp 17) (.tmp 23) 32 rfl w.heap.size 23 ti (.agg #[.int .i64 0, .int .i64 0, .int .i64 0, .int .i64 0, .int .i64 0, .int .i64 0]) 6 48 Tryd.underlying32 HTI.out hz0 hz1 hz2 rfl (by decide) u4 i _ rfl (OA _) _ 1 _ (rowsL (fun _ => z) 1) rfl (rowsL_length _ _) (by intro h; cases h) (news_pitch w3 z) (rowsL_one _ _) (by unfold maxLen; omega) (by omega) (OZ _) ?_
           intro v8 w8 ho8 hg8 hf8
           rw [rowsL_more HZ.out] at ho8
           have HO8 := Bx.mk ho8
           have HB8 : Bx (Below w.heap.size w w8) := ⟨Below.grown (HB4 _) hg8 (OZ _) (fun k hk => (own_lt HO1.out k hk).1)⟩
           clear ho8 hg8 hf8))
      all_goals go_wp2_with fail
      all_goals exact ⟨⟨i + 1, by omega, by go_num, HB8, HO8⟩, by simp [intOf]; omega⟩
    · obtain rfl : i = n := by omega
      obtain ⟨g, cap, rfl, hg0, hg1⟩ := own_form HO.out hn0
      obtain ⟨hgc, hcv⟩ := own_cv HO.out hn0
      cases r with
      | true =>
        have H := checked_ok9 g 0 i cap (stp M i) wr hn0 (by omega) hg1 hcv HR.out
        have HX := Bx.mk hcv
        have HG := Bx.mk hgc
        clear hcv hgc
        go_wp2_with (go_at_call 34; refine H.mono ?_; rintro e w9 ⟨rfl, hb9⟩)
        refine bodyPost_ret_by (v := .tuple #[.slice (some ⟨g, 0, none⟩) i cap, .int .i64 0]) (by simp [results, Tryd.results14, go_sem]) rfl ?_
        exact ⟨g, cap, rfl, HG.out, (show CV wr (some ⟨g, 0, none⟩) i (stp M i) from fun _ => ⟨g, 0, rfl, hg1, HX.out⟩).keep hb9, HW.out.trans (hb9.mono HW.out.size)⟩
      | false =>
        have H := checked_no9 g 0 i cap (stp M i) wr hn0 (by omega) hg1 hcv HR.out
        clear hcv hgc
        go_wp2_with (go_at_call 34; refine H.mono ?_; rintro e w9 ⟨rfl, hb9⟩)
        refine bodyPost_ret_by (v := .tuple #[.slice none 0 0, .int .i64 3]) (by simp [results, Tryd.results14, go_sem]) rfl ?_
        exact ⟨rfl, HW.out.trans (hb9.mono HW.out.size)⟩
set_option maxRecDepth 100000 in
theorem steps_bad (ao : Option Addr) (n c : Nat) (M : Nat → Nat → Int) (w : World) (hn : n ≤ 4611686018427387904) (hcn : n ≤ c) (hS : CV w ao n M) (hs : Sm w) (hv : ¬ SV M n) : Calls Tryd.prog 14 #[.slice ao n c] w (NilR w 1) := by
  have H1 := Bx.mk (svalid_any ao n c M hn hcn false (by simp [hv]))
  have HS := Bx.mk hS
  have HM := Bx.mk hs
  clear hS hs hv
  go_enter Tryd.func14, Tryd.ntmps14
  go_wp2_with fail
  refine (H1.out _ HS.out HM.out).mono ?_
  rintro e w1 ⟨rfl, hb⟩
  obtain ⟨hc1, hf1⟩ := bcell hb
  have hz1 := hb.size
  (try simp at hz1)
  have hB : Hx (Below w.heap.size w w1) := ⟨Below.trans (by repeat (first | with_reducible exact hB.out | with_reducible exact Below.refl _ _ | (with_reducible refine Below.setCell ?_ ?side _; case side => (first | omega | (simp <;> omega))) | (with_reducible refine Below.alloc ?_ ?side _; case side => (first | omega | (simp <;> omega))) | with_reducible apply below_drewN)) (hb.mono (by first | omega | (simp <;> omega)))⟩
  clear hb
  go_wp2_with fail
  refine bodyPost_ret_by (v := .tuple #[.slice none 0 0, .int .i64 1]) (by simp [results, Tryd.results14, go_sem, hc1, hf1, hz1]) rfl ?_
  exact ⟨rfl, (by repeat (first | with_reducible exact hB.out | with_reducible exact Below.refl _ _ | (with_reducible refine Below.setCell ?_ ?side _; case side => (first | omega | (simp <;> omega))) | (with_reducible refine Below.alloc ?_ ?side _; case side => (first | omega | (simp <;> omega))) | with_reducible apply below_drewN))⟩
theorem steps_ok (ao : Option Addr) (n c : Nat) (M : Nat → Nat → Int) (w : World) (hcn : n ≤ c) (hS : CV w ao n M) (hs : Sm w) (hv : SV M n) (hr : ∀ i, i < n → bdB (stp M n i) 576 = true) : Calls Tryd.prog 14 #[.slice ao n c] w (ListR w n (stp M n)) := by
  obtain ⟨b, o, rfl, hb, hcr⟩ := hS hv.pos
  exact steps_loop b o n c M w hv.pos hv.le hcn hb hcr hs hv true (by simpa using hr)
theorem steps_no (ao : Option Addr) (n c : Nat) (M : Nat → Nat → Int) (w : World) (hcn : n ≤ c) (hS : CV w ao n M) (hs : Sm w) (hv : SV M n) (hr : ¬ ∀ i, i < n → bdB (stp M n i) 576 = true) : Calls Tryd.prog 14 #[.slice ao n c] w (NilR w 3) := by
  obtain ⟨b, o, rfl, hb, hcr⟩ := hS hv.pos
  exact steps_loop b o n c M w hv.pos hv.le hcn hb hcr hs hv false (by simpa using hr)
end Go.Proofs.YtomgihlkbmaleaaDoor

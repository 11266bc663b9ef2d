/- The program's scale: powers. -/
import Derived.Test.YtomgihlkbmaleaaDoorQK
namespace Go.Proofs.YtomgihlkbmaleaaDoor
open Go.RowKit M
/-- A power of a generator. -/
def mu (g : Nat → Int) (i : Nat) : Nat → Int := fun j => (i : Int) * g j
/-- The power i is a pitch, and Q within the octave. -/
def InCh (g : Nat → Int) (Q : Nat → Nat → Int) (i : Nat) : Prop := bdB (mu g i) 576 = true ∧ ∃ o, Oct (mu g i) (Q i) o
/-- The power i is no pitch, or has no pitch within the octave. -/
def NoCh (g : Nat → Int) (i : Nat) : Prop := bdB (mu g i) 576 = false ∨ (bdB (mu g i) 576 = true ∧ ∀ q o, ¬ Oct (mu g i) q o)
theorem oct_ok {p : Nat → Int} {Q : Nat → Int} {o : Int} (hp : bdB p 576 = true) (h : Oct p Q o) : ∃ q, (∀ j, j < 6 → Q j = q j) ∧ ∀ w, Sm w → Calls Tryd.prog 10 #[PV p] w fun e w' => e = .returned (.tuple #[PV q, .int .i64 o, .int .i64 0]) ∧ Below w.heap.size w w' := by
  obtain ⟨q, o', c, hr, hc⟩ := octave_any p
  cases hr with
  | ok q o' _ h' =>
    have e := h.one h'
    subst e
    exact ⟨q, h.same h', hc⟩
  | none _ h' => exact absurd h (h' _ _)
  | bad h' => rw [hp] at h'; cases h'
theorem oct_no {p : Nat → Int} (hp : bdB p 576 = true) (h : ∀ q o, ¬ Oct p q o) : ∀ w, Sm w → Calls Tryd.prog 10 #[PV p] w fun e w' => e = .returned (.tuple #[PV (fun _ => 0), .int .i64 0, .int .i64 3]) ∧ Below w.heap.size w w' := by
  obtain ⟨q, o', c, hr, hc⟩ := octave_any p
  cases hr with
  | ok q o' _ h' => exact absurd h' (h _ _)
  | none _ h' => exact hc
  | bad h' => rw [hp] at h'; cases h'
theorem own_base {w : World} {base base' : Nat} {e : TypeId} {size : Nat} {v : Value} {n : Nat} {xs : List Value} (h : w.ownsRow base e size v n xs) (hb : base' ≤ base) : w.ownsRow base' e size v n xs := by
  obtain ⟨h0, h⟩ := h
  refine ⟨h0, h.imp id ?_⟩
  rintro ⟨g, cap, cur, rfl, hb', h2⟩
  exact ⟨g, cap, cur, rfl, Nat.le_trans hb hb', h2⟩
/-- An own list of pitches, and no error. -/
def OwnR (w : World) (n : Nat) (G : Nat → Nat → Int) (e : Ending) (w' : World) : Prop :=
  ∃ g cap, e = .returned (.tuple #[.slice (some ⟨g, 0, none⟩) n cap, .int .i64 0]) ∧ w'.ownsRow w.heap.size 23 6 (.slice (some ⟨g, 0, none⟩) n cap) n (rowsL G n) ∧ Below w.heap.size w w'
set_option maxRecDepth 100000 in
set_option maxHeartbeats 8000000 in
theorem powers_loop (g : Nat → Int) (n : Nat) (Q : Nat → Nat → Int) (w : World) (hn0 : 0 < n) (hn : n ≤ 64) (hg : bdB g 576 = true) (hs : Sm w) (p : Nat) (hp : p ≤ n) (hok : ∀ i, i < p → InCh g Q i) (hbad : p < n → NoCh g p) :
    Calls Tryd.prog 28 #[PV g, .int .i64 n] w fun e w' => if p = n then OwnR w n Q e w' else NilR w 3 e w' := by
  obtain ⟨ti, hti, hti2⟩ := Option.map_eq_some_iff.1 info_pitch2
  simp only [Prod.mk.injEq] at hti2
  obtain ⟨hz0, hz1, hz2⟩ := hti2
  have HTI := Bx.mk hti
  have HG := Bx.mk hg
  have HM := Bx.mk hs
  have HK := Bx.mk hok
  have HB := Bx.mk hbad
  clear hti hs hok hbad hg
  go_enter Tryd.func28, Tryd.ntmps28
  go_wp2_with fail
  generalize hW0 : World.alloc w _ = W0
  have B0 : Bx (Below w.heap.size w W0) := ⟨hW0 ▸ (Below.refl w.heap.size w).alloc (Nat.le_refl _) _⟩
  have G0 : Bx (VT W0 w.heap.size 23 g) := ⟨hW0 ▸ VT.new w 23 g⟩
  have s0 : w.heap.size < W0.heap.size := G0.out.lt
  clear hW0
  go_loopw [6, 13] (fun v ix wr => ∃ i : Nat, i ≤ p ∧ ix = .int .i64 i ∧ Bx (Below W0.heap.size W0 wr) ∧ Bx (wr.ownsRow W0.heap.size 23 6 v i (rowsL Q i))) (fun _ ix _ => n + 1 - (intOf ix).toNat)
  case atStart => exact ⟨0, by omega, rfl, ⟨Below.refl _ _⟩, ⟨World.ownsRow_nil _ _ _ _⟩⟩
  case round =>
    obtain ⟨i, hi, rfl, HW, HO⟩ := hrel
    have hw0 : W0.heap.size ≤ wr.heap.size := HW.out.size
    by_cases hin : i < n
    · have hin' : (i : Int) < (n : Int) := by omega
      have GP := G0.out.keep (HW.out.block w.heap.size s0)
      have g0 := GP.c0; have g1 := GP.c1; have g2 := GP.c2; have g3 := GP.c3; have g4 := GP.c4; have g5 := GP.c5
      clear GP
      obtain ⟨m, hm⟩ : ∃ m, mu g i = m := ⟨_, rfl⟩
      have HMU := Bx.mk hm
      have PW : ∀ c, chkE m = c → Hx (∀ w, Calls Tryd.prog 49 #[PV g, .int .i64 i, .int .i64 1] w (OutV w (chkV m) c)) := fun c hc => ⟨fun w => power_ok g m (chkV m) i 1 c w HG.out (by omega) (by omega) (by omega) (by omega) (fun j _ => by rw [← hm]; unfold mu; omega) rfl hc⟩
      by_cases hip : i < p
      · obtain ⟨h1, o, h2⟩ := HK.out i hip
        rw [hm] at h1 h2
        obtain ⟨q, hq, hO⟩ := oct_ok h1 h2
        have HQ := Bx.mk hq
        have HOc := Bx.mk hO
        have HP := PW 0 (by simp [chkE, h1])
        rw [show chkV m = m by simp [chkV, h1]] at HP
        unfold OutV PV at HP
        unfold PV at HOc
        clear h1 h2 hq hO PW hm
        go_wp2_with fail
        refine (HP.out _).mono ?_
        rintro e w2 ⟨rfl, hb2⟩
        have HB2 := Bx.mk hb2
        have s2 := hb2.size
        have HM2 : Bx (Sm (w2.alloc (.cells #[.int .i64 (m 0), .int .i64 (m 1), .int .i64 (m 2), .int .i64 (m 3), .int .i64 (m 4), .int .i64 (m 5)] 23))) := ⟨(HM.out.keep (B0.out.trans ((HW.out.trans (hb2.mono hw0)).mono (Nat.le_of_lt s0)))).keep ((Below.refl w2.heap.size w2).alloc (Nat.le_refl _) _)⟩
        clear hb2
        go_wp2_with fail
        refine (HOc.out _ HM2.out).mono ?_
        rintro e w3 ⟨rfl, hb3⟩
        have s3 : w2.heap.size < w3.heap.size := by have := hb3.size; simp at this; omega
        have B3 : Below wr.heap.size wr w3 := HB2.out.trans (((Below.refl w2.heap.size w2).alloc (Nat.le_refl _) _).trans (hb3.mono (by simp)) |>.mono s2)
        have HB3 : Bx (Below W0.heap.size W0 w3) := ⟨HW.out.trans (B3.mono hw0)⟩
        have O3 := own_keep HO.out (w' := w3) (fun k e hk => B3.block k hk)
        have OA := fun (o o' : Obj) => own_keep O3 (w' := (w3.alloc o).alloc o') (fun k _ hk => (Below.heap_alloc _ _ _ (by simp; omega)).trans (Below.heap_alloc _ _ _ hk))
        have OZ : ∀ o o' : Obj, W0.heap.size ≤ ((w3.alloc o).alloc o').heap.size := fun o o' => by rw [World.size_alloc, World.size_alloc]; omega
        have HB4 : ∀ o o' : Obj, Below W0.heap.size W0 ((w3.alloc o).alloc o') := fun o o' => (HB3.out.alloc (by omega) o).alloc (by simp; omega) o'
        have NP := fun o => news_pitch (w3.alloc o) q
        simp only [World.size_alloc] at NP
        clear hb3 O3
        go_wp2_with (at_builtin; go_loud (refine wpList_append_fresh rfl (.tmp 34) (.tmp 36) 32 rfl W0.heap.size 23 ti (.agg #[.int .i64 0, .int .i64 0, .int .i64 0, .int .i64 0, .int .i64 0, .int .i64 0]) 6 48 Tryd.underlying32 HTI.out hz0 hz1 hz2 rfl (by decide) u6 i _ rfl (OA _ _) _ 1 _ (rowsL (fun _ => q) 1) rfl (rowsL_length _ _) (by intro h; cases h) (NP _) (rowsL_one _ _) (by unfold maxLen; omega) (by omega) (OZ _ _) ?_))
        intro v8 w8 ho8 hg8 hf8
        rw [rowsL_more HQ.out] at ho8
        have HO8 := Bx.mk ho8
        have HB8 : Bx (Below W0.heap.size W0 w8) := ⟨Below.grown (HB4 _ _) hg8 (OZ _ _) (fun k hk => (own_lt HO.out k hk).1)⟩
        clear ho8 hg8 hf8
        go_wp2_with fail
        exact ⟨⟨i + 1, by omega, by go_num, HB8, HO8⟩, by simp [intOf]; omega⟩
      · obtain rfl : i = p := by omega
        have hbad := HB.out hin
        unfold NoCh at hbad
        rw [hm] at hbad
        rcases hbad with h1 | ⟨h1, h2⟩
        · have HP := PW 3 (by simp [chkE, h1])
          rw [show chkV m = fun _ => 0 by simp [chkV, h1]] at HP
          unfold OutV PV at HP
          clear h1 PW hm
          go_wp2_with fail
          refine (HP.out _).mono ?_
          rintro e w2 ⟨rfl, hb2⟩
          have B2 : Below w.heap.size w w2 := B0.out.trans ((HW.out.trans (hb2.mono hw0)).mono (Nat.le_of_lt s0))
          have HBB := Bx.mk (B2.alloc (by have := B2.size; omega) (.cells #[.int .i64 0, .int .i64 0, .int .i64 0, .int .i64 0, .int .i64 0, .int .i64 0] 23))
          clear hb2 B2
          go_wp2_with fail
          refine bodyPost_ret_by (v := .tuple #[.slice none 0 0, .int .i64 3]) (by simp [results, Tryd.results28, go_sem]) rfl ?_
          exact ⟨rfl, HBB.out⟩
        · have HOc := Bx.mk (oct_no h1 h2)
          have HP := PW 0 (by simp [chkE, h1])
          rw [show chkV m = m by simp [chkV, h1]] at HP
          unfold OutV PV at HP
          unfold PV at HOc
          clear h1 h2 PW hm
          go_wp2_with fail
          refine (HP.out _).mono ?_
          rintro e w2 ⟨rfl, hb2⟩
          have HB2 := Bx.mk hb2
          have s2 := hb2.size
          have HM2 : Bx (Sm (w2.alloc (.cells #[.int .i64 (m 0), .int .i64 (m 1), .int .i64 (m 2), .int .i64 (m 3), .int .i64 (m 4), .int .i64 (m 5)] 23))) := ⟨(HM.out.keep (B0.out.trans ((HW.out.trans (hb2.mono hw0)).mono (Nat.le_of_lt s0)))).keep ((Below.refl w2.heap.size w2).alloc (Nat.le_refl _) _)⟩
          clear hb2
          go_wp2_with fail
          refine (HOc.out _ HM2.out).mono ?_
          rintro e w3 ⟨rfl, hb3⟩
          have s3 : w2.heap.size < w3.heap.size := by have := hb3.size; simp at this; omega
          have B3 : Below wr.heap.size wr w3 := HB2.out.trans (((Below.refl w2.heap.size w2).alloc (Nat.le_refl _) _).trans (hb3.mono (by simp)) |>.mono s2)
          have B4 : Below w.heap.size w w3 := B0.out.trans ((HW.out.trans (B3.mono hw0)).mono (Nat.le_of_lt s0))
          have HBB := Bx.mk (B4.alloc (by have := B4.size; omega) (.cells #[.int .i64 0, .int .i64 0, .int .i64 0, .int .i64 0, .int .i64 0, .int .i64 0] 23))
          clear hb3 B3 B4
          go_wp2_with fail
          refine bodyPost_ret_by (v := .tuple #[.slice none 0 0, .int .i64 3]) (by simp [results, Tryd.results28, go_sem]) rfl ?_
          exact ⟨rfl, HBB.out⟩
    · obtain rfl : p = i := by omega
      obtain rfl : p = n := by omega
      obtain ⟨gb, cap, rfl, hg0, hg1⟩ := own_form HO.out hn0
      go_wp2_with fail
      refine bodyPost_ret_by (v := .tuple #[.slice (some ⟨gb, 0, none⟩) p cap, .int .i64 0]) (by simp [results, Tryd.results28, go_sem]) rfl ?_
      exact ⟨gb, cap, rfl, own_base HO.out (Nat.le_of_lt s0), B0.out.trans (HW.out.mono (Nat.le_of_lt s0))⟩
theorem powers_ok (g : Nat → Int) (n : Nat) (Q : Nat → Nat → Int) (w : World) (hn0 : 0 < n) (hn : n ≤ 64) (hg : bdB g 576 = true) (hs : Sm w) (hok : ∀ i, i < n → InCh g Q i) : Calls Tryd.prog 28 #[PV g, .int .i64 n] w (OwnR w n Q) := by
  have h := powers_loop g n Q w hn0 hn hg hs n (Nat.le_refl _) hok (fun h => by omega)
  simpa using h
theorem powers_no (g : Nat → Int) (n : Nat) (Q : Nat → Nat → Int) (w : World) (hn0 : 0 < n) (hn : n ≤ 64) (hg : bdB g 576 = true) (hs : Sm w) (p : Nat) (hp : p < n) (hok : ∀ i, i < p → InCh g Q i) (hbad : NoCh g p) : Calls Tryd.prog 28 #[PV g, .int .i64 n] w (NilR w 3) := by
  have h := powers_loop g n Q w hn0 hn hg hs p (by omega) hok (fun _ => hbad)
  exact h.mono fun e w' k => by rw [if_neg (by omega)] at k; exact k
end Go.Proofs.YtomgihlkbmaleaaDoor

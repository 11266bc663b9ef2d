/- pitch.read's closure, which takes a string apart; number; index. -/
import Derived.Test.YtdlfnonlalkjdaaGreatDoorP15
import Derived.Shelf.Strings.SlTrimAscii
import Derived.Lib.AtoiErrMem
namespace Go.Proofs.YtdlfnonlalkjdaaGreatDoor
open Go.RowKit M
open Go.Lib (itoa)
theorem ptrim_any (cs : List UInt8) (hcs : cs.length ≤ 10) (hascii : ∀ b ∈ cs, b.toNat < 128) (l : List UInt8) (w : World) :
    Calls Tryz.prog 60 #[.string (strL l), .string (strL cs)] w fun e w' => e = .returned (.string (strL (l.dropWhile (cs.contains ·)))) ∧ Below w.heap.size w w' := by
  have := Any.strings_TrimLeft_laid Tryz.lays161 (by kernel_rfl) (strL l) (strL cs) w (by simp [ByteArray.size]; omega) (fun j b hb => hascii b (by simpa using List.mem_of_getElem? hb))
  exact this
theorem takeWhile_drop (p : UInt8 → Bool) (l : List UInt8) : l.take (l.length - (l.dropWhile p).length) = l.takeWhile p := by
  have h := List.takeWhile_append_dropWhile (p := p) (l := l)
  have hl : l.length = (l.takeWhile p).length + (l.dropWhile p).length := by
    rw [← List.length_append, h]
  have e : l.length - (l.dropWhile p).length = (l.takeWhile p).length := by omega
  rw [e]
  have h2 : (l.takeWhile p ++ l.dropWhile p).take (l.takeWhile p).length = l.takeWhile p := List.take_left' rfl
  rwa [h] at h2
theorem strL_len (l : List UInt8) : (strL l).size = l.length := List.size_toArray
theorem strL_extract (l : List UInt8) (k : Nat) : (strL l).extract 0 k = strL (l.take k) := by
  have := Lib.extract_upto (strL l) k
  simpa using this
/-- The rest of a string lies in a box; nothing else turns. -/
structure Rest (b : Nat) (w w' : World) (l : List UInt8) : Prop where
  box : Boxed w' b 9 (.string (strL l))
  grow : w.grownBy w' (some b)
theorem grown_trans {w w1 w2 : World} {row : Option Nat} (h : w.grownBy w1 row) (k : w1.grownBy w2 row) : w.grownBy w2 row :=
  ⟨k.os.trans h.os, k.tape.trans h.tape, k.output.trans h.output, Nat.le_trans h.size k.size, fun i hi hn => (k.block i (Nat.lt_of_lt_of_le hi h.size) hn).trans (h.block i hi hn)⟩
theorem grown_below {w w1 : World} {row : Option Nat} (h : Below w.heap.size w w1) : w.grownBy w1 row := ⟨h.os, h.tape, h.output, h.size, fun i hi _ => h.block i hi⟩
def OutT (b : Nat) (w : World) (hd tl : List UInt8) (e : Ending) (w' : World) : Prop := e = .returned (.string (strL hd)) ∧ Rest b w w' tl
theorem take_any (cs : List UInt8) (hcs : cs.length ≤ 10) (hascii : ∀ b ∈ cs, b.toNat < 128) (b : Nat) (l : List UInt8) (w : World) (hl : l.length ≤ 281474976710656) (hb : Boxed w b 9 (.string (strL l))) :
    Calls Tryz.prog 59 #[.string (strL cs), .pointer (some ⟨b, 0, none⟩)] w (OutT b w (l.takeWhile (cs.contains ·)) (l.dropWhile (cs.contains ·))) := by
  have H := Hx.mk (fun w => ptrim_any cs hcs hascii l w)
  have hdl : (l.dropWhile (cs.contains ·)).length ≤ l.length := (List.dropWhile_sublist _).length_le
  obtain ⟨t, ht⟩ : ∃ t, l.dropWhile (cs.contains ·) = t := ⟨_, rfl⟩
  have hx : (strL l).extract 0 (l.length - t.length) = strL (l.takeWhile (cs.contains ·)) := by rw [strL_extract, ← ht, takeWhile_drop]
  rw [ht] at H hdl ⊢
  obtain ⟨k, hk⟩ : ∃ k, l.length - t.length = k := ⟨_, rfl⟩
  rw [hk] at hx
  have hls := strL_len l
  have hts := strL_len t
  obtain ⟨s, hs⟩ : ∃ s, strL l = s := ⟨_, rfl⟩
  obtain ⟨u, hu⟩ : ∃ u, strL t = u := ⟨_, rfl⟩
  obtain ⟨h, hh⟩ : ∃ h, strL (l.takeWhile (cs.contains ·)) = h := ⟨_, rfl⟩
  rw [hs] at hx hls H hb
  rw [hu] at hts H
  rw [hh] at hx
  have hc := hb.cell
  have hsk : (s.size : Int) - (u.size : Int) = (k : Int) := by omega
  have hks : k ≤ s.size := by omega
  have hus : u.size ≤ s.size := by omega
  have hsz : s.size ≤ 281474976710656 := by omega
  have HU := Hx.mk hu
  have HHH := Hx.mk hh
  clear hl hk hdl ht hcs hascii hs hu hh hls hts
  go_enter Tryz.func59, Tryz.ntmps59
  go_wp2_with fail
  refine (H.out _).mono ?_
  rintro e w1 ⟨rfl, hbl⟩
  have hb1 : Boxed w1 b 9 (.string s) := (hbl.block _ hb.lt).trans hb
  have hc1 := hb1.cell
  have hf1 := hb1.frozen
  have HG := Hx.mk (grown_trans (grown_below (row := some b) hbl) (grownBy_setCell' w1 b (.string u)))
  have HB := Hx.mk (hb1.set (.string u))
  clear hbl hb hb1
  go_wp2
  go_ret
  exact ⟨by rw [HHH.out]; rfl, by rw [HU.out]; exact HB.out, HG.out⟩
/-- The library's errors lie as their initialisers lay them. -/
structure Ev (w : World) : Prop where
  syn : ∃ tp p, w.var? Tryz.prog "strconv.ErrSyntax" = some #[.iface tp p]
  ran : ∃ tp p, w.var? Tryz.prog "strconv.ErrRange" = some #[.iface tp p]
theorem var_keep {w w' : World} {name : String} {g : Nat} {cs : Array Value} (hgn : Tryz.prog.globalNamed name = some g) (h : w.var? Tryz.prog name = some cs) (hb : Below w.heap.size w w') : w'.var? Tryz.prog name = some cs := by
  unfold World.var? at h ⊢
  rw [hgn] at h ⊢
  simp only [Option.bind_some] at h ⊢
  have hlt : g < w.heap.size := by
    rcases Nat.lt_or_ge g w.heap.size with h' | h'
    · exact h'
    · rw [Array.getElem?_eq_none h'] at h; cases h
  rw [hb.block g hlt]; exact h
theorem Ev.keep {w w' : World} (h : Ev w) (hb : Below w.heap.size w w') : Ev w' := by
  obtain ⟨⟨t1, p1, h1⟩, t2, p2, h2⟩ := h
  exact ⟨⟨t1, p1, var_keep (g := 5) (by kernel_rfl) h1 hb⟩, t2, p2, var_keep (g := 6) (by kernel_rfl) h2 hb⟩
/-- The tables and the errors. -/
structure Gv (w : World) : Prop where
  pm : Pm w
  tb : Tb w
  ev : Ev w
theorem Gv.keep {w w' : World} (h : Gv w) (hb : Below w.heap.size w w') : Gv w' := ⟨h.pm.keep hb, h.tb.keep hb, h.ev.keep hb⟩
/-- What Atoi returns: the number and no error, or some int and an error. -/
def AtR (l : List UInt8) (w : World) (e : Ending) (w' : World) : Prop := (∃ n ev, e = .returned (.tuple #[.int .i64 n, ev]) ∧
    ((Lib.atoiAll l = .ok n ∧ ev = .nilIface) ∨ ((∀ v, ¬ Lib.atoiAll l = .ok v) ∧ ∃ N : Nat, ev = .iface 153 (.pointer (some ⟨N, 0, none⟩))))) ∧ Below w.heap.size w w'
theorem atoi_any (l : List UInt8) (w : World) (hs : l.length ≤ 281474976710656) (hv : Ev w) : Calls Tryz.prog 99 #[.string (strL l)] w (AtR l w) := by
  obtain ⟨⟨t1, p1, h1⟩, t2, p2, h2⟩ := hv
  have hsz : (strL l).size ≤ 281474976710656 := by rw [strL_len]; exact hs
  cases h : Lib.atoiAll (strL l).data.toList
  · rename_i v
    refine (Tryz.strconv_Atoi_ok (strL l) (by omega) v h w).mono fun e w' ⟨he, hw⟩ => ⟨⟨v, .nilIface, he, .inl ⟨h, rfl⟩⟩, ?_⟩
    rcases hw with rfl | ⟨t, rfl⟩
    · exact Below.refl _ _
    · exact Lib.bytesWorld_below _ _ _
  · refine (Any.strconv_Atoi_syntax_var Tryz.laysC172 (strL l) hsz h t1 p1 w h1).mono fun e w' ⟨N, he, _, _, hb⟩ => ⟨⟨_, _, he, .inr ⟨fun v hv => (by have := h.symm.trans hv; cases this), N, rfl⟩⟩, hb⟩
  · refine (Any.strconv_Atoi_range_var Tryz.laysC172 (strL l) hsz h t2 p2 w h2).mono fun e w' ⟨N, he, _, _, hb⟩ => ⟨⟨_, _, he, .inr ⟨fun v hv => (by have := h.symm.trans hv; cases this), N, rfl⟩⟩, hb⟩
/-- What number reads. -/
def numF (l : List UInt8) : Int := match Lib.atoiAll l with
  | .ok n => if -576 ≤ n ∧ n ≤ 576 then n else 0
  | _ => 0
theorem numF_bd (l : List UInt8) : -576 ≤ numF l ∧ numF l ≤ 576 := by
  unfold numF
  split
  · split <;> omega
  · omega
theorem number_any (l : List UInt8) (w : World) (hs : l.length ≤ 281474976710656) (hv : Ev w) : Calls Tryz.prog 83 #[.string (strL l)] w fun e w' => e = .returned (.int .i64 (numF l)) ∧ Below w.heap.size w w' := by
  have H := Hx.mk (fun w hv => atoi_any l w hs hv)
  have HV := Hx.mk hv
  obtain ⟨s, hse⟩ : ∃ s, strL l = s := ⟨_, rfl⟩
  rw [hse] at H ⊢
  clear hv hs hse
  go_enter Tryz.func83, Tryz.ntmps83
  go_wp2_with fail
  refine (H.out _ HV.out).mono ?_
  rintro e w1 ⟨⟨n, ev, rfl, hcase⟩, hb⟩
  have HB := Hx.mk hb
  clear hb
  rcases hcase with ⟨hn, rfl⟩ | ⟨hn, N, rfl⟩
  · by_cases h1 : -576 ≤ n
    · by_cases h2 : n ≤ 576
      · have HF := Hx.mk (show numF l = n by simp only [numF, hn, if_pos (And.intro h1 h2)])
        clear hn
        go_wp2
        go_ret
        exact ⟨by rw [HF.out]; rfl, HB.out⟩
      · have HF := Hx.mk (show numF l = 0 by simp only [numF, hn]; rw [if_neg (fun h => h2 h.2)])
        clear hn
        go_wp2
        go_ret
        exact ⟨by rw [HF.out]; rfl, HB.out⟩
    · have HF := Hx.mk (show numF l = 0 by simp only [numF, hn]; rw [if_neg (fun h => h1 h.1)])
      clear hn
      go_wp2
      go_ret
      exact ⟨by rw [HF.out]; rfl, HB.out⟩
  · have HF := Hx.mk (show numF l = 0 by
      unfold numF
      split
      · rename_i m hm; exact (hn m hm).elim
      · rfl)
    clear hn
    go_wp2
    go_ret
    exact ⟨by rw [HF.out]; rfl, HB.out⟩
theorem toList_ne {t s : ByteArray} (h : ¬ t = s) : (t.toList == s.toList) = false := beq_eq_false_iff_ne.2 fun e => h (by
  rw [ByteArray.toList_eq, ByteArray.toList_eq] at e
  apply ByteArray.ext
  apply Array.ext'
  exact e)
/-- Which prime a text is. -/
def indexF (l : List UInt8) : Int := if itoa 2 = l then 0 else if itoa 3 = l then 1 else if itoa 5 = l then 2 else if itoa 7 = l then 3 else if itoa 11 = l then 4 else if itoa 13 = l then 5 else -1
theorem strL_inj {l m : List UInt8} : strL l = strL m ↔ l = m := by
  constructor
  · intro h; have := congrArg (fun b : ByteArray => b.data.toList) h; simpa using this
  · rintro rfl; rfl
theorem index_any (l : List UInt8) (w : World) (hg : Gv w) : Calls Tryz.prog 82 #[.string (strL l)] w fun e w' => e = .returned (.int .i64 (indexF l)) ∧ Below w.heap.size w w' := by
  have hP := hg.pm
  have g0 := hP.c0
  have i0 : ∀ w, (Instr.index 22 primes (.int .i64 0)).run Tryz.prog w = .ok (.int .i64 2) w := fun _ => by kernel_rfl
  have H0 := Hx.mk (fun w ht => itoa_any 2 w (by omega) (by omega) ht)
  have g1 := hP.c1
  have i1 : ∀ w, (Instr.index 22 primes (.int .i64 1)).run Tryz.prog w = .ok (.int .i64 3) w := fun _ => by kernel_rfl
  have H1 := Hx.mk (fun w ht => itoa_any 3 w (by omega) (by omega) ht)
  have g2 := hP.c2
  have i2 : ∀ w, (Instr.index 22 primes (.int .i64 2)).run Tryz.prog w = .ok (.int .i64 5) w := fun _ => by kernel_rfl
  have H2 := Hx.mk (fun w ht => itoa_any 5 w (by omega) (by omega) ht)
  have g3 := hP.c3
  have i3 : ∀ w, (Instr.index 22 primes (.int .i64 3)).run Tryz.prog w = .ok (.int .i64 7) w := fun _ => by kernel_rfl
  have H3 := Hx.mk (fun w ht => itoa_any 7 w (by omega) (by omega) ht)
  have g4 := hP.c4
  have i4 : ∀ w, (Instr.index 22 primes (.int .i64 4)).run Tryz.prog w = .ok (.int .i64 11) w := fun _ => by kernel_rfl
  have H4 := Hx.mk (fun w ht => itoa_any 11 w (by omega) (by omega) ht)
  have g5 := hP.c5
  have i5 : ∀ w, (Instr.index 22 primes (.int .i64 5)).run Tryz.prog w = .ok (.int .i64 13) w := fun _ => by kernel_rfl
  have H5 := Hx.mk (fun w ht => itoa_any 13 w (by omega) (by omega) ht)
  have HT := Hx.mk hg.tb
  have hB : Hx (Below w.heap.size w w) := ⟨Below.refl _ _⟩
  clear hg hP
  go_enter Tryz.func82, Tryz.ntmps82
  go_wp2
  clear g0 g1 g2 g3 g4 g5
  refine wp_loop_rounds 7 ?_
  rw [rounds_succ]
  go_wp2_with fail
  refine (H0.out _ (HT.out.keep hB.out)).mono ?_
  rintro e w1 ⟨rfl, hb⟩
  replace hB : Hx (Below w.heap.size w w1) := ⟨hB.out.trans (hb.mono hB.out.size)⟩
  clear hb
  by_cases h : itoa 2 = l
  · have HF := Hx.mk (show indexF l = 0 by rw [indexF, if_pos h])
    have hq : (itoa 2 == l) = true := by rw [h]; exact beq_self_eq_true _
    clear h
    go_wp2
    go_ret
    exact ⟨by rw [HF.out]; rfl, hB.out⟩
  have hq0 : (itoa 2 == l) = false := beq_eq_false_iff_ne.2 h
  have k0 := Hx.mk h
  clear h
  go_wp2_with fail
  rw [rounds_succ]
  go_wp2_with fail
  refine (H1.out _ (HT.out.keep hB.out)).mono ?_
  rintro e w2 ⟨rfl, hb⟩
  replace hB : Hx (Below w.heap.size w w2) := ⟨hB.out.trans (hb.mono hB.out.size)⟩
  clear hb
  by_cases h : itoa 3 = l
  · have HF := Hx.mk (show indexF l = 1 by rw [indexF, if_neg k0.out, if_pos h])
    have hq : (itoa 3 == l) = true := by rw [h]; exact beq_self_eq_true _
    clear h
    go_wp2
    go_ret
    exact ⟨by rw [HF.out]; rfl, hB.out⟩
  have hq1 : (itoa 3 == l) = false := beq_eq_false_iff_ne.2 h
  have k1 := Hx.mk h
  clear h
  go_wp2_with fail
  rw [rounds_succ]
  go_wp2_with fail
  refine (H2.out _ (HT.out.keep hB.out)).mono ?_
  rintro e w3 ⟨rfl, hb⟩
  replace hB : Hx (Below w.heap.size w w3) := ⟨hB.out.trans (hb.mono hB.out.size)⟩
  clear hb
  by_cases h : itoa 5 = l
  · have HF := Hx.mk (show indexF l = 2 by rw [indexF, if_neg k0.out, if_neg k1.out, if_pos h])
    have hq : (itoa 5 == l) = true := by rw [h]; exact beq_self_eq_true _
    clear h
    go_wp2
    go_ret
    exact ⟨by rw [HF.out]; rfl, hB.out⟩
  have hq2 : (itoa 5 == l) = false := beq_eq_false_iff_ne.2 h
  have k2 := Hx.mk h
  clear h
  go_wp2_with fail
  rw [rounds_succ]
  go_wp2_with fail
  refine (H3.out _ (HT.out.keep hB.out)).mono ?_
  rintro e w4 ⟨rfl, hb⟩
  replace hB : Hx (Below w.heap.size w w4) := ⟨hB.out.trans (hb.mono hB.out.size)⟩
  clear hb
  by_cases h : itoa 7 = l
  · have HF := Hx.mk (show indexF l = 3 by rw [indexF, if_neg k0.out, if_neg k1.out, if_neg k2.out, if_pos h])
    have hq : (itoa 7 == l) = true := by rw [h]; exact beq_self_eq_true _
    clear h
    go_wp2
    go_ret
    exact ⟨by rw [HF.out]; rfl, hB.out⟩
  have hq3 : (itoa 7 == l) = false := beq_eq_false_iff_ne.2 h
  have k3 := Hx.mk h
  clear h
  go_wp2_with fail
  rw [rounds_succ]
  go_wp2_with fail
  refine (H4.out _ (HT.out.keep hB.out)).mono ?_
  rintro e w5 ⟨rfl, hb⟩
  replace hB : Hx (Below w.heap.size w w5) := ⟨hB.out.trans (hb.mono hB.out.size)⟩
  clear hb
  by_cases h : itoa 11 = l
  · have HF := Hx.mk (show indexF l = 4 by rw [indexF, if_neg k0.out, if_neg k1.out, if_neg k2.out, if_neg k3.out, if_pos h])
    have hq : (itoa 11 == l) = true := by rw [h]; exact beq_self_eq_true _
    clear h
    go_wp2
    go_ret
    exact ⟨by rw [HF.out]; rfl, hB.out⟩
  have hq4 : (itoa 11 == l) = false := beq_eq_false_iff_ne.2 h
  have k4 := Hx.mk h
  clear h
  go_wp2_with fail
  rw [rounds_succ]
  go_wp2_with fail
  refine (H5.out _ (HT.out.keep hB.out)).mono ?_
  rintro e w6 ⟨rfl, hb⟩
  replace hB : Hx (Below w.heap.size w w6) := ⟨hB.out.trans (hb.mono hB.out.size)⟩
  clear hb
  by_cases h : itoa 13 = l
  · have HF := Hx.mk (show indexF l = 5 by rw [indexF, if_neg k0.out, if_neg k1.out, if_neg k2.out, if_neg k3.out, if_neg k4.out, if_pos h])
    have hq : (itoa 13 == l) = true := by rw [h]; exact beq_self_eq_true _
    clear h
    go_wp2
    go_ret
    exact ⟨by rw [HF.out]; rfl, hB.out⟩
  have hq5 : (itoa 13 == l) = false := beq_eq_false_iff_ne.2 h
  have k5 := Hx.mk h
  clear h
  go_wp2_with fail
  rw [rounds_succ]
  go_wp2
  have HF := Hx.mk (show indexF l = -1 by rw [indexF, if_neg k0.out, if_neg k1.out, if_neg k2.out, if_neg k3.out, if_neg k4.out, if_neg k5.out])
  go_ret
  exact ⟨by rw [HF.out]; rfl, hB.out⟩
end Go.Proofs.YtdlfnonlalkjdaaGreatDoor

/- Cut at a slash; Atoi, whatever the string. -/
import Derived.Test.YthfpkjeobdajiabGreatDoorR14
import Derived.Test.YthfpkjeobdajiabGreatDoorShelg
import Derived.Lib.AtoiErrMem
import Derived.Lib.CutLaws
namespace Go.Proofs.YthfpkjeobdajiabGreatDoor
open Go.RowKit M
/-- The library's errors lie as their initialisers lay them. -/
structure Ev (w : World) : Prop where
  syn : ∃ tp p, w.var? Tryz.prog "strconv.ErrSyntax" = some #[.iface tp p]
  ran : ∃ tp p, w.var? Tryz.prog "strconv.ErrRange" = some #[.iface tp p]
theorem var_keep {w w' : World} {name : String} {g : Nat} {cs : Array Value} (hgn : Tryz.prog.globalNamed name = some g) (h : w.var? Tryz.prog name = some cs) (hb : Below w.heap.size w w') : w'.var? Tryz.prog name = some cs := by
  unfold World.var? at h ⊢
  rw [hgn] at h ⊢
  simp only [Option.bind_some] at h ⊢
  have hlt : g < w.heap.size := by
    rcases Nat.lt_or_ge g w.heap.size with h' | h'
    · exact h'
    · rw [Array.getElem?_eq_none h'] at h; cases h
  rw [hb.block g hlt]; exact h
theorem Ev.keep {w w' : World} (h : Ev w) (hb : Below w.heap.size w w') : Ev w' := by
  obtain ⟨⟨t1, p1, h1⟩, t2, p2, h2⟩ := h
  exact ⟨⟨t1, p1, var_keep (g := 1) (by kernel_rfl) h1 hb⟩, t2, p2, var_keep (g := 2) (by kernel_rfl) h2 hb⟩
/-- What Atoi returns: the number and no error, or some int and an error. -/
def AtR (l : List UInt8) (w : World) (e : Ending) (w' : World) : Prop := (∃ n ev, e = .returned (.tuple #[.int .i64 n, ev]) ∧
    ((Lib.atoiAll l = .ok n ∧ ev = .nilIface) ∨ ((∀ v, ¬ Lib.atoiAll l = .ok v) ∧ ∃ N : Nat, ev = .iface 86 (.pointer (some ⟨N, 0, none⟩))))) ∧ Below w.heap.size w w'
theorem atoi_any (s : ByteArray) (w : World) (hs : s.size ≤ 281474976710656) (hv : Ev w) : Calls Tryz.prog 68 #[.string s] w (AtR s.data.toList w) := by
  obtain ⟨⟨t1, p1, h1⟩, t2, p2, h2⟩ := hv
  cases h : Lib.atoiAll s.data.toList
  · rename_i v
    refine (Tryz.strconv_Atoi_ok s (by omega) v h w).mono fun e w' ⟨he, hw⟩ => ⟨⟨v, .nilIface, he, .inl ⟨h, rfl⟩⟩, ?_⟩
    rcases hw with rfl | ⟨t, rfl⟩
    · exact Below.refl _ _
    · exact Lib.bytesWorld_below _ _ _
  · refine (Any.strconv_Atoi_syntax_var Tryz.laysC172 s hs h t1 p1 w h1).mono fun e w' ⟨N, he, _, _, hb⟩ => ⟨⟨_, _, he, .inr ⟨fun v hv => (by rw [h] at hv; cases hv), N, rfl⟩⟩, hb⟩
  · refine (Any.strconv_Atoi_range_var Tryz.laysC172 s hs h t2 p2 w h2).mono fun e w' ⟨N, he, _, _, hb⟩ => ⟨⟨_, _, he, .inr ⟨fun v hv => (by rw [h] at hv; cases hv), N, rfl⟩⟩, hb⟩
theorem cut67_any (s : ByteArray) (w : World) (hs : s.size ≤ 281474976710656) : Calls Tryz.prog 73 #[.string s, .string ⟨#[47]⟩] w fun e w' => e = .returned (.tuple #[.string (strL (Lib.cut s.data.toList [47]).1), .string (strL (Lib.cut s.data.toList [47]).2.1), .bool (Lib.cut s.data.toList [47]).2.2]) ∧ Below w.heap.size w w' := by
  have HI := Bx.mk (fun w => Tryz.stringslite_Index_one s 47 w)
  rcases Lib.indexB_cases s ⟨#[47]⟩ with hi | ⟨i, hi, hr⟩
  · obtain ⟨c1, c2, c3⟩ := Lib.cutB_miss s ⟨#[47]⟩ hi
    have e : Lib.indexByte s.data.toList 47 = -1 := by rw [← Lib.index_one]; exact hi
    rw [e] at HI
    have E1 := Bx.mk (show strL (Lib.cut s.data.toList [47]).1 = _ from c1)
    have E2 := Bx.mk (show strL (Lib.cut s.data.toList [47]).2.1 = _ from c2)
    have E3 := Bx.mk c3
    clear c1 c2 c3 e hi
    go_enter Tryz.func73, Tryz.ntmps73
    go_wp2_with fail
    refine (HI.out _).mono ?_
    rintro e w' ⟨rfl, rfl⟩
    go_wp2_with fail
    go_ret3
    exact ⟨by rw [E1.out, E2.out, E3.out]; rfl, Below.refl _ _⟩
  · obtain ⟨c1, c2, c3⟩ := Lib.cutB_hit s ⟨#[47]⟩ i hi
    have e : Lib.indexByte s.data.toList 47 = (i : Int) := by rw [← Lib.index_one]; exact hi
    rw [e] at HI
    have E1 := Bx.mk (show strL (Lib.cut s.data.toList [47]).1 = _ from c1)
    have E2 := Bx.mk (show strL (Lib.cut s.data.toList [47]).2.1 = _ from c2)
    have E3 := Bx.mk c3
    have hr' : i + 1 ≤ s.size := hr
    clear c1 c2 c3 e hi hr
    go_enter Tryz.func73, Tryz.ntmps73
    go_wp2_with fail
    refine (HI.out _).mono ?_
    rintro e w' ⟨rfl, rfl⟩
    go_wp2_with fail
    go_quiet (fail)
    go_wp2
    go_ret3
    refine ⟨?_, by first | exact Below.refl _ _ | (repeat (first | exact Below.refl _ _ | apply below_drewN | apply Below.drew))⟩
    rw [E1.out, E2.out, E3.out]
    rfl
theorem cut_any (s : ByteArray) (w : World) (hs : s.size ≤ 281474976710656) : Calls Tryz.prog 67 #[.string s, .string ⟨#[47]⟩] w fun e w' => e = .returned (.tuple #[.string (strL (Lib.cut s.data.toList [47]).1), .string (strL (Lib.cut s.data.toList [47]).2.1), .bool (Lib.cut s.data.toList [47]).2.2]) ∧ Below w.heap.size w w' := by
  have HC := Bx.mk (fun w => cut67_any s w hs)
  go_enter Tryz.func67, Tryz.ntmps67
  go_wp2_with fail
  refine (HC.out _).mono ?_
  rintro e w' ⟨rfl, hb⟩
  go_wp2
  go_ret3
  exact ⟨rfl, hb⟩
theorem strL_size (l : List UInt8) : (strL l).size = l.length := List.size_toArray
theorem cut_size (s : ByteArray) : (strL (Lib.cut s.data.toList [47]).1).size ≤ s.size ∧ (strL (Lib.cut s.data.toList [47]).2.1).size ≤ s.size := by
  have h : (Lib.cut s.data.toList [47]).1.length ≤ s.data.toList.length ∧ (Lib.cut s.data.toList [47]).2.1.length ≤ s.data.toList.length := by
    unfold Lib.cut
    split
    · exact ⟨by rw [List.length_take]; omega, by rw [List.length_drop]; omega⟩
    · exact ⟨Nat.le_refl _, Nat.zero_le _⟩
  have e : s.data.toList.length = s.size := Array.length_toList
  rw [e] at h
  exact ⟨by have := strL_size (Lib.cut s.data.toList [47]).1; omega, by have := strL_size (Lib.cut s.data.toList [47]).2.1; omega⟩
/-- What stays while a text is read: the table, the errors. -/
structure Tv (w : World) : Prop where
  tb : Tb w
  ev : Ev w
theorem Tv.keep {w w' : World} (h : Tv w) (hb : Below w.heap.size w w') : Tv w' := ⟨h.tb.keep hb, h.ev.keep hb⟩
end Go.Proofs.YthfpkjeobdajiabGreatDoor

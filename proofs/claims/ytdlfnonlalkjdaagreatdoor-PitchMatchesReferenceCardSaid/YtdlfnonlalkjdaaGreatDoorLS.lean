/- what the laws of pitch share: what is kept since the start. -/
import Derived.Test.YtdlfnonlalkjdaaGreatDoorP19
import Derived.Test.YtdlfnonlalkjdaaGreatDoorP10w
import Derived.Test.YtdlfnonlalkjdaaGreatDoorP21
namespace Go.Proofs.YtdlfnonlalkjdaaGreatDoor
open Go.RowKit M
/-- What is kept since the start: the tables, numbers, arrays that lie in variables. -/
structure LS (w0 w : World) (L : List (Value × Nat)) (R : List (Nat × TypeId × Array Value)) : Prop where
  bl : Below w0.heap.size w0 w
  gv : Gv w
  nm : Live w L
  rows : ∀ t ∈ R, RowB w t.1 t.2.2 t.2.1
theorem LS.call {w0 w w' : World} {L : List (Value × Nat)} {R : List (Nat × TypeId × Array Value)} (h : LS w0 w L R) (hb : Below w.heap.size w w') : LS w0 w' L R :=
  ⟨h.bl.trans (hb.mono h.bl.size), h.gv.keep hb, h.nm.keep hb, fun t ht => (h.rows t ht).kept (row := none) (grown_below hb) (by simp)⟩
theorem LS.push {w0 w : World} {L : List (Value × Nat)} {R : List (Nat × TypeId × Array Value)} (h : LS w0 w L R) (cs : Array Value) (t : TypeId) : LS w0 (w.alloc (.cells cs t)) L ((w.heap.size, t, cs) :: R) :=
  ⟨(h.call ((Below.refl _ _).alloc (Nat.le_refl _) _)).bl, (h.call ((Below.refl _ _).alloc (Nat.le_refl _) _)).gv, (h.call ((Below.refl _ _).alloc (Nat.le_refl _) _)).nm, fun u hu => by
    rcases List.mem_cons.1 hu with rfl | hu
    · exact World.alloc_heap_new w (.cells cs t)
    · exact (h.rows u hu).alloc _⟩
theorem LS.num {w0 w : World} {L : List (Value × Nat)} {R : List (Nat × TypeId × Array Value)} {v : Value} {a : Nat} (h : LS w0 w L R) (hn : Nm w v a) : LS w0 w ((v, a) :: L) R :=
  ⟨h.bl, h.gv, h.nm.cons hn, h.rows⟩
theorem LS.live {w0 w w' : World} {L L' : List (Value × Nat)} {R : List (Nat × TypeId × Array Value)} (h : LS w0 w L R) (hl : Live w' L') (hb : Below w.heap.size w w') : LS w0 w' L' R :=
  ⟨(h.call hb).bl, (h.call hb).gv, hl, (h.call hb).rows⟩
theorem LS.lit {w0 w : World} {L : List (Value × Nat)} {R : List (Nat × TypeId × Array Value)} (h : LS w0 w L R) (xs : List Int) (a : Nat) (ho : Ok xs) (hl : xs.getLast? ≠ some 0) (he : val xs = a) (hlen : xs.length ≤ 640) :
    LS w0 (w.alloc (.cells (xs.map (Value.int .u32)).toArray 47)) ((.slice (some ⟨w.heap.size, 0, none⟩) xs.length xs.length, a) :: L) R :=
  (h.call ((Below.refl _ _).alloc (Nat.le_refl _) _)).num (nm_lit w xs a ho hl he hlen)
theorem LS.drew {w0 w : World} {L : List (Value × Nat)} {R : List (Nat × TypeId × Array Value)} (h : LS w0 w L R) : LS w0 w.drew L R := h.call (Below.refl _ _).drew
theorem LS.drewN {w0 w : World} {L : List (Value × Nat)} {R : List (Nat × TypeId × Array Value)} (h : LS w0 w L R) (n : Nat) : LS w0 (w.drewN n) L R := h.call (below_drewN (Below.refl _ _) n)
theorem LS.start (w : World) (hg : Gv w) : LS w w [] [] := ⟨Below.refl _ _, hg, (fun p hp => by cases hp), fun t ht => by cases ht⟩
/-- The six cells of a row. -/
theorem LS.six {w0 w : World} {L : List (Value × Nat)} {R : List (Nat × TypeId × Array Value)} (h : LS w0 w L R) (b : Nat) (t : TypeId) (c0 c1 c2 c3 c4 c5 : Value) (hm : (b, t, #[c0, c1, c2, c3, c4, c5]) ∈ R) :
    w.cell? ⟨b, 0, none⟩ = some c0 ∧ w.cell? ⟨b, 1, none⟩ = some c1 ∧ w.cell? ⟨b, 2, none⟩ = some c2 ∧ w.cell? ⟨b, 3, none⟩ = some c3 ∧ w.cell? ⟨b, 4, none⟩ = some c4 ∧ w.cell? ⟨b, 5, none⟩ = some c5 ∧ b < w.heap.size :=
  have k := h.rows _ hm
  ⟨k.cell 0, k.cell 1, k.cell 2, k.cell 3, k.cell 4, k.cell 5, k.lt⟩
def xComma : Nat → Int := vec (-4) 4 (-1) 0 0 0
theorem up_comma : up xComma = 81 := by decide
theorem dn_comma : dn xComma = 80 := by decide
abbrev A6 (a b c d e f : Int) : Value := .agg #[.int .i64 a, .int .i64 b, .int .i64 c, .int .i64 d, .int .i64 e, .int .i64 f]
abbrev C6 (a b c d e f : Int) : Array Value := #[.int .i64 a, .int .i64 b, .int .i64 c, .int .i64 d, .int .i64 e, .int .i64 f]
theorem x1 (w : World) (hP : Pm w) : Calls Tryz.prog 21 #[.int .i64 81, .int .i64 80] w fun e w' => e = .returned (.tuple #[A6 (-4) 4 (-1) 0 0 0, .int .i64 0]) ∧ Below w.heap.size w w' :=
  ratio_v 81 80 w hP (by omega) (by omega) (by omega) (by omega) (v := vec (-4) 4 (-1) 0 0 0) fac81 fac80 (.inl ⟨rfl, rfl, by decide⟩)
theorem x2 (w : World) (hP : Pm w) : Calls Tryz.prog 21 #[.int .i64 17, .int .i64 34] w fun e w' => e = .returned (.tuple #[A6 (-1) 0 0 0 0 0, .int .i64 0]) ∧ Below w.heap.size w w' :=
  ratio_v 17 34 w hP (by omega) (by omega) (by omega) (by omega) (v := vec (-1) 0 0 0 0 0) fac17 fac34 (.inl ⟨rfl, rfl, by decide⟩)
theorem x3 (w : World) (hP : Pm w) : Calls Tryz.prog 21 #[.int .i64 17, .int .i64 16] w fun e w' => e = .returned (.tuple #[A6 0 0 0 0 0 0, .int .i64 9]) ∧ Below w.heap.size w w' :=
  ratio_v 17 16 w hP (by omega) (by omega) (by omega) (by omega) (v := vec 0 0 0 0 0 0) fac17 fac16 (.inr ⟨by omega, rfl, by decide⟩)
theorem x4 (w : World) (hP : Pm w) : Calls Tryz.prog 23 #[A6 (-4) 4 (-1) 0 0 0] w fun e w' => ∃ a b, e = .returned (.tuple #[a, b, .int .i64 0]) ∧ Nm w' a 81 ∧ Nm w' b 80 ∧ Below w.heap.size w w' := by
  have := pfraction_ok (vec (-4) 4 (-1) 0 0 0) w hP (by decide)
  rw [show up (vec (-4) 4 (-1) 0 0 0) = 81 by decide, show dn (vec (-4) 4 (-1) 0 0 0) = 80 by decide] at this
  exact this
theorem x5 (w : World) : Calls Tryz.prog 9 #[A6 0 0 1 0 0 0] w fun e w' => e = .returned (.tuple #[A6 0 0 12 0 0 0, .int .i64 0]) ∧ Below w.heap.size w w' :=
  of_ok (vec 0 0 1 0 0 0) (vec 0 0 12 0 0 0) w (by decide) (by decide)
theorem x6 (w : World) : Calls Tryz.prog 9 #[A6 (-1) 1 0 0 0 0] w fun e w' => e = .returned (.tuple #[A6 (-12) 12 0 0 0 0, .int .i64 0]) ∧ Below w.heap.size w w' :=
  of_ok (vec (-1) 1 0 0 0 0) (vec (-12) 12 0 0 0 0) w (by decide) (by decide)
theorem x7 (w : World) : Calls Tryz.prog 17 #[A6 0 0 12 0 0 0, .int .i64 1, .int .i64 4] w fun e w' => e = .returned (.tuple #[A6 0 0 3 0 0 0, .int .i64 0]) ∧ Below w.heap.size w w' :=
  power_ok (vec 0 0 12 0 0 0) (vec 0 0 3 0 0 0) (vec 0 0 3 0 0 0) 1 4 0 w (by decide) (by omega) (by omega) (by omega) (by omega) (by decide) (chk_ok (by decide)).1 (chk_ok (by decide)).2
theorem text_5 : textL (vec 0 0 3 0 0 0) = [53, 94, 49, 47, 52] := by decide +kernel
theorem text_23 : textL (vec (-12) 12 0 0 0 0) = [50, 94, 45, 49, 42, 51] := by decide +kernel
theorem x8 (w : World) (hG : Gv w) : Calls Tryz.prog 26 #[A6 0 0 3 0 0 0] w fun e w' => e = .returned (.tuple #[.string ⟨#[53, 94, 49, 47, 52]⟩, .int .i64 0]) ∧ Below w.heap.size w w' := by
  have := ptextF_ok (vec 0 0 3 0 0 0) w hG (by decide)
  rw [text_5] at this; exact this
theorem x9 (w : World) (hG : Gv w) : Calls Tryz.prog 26 #[A6 (-12) 12 0 0 0 0] w fun e w' => e = .returned (.tuple #[.string ⟨#[50, 94, 45, 49, 42, 51]⟩, .int .i64 0]) ∧ Below w.heap.size w w' := by
  have := ptextF_ok (vec (-12) 12 0 0 0 0) w hG (by decide)
  rw [text_23] at this; exact this
theorem x10 (w : World) : Calls Tryz.prog 11 #[A6 0 0 3 0 0 0] w fun e w' => e = .returned (.tuple #[A6 0 0 0 0 0 0, .int .i64 9]) ∧ Below w.heap.size w w' :=
  whole_kind (vec 0 0 3 0 0 0) w (by decide) ⟨2, by omega, by decide⟩
theorem sg_a : sg (fun i => vec 0 0 3 0 0 0 i - vec (-12) 12 0 0 0 0 i) = -1 := by decide +kernel
theorem sg_b : sg (fun i => vec (-144) 144 0 0 0 0 i - vec 84 0 0 0 0 0 i) = 1 := by decide +kernel
theorem x11 (w : World) (hP : Pm w) : Calls Tryz.prog 19 #[A6 0 0 3 0 0 0, A6 (-12) 12 0 0 0 0] w fun e w' => e = .returned (.tuple #[.int .i64 (-1), .int .i64 0]) ∧ Below w.heap.size w w' := by
  have := pcmp_ok (vec 0 0 3 0 0 0) (vec (-12) 12 0 0 0 0) w hP (by decide) (by decide)
  rw [sg_a] at this; exact this
theorem x12 (w : World) (hP : Pm w) : Calls Tryz.prog 19 #[A6 (-144) 144 0 0 0 0, A6 84 0 0 0 0 0] w fun e w' => e = .returned (.tuple #[.int .i64 1, .int .i64 0]) ∧ Below w.heap.size w w' := by
  have := pcmp_ok (vec (-144) 144 0 0 0 0) (vec 84 0 0 0 0 0) w hP (by decide) (by decide)
  rw [sg_b] at this; exact this
theorem no_a : (readV [51, 42, 50]).2 = false := by decide +kernel
theorem no_b : (readV [50, 94, 50, 47, 50]).2 = false := by decide +kernel
theorem no_c : (readV [50, 94, 49]).2 = false := by decide +kernel
theorem x13 (w : World) (hG : Gv w) : Calls Tryz.prog 28 #[.string ⟨#[51, 42, 50]⟩] w fun e w' => e = .returned (.tuple #[A6 0 0 0 0 0 0, .int .i64 8]) ∧ Below w.heap.size w w' :=
  pparse_no [51, 42, 50] w hG (by simp) no_a
theorem x14 (w : World) (hG : Gv w) : Calls Tryz.prog 28 #[.string ⟨#[50, 94, 50, 47, 50]⟩] w fun e w' => e = .returned (.tuple #[A6 0 0 0 0 0 0, .int .i64 8]) ∧ Below w.heap.size w w' :=
  pparse_no [50, 94, 50, 47, 50] w hG (by simp) no_b
theorem x15 (w : World) (hG : Gv w) : Calls Tryz.prog 28 #[.string ⟨#[50, 94, 49]⟩] w fun e w' => e = .returned (.tuple #[A6 0 0 0 0 0 0, .int .i64 8]) ∧ Below w.heap.size w w' :=
  pparse_no [50, 94, 49] w hG (by simp) no_c
theorem x16 (w : World) (hG : Gv w) : Calls Tryz.prog 28 #[.string ⟨#[50, 94, 45, 49, 42, 51]⟩] w fun e w' => e = .returned (.tuple #[A6 (-12) 12 0 0 0 0, .int .i64 0]) ∧ Below w.heap.size w w' := by
  obtain ⟨q, hq, he⟩ := read_text (p := vec (-12) 12 0 0 0 0) (by decide)
  rw [text_23] at hq
  have := pparse_ok [50, 94, 45, 49, 42, 51] w hG (by simp) q hq
  unfold OutV at this
  rw [PV_congr he] at this
  exact this
theorem same81 {w : World} {L : List (Value × Nat)} {va vb : Value} {a : Nat} (hL : Live w L) (ha : (va, a) ∈ L) (hb : (vb, a) ∈ L) : Calls Tryz.prog 25 #[va, vb] w fun e w' => e = .returned (.bool true) ∧ Live w' L ∧ Below w.heap.size w w' := same_yes hL ha hb rfl
end Go.Proofs.YtdlfnonlalkjdaaGreatDoor

/- What the rows of scale's laws share: exponents that come in, the tables as they are laid. -/
import Derived.Test.YtomgihlkbmaleaaDoorQS
import Derived.Test.YtomgihlkbmaleaaDoorRows
import Derived.Lib.SmallJoins
import Derived.WalkKit
import Derived.ProofKit
import Derived.OpenShut
import Derived.ShutString
import Derived.Lay
import Derived.MakeChecks
import Derived.Stop.Joined
import Derived.Stop.LaidErr
import Derived.LaidLaws
import Derived.ChangeBears2
namespace Go.Proofs.YtomgihlkbmaleaaDoor
open Go.ChangeShapes Go.WideShapes Go.ChangeAt Go.RowKit Go.Joins M
theorem cellsP : Tryd.prog.cellsOf 23 = 6 := by kernel_rfl
theorem cells3 : Tryd.prog.cellsOf 3 = 1 := by kernel_rfl
theorem laidOut : laidOutB Tryd.prog = true := by kernel_rfl
theorem own : ownKnob Tryd.prog.godebug = none := by kernel_rfl
def d6 {H : Type} (v : Nat → Int) : DataW H := .agg [.lit (.int .i64 (v 0)), .lit (.int .i64 (v 1)), .lit (.int .i64 (v 2)), .lit (.int .i64 (v 3)), .lit (.int .i64 (v 4)), .lit (.int .i64 (v 5))]
structure W6 (v : Nat → Int) : Prop where
  w0 : (Lit.int .i64 (v 0)).wf = true
  w1 : (Lit.int .i64 (v 1)).wf = true
  w2 : (Lit.int .i64 (v 2)).wf = true
  w3 : (Lit.int .i64 (v 3)).wf = true
  w4 : (Lit.int .i64 (v 4)).wf = true
  w5 : (Lit.int .i64 (v 5)).wf = true
theorem array6 {α : Type} {cs : Array α} (h : cs.size = 6) : ∃ c0 c1 c2 c3 c4 c5, cs = #[c0, c1, c2, c3, c4, c5] := by
  obtain ⟨l⟩ := cs
  match l, h with
  | [c0, c1, c2, c3, c4, c5], _ => exact ⟨c0, c1, c2, c3, c4, c5, rfl⟩
theorem list6 {α : Type} {l : List α} (h : l.length = 6) : ∃ c0 c1 c2 c3 c4 c5, l = [c0, c1, c2, c3, c4, c5] := by
  match l, h with
  | [c0, c1, c2, c3, c4, c5], _ => exact ⟨c0, c1, c2, c3, c4, c5, rfl⟩
section
variable {H : Type} {enc : TypeId × Value → H} {w : World} {base : Nat} {spare : Nat → Bool} {held : Bool}
set_option maxRecDepth 100000 in
theorem six_open {t : TypeId} (hu : Tryd.prog.underlying t = some (.array 6 3)) (hc : Tryd.prog.cellsOf t = 6) {r : Reach} {b0 : Nat} {v : Value} {d : DataW H} {p : List MemPlace} (hv : Value.okWide Tryd.prog w r b0 t v) (h : DataW.Trod enc Tryd.prog w base spare held t v d p) :
    ∃ a : Nat → Int, v = PV a ∧ d = d6 a ∧ p = [] ∧ W6 a := by
  simp only [Value.okWide, hu] at hv
  obtain ⟨cs, rfl, hsz, _⟩ := hv
  obtain ⟨c0, c1, c2, c3, c4, c5, rfl⟩ := array6 (hsz.trans hc)
  obtain ⟨fuel, hf⟩ := h
  obtain ⟨xs, m, _, hx, _, hl, hi⟩ := DataW.trod_array hu hf
  obtain ⟨y0, y1, y2, y3, y4, y5, rfl⟩ := list6 hl
  have i0 := hi 0 (by omega)
  have i1 := hi 1 (by omega)
  have i2 := hi 2 (by omega)
  have i3 := hi 3 (by omega)
  have i4 := hi 4 (by omega)
  have i5 := hi 5 (by omega)
  simp [cells3, Value.cells] at i0 i1 i2 i3 i4 i5
  obtain ⟨a0, e0, rfl, k0⟩ := DataW.trod_int Tryd.underlying3 i0
  obtain ⟨a1, e1, rfl, k1⟩ := DataW.trod_int Tryd.underlying3 i1
  obtain ⟨a2, e2, rfl, k2⟩ := DataW.trod_int Tryd.underlying3 i2
  obtain ⟨a3, e3, rfl, k3⟩ := DataW.trod_int Tryd.underlying3 i3
  obtain ⟨a4, e4, rfl, k4⟩ := DataW.trod_int Tryd.underlying3 i4
  obtain ⟨a5, e5, rfl, k5⟩ := DataW.trod_int Tryd.underlying3 i5
  cases e0; cases e1; cases e2; cases e3; cases e4; cases e5
  simp only [Prod.mk.injEq] at hx
  obtain ⟨rfl, rfl⟩ := hx
  exact ⟨fun i => if i = 0 then a0 else if i = 1 then a1 else if i = 2 then a2 else if i = 3 then a3 else if i = 4 then a4 else a5, rfl, rfl, rfl, ⟨k0, k1, k2, k3, k4, k5⟩⟩
set_option maxRecDepth 100000 in
theorem six_shut {t : TypeId} (hu : Tryd.prog.underlying t = some (.array 6 3)) (hc : Tryd.prog.cellsOf t = 6) {a : Nat → Int} (k : W6 a) : DataW.Trod enc Tryd.prog w base spare held t (PV a) (d6 a) [] :=
  ⟨2, by simp [DataW.trod, hu, hc, cells3, Value.cells, Tryd.underlying3, k.w0, k.w1, k.w2, k.w3, k.w4, k.w5, d6, List.range, List.range.loop]⟩
end
theorem wf_i64 {a : Int} (h : (Lit.int .i64 a).wf = true) : -9223372036854775808 ≤ a ∧ a ≤ 9223372036854775807 := by
  simp [Lit.wf, IntKind.min, IntKind.max, IntKind.signed, IntKind.bits] at h
  exact ⟨by omega, by omega⟩
def laidT : List (String × DataW Unit) := [("schisma/pitch.primes", Rows.laid_schisma_pitch_primes), ("schisma/scale.unison", Rows.laid_schisma_scale_unison), ("schisma/scale.octave", Rows.laid_schisma_scale_octave)]
theorem primes_datum : (Rows.laid_schisma_pitch_primes : DataW Unit) = Lib.tabData .i64 [2, 3, 5, 7, 11, 13] := by kernel_rfl
theorem unison_datum : (Rows.laid_schisma_scale_unison : DataW Unit) = Lib.tabData .i64 [0, 0, 0, 0, 0, 0] := by kernel_rfl
theorem octave_datum : (Rows.laid_schisma_scale_octave : DataW Unit) = Lib.tabData .i64 [12, 0, 0, 0, 0, 0] := by kernel_rfl
theorem lt_of_cell {w : World} {g : Nat} {v : Value} (h : w.cell? ⟨g, 0, none⟩ = some v) : g < w.heap.size := by
  rcases Nat.lt_or_ge g w.heap.size with h' | h'
  · exact h'
  · simp [World.cell?, Array.getElem?_eq_none h'] at h
theorem pm_of_tab {w : World} (h : Lib.TabIs Tryd.prog w "schisma/pitch.primes" .i64 [2, 3, 5, 7, 11, 13]) : Pm w := by
  have hg : Tryd.prog.globalNamed "schisma/pitch.primes" = some 2 := by kernel_rfl
  have k : ∀ off, w.cell? ⟨2, off, none⟩ = _ := fun off => World.var?_cell hg h off
  exact ⟨lt_of_cell (k 0), k 0, k 1, k 2, k 3, k 4, k 5⟩
theorem sm_of_laid {w : World} (h : laidMetH Tryd.prog laidT w) : Sm w := by
  rw [MakeChecks.laidMetH_plain _ _ _ (by kernel_rfl)] at h
  have h2 := h.tail
  have h3 := h2.tail
  unfold laidT at h
  rw [primes_datum] at h
  rw [unison_datum] at h2
  rw [octave_datum] at h3
  have t1 := Lib.tabIs_of_head (g := 2) (t := 22) (e := 3) (n := 6) (by kernel_rfl) (by kernel_rfl) (by kernel_rfl) (by kernel_rfl) (by kernel_rfl) (by kernel_rfl) h
  have t2 := Lib.tabIs_of_head (g := 0) (t := 23) (e := 3) (n := 6) (by kernel_rfl) (by kernel_rfl) (by kernel_rfl) (by kernel_rfl) (by kernel_rfl) (by kernel_rfl) h2
  have t3 := Lib.tabIs_of_head (g := 1) (t := 23) (e := 3) (n := 6) (by kernel_rfl) (by kernel_rfl) (by kernel_rfl) (by kernel_rfl) (by kernel_rfl) (by kernel_rfl) h3
  have g2 : Tryd.prog.globalNamed "schisma/scale.unison" = some 0 := by kernel_rfl
  have g3 : Tryd.prog.globalNamed "schisma/scale.octave" = some 1 := by kernel_rfl
  have k2 : ∀ off, w.cell? ⟨0, off, none⟩ = _ := fun off => World.var?_cell g2 t2 off
  have k3 : ∀ off, w.cell? ⟨1, off, none⟩ = _ := fun off => World.var?_cell g3 t3 off
  exact ⟨pm_of_tab t1, lt_of_cell (k2 0), lt_of_cell (k3 0), k2 0, k2 1, k2 2, k2 3, k2 4, k2 5, k3 0, k3 1, k3 2, k3 3, k3 4, k3 5⟩
end Go.Proofs.YtomgihlkbmaleaaDoor

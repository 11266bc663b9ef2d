/- what the rows of size's laws share: exponents and sizes that come in, the tables as they are laid. -/
import Derived.Test.YtdlfnonlalkjdaaDoorSB
import Derived.Test.YtdlfnonlalkjdaaDoorRows
import Derived.Lib.SmallJoins
import Derived.WalkKit
import Derived.ProofKit
import Derived.OpenShut
import Derived.ShutString
import Derived.Lay
import Derived.MakeChecks
import Derived.Stop.Joined
import Derived.Stop.LaidErr
import Derived.LaidLaws
import Derived.ChangeBears2
namespace Go.Proofs.YtdlfnonlalkjdaaDoor
open Go.ChangeShapes Go.WideShapes Go.ChangeAt Go.RowKit Go.Joins M
theorem cellsP : Tryd.prog.cellsOf 25 = 6 := by kernel_rfl
theorem cellsS : Tryd.prog.cellsOf 23 = 2 := by kernel_rfl
theorem cells3 : Tryd.prog.cellsOf 3 = 1 := by kernel_rfl
theorem laidOut : laidOutB Tryd.prog = true := by kernel_rfl
theorem own : ownKnob Tryd.prog.godebug = none := by kernel_rfl
def d6 {H : Type} (v : Nat → Int) : DataW H := .agg [.lit (.int .i64 (v 0)), .lit (.int .i64 (v 1)), .lit (.int .i64 (v 2)), .lit (.int .i64 (v 3)), .lit (.int .i64 (v 4)), .lit (.int .i64 (v 5))]
structure W6 (v : Nat → Int) : Prop where
  w0 : (Lit.int .i64 (v 0)).wf = true
  w1 : (Lit.int .i64 (v 1)).wf = true
  w2 : (Lit.int .i64 (v 2)).wf = true
  w3 : (Lit.int .i64 (v 3)).wf = true
  w4 : (Lit.int .i64 (v 4)).wf = true
  w5 : (Lit.int .i64 (v 5)).wf = true
theorem array6 {α : Type} {cs : Array α} (h : cs.size = 6) : ∃ c0 c1 c2 c3 c4 c5, cs = #[c0, c1, c2, c3, c4, c5] := by
  obtain ⟨l⟩ := cs
  match l, h with
  | [c0, c1, c2, c3, c4, c5], _ => exact ⟨c0, c1, c2, c3, c4, c5, rfl⟩
theorem list6 {α : Type} {l : List α} (h : l.length = 6) : ∃ c0 c1 c2 c3 c4 c5, l = [c0, c1, c2, c3, c4, c5] := by
  match l, h with
  | [c0, c1, c2, c3, c4, c5], _ => exact ⟨c0, c1, c2, c3, c4, c5, rfl⟩
section
variable {H : Type} {enc : TypeId × Value → H} {w : World} {base : Nat} {spare : Nat → Bool} {held : Bool}
set_option maxRecDepth 100000 in
theorem six_open {t : TypeId} (hu : Tryd.prog.underlying t = some (.array 6 3)) (hc : Tryd.prog.cellsOf t = 6) {r : Reach} {b0 : Nat} {v : Value} {d : DataW H} {p : List MemPlace} (hv : Value.okWide Tryd.prog w r b0 t v) (h : DataW.Trod enc Tryd.prog w base spare held t v d p) :
    ∃ a : Nat → Int, v = PV a ∧ d = d6 a ∧ p = [] ∧ W6 a := by
  simp only [Value.okWide, hu] at hv
  obtain ⟨cs, rfl, hsz, _⟩ := hv
  obtain ⟨c0, c1, c2, c3, c4, c5, rfl⟩ := array6 (hsz.trans hc)
  obtain ⟨fuel, hf⟩ := h
  obtain ⟨xs, m, _, hx, _, hl, hi⟩ := DataW.trod_array hu hf
  obtain ⟨y0, y1, y2, y3, y4, y5, rfl⟩ := list6 hl
  have i0 := hi 0 (by omega)
  have i1 := hi 1 (by omega)
  have i2 := hi 2 (by omega)
  have i3 := hi 3 (by omega)
  have i4 := hi 4 (by omega)
  have i5 := hi 5 (by omega)
  simp [cells3, Value.cells] at i0 i1 i2 i3 i4 i5
  obtain ⟨a0, e0, rfl, k0⟩ := DataW.trod_int Tryd.underlying3 i0
  obtain ⟨a1, e1, rfl, k1⟩ := DataW.trod_int Tryd.underlying3 i1
  obtain ⟨a2, e2, rfl, k2⟩ := DataW.trod_int Tryd.underlying3 i2
  obtain ⟨a3, e3, rfl, k3⟩ := DataW.trod_int Tryd.underlying3 i3
  obtain ⟨a4, e4, rfl, k4⟩ := DataW.trod_int Tryd.underlying3 i4
  obtain ⟨a5, e5, rfl, k5⟩ := DataW.trod_int Tryd.underlying3 i5
  cases e0; cases e1; cases e2; cases e3; cases e4; cases e5
  simp only [Prod.mk.injEq] at hx
  obtain ⟨rfl, rfl⟩ := hx
  exact ⟨fun i => if i = 0 then a0 else if i = 1 then a1 else if i = 2 then a2 else if i = 3 then a3 else if i = 4 then a4 else a5, rfl, rfl, rfl, ⟨k0, k1, k2, k3, k4, k5⟩⟩
set_option maxRecDepth 100000 in
theorem six_shut {t : TypeId} (hu : Tryd.prog.underlying t = some (.array 6 3)) (hc : Tryd.prog.cellsOf t = 6) {a : Nat → Int} (k : W6 a) : DataW.Trod enc Tryd.prog w base spare held t (PV a) (d6 a) [] :=
  ⟨2, by simp [DataW.trod, hu, hc, cells3, Value.cells, Tryd.underlying3, k.w0, k.w1, k.w2, k.w3, k.w4, k.w5, d6, List.range, List.range.loop]⟩
set_option maxRecDepth 100000 in
theorem siz_open {r : Reach} {b0 : Nat} {v : Value} {d : DataW H} {p : List MemPlace} (hv : Value.okWide Tryd.prog w r b0 23 v) (h : DataW.Trod enc Tryd.prog w base spare held 23 v d p) :
    ∃ a b : Int, v = SV a b ∧ d = .agg [.lit (.int .i64 a), .lit (.int .i64 b)] ∧ p = [] ∧ (Lit.int .i64 a).wf = true ∧ (Lit.int .i64 b).wf = true := by
  obtain ⟨c0, c1, y0, y1, m, rfl, rfl, rfl, h0, h1⟩ := open_agg2 Tryd.underlying23 (by kernel_rfl) cellsS hv h
  obtain ⟨a, e0, rfl, wa⟩ := DataW.trod_int Tryd.underlying3 h0
  obtain ⟨b, e1, rfl, wb⟩ := DataW.trod_int Tryd.underlying3 h1
  cases e0; cases e1
  exact ⟨a, b, rfl, rfl, rfl, wa, wb⟩
set_option maxRecDepth 100000 in
theorem siz_shut {a b : Int} (wa : (Lit.int .i64 a).wf = true) (wb : (Lit.int .i64 b).wf = true) :
    DataW.Trod enc Tryd.prog w base spare held 23 (SV a b) (.agg [.lit (.int .i64 a), .lit (.int .i64 b)]) [] :=
  shut_agg2 (y0 := (.lit (.int .i64 a), [])) (y1 := (.lit (.int .i64 b), [])) Tryd.underlying23 (by kernel_rfl) cellsS ⟨1, by simp [DataW.trod, Tryd.underlying3, wa]⟩ ⟨1, by simp [DataW.trod, Tryd.underlying3, wb]⟩
end
theorem wf_i64 {a : Int} (h : (Lit.int .i64 a).wf = true) : -9223372036854775808 ≤ a ∧ a ≤ 9223372036854775807 := by
  simp [Lit.wf, IntKind.min, IntKind.max, IntKind.signed, IntKind.bits] at h
  exact ⟨by omega, by omega⟩
theorem take_at {l : List Value} {i : Nat} {a b : Value} (h : (l.drop i).take 2 = [a, b]) : l[i]? = some a ∧ l[i + 1]? = some b := by
  have e0 := congrArg (·[0]?) h
  have e1 := congrArg (·[1]?) h
  simp [List.getElem?_drop] at e0 e1
  exact ⟨e0, e1⟩
theorem list2' {α : Type} {l : List α} (h : l.length = 2) : ∃ c0 c1, l = [c0, c1] := by
  match l, h with
  | [c0, c1], _ => exact ⟨c0, c1, rfl⟩
/-- Two ends that read as two numbers are these numbers. -/
theorem pair_cells {H : Type} {enc : TypeId × Value → H} {w : World} {base : Nat} {spare : Nat → Bool} {held : Bool} {fuel : Nat} {cs : List Value} {x y : Int} {p : List MemPlace}
    (h : DataW.trod enc Tryd.prog w base spare held fuel 51 cs = some (.agg [.lit (.int .i64 x), .lit (.int .i64 y)], p)) : cs = [.int .i64 x, .int .i64 y] := by
  obtain ⟨y0, y1, n, hx, hl, h0, h1⟩ := trod_struct2 Tryd.underlying51 h
  have e2 : Tryd.prog.cellsOf 51 = 2 := by kernel_rfl
  rw [e2] at hl
  obtain ⟨c0, c1, rfl⟩ := list2' hl
  simp [cells3] at h0 h1
  obtain ⟨a0, k0, rfl, _⟩ := DataW.trod_int Tryd.underlying3 h0
  obtain ⟨a1, k1, rfl, _⟩ := DataW.trod_int Tryd.underlying3 h1
  cases k0; cases k1
  simp only [Prod.mk.injEq, DataW.agg.injEq, List.cons.injEq, DataW.lit.injEq, Lit.int.injEq, true_and, and_true] at hx
  obtain ⟨⟨rfl, rfl⟩, _⟩ := hx
  rfl
theorem lm_of_head {w : World} {rest : List (String × DataW Unit)} (h : laidMet Tryd.prog (("schisma/size.logarithms", Rows.laid_schisma_size_logarithms) :: rest) w) : Lm w := by
  obtain ⟨ps, ⟨g', t', cs, fuel, p, q, hg', ht', hvar, hd, _, _⟩, _⟩ := h
  have hg : Tryd.prog.globalNamed "schisma/size.logarithms" = some 0 := by kernel_rfl
  have hty : (Tryd.prog.globals[0]?).map (·.type) = some 65 := by kernel_rfl
  obtain rfl := Option.some.inj (hg.symm.trans hg')
  obtain rfl := Option.some.inj (hty.symm.trans ht')
  obtain ⟨xs, m, _, hx, hl, hn, hi⟩ := DataW.trod_array Tryd.underlying65 hd
  have e12 : Tryd.prog.cellsOf 65 = 12 := by kernel_rfl
  have e2 : Tryd.prog.cellsOf 51 = 2 := by kernel_rfl
  rw [e12] at hl
  rw [e2] at hi
  have i0 := hi 0 (by omega)
  have i1 := hi 1 (by omega)
  have i2 := hi 2 (by omega)
  have i3 := hi 3 (by omega)
  have i4 := hi 4 (by omega)
  have i5 := hi 5 (by omega)
  obtain ⟨y0, y1, y2, y3, y4, y5, rfl⟩ := list6 hn
  simp only [Rows.laid_schisma_size_logarithms, List.map_cons, List.map_nil, Prod.mk.injEq, DataW.agg.injEq, List.cons.injEq, and_true] at hx
  obtain ⟨⟨x0, x1, x2, x3, x4, x5⟩, _⟩ := hx
  obtain ⟨z0, m0⟩ := y0; obtain ⟨z1, m1⟩ := y1; obtain ⟨z2, m2⟩ := y2; obtain ⟨z3, m3⟩ := y3; obtain ⟨z4, m4⟩ := y4; obtain ⟨z5, m5⟩ := y5
  simp only at x0 x1 x2 x3 x4 x5
  subst x0; subst x1; subst x2; subst x3; subst x4; subst x5
  have j0 := pair_cells i0
  have j1 := pair_cells i1
  have j2 := pair_cells i2
  have j3 := pair_cells i3
  have j4 := pair_cells i4
  have j5 := pair_cells i5
  have k : ∀ off, w.cell? ⟨0, off, none⟩ = _ := fun off => World.var?_cell hg hvar off
  have hlt : 0 < w.heap.size := by
    have h0 := k 0
    rcases Nat.lt_or_ge 0 w.heap.size with h' | h'
    · exact h'
    · have k0 : cs.toList[0]? = some _ := (take_at j0).1
      rw [Array.getElem?_toList] at k0
      rw [k0] at h0
      simp [World.cell?, Array.getElem?_eq_none h'] at h0
  refine ⟨hlt, ?_, ?_, ?_, ?_, ?_, ?_, ?_, ?_, ?_, ?_, ?_, ?_⟩
  all_goals rw [k, ← Array.getElem?_toList]
  · exact (take_at j0).1
  · exact (take_at j0).2
  · exact (take_at j1).1
  · exact (take_at j1).2
  · exact (take_at j2).1
  · exact (take_at j2).2
  · exact (take_at j3).1
  · exact (take_at j3).2
  · exact (take_at j4).1
  · exact (take_at j4).2
  · exact (take_at j5).1
  · exact (take_at j5).2
end Go.Proofs.YtdlfnonlalkjdaaDoor

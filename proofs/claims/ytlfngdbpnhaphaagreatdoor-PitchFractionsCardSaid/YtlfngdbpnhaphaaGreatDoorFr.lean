/- what the rows of pitch's laws share: exponents that come in, the tables and errors as they are laid. -/
import Derived.Test.YtlfngdbpnhaphaaGreatDoorP16
import Derived.Test.YtlfngdbpnhaphaaGreatDoorRows
import Derived.Lib.SmallJoins
import Derived.WalkKit
import Derived.ProofKit
import Derived.OpenShut
import Derived.ShutString
import Derived.Lay
import Derived.MakeChecks
import Derived.Stop.Joined
import Derived.Stop.LaidErr
import Derived.LaidLaws
import Derived.ChangeBears2
namespace Go.Proofs.YtlfngdbpnhaphaaGreatDoor
open Go.ChangeShapes Go.WideShapes Go.ChangeAt Go.RowKit Go.Joins M
theorem cells22 : Tryz.prog.cellsOf 22 = 6 := by kernel_rfl
theorem cells23 : Tryz.prog.cellsOf 23 = 6 := by kernel_rfl
theorem cells24 : Tryz.prog.cellsOf 24 = 6 := by kernel_rfl
theorem cells3 : Tryz.prog.cellsOf 3 = 1 := by kernel_rfl
theorem laidOut : laidOutB Tryz.prog = true := by kernel_rfl
theorem own : ownKnob Tryz.prog.godebug = none := by kernel_rfl
def d6 {H : Type} (v : Nat → Int) : DataW H := .agg [.lit (.int .i64 (v 0)), .lit (.int .i64 (v 1)), .lit (.int .i64 (v 2)), .lit (.int .i64 (v 3)), .lit (.int .i64 (v 4)), .lit (.int .i64 (v 5))]
structure W6 (v : Nat → Int) : Prop where
  w0 : (Lit.int .i64 (v 0)).wf = true
  w1 : (Lit.int .i64 (v 1)).wf = true
  w2 : (Lit.int .i64 (v 2)).wf = true
  w3 : (Lit.int .i64 (v 3)).wf = true
  w4 : (Lit.int .i64 (v 4)).wf = true
  w5 : (Lit.int .i64 (v 5)).wf = true
theorem array6 {α : Type} {cs : Array α} (h : cs.size = 6) : ∃ c0 c1 c2 c3 c4 c5, cs = #[c0, c1, c2, c3, c4, c5] := by
  obtain ⟨l⟩ := cs
  match l, h with
  | [c0, c1, c2, c3, c4, c5], _ => exact ⟨c0, c1, c2, c3, c4, c5, rfl⟩
theorem list6 {α : Type} {l : List α} (h : l.length = 6) : ∃ c0 c1 c2 c3 c4 c5, l = [c0, c1, c2, c3, c4, c5] := by
  match l, h with
  | [c0, c1, c2, c3, c4, c5], _ => exact ⟨c0, c1, c2, c3, c4, c5, rfl⟩
section
variable {H : Type} {enc : TypeId × Value → H} {w : World} {base : Nat} {spare : Nat → Bool} {held : Bool}
set_option maxRecDepth 100000 in
theorem six_open {t : TypeId} (hu : Tryz.prog.underlying t = some (.array 6 3)) (hc : Tryz.prog.cellsOf t = 6) {r : Reach} {b0 : Nat} {v : Value} {d : DataW H} {p : List MemPlace} (hv : Value.okWide Tryz.prog w r b0 t v) (h : DataW.Trod enc Tryz.prog w base spare held t v d p) :
    ∃ a : Nat → Int, v = PV a ∧ d = d6 a ∧ p = [] ∧ W6 a := by
  simp only [Value.okWide, hu] at hv
  obtain ⟨cs, rfl, hsz, _⟩ := hv
  obtain ⟨c0, c1, c2, c3, c4, c5, rfl⟩ := array6 (hsz.trans hc)
  obtain ⟨fuel, hf⟩ := h
  obtain ⟨xs, m, _, hx, _, hl, hi⟩ := DataW.trod_array hu hf
  obtain ⟨y0, y1, y2, y3, y4, y5, rfl⟩ := list6 hl
  have i0 := hi 0 (by omega)
  have i1 := hi 1 (by omega)
  have i2 := hi 2 (by omega)
  have i3 := hi 3 (by omega)
  have i4 := hi 4 (by omega)
  have i5 := hi 5 (by omega)
  simp [cells3, Value.cells] at i0 i1 i2 i3 i4 i5
  obtain ⟨a0, e0, rfl, k0⟩ := DataW.trod_int Tryz.underlying3 i0
  obtain ⟨a1, e1, rfl, k1⟩ := DataW.trod_int Tryz.underlying3 i1
  obtain ⟨a2, e2, rfl, k2⟩ := DataW.trod_int Tryz.underlying3 i2
  obtain ⟨a3, e3, rfl, k3⟩ := DataW.trod_int Tryz.underlying3 i3
  obtain ⟨a4, e4, rfl, k4⟩ := DataW.trod_int Tryz.underlying3 i4
  obtain ⟨a5, e5, rfl, k5⟩ := DataW.trod_int Tryz.underlying3 i5
  cases e0; cases e1; cases e2; cases e3; cases e4; cases e5
  simp only [Prod.mk.injEq] at hx
  obtain ⟨rfl, rfl⟩ := hx
  exact ⟨fun i => if i = 0 then a0 else if i = 1 then a1 else if i = 2 then a2 else if i = 3 then a3 else if i = 4 then a4 else a5, rfl, rfl, rfl, ⟨k0, k1, k2, k3, k4, k5⟩⟩
set_option maxRecDepth 100000 in
theorem six_shut {t : TypeId} (hu : Tryz.prog.underlying t = some (.array 6 3)) (hc : Tryz.prog.cellsOf t = 6) {a : Nat → Int} (k : W6 a) : DataW.Trod enc Tryz.prog w base spare held t (PV a) (d6 a) [] :=
  ⟨2, by simp [DataW.trod, hu, hc, cells3, Value.cells, Tryz.underlying3, k.w0, k.w1, k.w2, k.w3, k.w4, k.w5, d6, List.range, List.range.loop]⟩
end
def laidT : List (String × DataW Unit) := [("math/bits.deBruijn32tab", Rows.laid_math_bits_deBruijn32tab), ("math/bits.deBruijn64tab", Rows.laid_math_bits_deBruijn64tab), ("internal/strconv.uint64pow10", Rows.laid_internal_strconv_uint64pow10), ("unicode/utf8.acceptRanges", Rows.laid_unicode_utf8_acceptRanges), ("strconv.ErrRange", Rows.laid_strconv_ErrRange), ("strconv.ErrSyntax", Rows.laid_strconv_ErrSyntax), ("schisma/pitch.primes", Rows.laid_schisma_pitch_primes), ("unicode/utf8.first", Rows.laid_unicode_utf8_first)]
theorem powers_datum : (Rows.laid_internal_strconv_uint64pow10 : DataW Unit) = Lib.tabData .u64 Lib.pow10Tab := by kernel_rfl
theorem primes_datum : (Rows.laid_schisma_pitch_primes : DataW Unit) = Lib.tabData .i64 [2, 3, 5, 7, 11, 13] := by kernel_rfl
theorem star : "*" ++ "errors.errorString" = "*errors.errorString" := by decide
theorem row182 (u : TypeId) (h : Tryz.prog.typeName? 3 u = some "*errors.errorString") : u = 182 :=
  typeName_ptr_named (nm := "errors.errorString") (by rw [star]; kernel_rfl) (by kernel_rfl) (by decide) u (by rw [star]; exact h)
theorem cells184 : Tryz.prog.cellsOf 184 = 1 := by kernel_rfl
theorem cells9 : Tryz.prog.cellsOf 9 = 1 := by kernel_rfl
theorem pm_of_tab {w : World} (h : Lib.TabIs Tryz.prog w "schisma/pitch.primes" .i64 [2, 3, 5, 7, 11, 13]) : Pm w := by
  have hg : Tryz.prog.globalNamed "schisma/pitch.primes" = some 0 := by kernel_rfl
  have k : ∀ off, w.cell? ⟨0, off, none⟩ = _ := fun off => var?_cell hg h off
  refine ⟨?_, k 0, k 1, k 2, k 3, k 4, k 5⟩
  have h0 := k 0
  rcases Nat.lt_or_ge 0 w.heap.size with h' | h'
  · exact h'
  · simp [World.cell?, Array.getElem?_eq_none h'] at h0
theorem gv_of_laid {w : World} (h : laidMetH Tryz.prog laidT w) : Gv w := by
  rw [MakeChecks.laidMetH_plain _ _ _ (by kernel_rfl)] at h
  have h3 := h.tail.tail
  have h5 := h3.tail.tail
  have h6 := h5.tail
  have h7 := h6.tail
  rw [powers_datum] at h3
  rw [primes_datum] at h7
  obtain ⟨a0, s0, v0, _⟩ := laid_sentinel h5 (g := 7) (by kernel_rfl) (by kernel_rfl) Tryz.underlying123 row182 Tryz.underlying182 Tryz.underlying184 rfl rfl Tryz.underlying9 cells184 cells9
  obtain ⟨a1, s1, v1, _⟩ := laid_sentinel h6 (g := 6) (by kernel_rfl) (by kernel_rfl) Tryz.underlying123 row182 Tryz.underlying182 Tryz.underlying184 rfl rfl Tryz.underlying9 cells184 cells9
  exact ⟨pm_of_tab (Lib.tabIs_of_head (g := 0) (t := 22) (e := 3) (n := 6) (by kernel_rfl) (by kernel_rfl) (by kernel_rfl) (by kernel_rfl) (by kernel_rfl) (by kernel_rfl) h7),
    Lib.tabIs_of_head (g := 5) (t := 172) (e := 52) (n := 20) (by kernel_rfl) (by kernel_rfl) (by kernel_rfl) (by kernel_rfl) (by kernel_rfl) (by kernel_rfl) h3, ⟨_, _, v1⟩, _, _, v0⟩
end Go.Proofs.YtlfngdbpnhaphaaGreatDoor

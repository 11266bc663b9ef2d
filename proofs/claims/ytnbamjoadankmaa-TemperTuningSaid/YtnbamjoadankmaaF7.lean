/- what the rows of matrix's laws share: rows that come in. -/
import Derived.Test.YtnbamjoadankmaaMC
import Derived.Test.YtnbamjoadankmaaRows
import Derived.WalkKit
import Derived.ProofKit
import Derived.OpenShut
import Derived.Test.YtnbamjoadankmaaR6
namespace Go.Proofs.Ytnbamjoadankmaa
open Go.ChangeShapes Go.WideShapes Go.ChangeAt Go.RowKit
theorem laidOut : laidOutB Try.prog = true := by kernel_rfl
theorem own : ownKnob Try.prog.godebug = none := by kernel_rfl
theorem cells_int : Try.prog.cellsOf 3 = 1 := by kernel_rfl
theorem cells_vec : Try.prog.cellsOf 36 = 6 := by kernel_rfl
section
variable {H : Type} {enc : TypeId × Value → H} {w : World} {base : Nat} {spare : Nat → Bool} {held : Bool}
theorem vec_cells {fuel : Nat} {cs : List Value} {y : DataW H × List MemPlace} (h : DataW.trod enc Try.prog w base spare held fuel 36 cs = some y) : ∃ f : Nat → Int, ∀ j, j < 6 → cs[j]? = some (.int .i64 (f j)) := by
  obtain ⟨xs, m, _, _, _, hl, hi⟩ := DataW.trod_array Try.underlying36 h
  have each : ∀ j, j < 6 → ∃ n : Int, cs[j]? = some (.int .i64 n) := fun j hj => by
    have h1 := hi j hj
    rw [cells_int, List.getElem?_eq_getElem (by omega)] at h1
    obtain ⟨n, e, _⟩ := DataW.trod_int Try.underlying3 h1
    have e0 := congrArg (·[0]?) e
    simp [List.getElem?_take, List.getElem?_drop] at e0
    exact ⟨n, e0⟩
  exact ⟨fun j => if h : j < 6 then (each j h).choose else 0, fun j hj => by simp only [hj, dif_pos]; exact (each j hj).choose_spec⟩
theorem open_rows {fuel : Nat} {cs : List Value} {y : DataW H × List MemPlace} (h : DataW.trod enc Try.prog w base spare held fuel 22 cs = some y) :
    cs = [.slice none 0 0] ∨ ∃ (a : Addr) (len cap : Nat) (M : Nat → Nat → Int), cs = [.slice (some a) len cap] ∧ len ≤ cap ∧ cap ≤ maxLen ∧ CV w (some a) len M := by
  rcases DataW.trod_slice Try.underlying22 h with ⟨h0, _⟩ | ⟨a, len, cap, elems, rest, n, _, rfl, _, _, hl, hm, hlen, hel, _, _⟩
  · exact .inl h0
  · right
    have each : ∀ i, i < len → ∃ f : Nat → Int, ∀ j, j < 6 → w.cell? ((a.add (i * 6)).add j) = some (.int .i64 (f j)) := fun i hi => by
      have h1 := hel i hi
      rw [cells_vec, List.getElem?_eq_getElem (by omega), Option.bind_eq_some_iff] at h1
      obtain ⟨cs', hcs, hy⟩ := h1
      obtain ⟨f, hf⟩ := vec_cells hy
      exact ⟨f, fun j hj => by rw [(World.cells?_some hcs).2.2 j hj, hf j hj]⟩
    obtain ⟨M, hc⟩ : ∃ M : Nat → Nat → Int, ∀ i j, i < len → j < 6 → w.cell? ((a.add (i * 6)).add j) = some (.int .i64 (M i j)) :=
      ⟨fun i => if h : i < len then (each i h).choose else fun _ => 0, fun i j hi hj => by
        have e : (if h : i < len then (each i h).choose else fun _ => 0) = (each i hi).choose := dif_pos hi
        show w.cell? ((a.add (i * 6)).add j) = some (.int .i64 ((if h : i < len then (each i h).choose else fun _ => 0) j))
        rw [e]; exact (each i hi).choose_spec j hj⟩
    refine ⟨a, len, cap, M, rfl, hl, hm, fun hpos => ?_⟩
    obtain ⟨b, o, s⟩ := a
    cases s with
    | none =>
      have h0 := hc 0 0 hpos (by omega)
      refine ⟨b, o, rfl, World.block_lt_of_cell? w _ h0, fun i j hi hj => ?_⟩
      have := hc i j hi hj
      rw [Addr.add_lit, Addr.add_lit] at this
      exact this
    | some s =>
      have h0 := hc 0 0 hpos (by omega)
      simp [Addr.add, World.cell?] at h0
      split at h0 <;> simp at h0
end
end Go.Proofs.Ytnbamjoadankmaa
/- what the rows of matrix's and lattice's laws share: a vector and lists of small integers that come in. -/
namespace Go.Proofs.Ytnbamjoadankmaa
open Go.ChangeShapes Go.WideShapes Go.ChangeAt Go.RowKit
def d6 {H : Type} (v : Nat → Int) : DataW H := .agg [.lit (.int .i64 (v 0)), .lit (.int .i64 (v 1)), .lit (.int .i64 (v 2)), .lit (.int .i64 (v 3)), .lit (.int .i64 (v 4)), .lit (.int .i64 (v 5))]
structure W6 (v : Nat → Int) : Prop where
  w0 : (Lit.int .i64 (v 0)).wf = true
  w1 : (Lit.int .i64 (v 1)).wf = true
  w2 : (Lit.int .i64 (v 2)).wf = true
  w3 : (Lit.int .i64 (v 3)).wf = true
  w4 : (Lit.int .i64 (v 4)).wf = true
  w5 : (Lit.int .i64 (v 5)).wf = true
theorem array6 {α : Type} {cs : Array α} (h : cs.size = 6) : ∃ c0 c1 c2 c3 c4 c5, cs = #[c0, c1, c2, c3, c4, c5] := by
  obtain ⟨l⟩ := cs
  match l, h with
  | [c0, c1, c2, c3, c4, c5], _ => exact ⟨c0, c1, c2, c3, c4, c5, rfl⟩
theorem list6 {α : Type} {l : List α} (h : l.length = 6) : ∃ c0 c1 c2 c3 c4 c5, l = [c0, c1, c2, c3, c4, c5] := by
  match l, h with
  | [c0, c1, c2, c3, c4, c5], _ => exact ⟨c0, c1, c2, c3, c4, c5, rfl⟩
theorem cells_i16 : Try.prog.cellsOf 50 = 1 := by kernel_rfl
section
variable {H : Type} {enc : TypeId × Value → H} {w : World} {base : Nat} {spare : Nat → Bool} {held : Bool}
set_option maxRecDepth 100000 in
theorem six_open {t : TypeId} (hu : Try.prog.underlying t = some (.array 6 3)) (hc : Try.prog.cellsOf t = 6) {r : Reach} {b0 : Nat} {v : Value} {d : DataW H} {p : List MemPlace} (hv : Value.okWide Try.prog w r b0 t v) (h : DataW.Trod enc Try.prog w base spare held t v d p) :
    ∃ a : Nat → Int, v = PV a ∧ d = d6 a ∧ p = [] ∧ W6 a := by
  simp only [Value.okWide, hu] at hv
  obtain ⟨cs, rfl, hsz, _⟩ := hv
  obtain ⟨c0, c1, c2, c3, c4, c5, rfl⟩ := array6 (hsz.trans hc)
  obtain ⟨fuel, hf⟩ := h
  obtain ⟨xs, m, _, hx, _, hl, hi⟩ := DataW.trod_array hu hf
  obtain ⟨y0, y1, y2, y3, y4, y5, rfl⟩ := list6 hl
  have i0 := hi 0 (by omega)
  have i1 := hi 1 (by omega)
  have i2 := hi 2 (by omega)
  have i3 := hi 3 (by omega)
  have i4 := hi 4 (by omega)
  have i5 := hi 5 (by omega)
  simp [cells_int, Value.cells] at i0 i1 i2 i3 i4 i5
  obtain ⟨a0, e0, rfl, k0⟩ := DataW.trod_int Try.underlying3 i0
  obtain ⟨a1, e1, rfl, k1⟩ := DataW.trod_int Try.underlying3 i1
  obtain ⟨a2, e2, rfl, k2⟩ := DataW.trod_int Try.underlying3 i2
  obtain ⟨a3, e3, rfl, k3⟩ := DataW.trod_int Try.underlying3 i3
  obtain ⟨a4, e4, rfl, k4⟩ := DataW.trod_int Try.underlying3 i4
  obtain ⟨a5, e5, rfl, k5⟩ := DataW.trod_int Try.underlying3 i5
  cases e0; cases e1; cases e2; cases e3; cases e4; cases e5
  simp only [Prod.mk.injEq] at hx
  obtain ⟨rfl, rfl⟩ := hx
  exact ⟨fun i => if i = 0 then a0 else if i = 1 then a1 else if i = 2 then a2 else if i = 3 then a3 else if i = 4 then a4 else a5, rfl, rfl, rfl, ⟨k0, k1, k2, k3, k4, k5⟩⟩
set_option maxRecDepth 100000 in
theorem six_shut {t : TypeId} (hu : Try.prog.underlying t = some (.array 6 3)) (hc : Try.prog.cellsOf t = 6) {a : Nat → Int} (k : W6 a) : DataW.Trod enc Try.prog w base spare held t (PV a) (d6 a) [] :=
  ⟨2, by simp [DataW.trod, hu, hc, cells_int, Value.cells, Try.underlying3, k.w0, k.w1, k.w2, k.w3, k.w4, k.w5, d6, List.range, List.range.loop]⟩
/-- Rows that come in. -/
theorem rows_in {v : Value} {d : DataW H} {p : List MemPlace} (hval : ∃ a n c, v = .slice a n c) (h : DataW.Trod enc Try.prog w base spare held 22 v d p) :
    ∃ (a : Option Addr) (n c : Nat) (M : Nat → Nat → Int), v = .slice a n c ∧ n ≤ c ∧ c ≤ maxLen ∧ CV w a n M ∧ ∀ x ∈ p, x.block < w.heap.size := by
  have lt : ∀ x ∈ p, x.block < w.heap.size := by obtain ⟨m, hm⟩ := h; exact DataW.trod_lt m _ _ _ hm
  obtain ⟨a0, len0, cap0, rfl⟩ := hval
  obtain ⟨fuel, hf⟩ := h
  rcases open_rows hf with hcs | ⟨x, l, c, M, hcs, hl, hm, hM⟩
  · simp [Value.cells] at hcs
    obtain ⟨rfl, rfl, rfl⟩ := hcs
    exact ⟨none, 0, 0, fun _ _ => 0, rfl, Nat.le_refl _, Nat.zero_le _, fun h => absurd h (Nat.lt_irrefl _), lt⟩
  · simp [Value.cells] at hcs
    obtain ⟨rfl, rfl, rfl⟩ := hcs
    exact ⟨_, _, _, M, rfl, hl, hm, hM, lt⟩
/-- The cells of a list of small integers. -/
def CS (w : World) (ao : Option Addr) (n : Nat) (f : Nat → Int) : Prop :=
  0 < n → ∃ b o, ao = some ⟨b, o, none⟩ ∧ b < w.heap.size ∧ ∀ i, i < n → w.cell? ⟨b, o + i, none⟩ = some (.int .i16 (f i)) ∧ -32768 ≤ f i ∧ f i ≤ 32767
theorem CS.keep {w w' : World} {ao : Option Addr} {n : Nat} {f : Nat → Int} (h : CS w ao n f) (hb : Below w.heap.size w w') : CS w' ao n f := by
  intro hl
  obtain ⟨b, o, rfl, ha, hc⟩ := h hl
  exact ⟨b, o, rfl, Nat.lt_of_lt_of_le ha hb.size, fun i hi => by rw [hb.cell (p := ⟨b, o + i, none⟩) ha]; exact hc i hi⟩
theorem wf_i16 {a : Int} (h : (Lit.int .i16 a).wf = true) : -32768 ≤ a ∧ a ≤ 32767 := by
  simp [Lit.wf, IntKind.min, IntKind.max, IntKind.signed, IntKind.bits] at h
  omega
theorem smalls_in {v : Value} {d : DataW H} {p : List MemPlace} (hval : ∃ a n c, v = .slice a n c) (h : DataW.Trod enc Try.prog w base spare held 47 v d p) :
    ∃ (a : Option Addr) (n c : Nat) (f : Nat → Int), v = .slice a n c ∧ n ≤ c ∧ c ≤ maxLen ∧ CS w a n f ∧ ∀ x ∈ p, x.block < w.heap.size := by
  have lt : ∀ x ∈ p, x.block < w.heap.size := by obtain ⟨m, hm⟩ := h; exact DataW.trod_lt m _ _ _ hm
  obtain ⟨a0, len0, cap0, rfl⟩ := hval
  obtain ⟨fuel, hf⟩ := h
  rcases DataW.trod_slice Try.underlying47 hf with ⟨h0, _⟩ | ⟨a, len, cap, elems, rest, n, _, hcs, _, _, hl, hm, hlen, hel, _, _⟩
  · simp [Value.cells] at h0
    obtain ⟨rfl, rfl, rfl⟩ := h0
    exact ⟨none, 0, 0, fun _ => 0, rfl, Nat.le_refl _, Nat.zero_le _, fun h => absurd h (Nat.lt_irrefl _), lt⟩
  · simp [Value.cells] at hcs
    obtain ⟨rfl, rfl, rfl⟩ := hcs
    have each : ∀ i, i < len0 → ∃ m : Int, w.cell? (a.add (i * 1)) = some (.int .i16 m) ∧ -32768 ≤ m ∧ m ≤ 32767 := fun i hi => by
      have h1 := hel i hi
      rw [cells_i16, List.getElem?_eq_getElem (by omega), Option.bind_eq_some_iff] at h1
      obtain ⟨cs', hcs, hy⟩ := h1
      obtain ⟨m, e, _, hw⟩ := DataW.trod_int Try.underlying50 hy
      have h2 := (World.cells?_some hcs).2.2 0 (by omega)
      refine ⟨m, ?_, wf_i16 hw⟩
      rw [e] at h2
      simpa [Addr.add] using h2
    obtain ⟨g, hg⟩ : ∃ g : Nat → Int, ∀ i, i < len0 → w.cell? (a.add (i * 1)) = some (.int .i16 (g i)) ∧ -32768 ≤ g i ∧ g i ≤ 32767 :=
      ⟨fun i => if h : i < len0 then (each i h).choose else 0, fun i hi => by simp only [hi, dif_pos]; exact (each i hi).choose_spec⟩
    refine ⟨_, _, _, g, rfl, hl, hm, fun hpos => ?_, lt⟩
    obtain ⟨b, o, s⟩ := a
    have h0 := (hg 0 hpos).1
    cases s with
    | none =>
      refine ⟨b, o, rfl, World.block_lt_of_cell? w _ h0, fun i hi => ?_⟩
      have := hg i hi
      rw [Addr.add_lit, Nat.mul_one] at this
      exact this
    | some s =>
      simp [Addr.add, World.cell?] at h0
      split at h0 <;> simp at h0
end
end Go.Proofs.Ytnbamjoadankmaa
/- what the rows of lattice's laws share: rows that come in, with what a nil slice is. -/
namespace Go.Proofs.Ytnbamjoadankmaa
open Go.ChangeShapes Go.WideShapes Go.ChangeAt Go.RowKit
variable {H : Type} {enc : TypeId × Value → H} {w : World} {base : Nat} {spare : Nat → Bool} {held : Bool}
/-- Rows that come in; a slice without an array has no room. -/
theorem rows_in2 {v : Value} {d : DataW H} {p : List MemPlace} (hval : ∃ a n c, v = .slice a n c) (h : DataW.Trod enc Try.prog w base spare held 22 v d p) :
    ∃ (a : Option Addr) (n c : Nat) (M : Nat → Nat → Int), v = .slice a n c ∧ n ≤ c ∧ c ≤ maxLen ∧ CV w a n M ∧ (a = none → n = 0 ∧ c = 0) ∧ ∀ x ∈ p, x.block < w.heap.size := by
  have lt : ∀ x ∈ p, x.block < w.heap.size := by obtain ⟨m, hm⟩ := h; exact DataW.trod_lt m _ _ _ hm
  obtain ⟨a0, len0, cap0, rfl⟩ := hval
  obtain ⟨fuel, hf⟩ := h
  rcases open_rows hf with hcs | ⟨x, l, c, M, hcs, hl, hm, hM⟩
  · simp [Value.cells] at hcs
    obtain ⟨rfl, rfl, rfl⟩ := hcs
    exact ⟨none, 0, 0, fun _ _ => 0, rfl, Nat.le_refl _, Nat.zero_le _, fun h => absurd h (Nat.lt_irrefl _), fun _ => ⟨rfl, rfl⟩, lt⟩
  · simp [Value.cells] at hcs
    obtain ⟨rfl, rfl, rfl⟩ := hcs
    exact ⟨_, _, _, M, rfl, hl, hm, hM, fun h => (by cases h), lt⟩
end Go.Proofs.Ytnbamjoadankmaa

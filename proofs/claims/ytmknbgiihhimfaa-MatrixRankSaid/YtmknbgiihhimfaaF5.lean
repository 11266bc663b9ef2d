/- what the rows of matrix's laws share: rows that come in. -/
import Derived.Test.YtmknbgiihhimfaaMB
import Derived.Test.YtmknbgiihhimfaaRows
import Derived.WalkKit
import Derived.ProofKit
import Derived.OpenShut
namespace Go.Proofs.Ytmknbgiihhimfaa
open Go.ChangeShapes Go.WideShapes Go.ChangeAt Go.RowKit
theorem laidOut : laidOutB Try.prog = true := by kernel_rfl
theorem own : ownKnob Try.prog.godebug = none := by kernel_rfl
theorem cells_int : Try.prog.cellsOf 3 = 1 := by kernel_rfl
theorem cells_vec : Try.prog.cellsOf 37 = 6 := by kernel_rfl
section
variable {H : Type} {enc : TypeId × Value → H} {w : World} {base : Nat} {spare : Nat → Bool} {held : Bool}
theorem vec_cells {fuel : Nat} {cs : List Value} {y : DataW H × List MemPlace} (h : DataW.trod enc Try.prog w base spare held fuel 37 cs = some y) : ∃ f : Nat → Int, ∀ j, j < 6 → cs[j]? = some (.int .i64 (f j)) := by
  obtain ⟨xs, m, _, _, _, hl, hi⟩ := DataW.trod_array Try.underlying37 h
  have each : ∀ j, j < 6 → ∃ n : Int, cs[j]? = some (.int .i64 n) := fun j hj => by
    have h1 := hi j hj
    rw [cells_int, List.getElem?_eq_getElem (by omega)] at h1
    obtain ⟨n, e, _⟩ := DataW.trod_int Try.underlying3 h1
    have e0 := congrArg (·[0]?) e
    simp [List.getElem?_drop] at e0
    exact ⟨n, e0⟩
  exact ⟨fun j => if h : j < 6 then (each j h).choose else 0, fun j hj => by simp only [hj, dif_pos]; exact (each j hj).choose_spec⟩
theorem open_rows {fuel : Nat} {cs : List Value} {y : DataW H × List MemPlace} (h : DataW.trod enc Try.prog w base spare held fuel 22 cs = some y) :
    cs = [.slice none 0 0] ∨ ∃ (a : Addr) (len cap : Nat) (M : Nat → Nat → Int), cs = [.slice (some a) len cap] ∧ len ≤ cap ∧ cap ≤ maxLen ∧ CV w (some a) len M := by
  rcases DataW.trod_slice Try.underlying22 h with ⟨h0, _⟩ | ⟨a, len, cap, elems, rest, n, _, rfl, _, _, hl, hm, hlen, hel, _, _⟩
  · exact .inl h0
  · right
    have each : ∀ i, i < len → ∃ f : Nat → Int, ∀ j, j < 6 → w.cell? ((a.add (i * 6)).add j) = some (.int .i64 (f j)) := fun i hi => by
      have h1 := hel i hi
      rw [cells_vec, List.getElem?_eq_getElem (by omega), Option.bind_eq_some_iff] at h1
      obtain ⟨cs', hcs, hy⟩ := h1
      obtain ⟨f, hf⟩ := vec_cells hy
      exact ⟨f, fun j hj => by rw [(World.cells?_some hcs).2.2 j hj, hf j hj]⟩
    obtain ⟨M, hc⟩ : ∃ M : Nat → Nat → Int, ∀ i j, i < len → j < 6 → w.cell? ((a.add (i * 6)).add j) = some (.int .i64 (M i j)) :=
      ⟨fun i => if h : i < len then (each i h).choose else fun _ => 0, fun i j hi hj => by
        have e : (if h : i < len then (each i h).choose else fun _ => 0) = (each i hi).choose := dif_pos hi
        show w.cell? ((a.add (i * 6)).add j) = some (.int .i64 ((if h : i < len then (each i h).choose else fun _ => 0) j))
        rw [e]; exact (each i hi).choose_spec j hj⟩
    refine ⟨a, len, cap, M, rfl, hl, hm, fun hpos => ?_⟩
    obtain ⟨b, o, s⟩ := a
    cases s with
    | none =>
      have h0 := hc 0 0 hpos (by omega)
      refine ⟨b, o, rfl, World.block_lt_of_cell? w _ h0, fun i j hi hj => ?_⟩
      have := hc i j hi hj
      rw [Addr.add_lit, Addr.add_lit] at this
      exact this
    | some s =>
      have h0 := hc 0 0 hpos (by omega)
      simp [Addr.add, World.cell?] at h0
      split at h0 <;> simp at h0
end
end Go.Proofs.Ytmknbgiihhimfaa

/- What the rows of scale's laws share: lists of pitches that come in. -/
import Derived.Test.YtomgihlkbmaleaaDoorQFr
import Derived.Test.YtomgihlkbmaleaaDoorQF
namespace Go.Proofs.YtomgihlkbmaleaaDoor
open Go.ChangeShapes Go.WideShapes Go.ChangeAt Go.RowKit Go.Joins M
theorem wf_u8 {a : Int} (h : (Lit.int .u8 a).wf = true) : ∃ n : Nat, a = n ∧ n ≤ 255 := by
  simp [Lit.wf, IntKind.min, IntKind.max, IntKind.signed, IntKind.bits] at h
  exact ⟨a.toNat, by omega, by omega⟩
section
variable {H : Type} {enc : TypeId × Value → H} {w : World} {base : Nat} {spare : Nat → Bool} {held : Bool}
theorem pitch_cells {fuel : Nat} {cs : List Value} {y : DataW H × List MemPlace} (h : DataW.trod enc Tryd.prog w base spare held fuel 23 cs = some y) : ∃ f : Nat → Int, ∀ j, j < 6 → cs[j]? = some (.int .i64 (f j)) := by
  obtain ⟨xs, m, _, _, _, hl, hi⟩ := DataW.trod_array Tryd.underlying23 h
  have each : ∀ j, j < 6 → ∃ n : Int, cs[j]? = some (.int .i64 n) := fun j hj => by
    have h1 := hi j hj
    rw [cells3, List.getElem?_eq_getElem (by omega)] at h1
    obtain ⟨n, e, _⟩ := DataW.trod_int Tryd.underlying3 h1
    have e0 := congrArg (·[0]?) e
    simp [List.getElem?_take, List.getElem?_drop] at e0
    exact ⟨n, e0⟩
  exact ⟨fun j => if h : j < 6 then (each j h).choose else 0, fun j hj => by simp only [hj, dif_pos]; exact (each j hj).choose_spec⟩
theorem open_pitches {fuel : Nat} {cs : List Value} {y : DataW H × List MemPlace} (h : DataW.trod enc Tryd.prog w base spare held fuel 32 cs = some y) :
    cs = [.slice none 0 0] ∨ ∃ (a : Addr) (len cap : Nat) (M : Nat → Nat → Int), cs = [.slice (some a) len cap] ∧ len ≤ cap ∧ cap ≤ maxLen ∧ CV w (some a) len M := by
  rcases DataW.trod_slice Tryd.underlying32 h with ⟨h0, _⟩ | ⟨a, len, cap, elems, rest, n, _, rfl, _, _, hl, hm, hlen, hel, _, _⟩
  · exact .inl h0
  · right
    have each : ∀ i, i < len → ∃ f : Nat → Int, ∀ j, j < 6 → w.cell? ((a.add (i * 6)).add j) = some (.int .i64 (f j)) := fun i hi => by
      have h1 := hel i hi
      rw [cellsP, List.getElem?_eq_getElem (by omega), Option.bind_eq_some_iff] at h1
      obtain ⟨cs', hcs, hy⟩ := h1
      obtain ⟨f, hf⟩ := pitch_cells hy
      exact ⟨f, fun j hj => by rw [(World.cells?_some hcs).2.2 j hj, hf j hj]⟩
    obtain ⟨M, hc⟩ : ∃ M : Nat → Nat → Int, ∀ i j, i < len → j < 6 → w.cell? ((a.add (i * 6)).add j) = some (.int .i64 (M i j)) :=
      ⟨fun i => if h : i < len then (each i h).choose else fun _ => 0, fun i j hi hj => by
        have e : (if h : i < len then (each i h).choose else fun _ => 0) = (each i hi).choose := dif_pos hi
        show w.cell? ((a.add (i * 6)).add j) = some (.int .i64 ((if h : i < len then (each i h).choose else fun _ => 0) j))
        rw [e]; exact (each i hi).choose_spec j hj⟩
    refine ⟨a, len, cap, M, rfl, hl, hm, fun hpos => ?_⟩
    obtain ⟨b, o, s⟩ := a
    cases s with
    | none =>
      have h0 := hc 0 0 hpos (by omega)
      refine ⟨b, o, rfl, World.block_lt_of_cell? w _ h0, fun i j hi hj => ?_⟩
      have := hc i j hi hj
      rw [Addr.add_lit, Addr.add_lit] at this
      exact this
    | some s =>
      have h0 := hc 0 0 hpos (by omega)
      simp [Addr.add, World.cell?] at h0
      split at h0 <;> simp at h0
/-- Pitches that come in. -/
theorem pitches_in {v : Value} {d : DataW H} {p : List MemPlace} (hval : ∃ a n c, v = .slice a n c) (h : DataW.Trod enc Tryd.prog w base spare held 32 v d p) :
    ∃ (a : Option Addr) (n c : Nat) (M : Nat → Nat → Int), v = .slice a n c ∧ n ≤ c ∧ c ≤ maxLen ∧ CV w a n M ∧ (a = none → n = 0 ∧ c = 0) ∧ ∀ x ∈ p, x.block < w.heap.size := by
  have lt : ∀ x ∈ p, x.block < w.heap.size := by obtain ⟨m, hm⟩ := h; exact DataW.trod_lt m _ _ _ hm
  obtain ⟨a0, len0, cap0, rfl⟩ := hval
  obtain ⟨fuel, hf⟩ := h
  rcases open_pitches hf with hcs | ⟨x, l, c, M, hcs, hl, hm, hM⟩
  · simp [Value.cells] at hcs
    obtain ⟨rfl, rfl, rfl⟩ := hcs
    exact ⟨none, 0, 0, fun _ _ => 0, rfl, Nat.le_refl _, Nat.zero_le _, fun h => absurd h (Nat.lt_irrefl _), fun _ => ⟨rfl, rfl⟩, lt⟩
  · simp [Value.cells] at hcs
    obtain ⟨rfl, rfl, rfl⟩ := hcs
    exact ⟨_, _, _, M, rfl, hl, hm, hM, fun h => (by cases h), lt⟩
end
end Go.Proofs.YtomgihlkbmaleaaDoor

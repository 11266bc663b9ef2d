/- What a walk keeps since its start: the package's variables, and the rows that it has laid. -/
import Derived.Test.YtomgihlkbmaleaaDoorQB
namespace Go.Proofs.YtomgihlkbmaleaaDoor
open Go.RowKit M
/-- What the laws keep since their start: the tables, the rows that lie in variables. -/
structure SS (w0 w : World) (R : List (Nat × TypeId × Array Value)) : Prop where
  bl : Below w0.heap.size w0 w
  l0 : Sm w0
  rows : ∀ t ∈ R, RowB w t.1 t.2.2 t.2.1
  base : ∀ t ∈ R, w0.heap.size ≤ t.1
  ord : R.Pairwise fun s t => t.1 < s.1
theorem SS.sm {w0 w : World} {R : List (Nat × TypeId × Array Value)} (h : SS w0 w R) : Sm w := h.l0.keep h.bl
theorem SS.call {w0 w w' : World} {R : List (Nat × TypeId × Array Value)} (h : SS w0 w R) (hb : Below w.heap.size w w') : SS w0 w' R :=
  ⟨h.bl.trans (hb.mono h.bl.size), h.l0, fun t ht => (h.rows t ht).kept (row := none) ⟨hb.os, hb.tape, hb.output, hb.size, fun k hk _ => hb.block k hk⟩ (by simp), h.base, h.ord⟩
theorem SS.push {w0 w : World} {R : List (Nat × TypeId × Array Value)} (h : SS w0 w R) (cs : Array Value) (t : TypeId) : SS w0 (w.alloc (.cells cs t)) ((w.heap.size, t, cs) :: R) :=
  have k := h.call ((Below.refl _ _).alloc (Nat.le_refl _) (.cells cs t))
  ⟨k.bl, k.l0, fun u hu => by
    rcases List.mem_cons.1 hu with rfl | hu
    · exact World.alloc_heap_new w (.cells cs t)
    · exact (h.rows u hu).alloc _, fun u hu => by
    rcases List.mem_cons.1 hu with rfl | hu
    · exact h.bl.size
    · exact h.base u hu, List.pairwise_cons.2 ⟨fun u hu => (h.rows u hu).lt, h.ord⟩⟩
theorem SS.drew {w0 w : World} {R : List (Nat × TypeId × Array Value)} (h : SS w0 w R) : SS w0 w.drew R := h.call (Below.refl _ _).drew
theorem SS.drewN {w0 w : World} {R : List (Nat × TypeId × Array Value)} (h : SS w0 w R) (n : Nat) : SS w0 (w.drewN n) R := h.call (below_drewN (Below.refl _ _) n)
theorem SS.start (w : World) (hl : Sm w) : SS w w [] := ⟨Below.refl _ _, hl, (fun t ht => by cases ht), (fun t ht => by cases ht), List.Pairwise.nil⟩
/-- One cell of a row is written. -/
theorem SS.put {w0 w : World} {L M : List (Nat × TypeId × Array Value)} {b : Nat} {t : TypeId} {cs : Array Value} (h : SS w0 w (L ++ (b, t, cs) :: M)) (i : Nat) (u : Value) : SS w0 (w.setCell ⟨b, i, none⟩ u) (L ++ (b, t, cs.setIfInBounds i u) :: M) := by
  have hm : (b, t, cs) ∈ L ++ (b, t, cs) :: M := by simp
  have hw : w0.heap.size ≤ b := h.base _ hm
  have hb : Below w0.heap.size w (w.setCell ⟨b, i, none⟩ u) := (Below.refl _ _).setCell hw u
  have hr : RowB w b cs t := h.rows _ hm
  have hk : ∀ k, k ≠ b → (w.setCell ⟨b, i, none⟩ u).heap[k]? = w.heap[k]? := fun k hk => Below.heap_setCell w ⟨b, i, none⟩ u k hk
  have hS : ∀ s ∈ L ++ (b, t, cs.setIfInBounds i u) :: M, (s ∈ L ++ (b, t, cs) :: M ∧ s.1 ≠ b) ∨ s = (b, t, cs.setIfInBounds i u) := by
    intro s hs
    have ho := List.pairwise_append.1 h.ord
    rcases List.mem_append.1 hs with hs | hs
    · have := ho.2.2 s hs (b, t, cs) List.mem_cons_self
      exact .inl ⟨List.mem_append_left _ hs, Nat.ne_of_gt this⟩
    · rcases List.mem_cons.1 hs with hs | hs
      · exact .inr hs
      · have := (List.pairwise_cons.1 ho.2.1).1 s hs
        exact .inl ⟨List.mem_append_right _ (List.mem_cons_of_mem _ hs), Nat.ne_of_lt this⟩
  refine ⟨h.bl.trans hb, h.l0, ?_, ?_, ?_⟩
  · intro s hs
    rcases hS s hs with ⟨h1, h2⟩ | rfl
    · show (w.setCell ⟨b, i, none⟩ u).heap[s.1]? = _
      rw [hk s.1 h2]; exact h.rows s h1
    · exact heap_setCell_same w b i cs t u hr
  · intro s hs
    rcases hS s hs with ⟨h1, _⟩ | rfl
    · exact h.base s h1
    · exact hw
  · have ho := List.pairwise_append.1 h.ord
    refine List.pairwise_append.2 ⟨ho.1, List.pairwise_cons.2 ⟨(List.pairwise_cons.1 ho.2.1).1, (List.pairwise_cons.1 ho.2.1).2⟩, ?_⟩
    intro s hs u hu
    rcases List.mem_cons.1 hu with rfl | hu
    · exact ho.2.2 s hs (b, t, cs) List.mem_cons_self
    · exact ho.2.2 s hs u (List.mem_cons_of_mem _ hu)
theorem SS.six {w0 w : World} {R : List (Nat × TypeId × Array Value)} (h : SS w0 w R) (b : Nat) (t : TypeId) (c0 c1 c2 c3 c4 c5 : Value) (hm : (b, t, #[c0, c1, c2, c3, c4, c5]) ∈ R) :
    w.cell? ⟨b, 0, none⟩ = some c0 ∧ w.cell? ⟨b, 1, none⟩ = some c1 ∧ w.cell? ⟨b, 2, none⟩ = some c2 ∧ w.cell? ⟨b, 3, none⟩ = some c3 ∧ w.cell? ⟨b, 4, none⟩ = some c4 ∧ w.cell? ⟨b, 5, none⟩ = some c5 ∧ b < w.heap.size :=
  have k := h.rows _ hm
  ⟨k.cell 0, k.cell 1, k.cell 2, k.cell 3, k.cell 4, k.cell 5, k.lt⟩
theorem SS.two {w0 w : World} {R : List (Nat × TypeId × Array Value)} (h : SS w0 w R) (b : Nat) (t : TypeId) (c0 c1 : Value) (hm : (b, t, #[c0, c1]) ∈ R) :
    w.cell? ⟨b, 0, none⟩ = some c0 ∧ w.cell? ⟨b, 1, none⟩ = some c1 ∧ w.frozen? ⟨b, 0, none⟩ = false ∧ w.frozen? ⟨b, 1, none⟩ = false ∧ b < w.heap.size :=
  have k := h.rows _ hm
  ⟨k.cell 0, k.cell 1, k.frozen 0, k.frozen 1, k.lt⟩
theorem SS.put2 {w0 w : World} {L M : List (Nat × TypeId × Array Value)} {b : Nat} {t : TypeId} {c0 c1 : Value} (h : SS w0 w (L ++ (b, t, #[c0, c1]) :: M)) (u0 u1 : Value) :
    SS w0 ((w.setCell ⟨b, 0, none⟩ u0).setCell ⟨b, 1, none⟩ u1) (L ++ (b, t, #[u0, u1]) :: M) := by
  have := (h.put 0 u0).put 1 u1
  simpa using this
theorem SS.put6 {w0 w : World} {L M : List (Nat × TypeId × Array Value)} {b : Nat} {t : TypeId} {c0 c1 c2 c3 c4 c5 : Value} (h : SS w0 w (L ++ (b, t, #[c0, c1, c2, c3, c4, c5]) :: M)) (u0 u1 u2 u3 u4 u5 : Value) :
    SS w0 ((((((w.setCell ⟨b, 0, none⟩ u0).setCell ⟨b, 1, none⟩ u1).setCell ⟨b, 2, none⟩ u2).setCell ⟨b, 3, none⟩ u3).setCell ⟨b, 4, none⟩ u4).setCell ⟨b, 5, none⟩ u5) (L ++ (b, t, #[u0, u1, u2, u3, u4, u5]) :: M) := by
  have := (((((h.put 0 u0).put 1 u1).put 2 u2).put 3 u3).put 4 u4).put 5 u5
  simpa using this
theorem SS.fz6 {w0 w : World} {R : List (Nat × TypeId × Array Value)} (h : SS w0 w R) (b : Nat) (t : TypeId) (cs : Array Value) (hm : (b, t, cs) ∈ R) :
    w.frozen? ⟨b, 0, none⟩ = false ∧ w.frozen? ⟨b, 1, none⟩ = false ∧ w.frozen? ⟨b, 2, none⟩ = false ∧ w.frozen? ⟨b, 3, none⟩ = false ∧ w.frozen? ⟨b, 4, none⟩ = false ∧ w.frozen? ⟨b, 5, none⟩ = false :=
  have k := h.rows _ hm
  ⟨k.frozen 0, k.frozen 1, k.frozen 2, k.frozen 3, k.frozen 4, k.frozen 5⟩
end Go.Proofs.YtomgihlkbmaleaaDoor

/- the reference's Limb, Plus, Minus on natural numbers. -/
import Derived.Test.YtdlfnonlalkjdaaGreatDoorFD
namespace Go.Proofs.YtdlfnonlalkjdaaGreatDoor
open Go.RowKit M
/-- A slice of limbs of the call's own that grows by append. -/
structure Apd (w wr : World) (v : Value) (C : List Int) : Prop where
  ok : Ok C
  own : wr.ownsRow w.heap.size 47 1 v C.length (C.map (Value.int .u32))
  below : Below w.heap.size w wr
theorem Apd.nil (w : World) : Apd w w (.slice none 0 0) [] := ⟨Ok.nil, World.ownsRow_nil w _ _ _, Below.refl _ _⟩
theorem Apd.drewN {w wr : World} {v : Value} {C : List Int} (h : Apd w wr v C) (n : Nat) : Apd w (wr.drewN n) v C := ⟨h.ok, h.own, below_drewN h.below n⟩
theorem Apd.shape {w wr : World} {v : Value} {C : List Int} (h : Apd w wr v C) : ∃ ao cap, v = .slice ao C.length cap ∧ C.length ≤ cap ∧ cap ≤ maxLen ∧ CellsK .u32 wr ao C := by
  have hown := h.own
  rcases h.own.2 with ⟨h', h2⟩ | ⟨g, cap, cur, h', hb, hg, hnc, hm, hs, ht⟩
  · have hl : C.length = 0 := by have := h2; simp_all
    have hC : C = [] := List.length_eq_zero_iff.1 hl
    subst hC
    exact ⟨none, 0, h', Nat.le_refl _, by unfold maxLen; omega, CellsK.nil⟩
  · subst h'
    exact ⟨some ⟨g, 0, none⟩, cap, rfl, hnc, hm, cells_of_owns hown⟩
/-- The same, and the row is the call's own. -/
theorem Apd.shapeF {w wr : World} {v : Value} {C : List Int} (h : Apd w wr v C) : ∃ ao cap, v = .slice ao C.length cap ∧ C.length ≤ cap ∧ cap ≤ maxLen ∧ CellsK .u32 wr ao C ∧ ∀ x, ao = some x → w.heap.size ≤ x.block := by
  have hown := h.own
  rcases h.own.2 with ⟨h', h2⟩ | ⟨g, cap, cur, h', hb, hg, hnc, hm, hs, ht⟩
  · have hl : C.length = 0 := by have := h2; simp_all
    have hC : C = [] := List.length_eq_zero_iff.1 hl
    subst hC
    exact ⟨none, 0, h', Nat.le_refl _, by unfold maxLen; omega, CellsK.nil, fun x hx => by cases hx⟩
  · subst h'
    exact ⟨some ⟨g, 0, none⟩, cap, rfl, hnc, hm, cells_of_owns hown, fun x hx => by cases hx; exact hb⟩
/-- A natural number comes back, in memory of the call's own. -/
def RetNatF (w : World) (s : Nat) (e : Ending) (w' : World) : Prop := ∃ v, e = .returned v ∧ Rd w' v (limbs s) ∧ Below w.heap.size w w' ∧ ∃ ao n c, v = .slice ao n c ∧ ∀ x, ao = some x → w.heap.size ≤ x.block
theorem RetNatF.plain {w : World} {s : Nat} {e : Ending} {w' : World} (h : RetNatF w s e w') : RetNat w s e w' := let ⟨v, h1, h2, h3, _⟩ := h; ⟨v, h1, h2, h3⟩
theorem Rd.apart {w : World} {v : Value} {l : List Int} (h : Rd w v l) {ao : Option Addr} {n c g : Nat} (hv : v = .slice ao n c) (hf : ∀ x, ao = some x → g < x.block) (j : Nat) (u : Value) : Rd (w.setCell ⟨g, j, none⟩ u) v l := by
  obtain ⟨ok, ao', cap, e, h1, h2, h3⟩ := h
  subst hv
  simp only [Value.slice.injEq] at e
  obtain ⟨rfl, rfl, rfl⟩ := e
  exact ⟨ok, ao, c, rfl, h1, h2, ((But.refl g w).setCell j u).cells h3 (fun _ a ha => by have := hf a ha; omega)⟩
theorem Apd.next {w wr w3 : World} {v v' : Value} {C : List Int} (h : Apd w wr v C) {x : Int} (h0 : 0 ≤ x) (h1 : x < 4294967296)
    (hown : w3.ownsRow w.heap.size 47 1 v' (C.length + 1) (C.map (Value.int .u32) ++ [.int .u32 x])) (hg : (wr.alloc (.cells #[.int .u32 x] 47)).grownBy w3 v.ownBlock) : Apd w w3 v' (C ++ [x]) := by
  refine ⟨h.ok.append (Ok.cons h0 h1 Ok.nil), by simpa using hown, ?_⟩
  have hb := h.below.alloc h.below.size (.cells #[.int .u32 x] 47)
  exact hb.grown hg (by simpa using Nat.le_trans h.below.size (Nat.le_succ _)) (fun k hk => (h.own.lt k hk).1)
end Go.Proofs.YtdlfnonlalkjdaaGreatDoor

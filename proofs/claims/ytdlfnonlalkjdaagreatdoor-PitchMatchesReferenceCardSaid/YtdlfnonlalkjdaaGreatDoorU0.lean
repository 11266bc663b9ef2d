/- six cells that a loop fills. -/
import Derived.Test.YtdlfnonlalkjdaaGreatDoorP20
import Derived.Test.YtdlfnonlalkjdaaGreatDoorP10
import Derived.LoopN
namespace Go.Proofs.YtdlfnonlalkjdaaGreatDoor
open Go.RowKit M
/-- The six cells of a block. -/
structure Cel (b : Nat) (W : World) (q : Nat → Int) : Prop where
  cell : ∀ j, j < 6 → W.cell? ⟨b, j, none⟩ = some (.int .i64 (q j))
  fz : ∀ j, j < 6 → W.frozen? ⟨b, j, none⟩ = false
theorem Cel.congr {b : Nat} {W : World} {q r : Nat → Int} (h : Cel b W q) (e : ∀ j, j < 6 → q j = r j) : Cel b W r := ⟨fun j hj => by rw [h.cell j hj, e j hj], h.fz⟩
theorem Cel.later {b B : Nat} {W W' : World} {q : Nat → Int} (h : Cel b W q) (hb : Below B W W') (hB : b < B) : Cel b W' q :=
  ⟨fun j hj => (hb.cell (p := ⟨b, j, none⟩) hB).trans (h.cell j hj), fun j hj => (hb.frozen (p := ⟨b, j, none⟩) hB).trans (h.fz j hj)⟩
theorem Cel.drewN {b : Nat} {W : World} {q : Nat → Int} (h : Cel b W q) (n : Nat) : Cel b (W.drewN n) q := ⟨h.cell, h.fz⟩
theorem Cel.drew {b : Nat} {W : World} {q : Nat → Int} (h : Cel b W q) : Cel b W.drew q := ⟨h.cell, h.fz⟩
theorem Cel.set {b k : Nat} {W : World} {q q' : Nat → Int} (h : Cel b W q) (x : Int) (hk : k < 6) (hq : ∀ j, j < 6 → q' j = if j = k then x else q j) : Cel b (W.setCell ⟨b, k, none⟩ (.int .i64 x)) q' := by
  have hc := h.cell k hk
  constructor
  · intro j hj
    rw [hq j hj]
    by_cases e : j = k
    · subst e
      simp [go_sem, hc]
    · have := h.cell j hj
      have e' : ¬ k = j := fun x => e x.symm
      simp [go_sem, e, this]
  · intro j hj
    have := h.fz j hj
    simp [go_sem, this]
theorem Cel.other {b b' o : Nat} {W : World} {q : Nat → Int} (h : Cel b W q) (v : Value) (hne : b ≠ b') : Cel b (W.setCell ⟨b', o, none⟩ v) q := by
  have e' : ¬ b' = b := fun x => hne x.symm
  constructor
  · intro j hj
    have := h.cell j hj
    simp [go_sem, this]
  · intro j hj
    have := h.fz j hj
    simp [go_sem, this]
/-- The first k of r, then those of z. -/
def pre (r z : Nat → Int) (k : Int) : Nat → Int := fun j => if (j : Int) < k then r j else z j
theorem pre_zero (r z : Nat → Int) : pre r z 0 = z := by funext j; unfold pre; rw [if_neg (by omega)]
theorem pre_six (r z : Nat → Int) : ∀ j, j < 6 → pre r z 6 j = r j := fun j hj => by unfold pre; rw [if_pos (by omega)]
theorem pre_at (r z : Nat → Int) {k : Nat} {k0 : Int} (h : k0 = (k : Int)) : pre r z k0 k = z k := by unfold pre; rw [if_neg (by omega)]
theorem pre_step (r z : Nat → Int) {k : Nat} {k0 k1 x : Int} (h0 : k0 = (k : Int)) (h1 : k1 = (k : Int) + 1) (hx : r k = x) : ∀ j, j < 6 → pre r z k1 j = if j = k then x else pre r z k0 j := by
  intro j _
  unfold pre
  by_cases e : j = k
  · subst e; rw [if_pos (by omega), if_pos rfl, hx]
  · rw [if_neg e]
    by_cases h : (j : Int) < k0
    · rw [if_pos h, if_pos (by omega)]
    · rw [if_neg h, if_neg (by omega)]
theorem Cel.lit (W : World) (q : Nat → Int) (t : TypeId) : Cel W.heap.size (W.alloc (.cells (PC q) t)) q := by
  constructor
  · refine six ?_ ?_ ?_ ?_ ?_ ?_ <;> simp [go_sem]
  · refine six ?_ ?_ ?_ ?_ ?_ ?_ <;> simp [go_sem]
end Go.Proofs.YtdlfnonlalkjdaaGreatDoor

/- How slices of ints and of rows lie in memory, and what stays. -/
import Derived.Test.YtmknbgiihhimfaaProg
import Derived.WalkKit
import Derived.Handy
import Derived.Lib.Hide
import Derived.Deep.QuietTactic
import Derived.BigQuiet
import Derived.StillTailTactics
import Derived.Deep.RegionHeld3
import Derived.Deep.RegionWith
import Derived.WalkLawsBesides
import Derived.WalkSpells
import Derived.OwnWalk
import Derived.Outline
import Derived.Deep.DeepFit
namespace Go.Proofs.Ytmknbgiihhimfaa
open Go.RowKit
/-- A fact that the walk does not unfold. -/
structure Bx (p : Prop) : Prop where
  mk :: (out : p)
/-- The cells of a list of ints from an address on. -/
def CI (w : World) (ao : Option Addr) (l : List Int) : Prop :=
  l ≠ [] → ∃ b o, ao = some ⟨b, o, none⟩ ∧ b < w.heap.size ∧ ∀ i, i < l.length → w.cell? ⟨b, o + i, none⟩ = some (.int .i64 (l.getD i 0))
theorem CI.keep {w w' : World} {ao : Option Addr} {l : List Int} (h : CI w ao l) (hb : Below w.heap.size w w') : CI w' ao l := by
  intro hl
  obtain ⟨b, o, rfl, ha, hc⟩ := h hl
  exact ⟨b, o, rfl, Nat.lt_of_lt_of_le ha hb.size, fun i hi => by rw [hb.cell (p := ⟨b, o + i, none⟩) ha]; exact hc i hi⟩
theorem CI.nil {w : World} {ao : Option Addr} : CI w ao [] := fun h => absurd rfl h
/-- The cells of a list of indices. -/
def CN (w : World) (ao : Option Addr) (l : List Nat) : Prop :=
  l ≠ [] → ∃ b o, ao = some ⟨b, o, none⟩ ∧ b < w.heap.size ∧ ∀ i, i < l.length → w.cell? ⟨b, o + i, none⟩ = some (.int .i64 ((l.getD i 0 : Nat) : Int))
theorem CN.keep {w w' : World} {ao : Option Addr} {l : List Nat} (h : CN w ao l) (hb : Below w.heap.size w w') : CN w' ao l := by
  intro hl
  obtain ⟨b, o, rfl, ha, hc⟩ := h hl
  exact ⟨b, o, rfl, Nat.lt_of_lt_of_le ha hb.size, fun i hi => by rw [hb.cell (p := ⟨b, o + i, none⟩) ha]; exact hc i hi⟩
theorem CN.nil {w : World} {ao : Option Addr} : CN w ao [] := fun h => absurd rfl h
/-- The cells of a list of rows of six. -/
def CV (w : World) (ao : Option Addr) (n : Nat) (M : Nat → Nat → Int) : Prop :=
  0 < n → ∃ b o, ao = some ⟨b, o, none⟩ ∧ b < w.heap.size ∧ ∀ i j, i < n → j < 6 → w.cell? ⟨b, o + i * 6 + j, none⟩ = some (.int .i64 (M i j))
theorem CV.keep {w w' : World} {ao : Option Addr} {n : Nat} {M : Nat → Nat → Int} (h : CV w ao n M) (hb : Below w.heap.size w w') : CV w' ao n M := by
  intro hl
  obtain ⟨b, o, rfl, ha, hc⟩ := h hl
  exact ⟨b, o, rfl, Nat.lt_of_lt_of_le ha hb.size, fun i j hi hj => by rw [hb.cell (p := ⟨b, o + i * 6 + j, none⟩) ha]; exact hc i j hi hj⟩
theorem bcell {W w1 : World} (hb : Below W.heap.size W w1) : (∀ b o, b < W.heap.size → w1.cell? ⟨b, o, none⟩ = W.cell? ⟨b, o, none⟩) ∧ (∀ b o, b < W.heap.size → w1.frozen? ⟨b, o, none⟩ = W.frozen? ⟨b, o, none⟩) :=
  ⟨fun b o h => hb.cell (p := ⟨b, o, none⟩) h, fun b o h => hb.frozen (p := ⟨b, o, none⟩) h⟩
theorem below_drewN {B : Nat} {a w : World} (h : Below B a w) (n : Nat) : Below B a (w.drewN n) := ⟨h.os, h.tape, h.output, h.size, h.block⟩
theorem below_drew {B : Nat} {a w : World} (h : Below B a w) : Below B a w.drew := ⟨h.os, h.tape, h.output, h.size, h.block⟩
theorem info_int : (Try.prog.info? 3).map (fun i => (i.zero, i.size, i.bytes)) = some (some (.int .i64 0), 1, 8) := by kernel_rfl
theorem info_vec : (Try.prog.info? 37).map (fun i => (i.size, i.bytes)) = some (6, 48) := by kernel_rfl
end Go.Proofs.Ytmknbgiihhimfaa

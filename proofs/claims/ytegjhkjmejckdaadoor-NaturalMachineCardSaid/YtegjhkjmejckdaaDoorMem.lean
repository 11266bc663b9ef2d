/- How a slice of limbs lies in memory, and what stays. -/
import Derived.Test.YtegjhkjmejckdaaDoorProg
import Derived.Test.YtegjhkjmejckdaaDoorMath
import Derived.WalkKit
import Derived.Handy
import Derived.Lib.Hide
import Derived.Deep.QuietTactic
import Derived.BigQuiet
import Derived.StillTailTactics
import Derived.Deep.RegionHeld3
import Derived.Deep.RegionWith
import Derived.WalkLawsBesides
import Derived.WalkSpells
import Derived.Recover
import Derived.Deep.DeepFit
namespace Go.Proofs.YtegjhkjmejckdaaDoor
open Go.RowKit M
/-- The cells of a list of numbers of one kind from an address on. -/
def CellsK (k : IntKind) (w : World) (ao : Option Addr) (l : List Int) : Prop :=
  l ≠ [] → ∃ a, ao = some a ∧ a.block < w.heap.size ∧ ∀ i, i < l.length → w.cell? (a.add i) = some (.int k (l.getD i 0))
theorem CellsK.keep {k : IntKind} {w w' : World} {ao : Option Addr} {l : List Int} (h : CellsK k w ao l) (hb : Below w.heap.size w w') : CellsK k w' ao l := by
  intro hl
  obtain ⟨a, rfl, ha, hc⟩ := h hl
  have hblk : ∀ i, (a.add i).block = a.block := fun i => by unfold Addr.add; split <;> rfl
  exact ⟨a, rfl, Nat.lt_of_lt_of_le ha hb.size, fun i hi => by rw [hb.cell (p := a.add i) (by rw [hblk]; exact ha)]; exact hc i hi⟩
theorem CellsK.nil {k : IntKind} {w : World} {ao : Option Addr} : CellsK k w ao [] := fun h => absurd rfl h
theorem add_zero_addr (a : Addr) : a.add 0 = a := by simp [Addr.add]
/-- A slice of limbs that can be read. -/
structure Rd (w : World) (v : Value) (l : List Int) : Prop where
  ok : Ok l
  shape : ∃ (ao : Option Addr) (cap : Nat), v = .slice ao l.length cap ∧ l.length ≤ cap ∧ cap ≤ maxLen ∧ CellsK .u32 w ao l
theorem Rd.keep {w w' : World} {v : Value} {l : List Int} (h : Rd w v l) (hb : Below w.heap.size w w') : Rd w' v l :=
  let ⟨ao, cap, e, h1, h2, h3⟩ := h.shape; ⟨h.ok, ao, cap, e, h1, h2, h3.keep hb⟩
/-- The same, further on. -/
theorem Rd.later {w w' : World} {v : Value} {l : List Int} {B : Nat} (h : Rd w v l) (hb : Below B w w') (hB : w.heap.size ≤ B) : Rd w' v l := h.keep (hb.mono hB)
theorem Rd.nil (w : World) : Rd w (.slice none 0 0) [] := ⟨Ok.nil, none, 0, rfl, Nat.le_refl _, by unfold maxLen; omega, CellsK.nil⟩
/-- What a call owns reads as a slice of limbs. -/
theorem rd_of_owns {w : World} {base g n cap : Nat} {l : List Int} (h : w.ownsRow base 42 1 (.slice (some ⟨g, 0, none⟩) n cap) n (l.map (Value.int .u32))) (hl : Ok l) : Rd w (.slice (some ⟨g, 0, none⟩) n cap) l := by
  have hn : l.length = n := by have := h.1; simpa using this
  rcases h.2 with ⟨h', _⟩ | ⟨g', cap', cur, h', hb, hg, hnc, hm, hs, ht⟩
  · simp at h'
  · simp only [Value.slice.injEq, Option.some.injEq, Addr.mk.injEq, and_true, true_and] at h'
    obtain ⟨rfl, rfl⟩ := h'
    refine ⟨hl, some ⟨g, 0, none⟩, cap, by rw [hn], by omega, hm, fun hne => ⟨_, rfl, (Array.getElem?_eq_some_iff.1 hg).1, fun i hi => ?_⟩⟩
    have e : (⟨g, 0, none⟩ : Addr).add i = ⟨g, i, none⟩ := by unfold Addr.add; split <;> simp_all
    rw [e, h.cellAt i (by omega)]
    simp [List.getElem?_eq_getElem hi, List.getD]
theorem bcell {W w1 : World} (hb : Below W.heap.size W w1) : (∀ b o, b < W.heap.size → w1.cell? ⟨b, o, none⟩ = W.cell? ⟨b, o, none⟩) ∧ (∀ b o, b < W.heap.size → w1.frozen? ⟨b, o, none⟩ = W.frozen? ⟨b, o, none⟩) :=
  ⟨fun b o h => hb.cell (p := ⟨b, o, none⟩) h, fun b o h => hb.frozen (p := ⟨b, o, none⟩) h⟩
theorem below_drewN {B : Nat} {a w : World} (h : Below B a w) (n : Nat) : Below B a (w.drewN n) := ⟨h.os, h.tape, h.output, h.size, h.block⟩
theorem ret_int {k : IntKind} {a b : Int} (h : a = b) : Ending.returned (.int k a) = .returned (.int k b) := by rw [h]
theorem Tryd.info42 : (Tryd.prog.info? 42).map (fun i => (i.zero, i.size, i.bytes)) = some (some (.int .u32 0), 1, 4) := by kernel_rfl
/-- A quiet call behind draws. -/
theorem quiet_add_left {P : Program} {f : FuncId} {args : Array Value} {w : World} {a n : Nat} {v : Value}
    (h : Calls P f args (w.drewN (a + n)) fun e w' => e = .returned v ∧ w.drewN (a + n) = w') :
    Calls P f args (w.drewN (a + n)) fun e w'' => e = .returned v ∧ ∃ m, w'' = w.drewN (a + m) :=
  h.mono fun _ _ ⟨he, hm⟩ => ⟨he, n, hm.symm⟩
theorem quiet_left {P : Program} {f : FuncId} {args : Array Value} {w : World} {n : Nat} {v : Value}
    (h : Calls P f args (w.drewN n) fun e w' => e = .returned v ∧ w.drewN n = w') : Calls P f args (w.drewN n) fun e w'' => e = .returned v ∧ ∃ m, w'' = w.drewN m :=
  h.mono fun _ _ ⟨he, hm⟩ => ⟨he, n, hm.symm⟩
end Go.Proofs.YtegjhkjmejckdaaDoor

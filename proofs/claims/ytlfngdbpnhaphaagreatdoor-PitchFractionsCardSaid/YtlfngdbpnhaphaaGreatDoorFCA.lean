/- what PitchFractions' walk shares. -/
import Derived.Test.YtlfngdbpnhaphaaGreatDoorFC0
namespace Go.Proofs.YtlfngdbpnhaphaaGreatDoor
open Go.RowKit M
theorem cmp_is {w : World} {L : List (Value × Nat)} {va vb : Value} {a b : Nat} {x : Int} (hx : cmpI (a : Int) (b : Int) = x) (hL : Live w L) (ha : (va, a) ∈ L) (hb : (vb, b) ∈ L) :
    Calls Tryz.prog 39 #[va, vb] w fun e w' => e = .returned (.tuple #[.int .i64 x, .int .i64 0]) ∧ Live w' L ∧ Below w.heap.size w w' := by
  have := cmp_ok hL ha hb
  rw [hx] at this; exact this
theorem nil_shape {w : World} {L : List (Value × Nat)} {v : Value} {a : Nat} (hL : Live w L) (hm : (v, a) ∈ L) (h : a = 0) : ∃ ao cap, v = .slice ao 0 cap := by
  obtain ⟨ao, cap, e, _⟩ := (hL _ hm : Nm w v a).shape
  refine ⟨ao, cap, ?_⟩
  simp only at e
  rw [e, h, limbs_nil.2 rfl]; rfl
theorem wrap_u64 (n : Nat) (h : n ≤ 1000000000) : IntKind.wrap .u64 (n : Int) = (n : Int) := by
  simp [IntKind.wrap, IntKind.bits, IntKind.signed]; omega
end Go.Proofs.YtlfngdbpnhaphaaGreatDoor

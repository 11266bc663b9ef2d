/- NaturalOrder over three numbers. -/
import Derived.Test.YtegjhkjmejckdaaDoorT12
namespace Go.Proofs.YtegjhkjmejckdaaDoor
open Go.RowKit M
theorem cmp_var {w : World} {L : List (Value × Nat)} {va vb : Value} {a b : Nat} (hL : Live w L) (ha : (va, a) ∈ L) (hb : (vb, b) ∈ L) : Calls Tryd.prog 28 #[va, vb] w fun e w' => ∃ n : Int, e = .returned (.tuple #[.int .i64 n, .int .i64 0]) ∧ Live w' L ∧ Below w.heap.size w w' :=
  (cmp_ok hL ha hb).mono fun _ _ h => ⟨_, h⟩
end Go.Proofs.YtegjhkjmejckdaaDoor

/- contracts that leave open what comes out. -/
import Derived.Test.YtegjhkjmejckdaaDoorT11
namespace Go.Proofs.YtegjhkjmejckdaaDoor
open Go.RowKit M
/-- What a call leaves, whatever number and code it is. -/
def StepV (w : World) (L : List (Value × Nat)) (e : Ending) (w' : World) : Prop := ∃ v s c, e = .returned (.tuple #[v, .int .i64 c]) ∧ Live w' ((v, s) :: L) ∧ Below w.heap.size w w'
theorem mul_var {w : World} {L : List (Value × Nat)} {va vb : Value} {a b : Nat} (hL : Live w L) (ha : (va, a) ∈ L) (hb : (vb, b) ∈ L) : Calls Tryd.prog 22 #[va, vb] w (StepV w L) := by
  rcases fits_or (a * b) with h | h
  · exact (mul_ok hL ha hb h).mono fun _ _ ⟨v, he, hl, hb⟩ => ⟨v, _, _, he, hl, hb⟩
  · exact (mul_big hL ha hb h).mono fun _ _ ⟨v, he, hl, hb⟩ => ⟨v, _, _, he, hl, hb⟩
theorem add_var {w : World} {L : List (Value × Nat)} {va vb : Value} {a b : Nat} (hL : Live w L) (ha : (va, a) ∈ L) (hb : (vb, b) ∈ L) : Calls Tryd.prog 18 #[va, vb] w (StepV w L) := by
  rcases fits_or (a + b) with h | h
  · exact (add_ok hL ha hb h).mono fun _ _ ⟨v, he, hl, hb⟩ => ⟨v, _, _, he, hl, hb⟩
  · exact (add_over hL ha hb h).mono fun _ _ ⟨v, he, hl, hb⟩ => ⟨v, _, _, he, hl, hb⟩
theorem pow_var {w : World} {L : List (Value × Nat)} {va : Value} {a : Nat} (x : Nat) (hL : Live w L) (ha : (va, a) ∈ L) (hx : x < 2 ^ 63) : Calls Tryd.prog 26 #[va, .int .i64 x] w (StepV w L) := by
  rcases fits_or (a ^ x) with h | h
  · exact (pow_ok x hL ha hx h).mono fun _ _ ⟨v, he, hl, hb⟩ => ⟨v, _, _, he, hl, hb⟩
  · exact (pow_over x hL ha hx h).mono fun _ _ ⟨v, he, hl, hb⟩ => ⟨v, _, _, he, hl, hb⟩
theorem len_zero : (((limbs 0).length : Int) == 0) = true := by rw [limbs_zero]; rfl
theorem len_pos {a : Nat} (h : a ≠ 0) : (((limbs a).length : Int) == 0) = false := by
  have : (limbs a).length ≠ 0 := fun e => h (limbs_nil.1 (List.length_eq_zero_iff.1 e))
  exact beq_eq_false_iff_ne.2 (by omega)
end Go.Proofs.YtegjhkjmejckdaaDoor

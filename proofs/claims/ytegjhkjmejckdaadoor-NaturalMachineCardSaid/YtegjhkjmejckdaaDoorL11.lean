/- NaturalMachine over two integers. -/
import Derived.Test.YtegjhkjmejckdaaDoorL11a
import Derived.Test.YtegjhkjmejckdaaDoorL11b
import Derived.Test.YtegjhkjmejckdaaDoorL11c
import Derived.Test.YtegjhkjmejckdaaDoorL11y
import Derived.Test.YtegjhkjmejckdaaDoorL11z
namespace Go.Proofs.YtegjhkjmejckdaaDoor
open Go.RowKit M
theorem machine_all (x y : Nat) (w0 : World) (hx : x < 18446744073709551616) (hy : y < 18446744073709551616) :
    Calls Tryd.prog 11 #[.int .u64 x, .int .u64 y] w0 fun e w' => e = .returned (.bool true) ∧ Below w0.heap.size w0 w' := by
  have hL : Live w0 [] := fun p hp => by cases hp
  have h4 : Fits (x * y) := fits_small (by
    have : x * y ≤ 18446744073709551615 * 18446744073709551615 := Nat.mul_le_mul (by omega) (by omega)
    omega)
  have h8 : x / y < 18446744073709551616 := Nat.lt_of_le_of_lt (Nat.div_le_self x y) hx
  have h10 : x % y < 18446744073709551616 := Nat.lt_of_le_of_lt (Nat.mod_le x y) hx
  have g8 : IntKind.u64.wrap ((x : Int) / (y : Int)) = ((x / y : Nat) : Int) := by
    rw [wrap64, show (x : Int) / (y : Int) = ((x / y : Nat) : Int) from rfl]
    generalize x / y = n at h8 ⊢
    omega
  have g9 : (x : Int) % (y : Int) = ((x % y : Nat) : Int) := rfl
  have gs : IntKind.u64.wrap ((x : Int) + (y : Int)) = (((x + y) % 18446744073709551616 : Nat) : Int) := by
    rw [wrap64, show (x : Int) + (y : Int) = ((x + y : Nat) : Int) from rfl]
    generalize x + y = n
    omega
  have gp : IntKind.u64.wrap ((x : Int) * (y : Int)) = (((x * y) % 18446744073709551616 : Nat) : Int) := by
    rw [wrap64, show (x : Int) * (y : Int) = ((x * y : Nat) : Int) from rfl]
    generalize x * y = n
    omega
  have key : y ≠ 0 → (x * y < 18446744073709551616 ↔ (x : Int) ≤ 18446744073709551615 / (y : Int)) := fun h => by
    rw [Int.le_ediv_iff_mul_le (by omega)]
    constructor
    · intro k
      have : ((x * y : Nat) : Int) < 18446744073709551616 := by omega
      push_cast at this
      omega
    · intro k
      have : ((x * y : Nat) : Int) ≤ 18446744073709551615 := by push_cast; exact k
      omega
  rcases Nat.lt_trichotomy x y with h1 | h1 | h1
  · by_cases hs : x + y < 18446744073709551616
    · by_cases h0 : y = 0
      · omega
      · by_cases hp : x * y < 18446744073709551616
        · exact machine_lt_s_p w0 hL hx hy h1 (by omega) (beq_eq_false_iff_ne.2 (by omega)) gs (by omega) (Nat.mod_lt _ (by omega)) (Nat.mod_eq_of_lt hs).symm h4 ((key h0).1 hp) gp (Nat.mod_lt _ (by omega)) (Nat.mod_eq_of_lt hp).symm (beq_eq_false_iff_ne.2 (by omega)) (by omega) h0 g8 g9 h8 rfl h10 rfl
        · exact machine_lt_s_b w0 hL hx hy h1 (by omega) (beq_eq_false_iff_ne.2 (by omega)) gs (by omega) (Nat.mod_lt _ (by omega)) (Nat.mod_eq_of_lt hs).symm h4 (Int.not_le.1 fun k => hp ((key h0).2 k)) (beq_eq_false_iff_ne.2 (by omega)) (by omega) h0 g8 g9 h8 rfl h10 rfl
    · by_cases h0 : y = 0
      · omega
      · by_cases hp : x * y < 18446744073709551616
        · exact machine_lt_o_p w0 hL hx hy h1 (by omega) (beq_eq_false_iff_ne.2 (by omega)) gs (by omega) h4 ((key h0).1 hp) gp (Nat.mod_lt _ (by omega)) (Nat.mod_eq_of_lt hp).symm (beq_eq_false_iff_ne.2 (by omega)) (by omega) h0 g8 g9 h8 rfl h10 rfl
        · exact machine_lt_o_b w0 hL hx hy h1 (by omega) (beq_eq_false_iff_ne.2 (by omega)) gs (by omega) h4 (Int.not_le.1 fun k => hp ((key h0).2 k)) (beq_eq_false_iff_ne.2 (by omega)) (by omega) h0 g8 g9 h8 rfl h10 rfl
  · by_cases hs : x + y < 18446744073709551616
    · by_cases h0 : y = 0
      · subst h0; subst h1; exact machine_eq_s_z w0 hL
      · by_cases hp : x * y < 18446744073709551616
        · exact machine_eq_s_p w0 hL hx hy h1 (by omega) (beq_iff_eq.2 (by omega)) gs (by omega) (Nat.mod_lt _ (by omega)) (Nat.mod_eq_of_lt hs).symm h4 ((key h0).1 hp) gp (Nat.mod_lt _ (by omega)) (Nat.mod_eq_of_lt hp).symm (beq_eq_false_iff_ne.2 (by omega)) (by omega) h0 g8 g9 h8 rfl h10 rfl
        · exact machine_eq_s_b w0 hL hx hy h1 (by omega) (beq_iff_eq.2 (by omega)) gs (by omega) (Nat.mod_lt _ (by omega)) (Nat.mod_eq_of_lt hs).symm h4 (Int.not_le.1 fun k => hp ((key h0).2 k)) (beq_eq_false_iff_ne.2 (by omega)) (by omega) h0 g8 g9 h8 rfl h10 rfl
    · by_cases h0 : y = 0
      · omega
      · by_cases hp : x * y < 18446744073709551616
        · exact machine_eq_o_p w0 hL hx hy h1 (by omega) (beq_iff_eq.2 (by omega)) gs (by omega) h4 ((key h0).1 hp) gp (Nat.mod_lt _ (by omega)) (Nat.mod_eq_of_lt hp).symm (beq_eq_false_iff_ne.2 (by omega)) (by omega) h0 g8 g9 h8 rfl h10 rfl
        · exact machine_eq_o_b w0 hL hx hy h1 (by omega) (beq_iff_eq.2 (by omega)) gs (by omega) h4 (Int.not_le.1 fun k => hp ((key h0).2 k)) (beq_eq_false_iff_ne.2 (by omega)) (by omega) h0 g8 g9 h8 rfl h10 rfl
  · by_cases hs : x + y < 18446744073709551616
    · by_cases h0 : y = 0
      · subst h0; exact machine_gt_s_z w0 hL hx h1 (by omega) (beq_eq_false_iff_ne.2 (by omega)) (by rw [wrap64]; omega)
      · by_cases hp : x * y < 18446744073709551616
        · exact machine_gt_s_p w0 hL hx hy h1 (by omega) (beq_eq_false_iff_ne.2 (by omega)) gs (by omega) (Nat.mod_lt _ (by omega)) (Nat.mod_eq_of_lt hs).symm h4 ((key h0).1 hp) gp (Nat.mod_lt _ (by omega)) (Nat.mod_eq_of_lt hp).symm (beq_eq_false_iff_ne.2 (by omega)) (by omega) h0 g8 g9 h8 rfl h10 rfl
        · exact machine_gt_s_b w0 hL hx hy h1 (by omega) (beq_eq_false_iff_ne.2 (by omega)) gs (by omega) (Nat.mod_lt _ (by omega)) (Nat.mod_eq_of_lt hs).symm h4 (Int.not_le.1 fun k => hp ((key h0).2 k)) (beq_eq_false_iff_ne.2 (by omega)) (by omega) h0 g8 g9 h8 rfl h10 rfl
    · by_cases h0 : y = 0
      · omega
      · by_cases hp : x * y < 18446744073709551616
        · exact machine_gt_o_p w0 hL hx hy h1 (by omega) (beq_eq_false_iff_ne.2 (by omega)) gs (by omega) h4 ((key h0).1 hp) gp (Nat.mod_lt _ (by omega)) (Nat.mod_eq_of_lt hp).symm (beq_eq_false_iff_ne.2 (by omega)) (by omega) h0 g8 g9 h8 rfl h10 rfl
        · exact machine_gt_o_b w0 hL hx hy h1 (by omega) (beq_eq_false_iff_ne.2 (by omega)) gs (by omega) h4 (Int.not_le.1 fun k => hp ((key h0).2 k)) (beq_eq_false_iff_ne.2 (by omega)) (by omega) h0 g8 g9 h8 rfl h10 rfl
end Go.Proofs.YtegjhkjmejckdaaDoor

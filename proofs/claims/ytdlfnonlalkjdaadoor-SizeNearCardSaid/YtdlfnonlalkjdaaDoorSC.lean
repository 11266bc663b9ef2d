/- size.multiplies, operate, Add, Sub, Times, Cmp, Within, Meet. -/
import Derived.Test.YtdlfnonlalkjdaaDoorSA
namespace Go.Proofs.YtdlfnonlalkjdaaDoor
open Go.RowKit M
/-- n times an end stays within the limit. -/
def muB (x n : Int) : Bool := decide (-100000000000000 ≤ n * x ∧ n * x ≤ 100000000000000)
theorem muB_yes {x n : Int} : muB x n = true ↔ (-100000000000000 ≤ n * x ∧ n * x ≤ 100000000000000) := by unfold muB; exact decide_eq_true_iff
/-- The limit by division. -/
theorem mu_quo {x n m : Int} (hx : x ≠ 0) (hm : m = 100000000000000 / (if x < 0 then -x else x)) : (-m ≤ n ∧ n ≤ m) ↔ (-100000000000000 ≤ n * x ∧ n * x ≤ 100000000000000) := by
  obtain ⟨y, hy, h0, he⟩ : ∃ y : Int, (if x < 0 then -x else x) = y ∧ 0 < y ∧ (x = y ∨ x = -y) := by
    by_cases h : x < 0
    · exact ⟨-x, if_pos h, by omega, .inr (by omega)⟩
    · exact ⟨x, if_neg h, by omega, .inl rfl⟩
  rw [hy] at hm
  have k : ∀ t : Int, t ≤ m ↔ t * y ≤ 100000000000000 := fun t => by rw [hm]; exact Int.le_ediv_iff_mul_le h0
  have k1 := k n
  have k2 := k (-n)
  rw [Int.neg_mul] at k2
  rcases he with rfl | rfl
  · constructor
    · rintro ⟨a, b⟩; have := k1.1 b; have := k2.1 (by omega); omega
    · rintro ⟨a, b⟩; have := k1.2 b; have := k2.2 (by omega); omega
  · rw [Int.mul_neg]
    constructor
    · rintro ⟨a, b⟩; have := k1.1 b; have := k2.1 (by omega); omega
    · rintro ⟨a, b⟩; have := k1.2 (by omega); have := k2.2 (by omega); omega
theorem multiplies_any (x n : Int) (w : World) (hx0 : -100000000000000 ≤ x) (hx1 : x ≤ 100000000000000) (b : Bool) (h : muB x n = b) : Calls Tryd.prog 47 #[.int .i64 x, .int .i64 n] w fun e w' => e = .returned (.bool b) ∧ Below w.heap.size w w' := by
  by_cases h0 : x = 0
  · subst h0
    obtain rfl : b = true := by rw [← h, muB_yes]; simp
    clear h
    go_enter Tryd.func47, Tryd.ntmps47
    go_wp2_with fail
    go_ret
    exact ⟨rfl, (by repeat (first | with_reducible exact Below.refl _ _ | (with_reducible refine Below.setCell ?_ ?side _; case side => (first | omega | (simp <;> omega))) | (with_reducible refine Below.alloc ?_ ?side _; case side => (first | omega | (simp <;> omega))) | with_reducible apply below_drewN))⟩
  · obtain ⟨m, hm⟩ : ∃ m, m = 100000000000000 / (if x < 0 then -x else x) := ⟨_, rfl⟩
    have hq := mu_quo (n := n) h0 hm
    have hmx : Hx (max x (-x) = (if x < 0 then -x else x)) := ⟨by split <;> omega⟩
    obtain ⟨y, hy, hy0⟩ : ∃ y : Int, (if x < 0 then -x else x) = y ∧ 0 < y := by
      by_cases h : x < 0
      · exact ⟨-x, if_pos h, by omega⟩
      · exact ⟨x, if_neg h, by omega⟩
    rw [hy] at hm hmx
    have hmm := hmx.out
    have hm0 : 0 ≤ m := by rw [hm]; exact Int.ediv_nonneg (by omega) (by omega)
    have hm1 : m ≤ 100000000000000 := by rw [hm]; exact Int.ediv_le_self _ (by omega)
    have htd : (100000000000000 : Int).tdiv y = m := by rw [hm]; exact Int.tdiv_eq_ediv_of_nonneg (by omega)
    have hB : Hx (muB x n = b) := ⟨h⟩
    clear h hm
    by_cases h1 : -m ≤ n
    · by_cases h2 : n ≤ m
      · obtain rfl : b = true := by rw [← hB.out, muB_yes]; exact hq.1 ⟨h1, h2⟩
        clear hq hB hmx
        go_enter Tryd.func47, Tryd.ntmps47
        go_wp2_with fail
        go_ret
        exact ⟨rfl, (by repeat (first | with_reducible exact Below.refl _ _ | (with_reducible refine Below.setCell ?_ ?side _; case side => (first | omega | (simp <;> omega))) | (with_reducible refine Below.alloc ?_ ?side _; case side => (first | omega | (simp <;> omega))) | with_reducible apply below_drewN))⟩
      · obtain rfl : b = false := by
          rw [← hB.out]; exact Bool.eq_false_iff.2 fun k => h2 (hq.2 (muB_yes.1 k)).2
        clear hq hB hmx
        go_enter Tryd.func47, Tryd.ntmps47
        go_wp2_with fail
        go_ret
        exact ⟨rfl, (by repeat (first | with_reducible exact Below.refl _ _ | (with_reducible refine Below.setCell ?_ ?side _; case side => (first | omega | (simp <;> omega))) | (with_reducible refine Below.alloc ?_ ?side _; case side => (first | omega | (simp <;> omega))) | with_reducible apply below_drewN))⟩
    · obtain rfl : b = false := by
        rw [← hB.out]; exact Bool.eq_false_iff.2 fun k => h1 (hq.2 (muB_yes.1 k)).1
      clear hq hB hmx
      go_enter Tryd.func47, Tryd.ntmps47
      go_wp2_with fail
      go_ret
      exact ⟨rfl, (by repeat (first | with_reducible exact Below.refl _ _ | (with_reducible refine Below.setCell ?_ ?side _; case side => (first | omega | (simp <;> omega))) | (with_reducible refine Below.alloc ?_ ?side _; case side => (first | omega | (simp <;> omega))) | with_reducible apply below_drewN))⟩
end Go.Proofs.YtdlfnonlalkjdaaDoor

/- sizes as values; size.Valid and what adds, subtracts and multiplies ends. -/
import Derived.Test.YtdlfnonlalkjdaaDoorP2
import Derived.Test.YtdlfnonlalkjdaaDoorLG
namespace Go.Proofs.YtdlfnonlalkjdaaDoor
open Go.RowKit M
/-- Two ends, as the program has them. -/
abbrev SV (lo hi : Int) : Value := .agg #[.int .i64 lo, .int .i64 hi]
/-- Valid, as a bool. -/
def szB (lo hi : Int) : Bool := decide (-100000000000000 ≤ lo ∧ lo ≤ hi ∧ hi ≤ 100000000000000)
theorem szB_yes {lo hi : Int} : szB lo hi = true ↔ (-100000000000000 ≤ lo ∧ lo ≤ hi ∧ hi ≤ 100000000000000) := by unfold szB; exact decide_eq_true_iff
theorem szB_no {lo hi : Int} : szB lo hi = false ↔ ¬ (-100000000000000 ≤ lo ∧ lo ≤ hi ∧ hi ≤ 100000000000000) := by unfold szB; exact decide_eq_false_iff_not
theorem svalid_any (lo hi : Int) (w : World) (b : Bool) (h : szB lo hi = b) : Calls Tryd.prog 13 #[SV lo hi] w fun e w' => e = .returned (.bool b) ∧ Below w.heap.size w w' := by
  by_cases h1 : -100000000000000 ≤ lo
  · by_cases h2 : lo ≤ hi
    · by_cases h3 : hi ≤ 100000000000000
      · obtain rfl : b = true := by rw [← h, szB_yes]; exact ⟨h1, h2, h3⟩
        clear h
        go_enter Tryd.func13, Tryd.ntmps13
        go_wp2_with fail
        go_ret
        exact ⟨rfl, (by repeat (first | with_reducible exact Below.refl _ _ | (with_reducible refine Below.setCell ?_ ?side _; case side => (first | omega | (simp <;> omega))) | (with_reducible refine Below.alloc ?_ ?side _; case side => (first | omega | (simp <;> omega))) | with_reducible apply below_drewN))⟩
      · obtain rfl : b = false := by rw [← h, szB_no]; omega
        clear h
        go_enter Tryd.func13, Tryd.ntmps13
        go_wp2_with fail
        go_ret
        exact ⟨rfl, (by repeat (first | with_reducible exact Below.refl _ _ | (with_reducible refine Below.setCell ?_ ?side _; case side => (first | omega | (simp <;> omega))) | (with_reducible refine Below.alloc ?_ ?side _; case side => (first | omega | (simp <;> omega))) | with_reducible apply below_drewN))⟩
    · obtain rfl : b = false := by rw [← h, szB_no]; omega
      clear h
      go_enter Tryd.func13, Tryd.ntmps13
      go_wp2_with fail
      go_ret
      exact ⟨rfl, (by repeat (first | with_reducible exact Below.refl _ _ | (with_reducible refine Below.setCell ?_ ?side _; case side => (first | omega | (simp <;> omega))) | (with_reducible refine Below.alloc ?_ ?side _; case side => (first | omega | (simp <;> omega))) | with_reducible apply below_drewN))⟩
  · obtain rfl : b = false := by rw [← h, szB_no]; omega
    clear h
    go_enter Tryd.func13, Tryd.ntmps13
    go_wp2_with fail
    go_ret
    exact ⟨rfl, (by repeat (first | with_reducible exact Below.refl _ _ | (with_reducible refine Below.setCell ?_ ?side _; case side => (first | omega | (simp <;> omega))) | (with_reducible refine Below.alloc ?_ ?side _; case side => (first | omega | (simp <;> omega))) | with_reducible apply below_drewN))⟩
theorem plus_any (a b c d : Int) (w : World) (h1 : -1000000000000000 ≤ a + c) (h2 : a + c ≤ 1000000000000000) (h3 : -1000000000000000 ≤ b + d) (h4 : b + d ≤ 1000000000000000) : Calls Tryd.prog 43 #[SV a b, SV c d] w fun e w' => e = .returned (SV (a + c) (b + d)) ∧ Below w.heap.size w w' := by
  go_enter Tryd.func43, Tryd.ntmps43
  go_wp2_with fail
  refine bodyPost_ret_by (v := SV (a + c) (b + d)) (by simp [results, Tryd.results43, go_sem]) rfl ?_
  exact ⟨rfl, (by repeat (first | with_reducible exact Below.refl _ _ | (with_reducible refine Below.setCell ?_ ?side _; case side => (first | omega | (simp <;> omega))) | (with_reducible refine Below.alloc ?_ ?side _; case side => (first | omega | (simp <;> omega))) | with_reducible apply below_drewN))⟩
theorem minus_any (a b c d : Int) (w : World) (h1 : -1000000000000000 ≤ a - d) (h2 : a - d ≤ 1000000000000000) (h3 : -1000000000000000 ≤ b - c) (h4 : b - c ≤ 1000000000000000) : Calls Tryd.prog 46 #[SV a b, SV c d] w fun e w' => e = .returned (SV (a - d) (b - c)) ∧ Below w.heap.size w w' := by
  go_enter Tryd.func46, Tryd.ntmps46
  go_wp2_with fail
  refine bodyPost_ret_by (v := SV (a - d) (b - c)) (by simp [results, Tryd.results46, go_sem]) rfl ?_
  exact ⟨rfl, (by repeat (first | with_reducible exact Below.refl _ _ | (with_reducible refine Below.setCell ?_ ?side _; case side => (first | omega | (simp <;> omega))) | (with_reducible refine Below.alloc ?_ ?side _; case side => (first | omega | (simp <;> omega))) | with_reducible apply below_drewN))⟩
theorem times_any (a b n : Int) (w : World) (h1 : -1000000000000000 ≤ n * a) (h2 : n * a ≤ 1000000000000000) (h3 : -1000000000000000 ≤ n * b) (h4 : n * b ≤ 1000000000000000) (x y : Int) (hx : (if n < 0 then n * b else n * a) = x) (hy : (if n < 0 then n * a else n * b) = y) : Calls Tryd.prog 48 #[SV a b, .int .i64 n] w fun e w' => e = .returned (SV x y) ∧ Below w.heap.size w w' := by
  by_cases h : n < 0
  · rw [if_pos h] at hx hy
    subst hx; subst hy
    go_enter Tryd.func48, Tryd.ntmps48
    go_wp2_with fail
    refine bodyPost_ret_by (v := SV (n * b) (n * a)) (by simp [results, Tryd.results48, go_sem]) rfl ?_
    exact ⟨rfl, (by repeat (first | with_reducible exact Below.refl _ _ | (with_reducible refine Below.setCell ?_ ?side _; case side => (first | omega | (simp <;> omega))) | (with_reducible refine Below.alloc ?_ ?side _; case side => (first | omega | (simp <;> omega))) | with_reducible apply below_drewN))⟩
  · rw [if_neg h] at hx hy
    subst hx; subst hy
    go_enter Tryd.func48, Tryd.ntmps48
    go_wp2_with fail
    refine bodyPost_ret_by (v := SV (n * a) (n * b)) (by simp [results, Tryd.results48, go_sem]) rfl ?_
    exact ⟨rfl, (by repeat (first | with_reducible exact Below.refl _ _ | (with_reducible refine Below.setCell ?_ ?side _; case side => (first | omega | (simp <;> omega))) | (with_reducible refine Below.alloc ?_ ?side _; case side => (first | omega | (simp <;> omega))) | with_reducible apply below_drewN))⟩
end Go.Proofs.YtdlfnonlalkjdaaDoor

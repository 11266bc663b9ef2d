/- the reference's Same. -/
import Derived.Test.YtmknbgiihhimfaaMV
namespace Go.Proofs.Ytmknbgiihhimfaa
open Go.RowKit D
theorem same_any (ao bo : Option Addr) (c1 c2 n m : Nat) (A B : Nat → Nat → Int) (w : World) (hc1 : n ≤ c1) (hc2 : c1 ≤ maxLen) (hc3 : m ≤ c2) (hc4 : c2 ≤ maxLen) (hA : CV w ao n A) (hB : CV w bo m B) (b : Bool) (hb : b = true ↔ n = m ∧ ∀ i j, i < n → j < 6 → A i j = B i j) :
    Calls Try.prog 15 #[.slice ao n c1, .slice bo m c2] w fun e w' => e = .returned (.bool b) ∧ Below w.heap.size w w' := by
  unfold maxLen at hc2 hc4
  by_cases hl : n = m
  · subst hl
    have HY := Bx.mk (show (∀ i j, i < n → j < 6 → A i j = B i j) → b = true from fun h => hb.2 ⟨rfl, h⟩)
    have HN := Bx.mk (show ¬ (∀ i j, i < n → j < 6 → A i j = B i j) → b = false from fun h => by
      cases hbb : b with
      | false => rfl
      | true => exact absurd (hb.1 hbb).2 h)
    clear hb
    go_enter Try.func15, Try.ntmps15
    go_wp2_with fail
    go_loopw [5] (fun i wr => ∃ k : Nat, k ≤ n ∧ i = .int .i64 k ∧ Bx (∀ i j, i < k → j < 6 → A i j = B i j) ∧ Below w.heap.size w wr) (fun i _ => n - (intOf i).toNat)
    case atStart => exact ⟨0, by omega, rfl, ⟨fun i j hi => by omega⟩, Below.refl _ _⟩
    case round =>
      obtain ⟨k, hk, rfl, HE, hB'⟩ := hrel
      by_cases hlt : k < n
      · obtain ⟨b1, o1, rfl, hb1, hca⟩ := hA (by omega)
        obtain ⟨b2, o2, rfl, hb2, hcb⟩ := hB (by omega)
        have a0 := hB'.cell (p := ⟨b1, o1 + k * 6 + 0, none⟩) hb1
        have a1 := hB'.cell (p := ⟨b1, o1 + k * 6 + 1, none⟩) hb1
        have a2 := hB'.cell (p := ⟨b1, o1 + k * 6 + 2, none⟩) hb1
        have a3 := hB'.cell (p := ⟨b1, o1 + k * 6 + 3, none⟩) hb1
        have a4 := hB'.cell (p := ⟨b1, o1 + k * 6 + 4, none⟩) hb1
        have a5 := hB'.cell (p := ⟨b1, o1 + k * 6 + 5, none⟩) hb1
        have e0 := hB'.cell (p := ⟨b2, o2 + k * 6 + 0, none⟩) hb2
        have e1 := hB'.cell (p := ⟨b2, o2 + k * 6 + 1, none⟩) hb2
        have e2 := hB'.cell (p := ⟨b2, o2 + k * 6 + 2, none⟩) hb2
        have e3 := hB'.cell (p := ⟨b2, o2 + k * 6 + 3, none⟩) hb2
        have e4 := hB'.cell (p := ⟨b2, o2 + k * 6 + 4, none⟩) hb2
        have e5 := hB'.cell (p := ⟨b2, o2 + k * 6 + 5, none⟩) hb2
        rw [hca k _ hlt (by omega)] at a0 a1 a2 a3 a4 a5
        rw [hcb k _ hlt (by omega)] at e0 e1 e2 e3 e4 e5
        rw [Nat.add_zero] at a0 e0
        clear hca hcb
        by_cases hq : ∀ j, j < 6 → A k j = B k j
        · have E6 := eq6_is 37 Try.underlying37 (A k) (B k) true (by simpa using hq)
          have HE' := Bx.mk (show ∀ i j, i < k + 1 → j < 6 → A i j = B i j from fun i j hi hj => by
            rcases Nat.lt_or_eq_of_le (Nat.le_of_lt_succ hi) with z | z
            · exact HE.out i j z hj
            · rw [z]; exact hq j hj)
          clear hq
          go_wp2_with fail
          go_region
          all_goals go_wp2_with fail
          all_goals exact ⟨⟨k + 1, by omega, by go_num, HE', (by repeat (first | with_reducible exact Below.refl _ _ | with_reducible exact hB' | (with_reducible refine Below.setCell ?_ ?side _; case side => (first | omega | (simp <;> omega))) | (with_reducible refine Below.alloc ?_ ?side _; case side => (first | omega | (simp <;> omega))) | with_reducible apply below_drewN | with_reducible apply below_drew))⟩, by simp [intOf]; omega⟩
        · obtain rfl : b = false := HN.out fun h => hq fun j hj => h k j hlt hj
          have E6 := eq6_is 37 Try.underlying37 (A k) (B k) false (by simpa using hq)
          clear hq
          go_wp2_with fail
          go_region
          all_goals go_wp2_with fail
          all_goals go_ret
          all_goals exact ⟨rfl, (by repeat (first | with_reducible exact Below.refl _ _ | with_reducible exact hB' | (with_reducible refine Below.setCell ?_ ?side _; case side => (first | omega | (simp <;> omega))) | (with_reducible refine Below.alloc ?_ ?side _; case side => (first | omega | (simp <;> omega))) | with_reducible apply below_drewN | with_reducible apply below_drew))⟩
      · obtain rfl : k = n := by omega
        obtain rfl : b = true := HY.out HE.out
        go_wp2_with fail
        go_ret
        exact ⟨rfl, (by repeat (first | with_reducible exact Below.refl _ _ | with_reducible exact hB' | (with_reducible refine Below.setCell ?_ ?side _; case side => (first | omega | (simp <;> omega))) | (with_reducible refine Below.alloc ?_ ?side _; case side => (first | omega | (simp <;> omega))) | with_reducible apply below_drewN | with_reducible apply below_drew))⟩
  · obtain rfl : b = false := by
      cases hbb : b with
      | false => rfl
      | true => exact absurd (hb.1 hbb).1 hl
    have hl' : ((n : Int) == m) = false := by simp; omega
    go_enter Try.func15, Try.ntmps15
    go_wp2_with fail
    go_ret
    exact ⟨rfl, (by repeat (first | with_reducible exact Below.refl _ _ | with_reducible exact hB' | (with_reducible refine Below.setCell ?_ ?side _; case side => (first | omega | (simp <;> omega))) | (with_reducible refine Below.alloc ?_ ?side _; case side => (first | omega | (simp <;> omega))) | with_reducible apply below_drewN | with_reducible apply below_drew))⟩
end Go.Proofs.Ytmknbgiihhimfaa

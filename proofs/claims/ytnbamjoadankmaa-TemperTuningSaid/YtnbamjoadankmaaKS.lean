/- Valid of the program. -/
import Derived.Test.YtnbamjoadankmaaKK
import Derived.Test.YtnbamjoadankmaaR6
namespace Go.Proofs.Ytnbamjoadankmaa
open Go.RowKit D
set_option maxHeartbeats 4000000 in
theorem pvalid_any (ao : Option Addr) (n c1 : Nat) (M : Nat → Nat → Int) (w : World) (hc1 : n ≤ c1) (hc2 : c1 ≤ maxLen) (hR : CV w ao n M) (b : Bool) (hb : b = true ↔ VM M n) :
    Calls Try.prog 19 #[.slice ao n c1] w fun e w' => e = .returned (.bool b) ∧ Below w.heap.size w w' := by
  unfold maxLen at hc2
  by_cases h8 : n ≤ 8
  · have HB := Bx.mk hb
    have yes : VM M n → b = true := hb.2
    have no : ¬ VM M n → b = false := fun h => by cases b <;> simp_all
    have HY := Bx.mk yes
    have HN := Bx.mk no
    clear hb yes no
    go_enter Try.func19, Try.ntmps19
    go_wp2_with fail
    go_loopw [3, 14] (fun v i wr => ∃ (k : Nat) (V : Int), k ≤ n ∧ v = .int .i64 V ∧ i = .int .i64 k ∧ Bx (V = (vol M 6 k : Nat)) ∧ 1 ≤ V ∧ V ≤ 1000000000 ∧ Bx (∀ i j, i < k → j < 6 → -1000000000 ≤ M i j ∧ M i j ≤ 1000000000) ∧ Below w.heap.size w wr) (fun _ i _ => n - (intOf i).toNat)
    case atStart => exact ⟨0, 1, by omega, rfl, rfl, ⟨rfl⟩, by omega, by omega, ⟨fun i j hi => by omega⟩, Below.refl _ _⟩
    case round =>
      obtain ⟨k, V, hk, rfl, rfl, HV, hV1, hV2, HE, hB⟩ := hrel
      by_cases hlt : k < n
      · obtain ⟨b3, o3, rfl, hb3, hcr⟩ := hR (by omega)
        have a0 := hB.cell (p := ⟨b3, o3 + k * 6 + 0, none⟩) hb3
        have a1 := hB.cell (p := ⟨b3, o3 + k * 6 + 1, none⟩) hb3
        have a2 := hB.cell (p := ⟨b3, o3 + k * 6 + 2, none⟩) hb3
        have a3 := hB.cell (p := ⟨b3, o3 + k * 6 + 3, none⟩) hb3
        have a4 := hB.cell (p := ⟨b3, o3 + k * 6 + 4, none⟩) hb3
        have a5 := hB.cell (p := ⟨b3, o3 + k * 6 + 5, none⟩) hb3
        rw [hcr k _ hlt (by omega)] at a0 a1 a2 a3 a4 a5
        rw [Nat.add_zero] at a0
        have hB1 := hB.alloc hB.size (.cells #[.int .i64 (M k 0), .int .i64 (M k 1), .int .i64 (M k 2), .int .i64 (M k 3), .int .i64 (M k 4), .int .i64 (M k 5)] 36)
        go_wp2_with fail
        go_loopw [6, 19] (fun s j wr => ∃ (l : Nat) (S : Int), l ≤ 6 ∧ s = .int .i64 S ∧ j = .int .i64 l ∧ Bx (S = (rs l (M k) : Nat)) ∧ 0 ≤ S ∧ S ≤ 1000000000 * l ∧ Bx (∀ j, j < l → -1000000000 ≤ M k j ∧ M k j ≤ 1000000000) ∧ Below w.heap.size w wr) (fun _ j _ => 6 - (intOf j).toNat)
        case atStart => exact ⟨0, 0, by omega, rfl, rfl, ⟨rfl⟩, by omega, by omega, ⟨fun j hj => by omega⟩, hB1⟩
        case round =>
          obtain ⟨l, S, hl, rfl, rfl, HS, hS1, hS2, HR, hB2⟩ := hrel
          by_cases hl6 : l < 6
          · obtain ⟨x, hx⟩ : ∃ x, M k l = x := ⟨_, rfl⟩
            have hix := index_six (M k) hl6 x hx
            have HX := Bx.mk hx
            clear hx
            by_cases h1 : -1000000000 ≤ x
            · by_cases h2 : x ≤ 1000000000
              · have HS' := Bx.mk (show S + (if x < -x then -x else x) = ((rs (l + 1) (M k) : Nat) : Int) by
                  simp only [rs]; rw [HS.out, HX.out]; split <;> omega)
                obtain ⟨y, hy⟩ : ∃ y, S + (if x < -x then -x else x) = y := ⟨_, rfl⟩
                have hy0 : 0 ≤ y := by rw [← hy]; split <;> omega
                have hy1 : y ≤ 1000000000 * (l + 1) := by rw [← hy]; split <;> omega
                rw [hy] at HS'
                have HR' := Bx.mk (show ∀ j, j < l + 1 → -1000000000 ≤ M k j ∧ M k j ≤ 1000000000 from fun j hj => by
                  rcases Nat.lt_or_eq_of_le (Nat.le_of_lt_succ hj) with z | z
                  · exact HR.out j z
                  · rw [z, HX.out]; exact ⟨h1, h2⟩)
                go_wp2_with fail
                exact ⟨⟨l + 1, y, by omega, rfl, by go_num, HS', hy0, by push_cast; omega, HR', (by repeat (first | with_reducible exact Below.refl _ _ | with_reducible exact hB | with_reducible exact hB2 | (with_reducible refine Below.setCell ?_ ?side _; case side => (first | omega | (simp <;> omega))) | (with_reducible refine Below.alloc ?_ ?side _; case side => (first | omega | (simp <;> omega))) | with_reducible apply below_drewN | with_reducible apply below_drew))⟩, by simp [intOf]; omega⟩
              · obtain rfl : b = false := HN.out fun h => by have := (h.2.1 k l hlt hl6).2; rw [HX.out] at this; omega
                go_wp2_with fail
                go_ret
                exact ⟨rfl, (by repeat (first | with_reducible exact Below.refl _ _ | with_reducible exact hB | with_reducible exact hB2 | (with_reducible refine Below.setCell ?_ ?side _; case side => (first | omega | (simp <;> omega))) | (with_reducible refine Below.alloc ?_ ?side _; case side => (first | omega | (simp <;> omega))) | with_reducible apply below_drewN | with_reducible apply below_drew))⟩
            · obtain rfl : b = false := HN.out fun h => by have := (h.2.1 k l hlt hl6).1; rw [HX.out] at this; omega
              go_wp2_with fail
              go_ret
              exact ⟨rfl, (by repeat (first | with_reducible exact Below.refl _ _ | with_reducible exact hB | with_reducible exact hB2 | (with_reducible refine Below.setCell ?_ ?side _; case side => (first | omega | (simp <;> omega))) | (with_reducible refine Below.alloc ?_ ?side _; case side => (first | omega | (simp <;> omega))) | with_reducible apply below_drewN | with_reducible apply below_drew))⟩
          · obtain rfl : l = 6 := by omega
            have HE' := Bx.mk (show ∀ i j, i < k + 1 → j < 6 → -1000000000 ≤ M i j ∧ M i j ≤ 1000000000 from fun i j hi hj => by
              rcases Nat.lt_or_eq_of_le (Nat.le_of_lt_succ hi) with z | z
              · exact HE.out i j z hj
              · rw [z]; exact HR.out j hj)
            have HM := Bx.mk (vol_le M (m := 6) (show k + 1 ≤ n by omega))
            by_cases h0 : 0 < S
            · have p1 : 0 ≤ V * S := Int.mul_nonneg (by omega) (by omega)
              have p2 : V * S ≤ 1000000000 * 6000000000 := Int.mul_le_mul (by omega) (by omega) (by omega) (by omega)
              have p3 : 1 ≤ V * S := by have := Int.mul_pos (show 0 < V by omega) h0; omega
              have HV' := Bx.mk (show V * S = ((vol M 6 (k + 1) : Nat) : Int) by
                have : rs 6 (M k) ≠ 0 := by have := HS.out; omega
                simp only [vol]; rw [if_neg this, HV.out, HS.out]; simp)
              obtain ⟨P, hP⟩ : ∃ P, V * S = P := ⟨_, rfl⟩
              rw [hP] at p1 p2 p3 HV'
              by_cases hm : P ≤ 1000000000
              · go_wp2_with fail
                exact ⟨⟨k + 1, P, by omega, rfl, by go_num, HV', p3, hm, HE', (by repeat (first | with_reducible exact Below.refl _ _ | with_reducible exact hB | with_reducible exact hB2 | (with_reducible refine Below.setCell ?_ ?side _; case side => (first | omega | (simp <;> omega))) | (with_reducible refine Below.alloc ?_ ?side _; case side => (first | omega | (simp <;> omega))) | with_reducible apply below_drewN | with_reducible apply below_drew))⟩, by simp [intOf]; omega⟩
              · obtain rfl : b = false := HN.out fun h => by have := h.2.2; have := HM.out; have := HV'.out; omega
                go_wp2_with fail
                go_ret
                exact ⟨rfl, (by repeat (first | with_reducible exact Below.refl _ _ | with_reducible exact hB | with_reducible exact hB2 | (with_reducible refine Below.setCell ?_ ?side _; case side => (first | omega | (simp <;> omega))) | (with_reducible refine Below.alloc ?_ ?side _; case side => (first | omega | (simp <;> omega))) | with_reducible apply below_drewN | with_reducible apply below_drew))⟩
            · obtain rfl : S = 0 := by omega
              have HV' := Bx.mk (show V = ((vol M 6 (k + 1) : Nat) : Int) by
                have : rs 6 (M k) = 0 := by have := HS.out; omega
                simp only [vol]; rw [if_pos this, HV.out]; simp)
              go_wp2_with fail
              exact ⟨⟨k + 1, V, by omega, rfl, by go_num, HV', hV1, hV2, HE', (by repeat (first | with_reducible exact Below.refl _ _ | with_reducible exact hB | with_reducible exact hB2 | (with_reducible refine Below.setCell ?_ ?side _; case side => (first | omega | (simp <;> omega))) | (with_reducible refine Below.alloc ?_ ?side _; case side => (first | omega | (simp <;> omega))) | with_reducible apply below_drewN | with_reducible apply below_drew))⟩, by simp [intOf]; omega⟩
      · obtain rfl : k = n := by omega
        obtain rfl : b = true := HY.out ⟨h8, HE.out, by have := HV.out; omega⟩
        go_wp2_with fail
        go_ret
        exact ⟨rfl, (by repeat (first | with_reducible exact Below.refl _ _ | with_reducible exact hB | with_reducible exact hB2 | (with_reducible refine Below.setCell ?_ ?side _; case side => (first | omega | (simp <;> omega))) | (with_reducible refine Below.alloc ?_ ?side _; case side => (first | omega | (simp <;> omega))) | with_reducible apply below_drewN | with_reducible apply below_drew))⟩
  · have : b = false := by
      cases b with
      | false => rfl
      | true => exact absurd (hb.1 rfl).1 h8
    subst this
    go_enter Try.func19, Try.ntmps19
    go_wp2_with fail
    go_ret
    exact ⟨rfl, (by repeat (first | with_reducible exact Below.refl _ _ | with_reducible exact hB | with_reducible exact hB2 | (with_reducible refine Below.setCell ?_ ?side _; case side => (first | omega | (simp <;> omega))) | (with_reducible refine Below.alloc ?_ ?side _; case side => (first | omega | (simp <;> omega))) | with_reducible apply below_drewN | with_reducible apply below_drew))⟩
end Go.Proofs.Ytnbamjoadankmaa

/- the reference's Valid, Interval. -/
import Derived.Test.YtdlfnonlalkjdaaGreatDoorP1
namespace Go.Proofs.YtdlfnonlalkjdaaGreatDoor
open Go.RowKit M
theorem refValid_any (v : Nat → Int) (w : World) (b : Bool) (h : bdB v 576 = b) :
    Calls Tryz.prog 6 #[PV v] w fun e w' => e = .returned (.bool b) ∧ Below w.heap.size w w' := by
  have H := Hx.mk h
  clear h
  go_enter Tryz.func6, Tryz.ntmps6
  go_wp2
  go_loop [3] (fun i => ∃ k : Int, 0 ≤ k ∧ k ≤ 6 ∧ i = .int .i64 k ∧ Hx (∀ j : Nat, (j : Int) < k → -576 ≤ v j ∧ v j ≤ 576)) (fun i => 6 - (intOf i).toNat)
  case atStart => exact ⟨0, by omega, by omega, rfl, ⟨fun j hj => by omega⟩⟩
  case round =>
    obtain ⟨k, hk0, hk, rfl, hB⟩ := hrel
    have : k = 0 ∨ k = 1 ∨ k = 2 ∨ k = 3 ∨ k = 4 ∨ k = 5 ∨ k = 6 := by omega
    rcases this with rfl | rfl | rfl | rfl | rfl | rfl | rfl
    · by_cases hin : -576 ≤ v 0 ∧ v 0 ≤ 576
      · have HB : Hx (∀ j : Nat, (j : Int) < 1 → -576 ≤ v j ∧ v j ≤ 576) := ⟨fun j hj => by
          by_cases e : j = 0
          · subst e; exact hin
          · exact hB.out j (by omega)⟩
        obtain ⟨hb1, hb2⟩ := hin
        go_wp2
        go_round
        case rel => exact ⟨1, by omega, by omega, rfl, HB⟩
        case measure => simp [intOf]
      · obtain rfl : b = false := by rw [← H.out, bdB_no]; exact fun hi => hin (hi 0 (by omega))
        by_cases h1 : -576 ≤ v 0
        · have h2 : 576 < v 0 := by omega
          clear hin
          go_wp2
          go_ret
          exact ⟨rfl, (Below.refl _ _).alloc (Nat.le_refl _) _⟩
        · clear hin
          go_wp2
          go_ret
          exact ⟨rfl, (Below.refl _ _).alloc (Nat.le_refl _) _⟩
    · by_cases hin : -576 ≤ v 1 ∧ v 1 ≤ 576
      · have HB : Hx (∀ j : Nat, (j : Int) < 2 → -576 ≤ v j ∧ v j ≤ 576) := ⟨fun j hj => by
          by_cases e : j = 1
          · subst e; exact hin
          · exact hB.out j (by omega)⟩
        obtain ⟨hb1, hb2⟩ := hin
        go_wp2
        go_round
        case rel => exact ⟨2, by omega, by omega, rfl, HB⟩
        case measure => simp [intOf]
      · obtain rfl : b = false := by rw [← H.out, bdB_no]; exact fun hi => hin (hi 1 (by omega))
        by_cases h1 : -576 ≤ v 1
        · have h2 : 576 < v 1 := by omega
          clear hin
          go_wp2
          go_ret
          exact ⟨rfl, (Below.refl _ _).alloc (Nat.le_refl _) _⟩
        · clear hin
          go_wp2
          go_ret
          exact ⟨rfl, (Below.refl _ _).alloc (Nat.le_refl _) _⟩
    · by_cases hin : -576 ≤ v 2 ∧ v 2 ≤ 576
      · have HB : Hx (∀ j : Nat, (j : Int) < 3 → -576 ≤ v j ∧ v j ≤ 576) := ⟨fun j hj => by
          by_cases e : j = 2
          · subst e; exact hin
          · exact hB.out j (by omega)⟩
        obtain ⟨hb1, hb2⟩ := hin
        go_wp2
        go_round
        case rel => exact ⟨3, by omega, by omega, rfl, HB⟩
        case measure => simp [intOf]
      · obtain rfl : b = false := by rw [← H.out, bdB_no]; exact fun hi => hin (hi 2 (by omega))
        by_cases h1 : -576 ≤ v 2
        · have h2 : 576 < v 2 := by omega
          clear hin
          go_wp2
          go_ret
          exact ⟨rfl, (Below.refl _ _).alloc (Nat.le_refl _) _⟩
        · clear hin
          go_wp2
          go_ret
          exact ⟨rfl, (Below.refl _ _).alloc (Nat.le_refl _) _⟩
    · by_cases hin : -576 ≤ v 3 ∧ v 3 ≤ 576
      · have HB : Hx (∀ j : Nat, (j : Int) < 4 → -576 ≤ v j ∧ v j ≤ 576) := ⟨fun j hj => by
          by_cases e : j = 3
          · subst e; exact hin
          · exact hB.out j (by omega)⟩
        obtain ⟨hb1, hb2⟩ := hin
        go_wp2
        go_round
        case rel => exact ⟨4, by omega, by omega, rfl, HB⟩
        case measure => simp [intOf]
      · obtain rfl : b = false := by rw [← H.out, bdB_no]; exact fun hi => hin (hi 3 (by omega))
        by_cases h1 : -576 ≤ v 3
        · have h2 : 576 < v 3 := by omega
          clear hin
          go_wp2
          go_ret
          exact ⟨rfl, (Below.refl _ _).alloc (Nat.le_refl _) _⟩
        · clear hin
          go_wp2
          go_ret
          exact ⟨rfl, (Below.refl _ _).alloc (Nat.le_refl _) _⟩
    · by_cases hin : -576 ≤ v 4 ∧ v 4 ≤ 576
      · have HB : Hx (∀ j : Nat, (j : Int) < 5 → -576 ≤ v j ∧ v j ≤ 576) := ⟨fun j hj => by
          by_cases e : j = 4
          · subst e; exact hin
          · exact hB.out j (by omega)⟩
        obtain ⟨hb1, hb2⟩ := hin
        go_wp2
        go_round
        case rel => exact ⟨5, by omega, by omega, rfl, HB⟩
        case measure => simp [intOf]
      · obtain rfl : b = false := by rw [← H.out, bdB_no]; exact fun hi => hin (hi 4 (by omega))
        by_cases h1 : -576 ≤ v 4
        · have h2 : 576 < v 4 := by omega
          clear hin
          go_wp2
          go_ret
          exact ⟨rfl, (Below.refl _ _).alloc (Nat.le_refl _) _⟩
        · clear hin
          go_wp2
          go_ret
          exact ⟨rfl, (Below.refl _ _).alloc (Nat.le_refl _) _⟩
    · by_cases hin : -576 ≤ v 5 ∧ v 5 ≤ 576
      · have HB : Hx (∀ j : Nat, (j : Int) < 6 → -576 ≤ v j ∧ v j ≤ 576) := ⟨fun j hj => by
          by_cases e : j = 5
          · subst e; exact hin
          · exact hB.out j (by omega)⟩
        obtain ⟨hb1, hb2⟩ := hin
        go_wp2
        go_round
        case rel => exact ⟨6, by omega, by omega, rfl, HB⟩
        case measure => simp [intOf]
      · obtain rfl : b = false := by rw [← H.out, bdB_no]; exact fun hi => hin (hi 5 (by omega))
        by_cases h1 : -576 ≤ v 5
        · have h2 : 576 < v 5 := by omega
          clear hin
          go_wp2
          go_ret
          exact ⟨rfl, (Below.refl _ _).alloc (Nat.le_refl _) _⟩
        · clear hin
          go_wp2
          go_ret
          exact ⟨rfl, (Below.refl _ _).alloc (Nat.le_refl _) _⟩
    · obtain rfl : b = true := by rw [← H.out, bdB_yes]; exact fun i hi => hB.out i (by omega)
      go_wp2
      go_ret
      exact ⟨rfl, (Below.refl _ _).alloc (Nat.le_refl _) _⟩
theorem refInterval_any (v : Nat → Int) (w : World) (b : Bool) (h : bdB v 48 = b) :
    Calls Tryz.prog 8 #[PV v] w fun e w' => e = .returned (.bool b) ∧ Below w.heap.size w w' := by
  have H := Hx.mk h
  clear h
  go_enter Tryz.func8, Tryz.ntmps8
  go_wp2
  go_loop [3] (fun i => ∃ k : Int, 0 ≤ k ∧ k ≤ 6 ∧ i = .int .i64 k ∧ Hx (∀ j : Nat, (j : Int) < k → -48 ≤ v j ∧ v j ≤ 48)) (fun i => 6 - (intOf i).toNat)
  case atStart => exact ⟨0, by omega, by omega, rfl, ⟨fun j hj => by omega⟩⟩
  case round =>
    obtain ⟨k, hk0, hk, rfl, hB⟩ := hrel
    have : k = 0 ∨ k = 1 ∨ k = 2 ∨ k = 3 ∨ k = 4 ∨ k = 5 ∨ k = 6 := by omega
    rcases this with rfl | rfl | rfl | rfl | rfl | rfl | rfl
    · by_cases hin : -48 ≤ v 0 ∧ v 0 ≤ 48
      · have HB : Hx (∀ j : Nat, (j : Int) < 1 → -48 ≤ v j ∧ v j ≤ 48) := ⟨fun j hj => by
          by_cases e : j = 0
          · subst e; exact hin
          · exact hB.out j (by omega)⟩
        obtain ⟨hb1, hb2⟩ := hin
        go_wp2
        go_round
        case rel => exact ⟨1, by omega, by omega, rfl, HB⟩
        case measure => simp [intOf]
      · obtain rfl : b = false := by rw [← H.out, bdB_no]; exact fun hi => hin (hi 0 (by omega))
        by_cases h1 : -48 ≤ v 0
        · have h2 : 48 < v 0 := by omega
          clear hin
          go_wp2
          go_ret
          exact ⟨rfl, (Below.refl _ _).alloc (Nat.le_refl _) _⟩
        · clear hin
          go_wp2
          go_ret
          exact ⟨rfl, (Below.refl _ _).alloc (Nat.le_refl _) _⟩
    · by_cases hin : -48 ≤ v 1 ∧ v 1 ≤ 48
      · have HB : Hx (∀ j : Nat, (j : Int) < 2 → -48 ≤ v j ∧ v j ≤ 48) := ⟨fun j hj => by
          by_cases e : j = 1
          · subst e; exact hin
          · exact hB.out j (by omega)⟩
        obtain ⟨hb1, hb2⟩ := hin
        go_wp2
        go_round
        case rel => exact ⟨2, by omega, by omega, rfl, HB⟩
        case measure => simp [intOf]
      · obtain rfl : b = false := by rw [← H.out, bdB_no]; exact fun hi => hin (hi 1 (by omega))
        by_cases h1 : -48 ≤ v 1
        · have h2 : 48 < v 1 := by omega
          clear hin
          go_wp2
          go_ret
          exact ⟨rfl, (Below.refl _ _).alloc (Nat.le_refl _) _⟩
        · clear hin
          go_wp2
          go_ret
          exact ⟨rfl, (Below.refl _ _).alloc (Nat.le_refl _) _⟩
    · by_cases hin : -48 ≤ v 2 ∧ v 2 ≤ 48
      · have HB : Hx (∀ j : Nat, (j : Int) < 3 → -48 ≤ v j ∧ v j ≤ 48) := ⟨fun j hj => by
          by_cases e : j = 2
          · subst e; exact hin
          · exact hB.out j (by omega)⟩
        obtain ⟨hb1, hb2⟩ := hin
        go_wp2
        go_round
        case rel => exact ⟨3, by omega, by omega, rfl, HB⟩
        case measure => simp [intOf]
      · obtain rfl : b = false := by rw [← H.out, bdB_no]; exact fun hi => hin (hi 2 (by omega))
        by_cases h1 : -48 ≤ v 2
        · have h2 : 48 < v 2 := by omega
          clear hin
          go_wp2
          go_ret
          exact ⟨rfl, (Below.refl _ _).alloc (Nat.le_refl _) _⟩
        · clear hin
          go_wp2
          go_ret
          exact ⟨rfl, (Below.refl _ _).alloc (Nat.le_refl _) _⟩
    · by_cases hin : -48 ≤ v 3 ∧ v 3 ≤ 48
      · have HB : Hx (∀ j : Nat, (j : Int) < 4 → -48 ≤ v j ∧ v j ≤ 48) := ⟨fun j hj => by
          by_cases e : j = 3
          · subst e; exact hin
          · exact hB.out j (by omega)⟩
        obtain ⟨hb1, hb2⟩ := hin
        go_wp2
        go_round
        case rel => exact ⟨4, by omega, by omega, rfl, HB⟩
        case measure => simp [intOf]
      · obtain rfl : b = false := by rw [← H.out, bdB_no]; exact fun hi => hin (hi 3 (by omega))
        by_cases h1 : -48 ≤ v 3
        · have h2 : 48 < v 3 := by omega
          clear hin
          go_wp2
          go_ret
          exact ⟨rfl, (Below.refl _ _).alloc (Nat.le_refl _) _⟩
        · clear hin
          go_wp2
          go_ret
          exact ⟨rfl, (Below.refl _ _).alloc (Nat.le_refl _) _⟩
    · by_cases hin : -48 ≤ v 4 ∧ v 4 ≤ 48
      · have HB : Hx (∀ j : Nat, (j : Int) < 5 → -48 ≤ v j ∧ v j ≤ 48) := ⟨fun j hj => by
          by_cases e : j = 4
          · subst e; exact hin
          · exact hB.out j (by omega)⟩
        obtain ⟨hb1, hb2⟩ := hin
        go_wp2
        go_round
        case rel => exact ⟨5, by omega, by omega, rfl, HB⟩
        case measure => simp [intOf]
      · obtain rfl : b = false := by rw [← H.out, bdB_no]; exact fun hi => hin (hi 4 (by omega))
        by_cases h1 : -48 ≤ v 4
        · have h2 : 48 < v 4 := by omega
          clear hin
          go_wp2
          go_ret
          exact ⟨rfl, (Below.refl _ _).alloc (Nat.le_refl _) _⟩
        · clear hin
          go_wp2
          go_ret
          exact ⟨rfl, (Below.refl _ _).alloc (Nat.le_refl _) _⟩
    · by_cases hin : -48 ≤ v 5 ∧ v 5 ≤ 48
      · have HB : Hx (∀ j : Nat, (j : Int) < 6 → -48 ≤ v j ∧ v j ≤ 48) := ⟨fun j hj => by
          by_cases e : j = 5
          · subst e; exact hin
          · exact hB.out j (by omega)⟩
        obtain ⟨hb1, hb2⟩ := hin
        go_wp2
        go_round
        case rel => exact ⟨6, by omega, by omega, rfl, HB⟩
        case measure => simp [intOf]
      · obtain rfl : b = false := by rw [← H.out, bdB_no]; exact fun hi => hin (hi 5 (by omega))
        by_cases h1 : -48 ≤ v 5
        · have h2 : 48 < v 5 := by omega
          clear hin
          go_wp2
          go_ret
          exact ⟨rfl, (Below.refl _ _).alloc (Nat.le_refl _) _⟩
        · clear hin
          go_wp2
          go_ret
          exact ⟨rfl, (Below.refl _ _).alloc (Nat.le_refl _) _⟩
    · obtain rfl : b = true := by rw [← H.out, bdB_yes]; exact fun i hi => hB.out i (by omega)
      go_wp2
      go_ret
      exact ⟨rfl, (Below.refl _ _).alloc (Nat.le_refl _) _⟩
end Go.Proofs.YtdlfnonlalkjdaaGreatDoor

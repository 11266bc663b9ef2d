/- pitch.bounded, sum, divided, divisor. -/
import Derived.Test.YtomgihlkbmaleaaDoorT10
import Derived.Test.YtomgihlkbmaleaaDoorPMath
import Derived.Below
namespace Go.Proofs.YtomgihlkbmaleaaDoor
open Go.RowKit M
/-- Six exponents, as the program has them. -/
abbrev PV (v : Nat → Int) : Value := .agg #[.int .i64 (v 0), .int .i64 (v 1), .int .i64 (v 2), .int .i64 (v 3), .int .i64 (v 4), .int .i64 (v 5)]
abbrev PC (v : Nat → Int) : Array Value := #[.int .i64 (v 0), .int .i64 (v 1), .int .i64 (v 2), .int .i64 (v 3), .int .i64 (v 4), .int .i64 (v 5)]
/-- A fact that the walk leaves alone. -/
structure Hx (p : Prop) : Prop where
  out : p
def inB (v : Nat → Int) (m : Int) : Prop := ∀ i, i < 6 → -m ≤ v i ∧ v i ≤ m
theorem six {p : Nat → Prop} (h0 : p 0) (h1 : p 1) (h2 : p 2) (h3 : p 3) (h4 : p 4) (h5 : p 5) : ∀ i, i < 6 → p i := by
  intro i hi
  have : i = 0 ∨ i = 1 ∨ i = 2 ∨ i = 3 ∨ i = 4 ∨ i = 5 := by omega
  rcases this with rfl | rfl | rfl | rfl | rfl | rfl <;> assumption
theorem at0 (v : Nat → Int) : ∀ w, (Instr.index 22 (PV v) (.int .i64 0)).run Tryd.prog w = .ok (.int .i64 (v 0)) w := fun _ => by kernel_rfl
theorem at1 (v : Nat → Int) : ∀ w, (Instr.index 22 (PV v) (.int .i64 1)).run Tryd.prog w = .ok (.int .i64 (v 1)) w := fun _ => by kernel_rfl
theorem at2 (v : Nat → Int) : ∀ w, (Instr.index 22 (PV v) (.int .i64 2)).run Tryd.prog w = .ok (.int .i64 (v 2)) w := fun _ => by kernel_rfl
theorem at3 (v : Nat → Int) : ∀ w, (Instr.index 22 (PV v) (.int .i64 3)).run Tryd.prog w = .ok (.int .i64 (v 3)) w := fun _ => by kernel_rfl
theorem at4 (v : Nat → Int) : ∀ w, (Instr.index 22 (PV v) (.int .i64 4)).run Tryd.prog w = .ok (.int .i64 (v 4)) w := fun _ => by kernel_rfl
theorem at5 (v : Nat → Int) : ∀ w, (Instr.index 22 (PV v) (.int .i64 5)).run Tryd.prog w = .ok (.int .i64 (v 5)) w := fun _ => by kernel_rfl
instance (v : Nat → Int) (m : Int) : Decidable (inB v m) := inferInstanceAs (Decidable (∀ i, i < 6 → -m ≤ v i ∧ v i ≤ m))
/-- Bounds, as a bool. -/
def bdB (v : Nat → Int) (m : Int) : Bool := decide (inB v m)
theorem bdB_yes {v : Nat → Int} {m : Int} : bdB v m = true ↔ inB v m := by unfold bdB; exact decide_eq_true_iff
theorem bdB_no {v : Nat → Int} {m : Int} : bdB v m = false ↔ ¬ inB v m := by unfold bdB; exact decide_eq_false_iff_not
theorem bounded_any (v : Nat → Int) (m : Int) (w : World) (hm0 : 0 ≤ m) (hm1 : m ≤ 1000000) (b : Bool) (h : bdB v m = b) :
    Calls Tryd.prog 25 #[PV v, .int .i64 m] w fun e w' => e = .returned (.bool b) ∧ Below w.heap.size w w' := by
  have H := Hx.mk h
  clear h
  go_enter Tryd.func25, Tryd.ntmps25
  go_wp2
  go_loop [8] (fun i => ∃ k : Int, 0 ≤ k ∧ k ≤ 6 ∧ i = .int .i64 k ∧ Hx (∀ j : Nat, (j : Int) < k → -m ≤ v j ∧ v j ≤ m)) (fun i => 6 - (intOf i).toNat)
  case atStart => exact ⟨0, by omega, by omega, rfl, ⟨fun j hj => by omega⟩⟩
  case round =>
    obtain ⟨k, hk0, hk, rfl, hB⟩ := hrel
    have : k = 0 ∨ k = 1 ∨ k = 2 ∨ k = 3 ∨ k = 4 ∨ k = 5 ∨ k = 6 := by omega
    rcases this with rfl | rfl | rfl | rfl | rfl | rfl | rfl
    · have i0 := at0 v
      by_cases hin : -m ≤ v 0 ∧ v 0 ≤ m
      · have HB : Hx (∀ j : Nat, (j : Int) < 1 → -m ≤ v j ∧ v j ≤ m) := ⟨fun j hj => by
          by_cases e : j = 0
          · subst e; exact hin
          · exact hB.out j (by omega)⟩
        obtain ⟨hb1, hb2⟩ := hin
        go_wp2
        go_round
        case rel => exact ⟨1, by omega, by omega, rfl, HB⟩
        case measure => simp [intOf]
      · obtain rfl : b = false := by rw [← H.out, bdB_no]; exact fun hi => hin (hi 0 (by omega))
        by_cases h1 : -m ≤ v 0
        · have h2 : m < v 0 := by omega
          clear hin
          go_wp2
          go_ret
          exact ⟨rfl, (Below.refl _ _).alloc (Nat.le_refl _) _⟩
        · clear hin
          go_wp2
          go_ret
          exact ⟨rfl, (Below.refl _ _).alloc (Nat.le_refl _) _⟩
    · have i0 := at1 v
      by_cases hin : -m ≤ v 1 ∧ v 1 ≤ m
      · have HB : Hx (∀ j : Nat, (j : Int) < 2 → -m ≤ v j ∧ v j ≤ m) := ⟨fun j hj => by
          by_cases e : j = 1
          · subst e; exact hin
          · exact hB.out j (by omega)⟩
        obtain ⟨hb1, hb2⟩ := hin
        go_wp2
        go_round
        case rel => exact ⟨2, by omega, by omega, rfl, HB⟩
        case measure => simp [intOf]
      · obtain rfl : b = false := by rw [← H.out, bdB_no]; exact fun hi => hin (hi 1 (by omega))
        by_cases h1 : -m ≤ v 1
        · have h2 : m < v 1 := by omega
          clear hin
          go_wp2
          go_ret
          exact ⟨rfl, (Below.refl _ _).alloc (Nat.le_refl _) _⟩
        · clear hin
          go_wp2
          go_ret
          exact ⟨rfl, (Below.refl _ _).alloc (Nat.le_refl _) _⟩
    · have i0 := at2 v
      by_cases hin : -m ≤ v 2 ∧ v 2 ≤ m
      · have HB : Hx (∀ j : Nat, (j : Int) < 3 → -m ≤ v j ∧ v j ≤ m) := ⟨fun j hj => by
          by_cases e : j = 2
          · subst e; exact hin
          · exact hB.out j (by omega)⟩
        obtain ⟨hb1, hb2⟩ := hin
        go_wp2
        go_round
        case rel => exact ⟨3, by omega, by omega, rfl, HB⟩
        case measure => simp [intOf]
      · obtain rfl : b = false := by rw [← H.out, bdB_no]; exact fun hi => hin (hi 2 (by omega))
        by_cases h1 : -m ≤ v 2
        · have h2 : m < v 2 := by omega
          clear hin
          go_wp2
          go_ret
          exact ⟨rfl, (Below.refl _ _).alloc (Nat.le_refl _) _⟩
        · clear hin
          go_wp2
          go_ret
          exact ⟨rfl, (Below.refl _ _).alloc (Nat.le_refl _) _⟩
    · have i0 := at3 v
      by_cases hin : -m ≤ v 3 ∧ v 3 ≤ m
      · have HB : Hx (∀ j : Nat, (j : Int) < 4 → -m ≤ v j ∧ v j ≤ m) := ⟨fun j hj => by
          by_cases e : j = 3
          · subst e; exact hin
          · exact hB.out j (by omega)⟩
        obtain ⟨hb1, hb2⟩ := hin
        go_wp2
        go_round
        case rel => exact ⟨4, by omega, by omega, rfl, HB⟩
        case measure => simp [intOf]
      · obtain rfl : b = false := by rw [← H.out, bdB_no]; exact fun hi => hin (hi 3 (by omega))
        by_cases h1 : -m ≤ v 3
        · have h2 : m < v 3 := by omega
          clear hin
          go_wp2
          go_ret
          exact ⟨rfl, (Below.refl _ _).alloc (Nat.le_refl _) _⟩
        · clear hin
          go_wp2
          go_ret
          exact ⟨rfl, (Below.refl _ _).alloc (Nat.le_refl _) _⟩
    · have i0 := at4 v
      by_cases hin : -m ≤ v 4 ∧ v 4 ≤ m
      · have HB : Hx (∀ j : Nat, (j : Int) < 5 → -m ≤ v j ∧ v j ≤ m) := ⟨fun j hj => by
          by_cases e : j = 4
          · subst e; exact hin
          · exact hB.out j (by omega)⟩
        obtain ⟨hb1, hb2⟩ := hin
        go_wp2
        go_round
        case rel => exact ⟨5, by omega, by omega, rfl, HB⟩
        case measure => simp [intOf]
      · obtain rfl : b = false := by rw [← H.out, bdB_no]; exact fun hi => hin (hi 4 (by omega))
        by_cases h1 : -m ≤ v 4
        · have h2 : m < v 4 := by omega
          clear hin
          go_wp2
          go_ret
          exact ⟨rfl, (Below.refl _ _).alloc (Nat.le_refl _) _⟩
        · clear hin
          go_wp2
          go_ret
          exact ⟨rfl, (Below.refl _ _).alloc (Nat.le_refl _) _⟩
    · have i0 := at5 v
      by_cases hin : -m ≤ v 5 ∧ v 5 ≤ m
      · have HB : Hx (∀ j : Nat, (j : Int) < 6 → -m ≤ v j ∧ v j ≤ m) := ⟨fun j hj => by
          by_cases e : j = 5
          · subst e; exact hin
          · exact hB.out j (by omega)⟩
        obtain ⟨hb1, hb2⟩ := hin
        go_wp2
        go_round
        case rel => exact ⟨6, by omega, by omega, rfl, HB⟩
        case measure => simp [intOf]
      · obtain rfl : b = false := by rw [← H.out, bdB_no]; exact fun hi => hin (hi 5 (by omega))
        by_cases h1 : -m ≤ v 5
        · have h2 : m < v 5 := by omega
          clear hin
          go_wp2
          go_ret
          exact ⟨rfl, (Below.refl _ _).alloc (Nat.le_refl _) _⟩
        · clear hin
          go_wp2
          go_ret
          exact ⟨rfl, (Below.refl _ _).alloc (Nat.le_refl _) _⟩
    · obtain rfl : b = true := by rw [← H.out, bdB_yes]; exact fun i hi => hB.out i (by omega)
      go_wp2
      go_ret
      exact ⟨rfl, (Below.refl _ _).alloc (Nat.le_refl _) _⟩
end Go.Proofs.YtomgihlkbmaleaaDoor

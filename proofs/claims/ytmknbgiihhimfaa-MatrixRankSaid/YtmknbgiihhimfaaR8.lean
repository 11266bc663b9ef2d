/- the law's pivot, small, product. -/
import Derived.Test.YtmknbgiihhimfaaR7
namespace Go.Proofs.Ytmknbgiihhimfaa
open Go.RowKit D
theorem box_cell (w : World) (v : Nat → Int) (t : TypeId) : ∀ l, l < 6 → (w.alloc (.cells #[.int .i64 (v 0), .int .i64 (v 1), .int .i64 (v 2), .int .i64 (v 3), .int .i64 (v 4), .int .i64 (v 5)] t)).cell? ⟨w.heap.size, l, none⟩ = some (.int .i64 (v l)) :=
  six (by simp [go_sem]) (by simp [go_sem]) (by simp [go_sem]) (by simp [go_sem]) (by simp [go_sem]) (by simp [go_sem])
theorem small_any (v : Nat → Int) (w : World) (b : Bool) (hb : b = true ↔ ∀ j, j < 6 → -1000 ≤ v j ∧ v j ≤ 1000) : Calls Try.prog 24 #[PV v] w fun e w' => e = .returned (.bool b) ∧ Below w.heap.size w w' := by
  have HY := Bx.mk (show (∀ j, j < 6 → -1000 ≤ v j ∧ v j ≤ 1000) → b = true from hb.2)
  have HN := Bx.mk (show ∀ j, j < 6 → ¬ (-1000 ≤ v j ∧ v j ≤ 1000) → b = false from fun j hj h => by
    cases hbb : b with
    | false => rfl
    | true => exact absurd (hb.1 hbb j hj) h)
  have HC := Bx.mk (box_cell w v 37)
  clear hb
  go_enter Try.func24, Try.ntmps24
  go_wp2_with fail
  go_loopw [3] (fun i wr => ∃ k : Nat, k ≤ 6 ∧ i = .int .i64 k ∧ Bx (∀ j, j < k → -1000 ≤ v j ∧ v j ≤ 1000) ∧ wr = w.alloc (.cells #[.int .i64 (v 0), .int .i64 (v 1), .int .i64 (v 2), .int .i64 (v 3), .int .i64 (v 4), .int .i64 (v 5)] 37)) (fun i _ => 6 - (intOf i).toNat)
  case atStart => exact ⟨0, by omega, rfl, ⟨fun j hj => by omega⟩, rfl⟩
  case round =>
    obtain ⟨k, hk, rfl, HE, rfl⟩ := hrel
    by_cases hlt : k < 6
    · have hc := HC.out k hlt
      obtain ⟨x, hx⟩ : ∃ x, v k = x := ⟨_, rfl⟩
      rw [hx] at hc
      have HX := Bx.mk hx
      clear hx
      by_cases h1 : -1000 ≤ x
      · by_cases h2 : x ≤ 1000
        · have HE' := Bx.mk (show ∀ j, j < k + 1 → -1000 ≤ v j ∧ v j ≤ 1000 from fun j hj => by
            rcases Nat.lt_or_eq_of_le (Nat.le_of_lt_succ hj) with z | z
            · exact HE.out j z
            · rw [z, HX.out]; exact ⟨h1, h2⟩)
          go_wp2_with fail
          exact ⟨⟨k + 1, by omega, by go_num, HE', trivial⟩, by simp [intOf]; omega⟩
        · obtain rfl : b = false := HN.out k hlt (by rw [HX.out]; omega)
          go_wp2_with fail
          go_ret
          exact ⟨rfl, (by repeat (first | with_reducible exact Below.refl _ _ | (with_reducible refine Below.setCell ?_ ?side _; case side => (first | omega | (simp <;> omega))) | (with_reducible refine Below.alloc ?_ ?side _; case side => (first | omega | (simp <;> omega))) | with_reducible apply below_drewN | with_reducible apply below_drew))⟩
      · obtain rfl : b = false := HN.out k hlt (by rw [HX.out]; omega)
        go_wp2_with fail
        go_ret
        exact ⟨rfl, (by repeat (first | with_reducible exact Below.refl _ _ | (with_reducible refine Below.setCell ?_ ?side _; case side => (first | omega | (simp <;> omega))) | (with_reducible refine Below.alloc ?_ ?side _; case side => (first | omega | (simp <;> omega))) | with_reducible apply below_drewN | with_reducible apply below_drew))⟩
    · obtain rfl : k = 6 := by omega
      obtain rfl : b = true := HY.out HE.out
      go_wp2_with fail
      go_ret
      exact ⟨rfl, (by repeat (first | with_reducible exact Below.refl _ _ | (with_reducible refine Below.setCell ?_ ?side _; case side => (first | omega | (simp <;> omega))) | (with_reducible refine Below.alloc ?_ ?side _; case side => (first | omega | (simp <;> omega))) | with_reducible apply below_drewN | with_reducible apply below_drew))⟩
/-- The column of the first element that is not 0, or 6. -/
theorem pivot_any (v : Nat → Int) (w : World) (p : Nat) (hp : p ≤ 6) (h0 : ∀ j, j < p → v j = 0) (h1 : p < 6 → v p ≠ 0) : Calls Try.prog 29 #[PV v] w fun e w' => e = .returned (.int .i64 p) ∧ Below w.heap.size w w' := by
  have HC := Bx.mk (box_cell w v 37)
  have H0 := Bx.mk h0
  have H1 := Bx.mk h1
  clear h0 h1
  go_enter Try.func29, Try.ntmps29
  go_wp2_with fail
  go_loopw [3] (fun i wr => ∃ k : Nat, k ≤ p ∧ i = .int .i64 k ∧ wr = w.alloc (.cells #[.int .i64 (v 0), .int .i64 (v 1), .int .i64 (v 2), .int .i64 (v 3), .int .i64 (v 4), .int .i64 (v 5)] 37)) (fun i _ => 6 - (intOf i).toNat)
  case atStart => exact ⟨0, by omega, rfl, rfl⟩
  case round =>
    obtain ⟨k, hk, rfl, rfl⟩ := hrel
    by_cases hlt : k < 6
    · have hc := HC.out k hlt
      by_cases hkp : k = p
      · subst hkp
        obtain ⟨x, hx⟩ : ∃ x, v k = x := ⟨_, rfl⟩
        have hx0 : (x == 0) = false := by rw [← hx]; simpa using H1.out hlt
        rw [hx] at hc
        clear hx
        go_wp2_with fail
        go_ret
        exact ⟨rfl, (by repeat (first | with_reducible exact Below.refl _ _ | (with_reducible refine Below.setCell ?_ ?side _; case side => (first | omega | (simp <;> omega))) | (with_reducible refine Below.alloc ?_ ?side _; case side => (first | omega | (simp <;> omega))) | with_reducible apply below_drewN | with_reducible apply below_drew))⟩
      · rw [H0.out k (by omega)] at hc
        go_wp2_with fail
        exact ⟨⟨k + 1, by omega, by go_num, trivial⟩, by simp [intOf]; omega⟩
    · obtain rfl : k = 6 := by omega
      obtain rfl : p = 6 := by omega
      go_wp2_with fail
      go_ret
      exact ⟨rfl, (by repeat (first | with_reducible exact Below.refl _ _ | (with_reducible refine Below.setCell ?_ ?side _; case side => (first | omega | (simp <;> omega))) | (with_reducible refine Below.alloc ?_ ?side _; case side => (first | omega | (simp <;> omega))) | with_reducible apply below_drewN | with_reducible apply below_drew))⟩
theorem box_cell2 (w : World) (u v : Nat → Int) (t : TypeId) : (∀ l, l < 6 → ((w.alloc (.cells #[.int .i64 (u 0), .int .i64 (u 1), .int .i64 (u 2), .int .i64 (u 3), .int .i64 (u 4), .int .i64 (u 5)] t)).alloc (.cells #[.int .i64 (v 0), .int .i64 (v 1), .int .i64 (v 2), .int .i64 (v 3), .int .i64 (v 4), .int .i64 (v 5)] t)).cell? ⟨w.heap.size, l, none⟩ = some (.int .i64 (u l))) ∧
    ∀ l, l < 6 → ((w.alloc (.cells #[.int .i64 (u 0), .int .i64 (u 1), .int .i64 (u 2), .int .i64 (u 3), .int .i64 (u 4), .int .i64 (u 5)] t)).alloc (.cells #[.int .i64 (v 0), .int .i64 (v 1), .int .i64 (v 2), .int .i64 (v 3), .int .i64 (v 4), .int .i64 (v 5)] t)).cell? ⟨w.heap.size + 1, l, none⟩ = some (.int .i64 (v l)) :=
  ⟨six (by simp [go_sem]) (by simp [go_sem]) (by simp [go_sem]) (by simp [go_sem]) (by simp [go_sem]) (by simp [go_sem]), six (by simp [go_sem]) (by simp [go_sem]) (by simp [go_sem]) (by simp [go_sem]) (by simp [go_sem]) (by simp [go_sem])⟩
/-- The product of two rows, modulo 2^64. -/
theorem product_any (u v : Nat → Int) (w : World) : Calls Try.prog 28 #[PV u, PV v] w fun e w' => e = .returned (.int .i64 (wrap64 (dot 6 u v))) ∧ Below w.heap.size w w' := by
  have HC := Bx.mk (box_cell2 w u v 37)
  go_enter Try.func28, Try.ntmps28
  go_wp2_with fail
  go_loopw [5, 6] (fun s i wr => ∃ (k : Nat) (S : Int), k ≤ 6 ∧ s = .int .i64 S ∧ i = .int .i64 k ∧ Bx (S = wrap64 (sm k fun j => u j * v j)) ∧ Bx (∀ l, l < 6 → wr.cell? ⟨w.heap.size, l, none⟩ = some (.int .i64 (u l))) ∧ Bx (∀ l, l < 6 → wr.cell? ⟨w.heap.size + 1, l, none⟩ = some (.int .i64 (v l))) ∧ Below w.heap.size w wr) (fun _ i _ => 6 - (intOf i).toNat)
  case atStart => exact ⟨0, 0, by omega, rfl, rfl, ⟨by simp [sm, wrap64]⟩, ⟨HC.out.1⟩, ⟨HC.out.2⟩, (by repeat (first | with_reducible exact Below.refl _ _ | (with_reducible refine Below.setCell ?_ ?side _; case side => (first | omega | (simp <;> omega))) | (with_reducible refine Below.alloc ?_ ?side _; case side => (first | omega | (simp <;> omega))) | with_reducible apply below_drewN | with_reducible apply below_drew))⟩
  case round =>
    obtain ⟨k, S, hk, rfl, rfl, HS, HU, HV, hB⟩ := hrel
    by_cases hlt : k < 6
    · have hcu := HU.out k hlt
      have hcv := HV.out k hlt
      obtain ⟨x, hx⟩ : ∃ x, u k = x := ⟨_, rfl⟩
      obtain ⟨y, hy⟩ : ∃ y, v k = y := ⟨_, rfl⟩
      rw [hx] at hcu; rw [hy] at hcv
      have HS' := Bx.mk (show wrap64 (S + wrap64 (x * y)) = wrap64 (sm (k + 1) fun j => u j * v j) by
        obtain ⟨q, hq⟩ := wrap64_mod (sm k fun j => u j * v j)
        obtain ⟨r, hr⟩ := wrap64_mod (x * y)
        rw [HS.out, hq, hr, sm, hx, hy]
        exact wrap64_of (q := q + r) (by omega))
      clear hx hy
      go_wp2_with fail
      go_region
      all_goals go_wp2_with fail
      all_goals exact ⟨⟨k + 1, _, by omega, rfl, by go_num, HS', ⟨fun l hl => HU.out l hl⟩, ⟨fun l hl => HV.out l hl⟩, (by repeat (first | with_reducible exact Below.refl _ _ | with_reducible exact hB | (with_reducible refine Below.setCell ?_ ?side _; case side => (first | omega | (simp <;> omega))) | (with_reducible refine Below.alloc ?_ ?side _; case side => (first | omega | (simp <;> omega))) | with_reducible apply below_drewN | with_reducible apply below_drew))⟩, by simp [intOf]; omega⟩
    · obtain rfl : k = 6 := by omega
      have HR := Bx.mk (show S = wrap64 (dot 6 u v) from HS.out)
      go_wp2_with fail
      go_ret
      exact ⟨by rw [← HR.out]; rfl, hB⟩
end Go.Proofs.Ytmknbgiihhimfaa

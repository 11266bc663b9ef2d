/- remainder and lowered: a row less a multiple of another one, modulo a number. -/
import Derived.Test.YtmknbgiihhimfaaR9
namespace Go.Proofs.Ytmknbgiihhimfaa
open Go.RowKit D
set_option maxHeartbeats 1000000 in
theorem remainder_any (n d : Int) (w : World) (hd : 0 < d) (hd2 : d ≤ 1000000000) (h1 : -9223372036854775808 ≤ n) (h2 : n ≤ 9223372036854775807) : Calls Try.prog 55 #[.int .i64 n, .int .i64 d] w fun e w' => e = .returned (.int .i64 (n % d)) ∧ w' = w := by
  obtain ⟨s, hs⟩ : ∃ s, n.tmod d = s := ⟨_, rfl⟩
  have h5 : s.natAbs < d.natAbs := by rw [← hs, Int.natAbs_tmod]; exact Nat.mod_lt _ (by omega)
  have h3 : s < d := by omega
  have h4 : -d < s := by omega
  have hd0 : d ≠ 0 := by omega
  by_cases h0 : s < 0
  · have e : s + d = n % d := by
      have a := Int.tmod_add_mul_tdiv n d
      rw [hs] at a
      rw [show n = s + d + d * (n.tdiv d - 1) by rw [Int.mul_sub]; omega, Int.add_mul_emod_self_left]
      exact (Int.emod_eq_of_lt (by omega) (by omega)).symm
    have E := Bx.mk e
    clear e
    go_enter Try.func55, Try.ntmps55
    go_wp2_with fail
    go_ret
    exact ⟨by rw [← E.out]; rfl, rfl⟩
  · have e : s = n % d := by
      have a := Int.tmod_add_mul_tdiv n d
      rw [hs] at a
      rw [show n = s + d * (n.tdiv d) by omega, Int.add_mul_emod_self_left]
      exact (Int.emod_eq_of_lt (by omega) (by omega)).symm
    have E := Bx.mk e
    clear e
    go_enter Try.func55, Try.ntmps55
    go_wp2_with fail
    go_ret
    exact ⟨by rw [← E.out]; rfl, rfl⟩
theorem box_cell3 (w : World) (u v : Nat → Int) (t : TypeId) : (∀ l, l < 6 → (((w.alloc (.cells #[.int .i64 (u 0), .int .i64 (u 1), .int .i64 (u 2), .int .i64 (u 3), .int .i64 (u 4), .int .i64 (u 5)] t)).alloc (.cells #[.int .i64 (v 0), .int .i64 (v 1), .int .i64 (v 2), .int .i64 (v 3), .int .i64 (v 4), .int .i64 (v 5)] t)).alloc (.cells #[.int .i64 0, .int .i64 0, .int .i64 0, .int .i64 0, .int .i64 0, .int .i64 0] t)).cell? ⟨w.heap.size, l, none⟩ = some (.int .i64 (u l)) ∧ (((w.alloc (.cells #[.int .i64 (u 0), .int .i64 (u 1), .int .i64 (u 2), .int .i64 (u 3), .int .i64 (u 4), .int .i64 (u 5)] t)).alloc (.cells #[.int .i64 (v 0), .int .i64 (v 1), .int .i64 (v 2), .int .i64 (v 3), .int .i64 (v 4), .int .i64 (v 5)] t)).alloc (.cells #[.int .i64 0, .int .i64 0, .int .i64 0, .int .i64 0, .int .i64 0, .int .i64 0] t)).frozen? ⟨w.heap.size, l, none⟩ = false) ∧
    (∀ l, l < 6 → (((w.alloc (.cells #[.int .i64 (u 0), .int .i64 (u 1), .int .i64 (u 2), .int .i64 (u 3), .int .i64 (u 4), .int .i64 (u 5)] t)).alloc (.cells #[.int .i64 (v 0), .int .i64 (v 1), .int .i64 (v 2), .int .i64 (v 3), .int .i64 (v 4), .int .i64 (v 5)] t)).alloc (.cells #[.int .i64 0, .int .i64 0, .int .i64 0, .int .i64 0, .int .i64 0, .int .i64 0] t)).cell? ⟨w.heap.size + 1, l, none⟩ = some (.int .i64 (v l))) ∧
    ∀ l, l < 6 → (((w.alloc (.cells #[.int .i64 (u 0), .int .i64 (u 1), .int .i64 (u 2), .int .i64 (u 3), .int .i64 (u 4), .int .i64 (u 5)] t)).alloc (.cells #[.int .i64 (v 0), .int .i64 (v 1), .int .i64 (v 2), .int .i64 (v 3), .int .i64 (v 4), .int .i64 (v 5)] t)).alloc (.cells #[.int .i64 0, .int .i64 0, .int .i64 0, .int .i64 0, .int .i64 0, .int .i64 0] t)).cell? ⟨w.heap.size + 1 + 1, l, none⟩ = some (.int .i64 0) ∧ (((w.alloc (.cells #[.int .i64 (u 0), .int .i64 (u 1), .int .i64 (u 2), .int .i64 (u 3), .int .i64 (u 4), .int .i64 (u 5)] t)).alloc (.cells #[.int .i64 (v 0), .int .i64 (v 1), .int .i64 (v 2), .int .i64 (v 3), .int .i64 (v 4), .int .i64 (v 5)] t)).alloc (.cells #[.int .i64 0, .int .i64 0, .int .i64 0, .int .i64 0, .int .i64 0, .int .i64 0] t)).frozen? ⟨w.heap.size + 1 + 1, l, none⟩ = false :=
  ⟨six (by simp [go_sem]) (by simp [go_sem]) (by simp [go_sem]) (by simp [go_sem]) (by simp [go_sem]) (by simp [go_sem]), six (by simp [go_sem]) (by simp [go_sem]) (by simp [go_sem]) (by simp [go_sem]) (by simp [go_sem]) (by simp [go_sem]), six (by simp [go_sem]) (by simp [go_sem]) (by simp [go_sem]) (by simp [go_sem]) (by simp [go_sem]) (by simp [go_sem])⟩
def low (u v : Nat → Int) (c : Nat) (d : Int) : Nat → Int := fun j => if j < c then u j else (u j - u c / v c * v j) % d
end Go.Proofs.Ytmknbgiihhimfaa

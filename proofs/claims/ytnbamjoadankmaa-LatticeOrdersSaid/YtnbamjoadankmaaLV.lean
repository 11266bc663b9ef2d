/- The reference's Vector, and sums of multiples of rows (law06's plus). -/
import Derived.Test.YtnbamjoadankmaaLY
import Derived.Test.YtnbamjoadankmaaF7
namespace Go.Proofs.Ytnbamjoadankmaa
open Go.RowKit D
theorem six_all {v : Nat → Int} {b : Bool} {k : Nat} (hb : b = true ↔ Vv v) (hk : k < 6) (h : ¬ (-1000000000 ≤ v k ∧ v k ≤ 1000000000)) : b = false := by
  cases b with
  | false => rfl
  | true => exact absurd (hb.1 rfl k hk) h
set_option maxRecDepth 100000 in
set_option maxHeartbeats 8000000 in
theorem rvector_any (v : Nat → Int) (w : World) (b : Bool) (hb : b = true ↔ Vv v) : Calls Try.prog 45 #[PV v] w fun e w' => e = .returned (.bool b) ∧ Below w.heap.size w w' := by
  have HB := Bx.mk hb
  have hx := box_cell w v 36
  have HC := Bx.mk hx
  have H0 := Bx.mk (above_new w (.cells #[.int .i64 (v 0), .int .i64 (v 1), .int .i64 (v 2), .int .i64 (v 3), .int .i64 (v 4), .int .i64 (v 5)] 36))
  unfold PV
  clear hx hb
  go_enter Try.func45, Try.ntmps45
  go_wp2_with fail
  obtain ⟨w0, hw0⟩ : ∃ w0, w.alloc (.cells #[.int .i64 (v 0), .int .i64 (v 1), .int .i64 (v 2), .int .i64 (v 3), .int .i64 (v 4), .int .i64 (v 5)] 36) = w0 := ⟨_, rfl⟩
  rw [hw0] at HC H0 ⊢
  clear hw0
  go_loopw [3] (fun ix wr => ∃ k : Nat, k ≤ 6 ∧ ix = .int .i64 k ∧ Bx (∀ j, j < k → -1000000000 ≤ v j ∧ v j ≤ 1000000000) ∧ wr = w0) (fun ix _ => 6 - (intOf ix).toNat)
  case atStart => exact ⟨0, by omega, rfl, ⟨fun j hj => by omega⟩, rfl⟩
  case round =>
    obtain ⟨k, hk, rfl, HA, rfl⟩ := hrel
    by_cases hlt : k < 6
    · have c := HC.out k hlt
      have hki : (k : Int) < 6 := by omega
      obtain ⟨x, hx⟩ : ∃ x, v k = x := ⟨_, rfl⟩
      rw [hx] at c
      by_cases h1 : x < -1000000000
      · obtain rfl := six_all HB.out hlt (by rw [hx]; omega)
        clear hx
        go_wp2_with fail
        go_ret
        exact ⟨rfl, H0.out⟩
      · by_cases h2 : x > 1000000000
        · obtain rfl := six_all HB.out hlt (by rw [hx]; omega)
          clear hx
          go_wp2_with fail
          go_ret
          exact ⟨rfl, H0.out⟩
        · have HX := Bx.mk hx
          clear hx
          go_wp2_with fail
          exact ⟨⟨k + 1, by omega, by go_num, ⟨fun j hj => by
            by_cases e : j = k
            · rw [e, HX.out]; omega
            · exact HA.out j (by omega)⟩, by trivial⟩, by simp [intOf]; omega⟩
    · obtain rfl : k = 6 := by omega
      obtain rfl : b = true := HB.out.2 HA.out
      go_wp2_with fail
      go_ret
      exact ⟨rfl, H0.out⟩
end Go.Proofs.Ytnbamjoadankmaa

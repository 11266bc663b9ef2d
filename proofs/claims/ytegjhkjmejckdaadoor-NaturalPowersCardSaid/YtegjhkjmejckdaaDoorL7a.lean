/- NaturalPowers over two numbers and two exponents. -/
import Derived.Test.YtegjhkjmejckdaaDoorT12
namespace Go.Proofs.YtegjhkjmejckdaaDoor
open Go.RowKit M
theorem powsum_ok {w : World} {L : List (Value × Nat)} {va : Value} {a : Nat} (m n : Nat) (hL : Live w L) (ha : (va, a) ∈ L) (hx : m + n < 2 ^ 63) (hs : Fits (a ^ (m + n))) : Calls Tryd.prog 26 #[va, .int .i64 ((m : Int) + (n : Int))] w (Step w L (a ^ (m + n)) 0) := by
  have h := pow_ok (m + n) hL ha hx hs
  have e : ((m + n : Nat) : Int) = (m : Int) + (n : Int) := by omega
  rw [e] at h
  exact h
theorem powsum_over {w : World} {L : List (Value × Nat)} {va : Value} {a : Nat} (m n : Nat) (hL : Live w L) (ha : (va, a) ∈ L) (hx : m + n < 2 ^ 63) (hs : Over (a ^ (m + n))) : Calls Tryd.prog 26 #[va, .int .i64 ((m : Int) + (n : Int))] w (Step w L 0 2) := by
  have h := pow_over (m + n) hL ha hx hs
  have e : ((m + n : Nat) : Int) = (m : Int) + (n : Int) := by omega
  rw [e] at h
  exact h
theorem powsum_var {w : World} {L : List (Value × Nat)} {va : Value} {a : Nat} (m n : Nat) (hL : Live w L) (ha : (va, a) ∈ L) (hx : m + n < 2 ^ 63) : Calls Tryd.prog 26 #[va, .int .i64 ((m : Int) + (n : Int))] w (StepV w L) := by
  have h := pow_var (m + n) hL ha hx
  have e : ((m + n : Nat) : Int) = (m : Int) + (n : Int) := by omega
  rw [e] at h
  exact h
theorem pow0_ok {w : World} {L : List (Value × Nat)} {va : Value} {a : Nat} (hL : Live w L) (ha : (va, a) ∈ L) : Calls Tryd.prog 26 #[va, .int .i64 0] w (Step w L 1 0) := by
  have h := pow_ok (a := a) 0 hL ha (by decide) (by rw [Nat.pow_zero]; exact fits_small (by decide))
  rw [Nat.pow_zero] at h
  exact h
set_option maxHeartbeats 4000000 in
set_option maxRecDepth 20000 in
theorem powers_m0 {va vb : Value} {a b : Nat} {m n : Int} (w0 : World) (hL : Live w0 [(va, a), (vb, b)]) (k : m < 0) :
    Calls Tryd.prog 7 #[va, vb, .int .i64 m, .int .i64 n] w0 fun e w' => e = .returned (.bool true) ∧ Below w0.heap.size w0 w' := by
  have S : St w0 w0 [(va, a), (vb, b)] := ⟨Below.refl _ _, hL⟩
  clear hL 
  go_enter Tryd.func7, Tryd.ntmps7
  go_wp2_with fail
  refine Calls.mono (head_any _) ?_
  rintro e w1 ⟨rfl, hb⟩
  replace S := S.on hb
  clear hb
  go_wp2_with fail
  refine Calls.mono (valid_ok (a := a) S.live (by simp)) ?_
  rintro e w1 ⟨rfl, rfl⟩
  go_wp2_with fail
  refine Calls.mono (valid_ok (a := b) S.live (by simp)) ?_
  rintro e w1 ⟨rfl, rfl⟩
  go_wp2
  go_ret
  exact ⟨rfl, S.below⟩
set_option maxHeartbeats 4000000 in
set_option maxRecDepth 20000 in
theorem powers_m1 {va vb : Value} {a b : Nat} {m n : Int} (w0 : World) (hL : Live w0 [(va, a), (vb, b)]) (k1 : (0 : Int) ≤ m) (k : 1000 < m) :
    Calls Tryd.prog 7 #[va, vb, .int .i64 m, .int .i64 n] w0 fun e w' => e = .returned (.bool true) ∧ Below w0.heap.size w0 w' := by
  have S : St w0 w0 [(va, a), (vb, b)] := ⟨Below.refl _ _, hL⟩
  clear hL 
  go_enter Tryd.func7, Tryd.ntmps7
  go_wp2_with fail
  refine Calls.mono (head_any _) ?_
  rintro e w1 ⟨rfl, hb⟩
  replace S := S.on hb
  clear hb
  go_wp2_with fail
  refine Calls.mono (valid_ok (a := a) S.live (by simp)) ?_
  rintro e w1 ⟨rfl, rfl⟩
  go_wp2_with fail
  refine Calls.mono (valid_ok (a := b) S.live (by simp)) ?_
  rintro e w1 ⟨rfl, rfl⟩
  go_wp2
  go_ret
  exact ⟨rfl, S.below⟩
set_option maxHeartbeats 4000000 in
set_option maxRecDepth 20000 in
theorem powers_n0 {va vb : Value} {a b : Nat} {m n : Int} (w0 : World) (hL : Live w0 [(va, a), (vb, b)]) (k1 : (0 : Int) ≤ m) (k2 : m ≤ 1000) (k : n < 0) :
    Calls Tryd.prog 7 #[va, vb, .int .i64 m, .int .i64 n] w0 fun e w' => e = .returned (.bool true) ∧ Below w0.heap.size w0 w' := by
  have S : St w0 w0 [(va, a), (vb, b)] := ⟨Below.refl _ _, hL⟩
  clear hL 
  go_enter Tryd.func7, Tryd.ntmps7
  go_wp2_with fail
  refine Calls.mono (head_any _) ?_
  rintro e w1 ⟨rfl, hb⟩
  replace S := S.on hb
  clear hb
  go_wp2_with fail
  refine Calls.mono (valid_ok (a := a) S.live (by simp)) ?_
  rintro e w1 ⟨rfl, rfl⟩
  go_wp2_with fail
  refine Calls.mono (valid_ok (a := b) S.live (by simp)) ?_
  rintro e w1 ⟨rfl, rfl⟩
  go_wp2
  go_ret
  exact ⟨rfl, S.below⟩
set_option maxHeartbeats 4000000 in
set_option maxRecDepth 20000 in
theorem powers_n1 {va vb : Value} {a b : Nat} {m n : Int} (w0 : World) (hL : Live w0 [(va, a), (vb, b)]) (k1 : (0 : Int) ≤ m) (k2 : m ≤ 1000) (k3 : (0 : Int) ≤ n) (k : 1000 < n) :
    Calls Tryd.prog 7 #[va, vb, .int .i64 m, .int .i64 n] w0 fun e w' => e = .returned (.bool true) ∧ Below w0.heap.size w0 w' := by
  have S : St w0 w0 [(va, a), (vb, b)] := ⟨Below.refl _ _, hL⟩
  clear hL 
  go_enter Tryd.func7, Tryd.ntmps7
  go_wp2_with fail
  refine Calls.mono (head_any _) ?_
  rintro e w1 ⟨rfl, hb⟩
  replace S := S.on hb
  clear hb
  go_wp2_with fail
  refine Calls.mono (valid_ok (a := a) S.live (by simp)) ?_
  rintro e w1 ⟨rfl, rfl⟩
  go_wp2_with fail
  refine Calls.mono (valid_ok (a := b) S.live (by simp)) ?_
  rintro e w1 ⟨rfl, rfl⟩
  go_wp2
  go_ret
  exact ⟨rfl, S.below⟩
set_option maxRecDepth 20000 in
theorem powers_bad1 {va vb : Value} {m n : Int} (w0 : World) (h : ∀ w', Below w0.heap.size w0 w' → Calls Tryd.prog 13 #[va] w' fun e w2 => e = .returned (.bool false) ∧ w' = w2) :
    Calls Tryd.prog 7 #[va, vb, .int .i64 m, .int .i64 n] w0 fun e w' => e = .returned (.bool true) ∧ Below w0.heap.size w0 w' := by
  have H := Bx.mk h
  clear h
  go_enter Tryd.func7, Tryd.ntmps7
  go_wp2_with fail
  refine Calls.mono (head_any _) ?_
  rintro e w1 ⟨rfl, hb⟩
  go_wp2_with fail
  refine Calls.mono (H.out _ hb) ?_
  rintro e w2 ⟨rfl, rfl⟩
  go_wp2
  go_ret
  exact ⟨rfl, hb⟩
set_option maxRecDepth 20000 in
theorem powers_bad2 {va vb : Value} {a : Nat} {m n : Int} (w0 : World) (hL : Live w0 [(va, a)]) (h : ∀ w', Below w0.heap.size w0 w' → Calls Tryd.prog 13 #[vb] w' fun e w2 => e = .returned (.bool false) ∧ w' = w2) :
    Calls Tryd.prog 7 #[va, vb, .int .i64 m, .int .i64 n] w0 fun e w' => e = .returned (.bool true) ∧ Below w0.heap.size w0 w' := by
  have H := Bx.mk h
  clear h
  go_enter Tryd.func7, Tryd.ntmps7
  go_wp2_with fail
  refine Calls.mono (head_any _) ?_
  rintro e w1 ⟨rfl, hb⟩
  go_wp2_with fail
  refine Calls.mono (valid_ok (a := a) (hL.keep hb) (by simp)) ?_
  rintro e w2 ⟨rfl, rfl⟩
  go_wp2_with fail
  refine Calls.mono (H.out _ hb) ?_
  rintro e w2 ⟨rfl, rfl⟩
  go_wp2
  go_ret
  exact ⟨rfl, hb⟩
end Go.Proofs.YtegjhkjmejckdaaDoor

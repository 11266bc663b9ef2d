/- x -/
import Derived.Test.YtegjhkjmejckdaaDoorL7a
namespace Go.Proofs.YtegjhkjmejckdaaDoor
open Go.RowKit M
set_option maxHeartbeats 4000000 in
set_option maxRecDepth 20000 in
theorem powers_mok_nok_s_o {va vb : Value} {a b : Nat} {m n : Nat} (w0 : World) (hL : Live w0 [(va, a), (vb, b)]) (hm : m ≤ 1000) (hn : n ≤ 1000) (k1 : (0 : Int) ≤ (m : Int)) (k2 : (m : Int) ≤ 1000) (k3 : (0 : Int) ≤ (n : Int)) (k4 : (n : Int) ≤ 1000) (h1 : Fits (a ^ m)) (h2 : Fits (a ^ n)) (h3 : Fits (a ^ (m + n))) (h4 : Fits (a ^ m * a ^ n)) (h5 : Over (a * b)) :
    Calls Tryd.prog 7 #[va, vb, .int .i64 (m : Int), .int .i64 (n : Int)] w0 fun e w' => e = .returned (.bool true) ∧ Below w0.heap.size w0 w' := by
  have S : St w0 w0 [(va, a), (vb, b)] := ⟨Below.refl _ _, hL⟩
  have Bhm := Bx.mk hm
  have Bhn := Bx.mk hn
  have Bh1 := Bx.mk h1
  have Bh2 := Bx.mk h2
  have Bh3 := Bx.mk h3
  have Bh4 := Bx.mk h4
  have Bh5 := Bx.mk h5
  clear hL hm hn h1 h2 h3 h4 h5
  go_enter Tryd.func7, Tryd.ntmps7
  go_wp2_with fail
  refine Calls.mono (head_any _) ?_
  rintro e w1 ⟨rfl, hb⟩
  replace S := S.on hb
  clear hb
  go_wp2_with fail
  refine Calls.mono (valid_ok (a := a) S.live (by simp)) ?_
  rintro e w1 ⟨rfl, rfl⟩
  go_wp2_with fail
  refine Calls.mono (valid_ok (a := b) S.live (by simp)) ?_
  rintro e w1 ⟨rfl, rfl⟩
  go_wp2_with fail
  refine Calls.mono (pow0_ok (a := a) S.live (by simp)) ?_
  rintro e w1 ⟨v1, rfl, hl, hb⟩
  replace S := S.next hl hb
  clear hl hb
  go_wp2_with fail
  replace S := S.lit [1] 1 (by intro x hx; simp at hx; omega) (by simp) (by simp [val]) (by simp)
  refine Calls.mono (same_yes (a := 1) (b := 1) S.live (by simp) (by simp) rfl) ?_
  rintro e w1 ⟨rfl, hl, hb⟩
  replace S := S.next hl hb
  clear hl hb
  go_wp2_with fail
  refine Calls.mono (pow_ok (a := a) m S.live (by simp) (by have := Bhm.out; have := Bhn.out; omega) Bh1.out) ?_
  rintro e w1 ⟨vp, rfl, hl, hb⟩
  replace S := S.next hl hb
  clear hl hb
  go_wp2_with fail
  refine Calls.mono (pow_ok (a := a) n S.live (by simp) (by have := Bhm.out; have := Bhn.out; omega) Bh2.out) ?_
  rintro e w1 ⟨vq, rfl, hl, hb⟩
  replace S := S.next hl hb
  clear hl hb
  go_wp2_with fail
  refine Calls.mono (powsum_ok (a := a) m n S.live (by simp) (by have := Bhm.out; have := Bhn.out; omega) Bh3.out) ?_
  rintro e w1 ⟨vr, rfl, hl, hb⟩
  replace S := S.next hl hb
  clear hl hb
  go_wp2_with fail
  refine Calls.mono (mul_ok (a := (a ^ m)) (b := (a ^ n)) S.live (by simp) (by simp) Bh4.out) ?_
  rintro e w1 ⟨vs, rfl, hl, hb⟩
  replace S := S.next hl hb
  clear hl hb
  go_wp2_with fail
  refine Calls.mono (same_yes (a := (a ^ (m + n))) (b := (a ^ m * a ^ n)) S.live (by simp) (by simp) (Nat.pow_add a m n)) ?_
  rintro e w1 ⟨rfl, hl, hb⟩
  replace S := S.next hl hb
  clear hl hb
  go_wp2_with fail
  refine Calls.mono (mul_big (a := a) (b := b) S.live (by simp) (by simp) Bh5.out) ?_
  rintro e w1 ⟨vx, rfl, hl, hb⟩
  replace S := S.next hl hb
  clear hl hb
  go_wp2_with fail
  refine Calls.mono (pow_var (a := b) n S.live (by simp) (by have := Bhm.out; have := Bhn.out; omega)) ?_
  rintro e w1 ⟨vt, vts, vtx, rfl, hl, hb⟩
  replace S := S.next hl hb
  clear hl hb
  go_wp2_with fail
  refine Calls.mono (pow_var (a := 0) n S.live (by simp) (by have := Bhm.out; have := Bhn.out; omega)) ?_
  rintro e w1 ⟨vu, vus, vux, rfl, hl, hb⟩
  replace S := S.next hl hb
  clear hl hb
  go_wp2_with fail
  refine Calls.mono (mul_var (a := (a ^ n)) (b := vts) S.live (by simp) (by simp)) ?_
  rintro e w1 ⟨vz, vzs, vzx, rfl, hl, hb⟩
  replace S := S.next hl hb
  clear hl hb
  go_wp2
  go_ret
  exact ⟨rfl, S.below⟩
set_option maxHeartbeats 4000000 in
set_option maxRecDepth 20000 in
theorem powers_mok_nok_s_ko {va vb : Value} {a b : Nat} {m n : Nat} (w0 : World) (hL : Live w0 [(va, a), (vb, b)]) (hm : m ≤ 1000) (hn : n ≤ 1000) (k1 : (0 : Int) ≤ (m : Int)) (k2 : (m : Int) ≤ 1000) (k3 : (0 : Int) ≤ (n : Int)) (k4 : (n : Int) ≤ 1000) (h1 : Fits (a ^ m)) (h2 : Fits (a ^ n)) (h3 : Fits (a ^ (m + n))) (h4 : Fits (a ^ m * a ^ n)) (h5 : Fits (a * b)) (h6 : Over (b ^ n)) :
    Calls Tryd.prog 7 #[va, vb, .int .i64 (m : Int), .int .i64 (n : Int)] w0 fun e w' => e = .returned (.bool true) ∧ Below w0.heap.size w0 w' := by
  have S : St w0 w0 [(va, a), (vb, b)] := ⟨Below.refl _ _, hL⟩
  have Bhm := Bx.mk hm
  have Bhn := Bx.mk hn
  have Bh1 := Bx.mk h1
  have Bh2 := Bx.mk h2
  have Bh3 := Bx.mk h3
  have Bh4 := Bx.mk h4
  have Bh5 := Bx.mk h5
  have Bh6 := Bx.mk h6
  clear hL hm hn h1 h2 h3 h4 h5 h6
  go_enter Tryd.func7, Tryd.ntmps7
  go_wp2_with fail
  refine Calls.mono (head_any _) ?_
  rintro e w1 ⟨rfl, hb⟩
  replace S := S.on hb
  clear hb
  go_wp2_with fail
  refine Calls.mono (valid_ok (a := a) S.live (by simp)) ?_
  rintro e w1 ⟨rfl, rfl⟩
  go_wp2_with fail
  refine Calls.mono (valid_ok (a := b) S.live (by simp)) ?_
  rintro e w1 ⟨rfl, rfl⟩
  go_wp2_with fail
  refine Calls.mono (pow0_ok (a := a) S.live (by simp)) ?_
  rintro e w1 ⟨v1, rfl, hl, hb⟩
  replace S := S.next hl hb
  clear hl hb
  go_wp2_with fail
  replace S := S.lit [1] 1 (by intro x hx; simp at hx; omega) (by simp) (by simp [val]) (by simp)
  refine Calls.mono (same_yes (a := 1) (b := 1) S.live (by simp) (by simp) rfl) ?_
  rintro e w1 ⟨rfl, hl, hb⟩
  replace S := S.next hl hb
  clear hl hb
  go_wp2_with fail
  refine Calls.mono (pow_ok (a := a) m S.live (by simp) (by have := Bhm.out; have := Bhn.out; omega) Bh1.out) ?_
  rintro e w1 ⟨vp, rfl, hl, hb⟩
  replace S := S.next hl hb
  clear hl hb
  go_wp2_with fail
  refine Calls.mono (pow_ok (a := a) n S.live (by simp) (by have := Bhm.out; have := Bhn.out; omega) Bh2.out) ?_
  rintro e w1 ⟨vq, rfl, hl, hb⟩
  replace S := S.next hl hb
  clear hl hb
  go_wp2_with fail
  refine Calls.mono (powsum_ok (a := a) m n S.live (by simp) (by have := Bhm.out; have := Bhn.out; omega) Bh3.out) ?_
  rintro e w1 ⟨vr, rfl, hl, hb⟩
  replace S := S.next hl hb
  clear hl hb
  go_wp2_with fail
  refine Calls.mono (mul_ok (a := (a ^ m)) (b := (a ^ n)) S.live (by simp) (by simp) Bh4.out) ?_
  rintro e w1 ⟨vs, rfl, hl, hb⟩
  replace S := S.next hl hb
  clear hl hb
  go_wp2_with fail
  refine Calls.mono (same_yes (a := (a ^ (m + n))) (b := (a ^ m * a ^ n)) S.live (by simp) (by simp) (Nat.pow_add a m n)) ?_
  rintro e w1 ⟨rfl, hl, hb⟩
  replace S := S.next hl hb
  clear hl hb
  go_wp2_with fail
  refine Calls.mono (mul_ok (a := a) (b := b) S.live (by simp) (by simp) Bh5.out) ?_
  rintro e w1 ⟨vx, rfl, hl, hb⟩
  replace S := S.next hl hb
  clear hl hb
  go_wp2_with fail
  refine Calls.mono (pow_over (a := b) n S.live (by simp) (by have := Bhm.out; have := Bhn.out; omega) Bh6.out) ?_
  rintro e w1 ⟨vt, rfl, hl, hb⟩
  replace S := S.next hl hb
  clear hl hb
  go_wp2_with fail
  refine Calls.mono (pow_var (a := (a * b)) n S.live (by simp) (by have := Bhm.out; have := Bhn.out; omega)) ?_
  rintro e w1 ⟨vu, vus, vux, rfl, hl, hb⟩
  replace S := S.next hl hb
  clear hl hb
  go_wp2_with fail
  refine Calls.mono (mul_var (a := (a ^ n)) (b := 0) S.live (by simp) (by simp)) ?_
  rintro e w1 ⟨vz, vzs, vzx, rfl, hl, hb⟩
  replace S := S.next hl hb
  clear hl hb
  go_wp2
  go_ret
  exact ⟨rfl, S.below⟩
set_option maxHeartbeats 4000000 in
set_option maxRecDepth 20000 in
theorem powers_mok_nok_s_kko {va vb : Value} {a b : Nat} {m n : Nat} (w0 : World) (hL : Live w0 [(va, a), (vb, b)]) (hm : m ≤ 1000) (hn : n ≤ 1000) (k1 : (0 : Int) ≤ (m : Int)) (k2 : (m : Int) ≤ 1000) (k3 : (0 : Int) ≤ (n : Int)) (k4 : (n : Int) ≤ 1000) (h1 : Fits (a ^ m)) (h2 : Fits (a ^ n)) (h3 : Fits (a ^ (m + n))) (h4 : Fits (a ^ m * a ^ n)) (h5 : Fits (a * b)) (h6 : Fits (b ^ n)) (h7 : Over ((a * b) ^ n)) :
    Calls Tryd.prog 7 #[va, vb, .int .i64 (m : Int), .int .i64 (n : Int)] w0 fun e w' => e = .returned (.bool true) ∧ Below w0.heap.size w0 w' := by
  have S : St w0 w0 [(va, a), (vb, b)] := ⟨Below.refl _ _, hL⟩
  have Bhm := Bx.mk hm
  have Bhn := Bx.mk hn
  have Bh1 := Bx.mk h1
  have Bh2 := Bx.mk h2
  have Bh3 := Bx.mk h3
  have Bh4 := Bx.mk h4
  have Bh5 := Bx.mk h5
  have Bh6 := Bx.mk h6
  have Bh7 := Bx.mk h7
  clear hL hm hn h1 h2 h3 h4 h5 h6 h7
  go_enter Tryd.func7, Tryd.ntmps7
  go_wp2_with fail
  refine Calls.mono (head_any _) ?_
  rintro e w1 ⟨rfl, hb⟩
  replace S := S.on hb
  clear hb
  go_wp2_with fail
  refine Calls.mono (valid_ok (a := a) S.live (by simp)) ?_
  rintro e w1 ⟨rfl, rfl⟩
  go_wp2_with fail
  refine Calls.mono (valid_ok (a := b) S.live (by simp)) ?_
  rintro e w1 ⟨rfl, rfl⟩
  go_wp2_with fail
  refine Calls.mono (pow0_ok (a := a) S.live (by simp)) ?_
  rintro e w1 ⟨v1, rfl, hl, hb⟩
  replace S := S.next hl hb
  clear hl hb
  go_wp2_with fail
  replace S := S.lit [1] 1 (by intro x hx; simp at hx; omega) (by simp) (by simp [val]) (by simp)
  refine Calls.mono (same_yes (a := 1) (b := 1) S.live (by simp) (by simp) rfl) ?_
  rintro e w1 ⟨rfl, hl, hb⟩
  replace S := S.next hl hb
  clear hl hb
  go_wp2_with fail
  refine Calls.mono (pow_ok (a := a) m S.live (by simp) (by have := Bhm.out; have := Bhn.out; omega) Bh1.out) ?_
  rintro e w1 ⟨vp, rfl, hl, hb⟩
  replace S := S.next hl hb
  clear hl hb
  go_wp2_with fail
  refine Calls.mono (pow_ok (a := a) n S.live (by simp) (by have := Bhm.out; have := Bhn.out; omega) Bh2.out) ?_
  rintro e w1 ⟨vq, rfl, hl, hb⟩
  replace S := S.next hl hb
  clear hl hb
  go_wp2_with fail
  refine Calls.mono (powsum_ok (a := a) m n S.live (by simp) (by have := Bhm.out; have := Bhn.out; omega) Bh3.out) ?_
  rintro e w1 ⟨vr, rfl, hl, hb⟩
  replace S := S.next hl hb
  clear hl hb
  go_wp2_with fail
  refine Calls.mono (mul_ok (a := (a ^ m)) (b := (a ^ n)) S.live (by simp) (by simp) Bh4.out) ?_
  rintro e w1 ⟨vs, rfl, hl, hb⟩
  replace S := S.next hl hb
  clear hl hb
  go_wp2_with fail
  refine Calls.mono (same_yes (a := (a ^ (m + n))) (b := (a ^ m * a ^ n)) S.live (by simp) (by simp) (Nat.pow_add a m n)) ?_
  rintro e w1 ⟨rfl, hl, hb⟩
  replace S := S.next hl hb
  clear hl hb
  go_wp2_with fail
  refine Calls.mono (mul_ok (a := a) (b := b) S.live (by simp) (by simp) Bh5.out) ?_
  rintro e w1 ⟨vx, rfl, hl, hb⟩
  replace S := S.next hl hb
  clear hl hb
  go_wp2_with fail
  refine Calls.mono (pow_ok (a := b) n S.live (by simp) (by have := Bhm.out; have := Bhn.out; omega) Bh6.out) ?_
  rintro e w1 ⟨vt, rfl, hl, hb⟩
  replace S := S.next hl hb
  clear hl hb
  go_wp2_with fail
  refine Calls.mono (pow_over (a := (a * b)) n S.live (by simp) (by have := Bhm.out; have := Bhn.out; omega) Bh7.out) ?_
  rintro e w1 ⟨vu, rfl, hl, hb⟩
  replace S := S.next hl hb
  clear hl hb
  go_wp2_with fail
  refine Calls.mono (mul_var (a := (a ^ n)) (b := (b ^ n)) S.live (by simp) (by simp)) ?_
  rintro e w1 ⟨vz, vzs, vzx, rfl, hl, hb⟩
  replace S := S.next hl hb
  clear hl hb
  go_wp2
  go_ret
  exact ⟨rfl, S.below⟩
set_option maxHeartbeats 4000000 in
set_option maxRecDepth 20000 in
theorem powers_mok_nok_s_kkk {va vb : Value} {a b : Nat} {m n : Nat} (w0 : World) (hL : Live w0 [(va, a), (vb, b)]) (hm : m ≤ 1000) (hn : n ≤ 1000) (k1 : (0 : Int) ≤ (m : Int)) (k2 : (m : Int) ≤ 1000) (k3 : (0 : Int) ≤ (n : Int)) (k4 : (n : Int) ≤ 1000) (h1 : Fits (a ^ m)) (h2 : Fits (a ^ n)) (h3 : Fits (a ^ (m + n))) (h4 : Fits (a ^ m * a ^ n)) (h5 : Fits (a * b)) (h6 : Fits (b ^ n)) (h7 : Fits ((a * b) ^ n)) (h8 : Fits (a ^ n * b ^ n)) :
    Calls Tryd.prog 7 #[va, vb, .int .i64 (m : Int), .int .i64 (n : Int)] w0 fun e w' => e = .returned (.bool true) ∧ Below w0.heap.size w0 w' := by
  have S : St w0 w0 [(va, a), (vb, b)] := ⟨Below.refl _ _, hL⟩
  have Bhm := Bx.mk hm
  have Bhn := Bx.mk hn
  have Bh1 := Bx.mk h1
  have Bh2 := Bx.mk h2
  have Bh3 := Bx.mk h3
  have Bh4 := Bx.mk h4
  have Bh5 := Bx.mk h5
  have Bh6 := Bx.mk h6
  have Bh7 := Bx.mk h7
  have Bh8 := Bx.mk h8
  clear hL hm hn h1 h2 h3 h4 h5 h6 h7 h8
  go_enter Tryd.func7, Tryd.ntmps7
  go_wp2_with fail
  refine Calls.mono (head_any _) ?_
  rintro e w1 ⟨rfl, hb⟩
  replace S := S.on hb
  clear hb
  go_wp2_with fail
  refine Calls.mono (valid_ok (a := a) S.live (by simp)) ?_
  rintro e w1 ⟨rfl, rfl⟩
  go_wp2_with fail
  refine Calls.mono (valid_ok (a := b) S.live (by simp)) ?_
  rintro e w1 ⟨rfl, rfl⟩
  go_wp2_with fail
  refine Calls.mono (pow0_ok (a := a) S.live (by simp)) ?_
  rintro e w1 ⟨v1, rfl, hl, hb⟩
  replace S := S.next hl hb
  clear hl hb
  go_wp2_with fail
  replace S := S.lit [1] 1 (by intro x hx; simp at hx; omega) (by simp) (by simp [val]) (by simp)
  refine Calls.mono (same_yes (a := 1) (b := 1) S.live (by simp) (by simp) rfl) ?_
  rintro e w1 ⟨rfl, hl, hb⟩
  replace S := S.next hl hb
  clear hl hb
  go_wp2_with fail
  refine Calls.mono (pow_ok (a := a) m S.live (by simp) (by have := Bhm.out; have := Bhn.out; omega) Bh1.out) ?_
  rintro e w1 ⟨vp, rfl, hl, hb⟩
  replace S := S.next hl hb
  clear hl hb
  go_wp2_with fail
  refine Calls.mono (pow_ok (a := a) n S.live (by simp) (by have := Bhm.out; have := Bhn.out; omega) Bh2.out) ?_
  rintro e w1 ⟨vq, rfl, hl, hb⟩
  replace S := S.next hl hb
  clear hl hb
  go_wp2_with fail
  refine Calls.mono (powsum_ok (a := a) m n S.live (by simp) (by have := Bhm.out; have := Bhn.out; omega) Bh3.out) ?_
  rintro e w1 ⟨vr, rfl, hl, hb⟩
  replace S := S.next hl hb
  clear hl hb
  go_wp2_with fail
  refine Calls.mono (mul_ok (a := (a ^ m)) (b := (a ^ n)) S.live (by simp) (by simp) Bh4.out) ?_
  rintro e w1 ⟨vs, rfl, hl, hb⟩
  replace S := S.next hl hb
  clear hl hb
  go_wp2_with fail
  refine Calls.mono (same_yes (a := (a ^ (m + n))) (b := (a ^ m * a ^ n)) S.live (by simp) (by simp) (Nat.pow_add a m n)) ?_
  rintro e w1 ⟨rfl, hl, hb⟩
  replace S := S.next hl hb
  clear hl hb
  go_wp2_with fail
  refine Calls.mono (mul_ok (a := a) (b := b) S.live (by simp) (by simp) Bh5.out) ?_
  rintro e w1 ⟨vx, rfl, hl, hb⟩
  replace S := S.next hl hb
  clear hl hb
  go_wp2_with fail
  refine Calls.mono (pow_ok (a := b) n S.live (by simp) (by have := Bhm.out; have := Bhn.out; omega) Bh6.out) ?_
  rintro e w1 ⟨vt, rfl, hl, hb⟩
  replace S := S.next hl hb
  clear hl hb
  go_wp2_with fail
  refine Calls.mono (pow_ok (a := (a * b)) n S.live (by simp) (by have := Bhm.out; have := Bhn.out; omega) Bh7.out) ?_
  rintro e w1 ⟨vu, rfl, hl, hb⟩
  replace S := S.next hl hb
  clear hl hb
  go_wp2_with fail
  refine Calls.mono (mul_ok (a := (a ^ n)) (b := (b ^ n)) S.live (by simp) (by simp) Bh8.out) ?_
  rintro e w1 ⟨vz, rfl, hl, hb⟩
  replace S := S.next hl hb
  clear hl hb
  go_wp2_with fail
  refine Calls.mono (same_yes (a := ((a * b) ^ n)) (b := (a ^ n * b ^ n)) S.live (by simp) (by simp) (Nat.mul_pow a b n)) ?_
  rintro e w1 ⟨rfl, hl, hb⟩
  replace S := S.next hl hb
  clear hl hb
  go_wp2
  go_ret
  exact ⟨rfl, S.below⟩
set_option maxHeartbeats 4000000 in
set_option maxRecDepth 20000 in
theorem powers_mok_no_o {va vb : Value} {a b : Nat} {m n : Nat} (w0 : World) (hL : Live w0 [(va, a), (vb, b)]) (hm : m ≤ 1000) (hn : n ≤ 1000) (k1 : (0 : Int) ≤ (m : Int)) (k2 : (m : Int) ≤ 1000) (k3 : (0 : Int) ≤ (n : Int)) (k4 : (n : Int) ≤ 1000) (h1 : Fits (a ^ m)) (h2 : Over (a ^ n)) (h5 : Over (a * b)) :
    Calls Tryd.prog 7 #[va, vb, .int .i64 (m : Int), .int .i64 (n : Int)] w0 fun e w' => e = .returned (.bool true) ∧ Below w0.heap.size w0 w' := by
  have S : St w0 w0 [(va, a), (vb, b)] := ⟨Below.refl _ _, hL⟩
  have Bhm := Bx.mk hm
  have Bhn := Bx.mk hn
  have Bh1 := Bx.mk h1
  have Bh2 := Bx.mk h2
  have Bh5 := Bx.mk h5
  clear hL hm hn h1 h2 h5
  go_enter Tryd.func7, Tryd.ntmps7
  go_wp2_with fail
  refine Calls.mono (head_any _) ?_
  rintro e w1 ⟨rfl, hb⟩
  replace S := S.on hb
  clear hb
  go_wp2_with fail
  refine Calls.mono (valid_ok (a := a) S.live (by simp)) ?_
  rintro e w1 ⟨rfl, rfl⟩
  go_wp2_with fail
  refine Calls.mono (valid_ok (a := b) S.live (by simp)) ?_
  rintro e w1 ⟨rfl, rfl⟩
  go_wp2_with fail
  refine Calls.mono (pow0_ok (a := a) S.live (by simp)) ?_
  rintro e w1 ⟨v1, rfl, hl, hb⟩
  replace S := S.next hl hb
  clear hl hb
  go_wp2_with fail
  replace S := S.lit [1] 1 (by intro x hx; simp at hx; omega) (by simp) (by simp [val]) (by simp)
  refine Calls.mono (same_yes (a := 1) (b := 1) S.live (by simp) (by simp) rfl) ?_
  rintro e w1 ⟨rfl, hl, hb⟩
  replace S := S.next hl hb
  clear hl hb
  go_wp2_with fail
  refine Calls.mono (pow_ok (a := a) m S.live (by simp) (by have := Bhm.out; have := Bhn.out; omega) Bh1.out) ?_
  rintro e w1 ⟨vp, rfl, hl, hb⟩
  replace S := S.next hl hb
  clear hl hb
  go_wp2_with fail
  refine Calls.mono (pow_over (a := a) n S.live (by simp) (by have := Bhm.out; have := Bhn.out; omega) Bh2.out) ?_
  rintro e w1 ⟨vq, rfl, hl, hb⟩
  replace S := S.next hl hb
  clear hl hb
  go_wp2_with fail
  refine Calls.mono (powsum_var (a := a) m n S.live (by simp) (by have := Bhm.out; have := Bhn.out; omega)) ?_
  rintro e w1 ⟨vr, vrs, vrx, rfl, hl, hb⟩
  replace S := S.next hl hb
  clear hl hb
  go_wp2_with fail
  refine Calls.mono (mul_var (a := (a ^ m)) (b := 0) S.live (by simp) (by simp)) ?_
  rintro e w1 ⟨vs, vss, vsx, rfl, hl, hb⟩
  replace S := S.next hl hb
  clear hl hb
  go_wp2_with fail
  refine Calls.mono (mul_big (a := a) (b := b) S.live (by simp) (by simp) Bh5.out) ?_
  rintro e w1 ⟨vx, rfl, hl, hb⟩
  replace S := S.next hl hb
  clear hl hb
  go_wp2_with fail
  refine Calls.mono (pow_var (a := b) n S.live (by simp) (by have := Bhm.out; have := Bhn.out; omega)) ?_
  rintro e w1 ⟨vt, vts, vtx, rfl, hl, hb⟩
  replace S := S.next hl hb
  clear hl hb
  go_wp2_with fail
  refine Calls.mono (pow_var (a := 0) n S.live (by simp) (by have := Bhm.out; have := Bhn.out; omega)) ?_
  rintro e w1 ⟨vu, vus, vux, rfl, hl, hb⟩
  replace S := S.next hl hb
  clear hl hb
  go_wp2_with fail
  refine Calls.mono (mul_var (a := 0) (b := vts) S.live (by simp) (by simp)) ?_
  rintro e w1 ⟨vz, vzs, vzx, rfl, hl, hb⟩
  replace S := S.next hl hb
  clear hl hb
  go_wp2
  go_ret
  exact ⟨rfl, S.below⟩
set_option maxHeartbeats 4000000 in
set_option maxRecDepth 20000 in
theorem powers_mok_no_v {va vb : Value} {a b : Nat} {m n : Nat} (w0 : World) (hL : Live w0 [(va, a), (vb, b)]) (hm : m ≤ 1000) (hn : n ≤ 1000) (k1 : (0 : Int) ≤ (m : Int)) (k2 : (m : Int) ≤ 1000) (k3 : (0 : Int) ≤ (n : Int)) (k4 : (n : Int) ≤ 1000) (h1 : Fits (a ^ m)) (h2 : Over (a ^ n)) (h5 : Fits (a * b)) :
    Calls Tryd.prog 7 #[va, vb, .int .i64 (m : Int), .int .i64 (n : Int)] w0 fun e w' => e = .returned (.bool true) ∧ Below w0.heap.size w0 w' := by
  have S : St w0 w0 [(va, a), (vb, b)] := ⟨Below.refl _ _, hL⟩
  have Bhm := Bx.mk hm
  have Bhn := Bx.mk hn
  have Bh1 := Bx.mk h1
  have Bh2 := Bx.mk h2
  have Bh5 := Bx.mk h5
  clear hL hm hn h1 h2 h5
  go_enter Tryd.func7, Tryd.ntmps7
  go_wp2_with fail
  refine Calls.mono (head_any _) ?_
  rintro e w1 ⟨rfl, hb⟩
  replace S := S.on hb
  clear hb
  go_wp2_with fail
  refine Calls.mono (valid_ok (a := a) S.live (by simp)) ?_
  rintro e w1 ⟨rfl, rfl⟩
  go_wp2_with fail
  refine Calls.mono (valid_ok (a := b) S.live (by simp)) ?_
  rintro e w1 ⟨rfl, rfl⟩
  go_wp2_with fail
  refine Calls.mono (pow0_ok (a := a) S.live (by simp)) ?_
  rintro e w1 ⟨v1, rfl, hl, hb⟩
  replace S := S.next hl hb
  clear hl hb
  go_wp2_with fail
  replace S := S.lit [1] 1 (by intro x hx; simp at hx; omega) (by simp) (by simp [val]) (by simp)
  refine Calls.mono (same_yes (a := 1) (b := 1) S.live (by simp) (by simp) rfl) ?_
  rintro e w1 ⟨rfl, hl, hb⟩
  replace S := S.next hl hb
  clear hl hb
  go_wp2_with fail
  refine Calls.mono (pow_ok (a := a) m S.live (by simp) (by have := Bhm.out; have := Bhn.out; omega) Bh1.out) ?_
  rintro e w1 ⟨vp, rfl, hl, hb⟩
  replace S := S.next hl hb
  clear hl hb
  go_wp2_with fail
  refine Calls.mono (pow_over (a := a) n S.live (by simp) (by have := Bhm.out; have := Bhn.out; omega) Bh2.out) ?_
  rintro e w1 ⟨vq, rfl, hl, hb⟩
  replace S := S.next hl hb
  clear hl hb
  go_wp2_with fail
  refine Calls.mono (powsum_var (a := a) m n S.live (by simp) (by have := Bhm.out; have := Bhn.out; omega)) ?_
  rintro e w1 ⟨vr, vrs, vrx, rfl, hl, hb⟩
  replace S := S.next hl hb
  clear hl hb
  go_wp2_with fail
  refine Calls.mono (mul_var (a := (a ^ m)) (b := 0) S.live (by simp) (by simp)) ?_
  rintro e w1 ⟨vs, vss, vsx, rfl, hl, hb⟩
  replace S := S.next hl hb
  clear hl hb
  go_wp2_with fail
  refine Calls.mono (mul_ok (a := a) (b := b) S.live (by simp) (by simp) Bh5.out) ?_
  rintro e w1 ⟨vx, rfl, hl, hb⟩
  replace S := S.next hl hb
  clear hl hb
  go_wp2_with fail
  refine Calls.mono (pow_var (a := b) n S.live (by simp) (by have := Bhm.out; have := Bhn.out; omega)) ?_
  rintro e w1 ⟨vt, vts, vtx, rfl, hl, hb⟩
  replace S := S.next hl hb
  clear hl hb
  go_wp2_with fail
  refine Calls.mono (pow_var (a := (a * b)) n S.live (by simp) (by have := Bhm.out; have := Bhn.out; omega)) ?_
  rintro e w1 ⟨vu, vus, vux, rfl, hl, hb⟩
  replace S := S.next hl hb
  clear hl hb
  go_wp2_with fail
  refine Calls.mono (mul_var (a := 0) (b := vts) S.live (by simp) (by simp)) ?_
  rintro e w1 ⟨vz, vzs, vzx, rfl, hl, hb⟩
  replace S := S.next hl hb
  clear hl hb
  go_wp2
  go_ret
  exact ⟨rfl, S.below⟩
end Go.Proofs.YtegjhkjmejckdaaDoor

/- NaturalDigits over a number and a digit. -/
import Derived.Test.YtegjhkjmejckdaaDoorT13
namespace Go.Proofs.YtegjhkjmejckdaaDoor
open Go.RowKit M
theorem tx_push {a d : Nat} (h : a ≠ 0) (hd : d ≤ 9) : tx (a * 10 + d) = tx a ++ strOfNums [((48 + d : Nat) : Int)] := by
  unfold tx
  rw [text_push h hd]
  apply ByteArray.ext
  simp [strOfNums]
theorem conv1 (w : World) (x : Int) (h : 0 ≤ x ∧ x ≤ 255) : (convert 45 9 (.slice (some ⟨w.heap.size, 0, none⟩) 1 1)).run Tryd.prog (w.alloc (.cells #[.int .u8 x] 5)) = .ok (.string (strOfNums [x])) (w.alloc (.cells #[.int .u8 x] 5)) :=
  run_convert_bytes_arg (P := Tryd.prog) (w.alloc (.cells #[.int .u8 x] 5)) 45 5 Tryd.underlying45 Tryd.underlying5 w.heap.size 0 1 1 [x] rfl (fun i hi => by
    have : i = 0 := by simpa using hi
    subst this
    simp [go_sem]) 9 Tryd.underlying9
theorem tx_len {a : Nat} (h : Fits a) : (tx a).size ≤ 6401 := tx_bound h
set_option maxHeartbeats 4000000 in
set_option maxRecDepth 20000 in
theorem digits_0 {ao : Option Addr} {ca a : Nat} {sa : ByteArray} (w0 : World) (hL : Live w0 [(.slice ao (limbs a).length ca, a)]) (hz : (((limbs a).length : Int) == 0) = false) (h1 : Fits (a * 10)) (h2 : Fits (a * 10 + 0)) (t1 : tx a = sa) (t2 : tx (a * 10 + 0) = sa ++ ⟨#[48]⟩) (sz : sa.size ≤ 6401) :
    Calls Tryd.prog 10 #[.slice ao (limbs a).length ca, .int .i64 0] w0 fun e w' => e = .returned (.bool true) ∧ Below w0.heap.size w0 w' := by
  have S : St w0 w0 [(.slice ao (limbs a).length ca, a)] := ⟨Below.refl _ _, hL⟩
  have Bh1 := Bx.mk h1
  have Bh2 := Bx.mk h2
  have Bt1 := Bx.mk t1
  have Bt2 := Bx.mk t2
  clear hL h1 h2 t1 t2
  go_enter Tryd.func10, Tryd.ntmps10
  go_wp2_with fail
  refine Calls.mono (head_any _) ?_
  rintro e w1 ⟨rfl, hb⟩
  replace S := S.on hb
  clear hb
  go_wp2_with fail
  refine Calls.mono (valid_ok (a := a) S.live (by simp)) ?_
  rintro e w1 ⟨rfl, rfl⟩
  go_wp2_with fail
  refine Calls.mono (make_ok 10 S.live (by decide)) ?_
  rintro e w1 ⟨vt, rfl, hl, hb⟩
  replace S := S.next hl hb
  clear hl hb
  go_wp2_with fail
  refine Calls.mono (mul_ok (a := a) (b := 10) S.live (by simp) (by simp) Bh1.out) ?_
  rintro e w1 ⟨vp, rfl, hl, hb⟩
  replace S := S.next hl hb
  clear hl hb
  go_wp2_with fail
  refine Calls.mono (make_ok 0 S.live (by decide)) ?_
  rintro e w1 ⟨vd, rfl, hl, hb⟩
  replace S := S.next hl hb
  clear hl hb
  go_wp2_with fail
  refine Calls.mono (add_ok (a := (a * 10)) (b := 0) S.live (by simp) (by simp) Bh2.out) ?_
  rintro e w1 ⟨vq, rfl, hl, hb⟩
  replace S := S.next hl hb
  clear hl hb
  go_wp2_with fail
  refine Calls.mono (text_is (a := a) Bt1.out S.live (by simp)) ?_
  rintro e w1 ⟨rfl, hl, hb⟩
  replace S := S.next hl hb
  clear hl hb
  go_wp2_with fail
  refine Calls.mono (text_is (a := (a * 10 + 0)) Bt2.out S.live (by simp)) ?_
  rintro e w1 ⟨rfl, hl, hb⟩
  replace S := S.next hl hb
  clear hl hb
  have hconv := (conv1 w1 48 (by omega)).trans (show _ = .ok (.string ⟨#[48]⟩) _ from rfl)
  have S2 := Bx.mk (S.on ((Below.refl _ _).alloc (Nat.le_refl _) (.cells #[.int .u8 48] 5))).below
  go_wp2
  go_ret
  exact ⟨rfl, S2.out⟩
set_option maxHeartbeats 4000000 in
set_option maxRecDepth 20000 in
theorem digits_1 {ao : Option Addr} {ca a : Nat} {sa : ByteArray} (w0 : World) (hL : Live w0 [(.slice ao (limbs a).length ca, a)]) (hz : (((limbs a).length : Int) == 0) = false) (h1 : Fits (a * 10)) (h2 : Fits (a * 10 + 1)) (t1 : tx a = sa) (t2 : tx (a * 10 + 1) = sa ++ ⟨#[49]⟩) (sz : sa.size ≤ 6401) :
    Calls Tryd.prog 10 #[.slice ao (limbs a).length ca, .int .i64 1] w0 fun e w' => e = .returned (.bool true) ∧ Below w0.heap.size w0 w' := by
  have S : St w0 w0 [(.slice ao (limbs a).length ca, a)] := ⟨Below.refl _ _, hL⟩
  have Bh1 := Bx.mk h1
  have Bh2 := Bx.mk h2
  have Bt1 := Bx.mk t1
  have Bt2 := Bx.mk t2
  clear hL h1 h2 t1 t2
  go_enter Tryd.func10, Tryd.ntmps10
  go_wp2_with fail
  refine Calls.mono (head_any _) ?_
  rintro e w1 ⟨rfl, hb⟩
  replace S := S.on hb
  clear hb
  go_wp2_with fail
  refine Calls.mono (valid_ok (a := a) S.live (by simp)) ?_
  rintro e w1 ⟨rfl, rfl⟩
  go_wp2_with fail
  refine Calls.mono (make_ok 10 S.live (by decide)) ?_
  rintro e w1 ⟨vt, rfl, hl, hb⟩
  replace S := S.next hl hb
  clear hl hb
  go_wp2_with fail
  refine Calls.mono (mul_ok (a := a) (b := 10) S.live (by simp) (by simp) Bh1.out) ?_
  rintro e w1 ⟨vp, rfl, hl, hb⟩
  replace S := S.next hl hb
  clear hl hb
  go_wp2_with fail
  refine Calls.mono (make_ok 1 S.live (by decide)) ?_
  rintro e w1 ⟨vd, rfl, hl, hb⟩
  replace S := S.next hl hb
  clear hl hb
  go_wp2_with fail
  refine Calls.mono (add_ok (a := (a * 10)) (b := 1) S.live (by simp) (by simp) Bh2.out) ?_
  rintro e w1 ⟨vq, rfl, hl, hb⟩
  replace S := S.next hl hb
  clear hl hb
  go_wp2_with fail
  refine Calls.mono (text_is (a := a) Bt1.out S.live (by simp)) ?_
  rintro e w1 ⟨rfl, hl, hb⟩
  replace S := S.next hl hb
  clear hl hb
  go_wp2_with fail
  refine Calls.mono (text_is (a := (a * 10 + 1)) Bt2.out S.live (by simp)) ?_
  rintro e w1 ⟨rfl, hl, hb⟩
  replace S := S.next hl hb
  clear hl hb
  have hconv := (conv1 w1 49 (by omega)).trans (show _ = .ok (.string ⟨#[49]⟩) _ from rfl)
  have S2 := Bx.mk (S.on ((Below.refl _ _).alloc (Nat.le_refl _) (.cells #[.int .u8 49] 5))).below
  go_wp2
  go_ret
  exact ⟨rfl, S2.out⟩
set_option maxHeartbeats 4000000 in
set_option maxRecDepth 20000 in
theorem digits_2 {ao : Option Addr} {ca a : Nat} {sa : ByteArray} (w0 : World) (hL : Live w0 [(.slice ao (limbs a).length ca, a)]) (hz : (((limbs a).length : Int) == 0) = false) (h1 : Fits (a * 10)) (h2 : Fits (a * 10 + 2)) (t1 : tx a = sa) (t2 : tx (a * 10 + 2) = sa ++ ⟨#[50]⟩) (sz : sa.size ≤ 6401) :
    Calls Tryd.prog 10 #[.slice ao (limbs a).length ca, .int .i64 2] w0 fun e w' => e = .returned (.bool true) ∧ Below w0.heap.size w0 w' := by
  have S : St w0 w0 [(.slice ao (limbs a).length ca, a)] := ⟨Below.refl _ _, hL⟩
  have Bh1 := Bx.mk h1
  have Bh2 := Bx.mk h2
  have Bt1 := Bx.mk t1
  have Bt2 := Bx.mk t2
  clear hL h1 h2 t1 t2
  go_enter Tryd.func10, Tryd.ntmps10
  go_wp2_with fail
  refine Calls.mono (head_any _) ?_
  rintro e w1 ⟨rfl, hb⟩
  replace S := S.on hb
  clear hb
  go_wp2_with fail
  refine Calls.mono (valid_ok (a := a) S.live (by simp)) ?_
  rintro e w1 ⟨rfl, rfl⟩
  go_wp2_with fail
  refine Calls.mono (make_ok 10 S.live (by decide)) ?_
  rintro e w1 ⟨vt, rfl, hl, hb⟩
  replace S := S.next hl hb
  clear hl hb
  go_wp2_with fail
  refine Calls.mono (mul_ok (a := a) (b := 10) S.live (by simp) (by simp) Bh1.out) ?_
  rintro e w1 ⟨vp, rfl, hl, hb⟩
  replace S := S.next hl hb
  clear hl hb
  go_wp2_with fail
  refine Calls.mono (make_ok 2 S.live (by decide)) ?_
  rintro e w1 ⟨vd, rfl, hl, hb⟩
  replace S := S.next hl hb
  clear hl hb
  go_wp2_with fail
  refine Calls.mono (add_ok (a := (a * 10)) (b := 2) S.live (by simp) (by simp) Bh2.out) ?_
  rintro e w1 ⟨vq, rfl, hl, hb⟩
  replace S := S.next hl hb
  clear hl hb
  go_wp2_with fail
  refine Calls.mono (text_is (a := a) Bt1.out S.live (by simp)) ?_
  rintro e w1 ⟨rfl, hl, hb⟩
  replace S := S.next hl hb
  clear hl hb
  go_wp2_with fail
  refine Calls.mono (text_is (a := (a * 10 + 2)) Bt2.out S.live (by simp)) ?_
  rintro e w1 ⟨rfl, hl, hb⟩
  replace S := S.next hl hb
  clear hl hb
  have hconv := (conv1 w1 50 (by omega)).trans (show _ = .ok (.string ⟨#[50]⟩) _ from rfl)
  have S2 := Bx.mk (S.on ((Below.refl _ _).alloc (Nat.le_refl _) (.cells #[.int .u8 50] 5))).below
  go_wp2
  go_ret
  exact ⟨rfl, S2.out⟩
set_option maxHeartbeats 4000000 in
set_option maxRecDepth 20000 in
theorem digits_3 {ao : Option Addr} {ca a : Nat} {sa : ByteArray} (w0 : World) (hL : Live w0 [(.slice ao (limbs a).length ca, a)]) (hz : (((limbs a).length : Int) == 0) = false) (h1 : Fits (a * 10)) (h2 : Fits (a * 10 + 3)) (t1 : tx a = sa) (t2 : tx (a * 10 + 3) = sa ++ ⟨#[51]⟩) (sz : sa.size ≤ 6401) :
    Calls Tryd.prog 10 #[.slice ao (limbs a).length ca, .int .i64 3] w0 fun e w' => e = .returned (.bool true) ∧ Below w0.heap.size w0 w' := by
  have S : St w0 w0 [(.slice ao (limbs a).length ca, a)] := ⟨Below.refl _ _, hL⟩
  have Bh1 := Bx.mk h1
  have Bh2 := Bx.mk h2
  have Bt1 := Bx.mk t1
  have Bt2 := Bx.mk t2
  clear hL h1 h2 t1 t2
  go_enter Tryd.func10, Tryd.ntmps10
  go_wp2_with fail
  refine Calls.mono (head_any _) ?_
  rintro e w1 ⟨rfl, hb⟩
  replace S := S.on hb
  clear hb
  go_wp2_with fail
  refine Calls.mono (valid_ok (a := a) S.live (by simp)) ?_
  rintro e w1 ⟨rfl, rfl⟩
  go_wp2_with fail
  refine Calls.mono (make_ok 10 S.live (by decide)) ?_
  rintro e w1 ⟨vt, rfl, hl, hb⟩
  replace S := S.next hl hb
  clear hl hb
  go_wp2_with fail
  refine Calls.mono (mul_ok (a := a) (b := 10) S.live (by simp) (by simp) Bh1.out) ?_
  rintro e w1 ⟨vp, rfl, hl, hb⟩
  replace S := S.next hl hb
  clear hl hb
  go_wp2_with fail
  refine Calls.mono (make_ok 3 S.live (by decide)) ?_
  rintro e w1 ⟨vd, rfl, hl, hb⟩
  replace S := S.next hl hb
  clear hl hb
  go_wp2_with fail
  refine Calls.mono (add_ok (a := (a * 10)) (b := 3) S.live (by simp) (by simp) Bh2.out) ?_
  rintro e w1 ⟨vq, rfl, hl, hb⟩
  replace S := S.next hl hb
  clear hl hb
  go_wp2_with fail
  refine Calls.mono (text_is (a := a) Bt1.out S.live (by simp)) ?_
  rintro e w1 ⟨rfl, hl, hb⟩
  replace S := S.next hl hb
  clear hl hb
  go_wp2_with fail
  refine Calls.mono (text_is (a := (a * 10 + 3)) Bt2.out S.live (by simp)) ?_
  rintro e w1 ⟨rfl, hl, hb⟩
  replace S := S.next hl hb
  clear hl hb
  have hconv := (conv1 w1 51 (by omega)).trans (show _ = .ok (.string ⟨#[51]⟩) _ from rfl)
  have S2 := Bx.mk (S.on ((Below.refl _ _).alloc (Nat.le_refl _) (.cells #[.int .u8 51] 5))).below
  go_wp2
  go_ret
  exact ⟨rfl, S2.out⟩
set_option maxHeartbeats 4000000 in
set_option maxRecDepth 20000 in
theorem digits_4 {ao : Option Addr} {ca a : Nat} {sa : ByteArray} (w0 : World) (hL : Live w0 [(.slice ao (limbs a).length ca, a)]) (hz : (((limbs a).length : Int) == 0) = false) (h1 : Fits (a * 10)) (h2 : Fits (a * 10 + 4)) (t1 : tx a = sa) (t2 : tx (a * 10 + 4) = sa ++ ⟨#[52]⟩) (sz : sa.size ≤ 6401) :
    Calls Tryd.prog 10 #[.slice ao (limbs a).length ca, .int .i64 4] w0 fun e w' => e = .returned (.bool true) ∧ Below w0.heap.size w0 w' := by
  have S : St w0 w0 [(.slice ao (limbs a).length ca, a)] := ⟨Below.refl _ _, hL⟩
  have Bh1 := Bx.mk h1
  have Bh2 := Bx.mk h2
  have Bt1 := Bx.mk t1
  have Bt2 := Bx.mk t2
  clear hL h1 h2 t1 t2
  go_enter Tryd.func10, Tryd.ntmps10
  go_wp2_with fail
  refine Calls.mono (head_any _) ?_
  rintro e w1 ⟨rfl, hb⟩
  replace S := S.on hb
  clear hb
  go_wp2_with fail
  refine Calls.mono (valid_ok (a := a) S.live (by simp)) ?_
  rintro e w1 ⟨rfl, rfl⟩
  go_wp2_with fail
  refine Calls.mono (make_ok 10 S.live (by decide)) ?_
  rintro e w1 ⟨vt, rfl, hl, hb⟩
  replace S := S.next hl hb
  clear hl hb
  go_wp2_with fail
  refine Calls.mono (mul_ok (a := a) (b := 10) S.live (by simp) (by simp) Bh1.out) ?_
  rintro e w1 ⟨vp, rfl, hl, hb⟩
  replace S := S.next hl hb
  clear hl hb
  go_wp2_with fail
  refine Calls.mono (make_ok 4 S.live (by decide)) ?_
  rintro e w1 ⟨vd, rfl, hl, hb⟩
  replace S := S.next hl hb
  clear hl hb
  go_wp2_with fail
  refine Calls.mono (add_ok (a := (a * 10)) (b := 4) S.live (by simp) (by simp) Bh2.out) ?_
  rintro e w1 ⟨vq, rfl, hl, hb⟩
  replace S := S.next hl hb
  clear hl hb
  go_wp2_with fail
  refine Calls.mono (text_is (a := a) Bt1.out S.live (by simp)) ?_
  rintro e w1 ⟨rfl, hl, hb⟩
  replace S := S.next hl hb
  clear hl hb
  go_wp2_with fail
  refine Calls.mono (text_is (a := (a * 10 + 4)) Bt2.out S.live (by simp)) ?_
  rintro e w1 ⟨rfl, hl, hb⟩
  replace S := S.next hl hb
  clear hl hb
  have hconv := (conv1 w1 52 (by omega)).trans (show _ = .ok (.string ⟨#[52]⟩) _ from rfl)
  have S2 := Bx.mk (S.on ((Below.refl _ _).alloc (Nat.le_refl _) (.cells #[.int .u8 52] 5))).below
  go_wp2
  go_ret
  exact ⟨rfl, S2.out⟩
set_option maxHeartbeats 4000000 in
set_option maxRecDepth 20000 in
theorem digits_5 {ao : Option Addr} {ca a : Nat} {sa : ByteArray} (w0 : World) (hL : Live w0 [(.slice ao (limbs a).length ca, a)]) (hz : (((limbs a).length : Int) == 0) = false) (h1 : Fits (a * 10)) (h2 : Fits (a * 10 + 5)) (t1 : tx a = sa) (t2 : tx (a * 10 + 5) = sa ++ ⟨#[53]⟩) (sz : sa.size ≤ 6401) :
    Calls Tryd.prog 10 #[.slice ao (limbs a).length ca, .int .i64 5] w0 fun e w' => e = .returned (.bool true) ∧ Below w0.heap.size w0 w' := by
  have S : St w0 w0 [(.slice ao (limbs a).length ca, a)] := ⟨Below.refl _ _, hL⟩
  have Bh1 := Bx.mk h1
  have Bh2 := Bx.mk h2
  have Bt1 := Bx.mk t1
  have Bt2 := Bx.mk t2
  clear hL h1 h2 t1 t2
  go_enter Tryd.func10, Tryd.ntmps10
  go_wp2_with fail
  refine Calls.mono (head_any _) ?_
  rintro e w1 ⟨rfl, hb⟩
  replace S := S.on hb
  clear hb
  go_wp2_with fail
  refine Calls.mono (valid_ok (a := a) S.live (by simp)) ?_
  rintro e w1 ⟨rfl, rfl⟩
  go_wp2_with fail
  refine Calls.mono (make_ok 10 S.live (by decide)) ?_
  rintro e w1 ⟨vt, rfl, hl, hb⟩
  replace S := S.next hl hb
  clear hl hb
  go_wp2_with fail
  refine Calls.mono (mul_ok (a := a) (b := 10) S.live (by simp) (by simp) Bh1.out) ?_
  rintro e w1 ⟨vp, rfl, hl, hb⟩
  replace S := S.next hl hb
  clear hl hb
  go_wp2_with fail
  refine Calls.mono (make_ok 5 S.live (by decide)) ?_
  rintro e w1 ⟨vd, rfl, hl, hb⟩
  replace S := S.next hl hb
  clear hl hb
  go_wp2_with fail
  refine Calls.mono (add_ok (a := (a * 10)) (b := 5) S.live (by simp) (by simp) Bh2.out) ?_
  rintro e w1 ⟨vq, rfl, hl, hb⟩
  replace S := S.next hl hb
  clear hl hb
  go_wp2_with fail
  refine Calls.mono (text_is (a := a) Bt1.out S.live (by simp)) ?_
  rintro e w1 ⟨rfl, hl, hb⟩
  replace S := S.next hl hb
  clear hl hb
  go_wp2_with fail
  refine Calls.mono (text_is (a := (a * 10 + 5)) Bt2.out S.live (by simp)) ?_
  rintro e w1 ⟨rfl, hl, hb⟩
  replace S := S.next hl hb
  clear hl hb
  have hconv := (conv1 w1 53 (by omega)).trans (show _ = .ok (.string ⟨#[53]⟩) _ from rfl)
  have S2 := Bx.mk (S.on ((Below.refl _ _).alloc (Nat.le_refl _) (.cells #[.int .u8 53] 5))).below
  go_wp2
  go_ret
  exact ⟨rfl, S2.out⟩
set_option maxHeartbeats 4000000 in
set_option maxRecDepth 20000 in
theorem digits_6 {ao : Option Addr} {ca a : Nat} {sa : ByteArray} (w0 : World) (hL : Live w0 [(.slice ao (limbs a).length ca, a)]) (hz : (((limbs a).length : Int) == 0) = false) (h1 : Fits (a * 10)) (h2 : Fits (a * 10 + 6)) (t1 : tx a = sa) (t2 : tx (a * 10 + 6) = sa ++ ⟨#[54]⟩) (sz : sa.size ≤ 6401) :
    Calls Tryd.prog 10 #[.slice ao (limbs a).length ca, .int .i64 6] w0 fun e w' => e = .returned (.bool true) ∧ Below w0.heap.size w0 w' := by
  have S : St w0 w0 [(.slice ao (limbs a).length ca, a)] := ⟨Below.refl _ _, hL⟩
  have Bh1 := Bx.mk h1
  have Bh2 := Bx.mk h2
  have Bt1 := Bx.mk t1
  have Bt2 := Bx.mk t2
  clear hL h1 h2 t1 t2
  go_enter Tryd.func10, Tryd.ntmps10
  go_wp2_with fail
  refine Calls.mono (head_any _) ?_
  rintro e w1 ⟨rfl, hb⟩
  replace S := S.on hb
  clear hb
  go_wp2_with fail
  refine Calls.mono (valid_ok (a := a) S.live (by simp)) ?_
  rintro e w1 ⟨rfl, rfl⟩
  go_wp2_with fail
  refine Calls.mono (make_ok 10 S.live (by decide)) ?_
  rintro e w1 ⟨vt, rfl, hl, hb⟩
  replace S := S.next hl hb
  clear hl hb
  go_wp2_with fail
  refine Calls.mono (mul_ok (a := a) (b := 10) S.live (by simp) (by simp) Bh1.out) ?_
  rintro e w1 ⟨vp, rfl, hl, hb⟩
  replace S := S.next hl hb
  clear hl hb
  go_wp2_with fail
  refine Calls.mono (make_ok 6 S.live (by decide)) ?_
  rintro e w1 ⟨vd, rfl, hl, hb⟩
  replace S := S.next hl hb
  clear hl hb
  go_wp2_with fail
  refine Calls.mono (add_ok (a := (a * 10)) (b := 6) S.live (by simp) (by simp) Bh2.out) ?_
  rintro e w1 ⟨vq, rfl, hl, hb⟩
  replace S := S.next hl hb
  clear hl hb
  go_wp2_with fail
  refine Calls.mono (text_is (a := a) Bt1.out S.live (by simp)) ?_
  rintro e w1 ⟨rfl, hl, hb⟩
  replace S := S.next hl hb
  clear hl hb
  go_wp2_with fail
  refine Calls.mono (text_is (a := (a * 10 + 6)) Bt2.out S.live (by simp)) ?_
  rintro e w1 ⟨rfl, hl, hb⟩
  replace S := S.next hl hb
  clear hl hb
  have hconv := (conv1 w1 54 (by omega)).trans (show _ = .ok (.string ⟨#[54]⟩) _ from rfl)
  have S2 := Bx.mk (S.on ((Below.refl _ _).alloc (Nat.le_refl _) (.cells #[.int .u8 54] 5))).below
  go_wp2
  go_ret
  exact ⟨rfl, S2.out⟩
set_option maxHeartbeats 4000000 in
set_option maxRecDepth 20000 in
theorem digits_7 {ao : Option Addr} {ca a : Nat} {sa : ByteArray} (w0 : World) (hL : Live w0 [(.slice ao (limbs a).length ca, a)]) (hz : (((limbs a).length : Int) == 0) = false) (h1 : Fits (a * 10)) (h2 : Fits (a * 10 + 7)) (t1 : tx a = sa) (t2 : tx (a * 10 + 7) = sa ++ ⟨#[55]⟩) (sz : sa.size ≤ 6401) :
    Calls Tryd.prog 10 #[.slice ao (limbs a).length ca, .int .i64 7] w0 fun e w' => e = .returned (.bool true) ∧ Below w0.heap.size w0 w' := by
  have S : St w0 w0 [(.slice ao (limbs a).length ca, a)] := ⟨Below.refl _ _, hL⟩
  have Bh1 := Bx.mk h1
  have Bh2 := Bx.mk h2
  have Bt1 := Bx.mk t1
  have Bt2 := Bx.mk t2
  clear hL h1 h2 t1 t2
  go_enter Tryd.func10, Tryd.ntmps10
  go_wp2_with fail
  refine Calls.mono (head_any _) ?_
  rintro e w1 ⟨rfl, hb⟩
  replace S := S.on hb
  clear hb
  go_wp2_with fail
  refine Calls.mono (valid_ok (a := a) S.live (by simp)) ?_
  rintro e w1 ⟨rfl, rfl⟩
  go_wp2_with fail
  refine Calls.mono (make_ok 10 S.live (by decide)) ?_
  rintro e w1 ⟨vt, rfl, hl, hb⟩
  replace S := S.next hl hb
  clear hl hb
  go_wp2_with fail
  refine Calls.mono (mul_ok (a := a) (b := 10) S.live (by simp) (by simp) Bh1.out) ?_
  rintro e w1 ⟨vp, rfl, hl, hb⟩
  replace S := S.next hl hb
  clear hl hb
  go_wp2_with fail
  refine Calls.mono (make_ok 7 S.live (by decide)) ?_
  rintro e w1 ⟨vd, rfl, hl, hb⟩
  replace S := S.next hl hb
  clear hl hb
  go_wp2_with fail
  refine Calls.mono (add_ok (a := (a * 10)) (b := 7) S.live (by simp) (by simp) Bh2.out) ?_
  rintro e w1 ⟨vq, rfl, hl, hb⟩
  replace S := S.next hl hb
  clear hl hb
  go_wp2_with fail
  refine Calls.mono (text_is (a := a) Bt1.out S.live (by simp)) ?_
  rintro e w1 ⟨rfl, hl, hb⟩
  replace S := S.next hl hb
  clear hl hb
  go_wp2_with fail
  refine Calls.mono (text_is (a := (a * 10 + 7)) Bt2.out S.live (by simp)) ?_
  rintro e w1 ⟨rfl, hl, hb⟩
  replace S := S.next hl hb
  clear hl hb
  have hconv := (conv1 w1 55 (by omega)).trans (show _ = .ok (.string ⟨#[55]⟩) _ from rfl)
  have S2 := Bx.mk (S.on ((Below.refl _ _).alloc (Nat.le_refl _) (.cells #[.int .u8 55] 5))).below
  go_wp2
  go_ret
  exact ⟨rfl, S2.out⟩
set_option maxHeartbeats 4000000 in
set_option maxRecDepth 20000 in
theorem digits_8 {ao : Option Addr} {ca a : Nat} {sa : ByteArray} (w0 : World) (hL : Live w0 [(.slice ao (limbs a).length ca, a)]) (hz : (((limbs a).length : Int) == 0) = false) (h1 : Fits (a * 10)) (h2 : Fits (a * 10 + 8)) (t1 : tx a = sa) (t2 : tx (a * 10 + 8) = sa ++ ⟨#[56]⟩) (sz : sa.size ≤ 6401) :
    Calls Tryd.prog 10 #[.slice ao (limbs a).length ca, .int .i64 8] w0 fun e w' => e = .returned (.bool true) ∧ Below w0.heap.size w0 w' := by
  have S : St w0 w0 [(.slice ao (limbs a).length ca, a)] := ⟨Below.refl _ _, hL⟩
  have Bh1 := Bx.mk h1
  have Bh2 := Bx.mk h2
  have Bt1 := Bx.mk t1
  have Bt2 := Bx.mk t2
  clear hL h1 h2 t1 t2
  go_enter Tryd.func10, Tryd.ntmps10
  go_wp2_with fail
  refine Calls.mono (head_any _) ?_
  rintro e w1 ⟨rfl, hb⟩
  replace S := S.on hb
  clear hb
  go_wp2_with fail
  refine Calls.mono (valid_ok (a := a) S.live (by simp)) ?_
  rintro e w1 ⟨rfl, rfl⟩
  go_wp2_with fail
  refine Calls.mono (make_ok 10 S.live (by decide)) ?_
  rintro e w1 ⟨vt, rfl, hl, hb⟩
  replace S := S.next hl hb
  clear hl hb
  go_wp2_with fail
  refine Calls.mono (mul_ok (a := a) (b := 10) S.live (by simp) (by simp) Bh1.out) ?_
  rintro e w1 ⟨vp, rfl, hl, hb⟩
  replace S := S.next hl hb
  clear hl hb
  go_wp2_with fail
  refine Calls.mono (make_ok 8 S.live (by decide)) ?_
  rintro e w1 ⟨vd, rfl, hl, hb⟩
  replace S := S.next hl hb
  clear hl hb
  go_wp2_with fail
  refine Calls.mono (add_ok (a := (a * 10)) (b := 8) S.live (by simp) (by simp) Bh2.out) ?_
  rintro e w1 ⟨vq, rfl, hl, hb⟩
  replace S := S.next hl hb
  clear hl hb
  go_wp2_with fail
  refine Calls.mono (text_is (a := a) Bt1.out S.live (by simp)) ?_
  rintro e w1 ⟨rfl, hl, hb⟩
  replace S := S.next hl hb
  clear hl hb
  go_wp2_with fail
  refine Calls.mono (text_is (a := (a * 10 + 8)) Bt2.out S.live (by simp)) ?_
  rintro e w1 ⟨rfl, hl, hb⟩
  replace S := S.next hl hb
  clear hl hb
  have hconv := (conv1 w1 56 (by omega)).trans (show _ = .ok (.string ⟨#[56]⟩) _ from rfl)
  have S2 := Bx.mk (S.on ((Below.refl _ _).alloc (Nat.le_refl _) (.cells #[.int .u8 56] 5))).below
  go_wp2
  go_ret
  exact ⟨rfl, S2.out⟩
set_option maxHeartbeats 4000000 in
set_option maxRecDepth 20000 in
theorem digits_9 {ao : Option Addr} {ca a : Nat} {sa : ByteArray} (w0 : World) (hL : Live w0 [(.slice ao (limbs a).length ca, a)]) (hz : (((limbs a).length : Int) == 0) = false) (h1 : Fits (a * 10)) (h2 : Fits (a * 10 + 9)) (t1 : tx a = sa) (t2 : tx (a * 10 + 9) = sa ++ ⟨#[57]⟩) (sz : sa.size ≤ 6401) :
    Calls Tryd.prog 10 #[.slice ao (limbs a).length ca, .int .i64 9] w0 fun e w' => e = .returned (.bool true) ∧ Below w0.heap.size w0 w' := by
  have S : St w0 w0 [(.slice ao (limbs a).length ca, a)] := ⟨Below.refl _ _, hL⟩
  have Bh1 := Bx.mk h1
  have Bh2 := Bx.mk h2
  have Bt1 := Bx.mk t1
  have Bt2 := Bx.mk t2
  clear hL h1 h2 t1 t2
  go_enter Tryd.func10, Tryd.ntmps10
  go_wp2_with fail
  refine Calls.mono (head_any _) ?_
  rintro e w1 ⟨rfl, hb⟩
  replace S := S.on hb
  clear hb
  go_wp2_with fail
  refine Calls.mono (valid_ok (a := a) S.live (by simp)) ?_
  rintro e w1 ⟨rfl, rfl⟩
  go_wp2_with fail
  refine Calls.mono (make_ok 10 S.live (by decide)) ?_
  rintro e w1 ⟨vt, rfl, hl, hb⟩
  replace S := S.next hl hb
  clear hl hb
  go_wp2_with fail
  refine Calls.mono (mul_ok (a := a) (b := 10) S.live (by simp) (by simp) Bh1.out) ?_
  rintro e w1 ⟨vp, rfl, hl, hb⟩
  replace S := S.next hl hb
  clear hl hb
  go_wp2_with fail
  refine Calls.mono (make_ok 9 S.live (by decide)) ?_
  rintro e w1 ⟨vd, rfl, hl, hb⟩
  replace S := S.next hl hb
  clear hl hb
  go_wp2_with fail
  refine Calls.mono (add_ok (a := (a * 10)) (b := 9) S.live (by simp) (by simp) Bh2.out) ?_
  rintro e w1 ⟨vq, rfl, hl, hb⟩
  replace S := S.next hl hb
  clear hl hb
  go_wp2_with fail
  refine Calls.mono (text_is (a := a) Bt1.out S.live (by simp)) ?_
  rintro e w1 ⟨rfl, hl, hb⟩
  replace S := S.next hl hb
  clear hl hb
  go_wp2_with fail
  refine Calls.mono (text_is (a := (a * 10 + 9)) Bt2.out S.live (by simp)) ?_
  rintro e w1 ⟨rfl, hl, hb⟩
  replace S := S.next hl hb
  clear hl hb
  have hconv := (conv1 w1 57 (by omega)).trans (show _ = .ok (.string ⟨#[57]⟩) _ from rfl)
  have S2 := Bx.mk (S.on ((Below.refl _ _).alloc (Nat.le_refl _) (.cells #[.int .u8 57] 5))).below
  go_wp2
  go_ret
  exact ⟨rfl, S2.out⟩
set_option maxHeartbeats 4000000 in
set_option maxRecDepth 20000 in
theorem digits_o1 {ao : Option Addr} {ca a : Nat} {d : Nat} (w0 : World) (hL : Live w0 [(.slice ao (limbs a).length ca, a)]) (hz : (((limbs a).length : Int) == 0) = false) (h1 : Over (a * 10)) (k1 : (0 : Int) ≤ (d : Int)) (k2 : (d : Int) ≤ 9) (hd : d ≤ 9) :
    Calls Tryd.prog 10 #[.slice ao (limbs a).length ca, .int .i64 d] w0 fun e w' => e = .returned (.bool true) ∧ Below w0.heap.size w0 w' := by
  have S : St w0 w0 [(.slice ao (limbs a).length ca, a)] := ⟨Below.refl _ _, hL⟩
  have Bh1 := Bx.mk h1
  have Bhd := Bx.mk hd
  clear hL h1 hd
  go_enter Tryd.func10, Tryd.ntmps10
  go_wp2_with fail
  refine Calls.mono (head_any _) ?_
  rintro e w1 ⟨rfl, hb⟩
  replace S := S.on hb
  clear hb
  go_wp2_with fail
  refine Calls.mono (valid_ok (a := a) S.live (by simp)) ?_
  rintro e w1 ⟨rfl, rfl⟩
  go_wp2_with fail
  refine Calls.mono (make_ok 10 S.live (by decide)) ?_
  rintro e w1 ⟨vt, rfl, hl, hb⟩
  replace S := S.next hl hb
  clear hl hb
  go_wp2_with fail
  refine Calls.mono (mul_big (a := a) (b := 10) S.live (by simp) (by simp) Bh1.out) ?_
  rintro e w1 ⟨vp, rfl, hl, hb⟩
  replace S := S.next hl hb
  clear hl hb
  go_wp2
  go_ret
  exact ⟨rfl, S.below⟩
set_option maxHeartbeats 4000000 in
set_option maxRecDepth 20000 in
theorem digits_o2 {ao : Option Addr} {ca a : Nat} {d : Nat} (w0 : World) (hL : Live w0 [(.slice ao (limbs a).length ca, a)]) (hz : (((limbs a).length : Int) == 0) = false) (h1 : Fits (a * 10)) (h2 : Over (a * 10 + d)) (k1 : (0 : Int) ≤ (d : Int)) (k2 : (d : Int) ≤ 9) (hd : d ≤ 9) :
    Calls Tryd.prog 10 #[.slice ao (limbs a).length ca, .int .i64 d] w0 fun e w' => e = .returned (.bool true) ∧ Below w0.heap.size w0 w' := by
  have S : St w0 w0 [(.slice ao (limbs a).length ca, a)] := ⟨Below.refl _ _, hL⟩
  have Bh1 := Bx.mk h1
  have Bh2 := Bx.mk h2
  have Bhd := Bx.mk hd
  clear hL h1 h2 hd
  go_enter Tryd.func10, Tryd.ntmps10
  go_wp2_with fail
  refine Calls.mono (head_any _) ?_
  rintro e w1 ⟨rfl, hb⟩
  replace S := S.on hb
  clear hb
  go_wp2_with fail
  refine Calls.mono (valid_ok (a := a) S.live (by simp)) ?_
  rintro e w1 ⟨rfl, rfl⟩
  go_wp2_with fail
  refine Calls.mono (make_ok 10 S.live (by decide)) ?_
  rintro e w1 ⟨vt, rfl, hl, hb⟩
  replace S := S.next hl hb
  clear hl hb
  go_wp2_with fail
  refine Calls.mono (mul_ok (a := a) (b := 10) S.live (by simp) (by simp) Bh1.out) ?_
  rintro e w1 ⟨vp, rfl, hl, hb⟩
  replace S := S.next hl hb
  clear hl hb
  go_wp2_with fail
  refine Calls.mono (make_ok d S.live (by have := Bhd.out; omega)) ?_
  rintro e w1 ⟨vd, rfl, hl, hb⟩
  replace S := S.next hl hb
  clear hl hb
  go_wp2_with fail
  refine Calls.mono (add_over (a := (a * 10)) (b := d) S.live (by simp) (by simp) Bh2.out) ?_
  rintro e w1 ⟨vq, rfl, hl, hb⟩
  replace S := S.next hl hb
  clear hl hb
  go_wp2
  go_ret
  exact ⟨rfl, S.below⟩
set_option maxHeartbeats 4000000 in
set_option maxRecDepth 20000 in
theorem digits_neg {ao : Option Addr} {ca a : Nat} {d : Int} (w0 : World) (hL : Live w0 [(.slice ao (limbs a).length ca, a)]) (hz : (((limbs a).length : Int) == 0) = false) (k : d < 0) :
    Calls Tryd.prog 10 #[.slice ao (limbs a).length ca, .int .i64 d] w0 fun e w' => e = .returned (.bool true) ∧ Below w0.heap.size w0 w' := by
  have S : St w0 w0 [(.slice ao (limbs a).length ca, a)] := ⟨Below.refl _ _, hL⟩
  clear hL 
  go_enter Tryd.func10, Tryd.ntmps10
  go_wp2_with fail
  refine Calls.mono (head_any _) ?_
  rintro e w1 ⟨rfl, hb⟩
  replace S := S.on hb
  clear hb
  go_wp2_with fail
  refine Calls.mono (valid_ok (a := a) S.live (by simp)) ?_
  rintro e w1 ⟨rfl, rfl⟩
  go_wp2
  go_ret
  exact ⟨rfl, S.below⟩
set_option maxHeartbeats 4000000 in
set_option maxRecDepth 20000 in
theorem digits_big {ao : Option Addr} {ca a : Nat} {d : Int} (w0 : World) (hL : Live w0 [(.slice ao (limbs a).length ca, a)]) (hz : (((limbs a).length : Int) == 0) = false) (k1 : 0 ≤ d) (k : 9 < d) :
    Calls Tryd.prog 10 #[.slice ao (limbs a).length ca, .int .i64 d] w0 fun e w' => e = .returned (.bool true) ∧ Below w0.heap.size w0 w' := by
  have S : St w0 w0 [(.slice ao (limbs a).length ca, a)] := ⟨Below.refl _ _, hL⟩
  clear hL 
  go_enter Tryd.func10, Tryd.ntmps10
  go_wp2_with fail
  refine Calls.mono (head_any _) ?_
  rintro e w1 ⟨rfl, hb⟩
  replace S := S.on hb
  clear hb
  go_wp2_with fail
  refine Calls.mono (valid_ok (a := a) S.live (by simp)) ?_
  rintro e w1 ⟨rfl, rfl⟩
  go_wp2
  go_ret
  exact ⟨rfl, S.below⟩
set_option maxHeartbeats 4000000 in
set_option maxRecDepth 20000 in
theorem digits_zero {ao : Option Addr} {ca : Nat} {d : Int} (w0 : World) (hL : Live w0 [(.slice ao (limbs 0).length ca, 0)]) (hz : (((limbs 0).length : Int) == 0) = true) :
    Calls Tryd.prog 10 #[.slice ao (limbs 0).length ca, .int .i64 d] w0 fun e w' => e = .returned (.bool true) ∧ Below w0.heap.size w0 w' := by
  have S : St w0 w0 [(.slice ao (limbs 0).length ca, 0)] := ⟨Below.refl _ _, hL⟩
  clear hL 
  go_enter Tryd.func10, Tryd.ntmps10
  go_wp2_with fail
  refine Calls.mono (head_any _) ?_
  rintro e w1 ⟨rfl, hb⟩
  replace S := S.on hb
  clear hb
  go_wp2_with fail
  refine Calls.mono (valid_ok (a := 0) S.live (by simp)) ?_
  rintro e w1 ⟨rfl, rfl⟩
  go_wp2
  go_ret
  exact ⟨rfl, S.below⟩
set_option maxRecDepth 20000 in
theorem digits_bad {va : Value} {d : Int} (w0 : World) (h : ∀ w', Below w0.heap.size w0 w' → Calls Tryd.prog 13 #[va] w' fun e w2 => e = .returned (.bool false) ∧ w' = w2) :
    Calls Tryd.prog 10 #[va, .int .i64 d] w0 fun e w' => e = .returned (.bool true) ∧ Below w0.heap.size w0 w' := by
  have H := Bx.mk h
  clear h
  go_enter Tryd.func10, Tryd.ntmps10
  go_wp2_with fail
  refine Calls.mono (head_any _) ?_
  rintro e w1 ⟨rfl, hb⟩
  go_wp2_with fail
  refine Calls.mono (H.out _ hb) ?_
  rintro e w2 ⟨rfl, rfl⟩
  go_wp2
  go_ret
  exact ⟨rfl, hb⟩
theorem digits_all {va : Value} {d : Int} (w0 : World) (h0 : (∃ n, Nm w0 va n) ∨ ∀ w', Below w0.heap.size w0 w' → Calls Tryd.prog 13 #[va] w' fun e w2 => e = .returned (.bool false) ∧ w' = w2) :
    Calls Tryd.prog 10 #[va, .int .i64 d] w0 fun e w' => e = .returned (.bool true) ∧ Below w0.heap.size w0 w' := by
  rcases h0 with ⟨a, ha⟩ | h0
  · obtain ⟨ao, ca, rfl, -⟩ := ha.shape
    have hL : Live w0 [(.slice ao (limbs a).length ca, a)] := fun p hp => by simp at hp; subst hp; exact ha
    by_cases hz : a = 0
    · subst hz; exact digits_zero w0 hL len_zero
    · by_cases c1 : d < 0
      · exact digits_neg w0 hL (len_pos hz) c1
      · by_cases c2 : 9 < d
        · exact digits_big w0 hL (len_pos hz) (by omega) c2
        · obtain ⟨k, rfl⟩ : ∃ k : Nat, d = (k : Int) := ⟨d.toNat, by omega⟩
          have hk : k ≤ 9 := by omega
          rcases fits_or (a * 10) with h1 | h1
          · rcases fits_or (a * 10 + k) with h2 | h2
            · have ht := tx_push hz hk
              have hk' : k = 0 ∨ k = 1 ∨ k = 2 ∨ k = 3 ∨ k = 4 ∨ k = 5 ∨ k = 6 ∨ k = 7 ∨ k = 8 ∨ k = 9 := by omega
              rcases hk' with rfl | rfl | rfl | rfl | rfl | rfl | rfl | rfl | rfl | rfl
              · exact digits_0 w0 hL (len_pos hz) h1 h2 rfl ht (tx_len ha.fits)
              · exact digits_1 w0 hL (len_pos hz) h1 h2 rfl ht (tx_len ha.fits)
              · exact digits_2 w0 hL (len_pos hz) h1 h2 rfl ht (tx_len ha.fits)
              · exact digits_3 w0 hL (len_pos hz) h1 h2 rfl ht (tx_len ha.fits)
              · exact digits_4 w0 hL (len_pos hz) h1 h2 rfl ht (tx_len ha.fits)
              · exact digits_5 w0 hL (len_pos hz) h1 h2 rfl ht (tx_len ha.fits)
              · exact digits_6 w0 hL (len_pos hz) h1 h2 rfl ht (tx_len ha.fits)
              · exact digits_7 w0 hL (len_pos hz) h1 h2 rfl ht (tx_len ha.fits)
              · exact digits_8 w0 hL (len_pos hz) h1 h2 rfl ht (tx_len ha.fits)
              · exact digits_9 w0 hL (len_pos hz) h1 h2 rfl ht (tx_len ha.fits)
            · exact digits_o2 w0 hL (len_pos hz) h1 h2 (by omega) (by omega) hk
          · exact digits_o1 w0 hL (len_pos hz) h1 (by omega) (by omega) hk
  · exact digits_bad w0 h0
end Go.Proofs.YtegjhkjmejckdaaDoor

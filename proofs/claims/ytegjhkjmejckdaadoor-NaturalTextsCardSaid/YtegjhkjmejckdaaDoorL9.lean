/- NaturalTexts: strings and numbers. -/
import Derived.Test.YtegjhkjmejckdaaDoorT13
namespace Go.Proofs.YtegjhkjmejckdaaDoor
open Go.RowKit M
theorem parse_is {w : World} {L : List (Value × Nat)} {s : ByteArray} {n : Nat} (h : tx n = s) (hf : Fits n) (hL : Live w L) : Calls Tryd.prog 32 #[.string s] w (Step w L n 0) := by
  subst h
  exact parse_lit (by rw [letters_tx, dval_text]) hL (tx_small hf) (by rw [letters_tx]; exact isDec_text n) hf
set_option maxHeartbeats 4000000 in
set_option maxRecDepth 20000 in
theorem texts_A_ok {va vb : Value} {a b : Nat} {s sa sb : ByteArray} (w0 : World) (hL : Live w0 [(va, a), (vb, b)]) (sz : s.size ≤ maxLen) (dec : isDec (letters s) = true) (fit : Fits (dval (letters s))) (t0 : tx (dval (letters s)) = s) (fa : Fits a) (t1 : tx a = sa) (t2 : tx b = sb) (h1 : a < b) (g1 : sa.size < sb.size) :
    Calls Tryd.prog 9 #[va, vb, .string s] w0 fun e w' => e = .returned (.bool true) ∧ Below w0.heap.size w0 w' := by
  have S : St w0 w0 [(va, a), (vb, b)] := ⟨Below.refl _ _, hL⟩
  have Bsz := Bx.mk sz
  have Bdec := Bx.mk dec
  have Bfit := Bx.mk fit
  have Bt0 := Bx.mk t0
  have Bfa := Bx.mk fa
  have Bt1 := Bx.mk t1
  have Bt2 := Bx.mk t2
  have Bh1 := Bx.mk h1
  clear hL sz dec fit t0 fa t1 t2 h1
  go_enter Tryd.func9, Tryd.ntmps9
  go_wp2_with fail
  refine Calls.mono (head_any _) ?_
  rintro e w1 ⟨rfl, hb⟩
  replace S := S.on hb
  clear hb
  go_wp2_with fail
  refine Calls.mono (parse_ok s S.live Bsz.out Bdec.out Bfit.out) ?_
  rintro e w1 ⟨vn, rfl, hl, hb⟩
  replace S := S.next hl hb
  clear hl hb
  go_wp2_with fail
  refine Calls.mono (text_is (a := dval (letters s)) Bt0.out S.live (by simp)) ?_
  rintro e w1 ⟨rfl, hl, hb⟩
  replace S := S.next hl hb
  clear hl hb
  go_wp2_with fail
  refine Calls.mono (valid_ok (a := (dval (letters s))) S.live (by simp)) ?_
  rintro e w1 ⟨rfl, rfl⟩
  go_wp2_with fail
  refine Calls.mono (valid_ok (a := a) S.live (by simp)) ?_
  rintro e w1 ⟨rfl, rfl⟩
  go_wp2_with fail
  refine Calls.mono (valid_ok (a := b) S.live (by simp)) ?_
  rintro e w1 ⟨rfl, rfl⟩
  go_wp2_with fail
  refine Calls.mono (text_is (a := a) Bt1.out S.live (by simp)) ?_
  rintro e w1 ⟨rfl, hl, hb⟩
  replace S := S.next hl hb
  clear hl hb
  go_wp2_with fail
  refine Calls.mono (text_is (a := b) Bt2.out S.live (by simp)) ?_
  rintro e w1 ⟨rfl, hl, hb⟩
  replace S := S.next hl hb
  clear hl hb
  go_wp2_with fail
  refine Calls.mono (parse_is (n := a) Bt1.out Bfa.out S.live) ?_
  rintro e w1 ⟨vm, rfl, hl, hb⟩
  replace S := S.next hl hb
  clear hl hb
  go_wp2_with fail
  refine Calls.mono (cmp_lt (a := a) (b := b) S.live (by simp) (by simp) Bh1.out) ?_
  rintro e w1 ⟨rfl, hl, hb⟩
  replace S := S.next hl hb
  clear hl hb
  go_wp2_with fail
  refine Calls.mono (same_yes (a := a) (b := a) S.live (by simp) (by simp) rfl) ?_
  rintro e w1 ⟨rfl, hl, hb⟩
  replace S := S.next hl hb
  clear hl hb
  go_wp2
  go_ret
  exact ⟨rfl, S.below⟩
set_option maxHeartbeats 4000000 in
set_option maxRecDepth 20000 in
theorem texts_A_ov {va vb : Value} {a b : Nat} {s sa sb : ByteArray} (w0 : World) (hL : Live w0 [(va, a), (vb, b)]) (sz : s.size ≤ maxLen) (dec : isDec (letters s) = true) (fit : Over (dval (letters s))) (fa : Fits a) (t1 : tx a = sa) (t2 : tx b = sb) (h1 : a < b) (g1 : sa.size < sb.size) :
    Calls Tryd.prog 9 #[va, vb, .string s] w0 fun e w' => e = .returned (.bool true) ∧ Below w0.heap.size w0 w' := by
  have S : St w0 w0 [(va, a), (vb, b)] := ⟨Below.refl _ _, hL⟩
  have Bsz := Bx.mk sz
  have Bdec := Bx.mk dec
  have Bfit := Bx.mk fit
  have Bfa := Bx.mk fa
  have Bt1 := Bx.mk t1
  have Bt2 := Bx.mk t2
  have Bh1 := Bx.mk h1
  clear hL sz dec fit fa t1 t2 h1
  go_enter Tryd.func9, Tryd.ntmps9
  go_wp2_with fail
  refine Calls.mono (head_any _) ?_
  rintro e w1 ⟨rfl, hb⟩
  replace S := S.on hb
  clear hb
  go_wp2_with fail
  refine Calls.mono (parse_over s S.live Bsz.out Bdec.out Bfit.out) ?_
  rintro e w1 ⟨vn, rfl, hl, hb⟩
  replace S := S.next hl hb
  clear hl hb
  go_wp2_with fail
  refine Calls.mono (valid_ok (a := a) S.live (by simp)) ?_
  rintro e w1 ⟨rfl, rfl⟩
  go_wp2_with fail
  refine Calls.mono (valid_ok (a := b) S.live (by simp)) ?_
  rintro e w1 ⟨rfl, rfl⟩
  go_wp2_with fail
  refine Calls.mono (text_is (a := a) Bt1.out S.live (by simp)) ?_
  rintro e w1 ⟨rfl, hl, hb⟩
  replace S := S.next hl hb
  clear hl hb
  go_wp2_with fail
  refine Calls.mono (text_is (a := b) Bt2.out S.live (by simp)) ?_
  rintro e w1 ⟨rfl, hl, hb⟩
  replace S := S.next hl hb
  clear hl hb
  go_wp2_with fail
  refine Calls.mono (parse_is (n := a) Bt1.out Bfa.out S.live) ?_
  rintro e w1 ⟨vm, rfl, hl, hb⟩
  replace S := S.next hl hb
  clear hl hb
  go_wp2_with fail
  refine Calls.mono (cmp_lt (a := a) (b := b) S.live (by simp) (by simp) Bh1.out) ?_
  rintro e w1 ⟨rfl, hl, hb⟩
  replace S := S.next hl hb
  clear hl hb
  go_wp2_with fail
  refine Calls.mono (same_yes (a := a) (b := a) S.live (by simp) (by simp) rfl) ?_
  rintro e w1 ⟨rfl, hl, hb⟩
  replace S := S.next hl hb
  clear hl hb
  go_wp2
  go_ret
  exact ⟨rfl, S.below⟩
set_option maxHeartbeats 4000000 in
set_option maxRecDepth 20000 in
theorem texts_A_no {va vb : Value} {a b : Nat} {s sa sb : ByteArray} (w0 : World) (hL : Live w0 [(va, a), (vb, b)]) (sz : s.size ≤ maxLen) (dec : isDec (letters s) = false) (fa : Fits a) (t1 : tx a = sa) (t2 : tx b = sb) (h1 : a < b) (g1 : sa.size < sb.size) :
    Calls Tryd.prog 9 #[va, vb, .string s] w0 fun e w' => e = .returned (.bool true) ∧ Below w0.heap.size w0 w' := by
  have S : St w0 w0 [(va, a), (vb, b)] := ⟨Below.refl _ _, hL⟩
  have Bsz := Bx.mk sz
  have Bdec := Bx.mk dec
  have Bfa := Bx.mk fa
  have Bt1 := Bx.mk t1
  have Bt2 := Bx.mk t2
  have Bh1 := Bx.mk h1
  clear hL sz dec fa t1 t2 h1
  go_enter Tryd.func9, Tryd.ntmps9
  go_wp2_with fail
  refine Calls.mono (head_any _) ?_
  rintro e w1 ⟨rfl, hb⟩
  replace S := S.on hb
  clear hb
  go_wp2_with fail
  refine Calls.mono (parse_not s S.live Bsz.out Bdec.out) ?_
  rintro e w1 ⟨vn, rfl, hl, hb⟩
  replace S := S.next hl hb
  clear hl hb
  go_wp2_with fail
  refine Calls.mono (valid_ok (a := a) S.live (by simp)) ?_
  rintro e w1 ⟨rfl, rfl⟩
  go_wp2_with fail
  refine Calls.mono (valid_ok (a := b) S.live (by simp)) ?_
  rintro e w1 ⟨rfl, rfl⟩
  go_wp2_with fail
  refine Calls.mono (text_is (a := a) Bt1.out S.live (by simp)) ?_
  rintro e w1 ⟨rfl, hl, hb⟩
  replace S := S.next hl hb
  clear hl hb
  go_wp2_with fail
  refine Calls.mono (text_is (a := b) Bt2.out S.live (by simp)) ?_
  rintro e w1 ⟨rfl, hl, hb⟩
  replace S := S.next hl hb
  clear hl hb
  go_wp2_with fail
  refine Calls.mono (parse_is (n := a) Bt1.out Bfa.out S.live) ?_
  rintro e w1 ⟨vm, rfl, hl, hb⟩
  replace S := S.next hl hb
  clear hl hb
  go_wp2_with fail
  refine Calls.mono (cmp_lt (a := a) (b := b) S.live (by simp) (by simp) Bh1.out) ?_
  rintro e w1 ⟨rfl, hl, hb⟩
  replace S := S.next hl hb
  clear hl hb
  go_wp2_with fail
  refine Calls.mono (same_yes (a := a) (b := a) S.live (by simp) (by simp) rfl) ?_
  rintro e w1 ⟨rfl, hl, hb⟩
  replace S := S.next hl hb
  clear hl hb
  go_wp2
  go_ret
  exact ⟨rfl, S.below⟩
set_option maxHeartbeats 4000000 in
set_option maxRecDepth 20000 in
theorem texts_B_ok {va vb : Value} {a b : Nat} {s sa sb : ByteArray} (w0 : World) (hL : Live w0 [(va, a), (vb, b)]) (sz : s.size ≤ maxLen) (dec : isDec (letters s) = true) (fit : Fits (dval (letters s))) (t0 : tx (dval (letters s)) = s) (fa : Fits a) (t1 : tx a = sa) (t2 : tx b = sb) (h1 : a < b) (g1 : sa.size = sb.size) (g2 : Op.bytesLess sa.toList sb.toList = true) :
    Calls Tryd.prog 9 #[va, vb, .string s] w0 fun e w' => e = .returned (.bool true) ∧ Below w0.heap.size w0 w' := by
  have S : St w0 w0 [(va, a), (vb, b)] := ⟨Below.refl _ _, hL⟩
  have Bsz := Bx.mk sz
  have Bdec := Bx.mk dec
  have Bfit := Bx.mk fit
  have Bt0 := Bx.mk t0
  have Bfa := Bx.mk fa
  have Bt1 := Bx.mk t1
  have Bt2 := Bx.mk t2
  have Bh1 := Bx.mk h1
  clear hL sz dec fit t0 fa t1 t2 h1
  go_enter Tryd.func9, Tryd.ntmps9
  go_wp2_with fail
  refine Calls.mono (head_any _) ?_
  rintro e w1 ⟨rfl, hb⟩
  replace S := S.on hb
  clear hb
  go_wp2_with fail
  refine Calls.mono (parse_ok s S.live Bsz.out Bdec.out Bfit.out) ?_
  rintro e w1 ⟨vn, rfl, hl, hb⟩
  replace S := S.next hl hb
  clear hl hb
  go_wp2_with fail
  refine Calls.mono (text_is (a := dval (letters s)) Bt0.out S.live (by simp)) ?_
  rintro e w1 ⟨rfl, hl, hb⟩
  replace S := S.next hl hb
  clear hl hb
  go_wp2_with fail
  refine Calls.mono (valid_ok (a := (dval (letters s))) S.live (by simp)) ?_
  rintro e w1 ⟨rfl, rfl⟩
  go_wp2_with fail
  refine Calls.mono (valid_ok (a := a) S.live (by simp)) ?_
  rintro e w1 ⟨rfl, rfl⟩
  go_wp2_with fail
  refine Calls.mono (valid_ok (a := b) S.live (by simp)) ?_
  rintro e w1 ⟨rfl, rfl⟩
  go_wp2_with fail
  refine Calls.mono (text_is (a := a) Bt1.out S.live (by simp)) ?_
  rintro e w1 ⟨rfl, hl, hb⟩
  replace S := S.next hl hb
  clear hl hb
  go_wp2_with fail
  refine Calls.mono (text_is (a := b) Bt2.out S.live (by simp)) ?_
  rintro e w1 ⟨rfl, hl, hb⟩
  replace S := S.next hl hb
  clear hl hb
  go_wp2_with fail
  refine Calls.mono (parse_is (n := a) Bt1.out Bfa.out S.live) ?_
  rintro e w1 ⟨vm, rfl, hl, hb⟩
  replace S := S.next hl hb
  clear hl hb
  go_wp2_with fail
  refine Calls.mono (cmp_lt (a := a) (b := b) S.live (by simp) (by simp) Bh1.out) ?_
  rintro e w1 ⟨rfl, hl, hb⟩
  replace S := S.next hl hb
  clear hl hb
  go_wp2_with fail
  refine Calls.mono (same_yes (a := a) (b := a) S.live (by simp) (by simp) rfl) ?_
  rintro e w1 ⟨rfl, hl, hb⟩
  replace S := S.next hl hb
  clear hl hb
  go_wp2
  go_ret
  exact ⟨rfl, S.below⟩
set_option maxHeartbeats 4000000 in
set_option maxRecDepth 20000 in
theorem texts_B_ov {va vb : Value} {a b : Nat} {s sa sb : ByteArray} (w0 : World) (hL : Live w0 [(va, a), (vb, b)]) (sz : s.size ≤ maxLen) (dec : isDec (letters s) = true) (fit : Over (dval (letters s))) (fa : Fits a) (t1 : tx a = sa) (t2 : tx b = sb) (h1 : a < b) (g1 : sa.size = sb.size) (g2 : Op.bytesLess sa.toList sb.toList = true) :
    Calls Tryd.prog 9 #[va, vb, .string s] w0 fun e w' => e = .returned (.bool true) ∧ Below w0.heap.size w0 w' := by
  have S : St w0 w0 [(va, a), (vb, b)] := ⟨Below.refl _ _, hL⟩
  have Bsz := Bx.mk sz
  have Bdec := Bx.mk dec
  have Bfit := Bx.mk fit
  have Bfa := Bx.mk fa
  have Bt1 := Bx.mk t1
  have Bt2 := Bx.mk t2
  have Bh1 := Bx.mk h1
  clear hL sz dec fit fa t1 t2 h1
  go_enter Tryd.func9, Tryd.ntmps9
  go_wp2_with fail
  refine Calls.mono (head_any _) ?_
  rintro e w1 ⟨rfl, hb⟩
  replace S := S.on hb
  clear hb
  go_wp2_with fail
  refine Calls.mono (parse_over s S.live Bsz.out Bdec.out Bfit.out) ?_
  rintro e w1 ⟨vn, rfl, hl, hb⟩
  replace S := S.next hl hb
  clear hl hb
  go_wp2_with fail
  refine Calls.mono (valid_ok (a := a) S.live (by simp)) ?_
  rintro e w1 ⟨rfl, rfl⟩
  go_wp2_with fail
  refine Calls.mono (valid_ok (a := b) S.live (by simp)) ?_
  rintro e w1 ⟨rfl, rfl⟩
  go_wp2_with fail
  refine Calls.mono (text_is (a := a) Bt1.out S.live (by simp)) ?_
  rintro e w1 ⟨rfl, hl, hb⟩
  replace S := S.next hl hb
  clear hl hb
  go_wp2_with fail
  refine Calls.mono (text_is (a := b) Bt2.out S.live (by simp)) ?_
  rintro e w1 ⟨rfl, hl, hb⟩
  replace S := S.next hl hb
  clear hl hb
  go_wp2_with fail
  refine Calls.mono (parse_is (n := a) Bt1.out Bfa.out S.live) ?_
  rintro e w1 ⟨vm, rfl, hl, hb⟩
  replace S := S.next hl hb
  clear hl hb
  go_wp2_with fail
  refine Calls.mono (cmp_lt (a := a) (b := b) S.live (by simp) (by simp) Bh1.out) ?_
  rintro e w1 ⟨rfl, hl, hb⟩
  replace S := S.next hl hb
  clear hl hb
  go_wp2_with fail
  refine Calls.mono (same_yes (a := a) (b := a) S.live (by simp) (by simp) rfl) ?_
  rintro e w1 ⟨rfl, hl, hb⟩
  replace S := S.next hl hb
  clear hl hb
  go_wp2
  go_ret
  exact ⟨rfl, S.below⟩
set_option maxHeartbeats 4000000 in
set_option maxRecDepth 20000 in
theorem texts_B_no {va vb : Value} {a b : Nat} {s sa sb : ByteArray} (w0 : World) (hL : Live w0 [(va, a), (vb, b)]) (sz : s.size ≤ maxLen) (dec : isDec (letters s) = false) (fa : Fits a) (t1 : tx a = sa) (t2 : tx b = sb) (h1 : a < b) (g1 : sa.size = sb.size) (g2 : Op.bytesLess sa.toList sb.toList = true) :
    Calls Tryd.prog 9 #[va, vb, .string s] w0 fun e w' => e = .returned (.bool true) ∧ Below w0.heap.size w0 w' := by
  have S : St w0 w0 [(va, a), (vb, b)] := ⟨Below.refl _ _, hL⟩
  have Bsz := Bx.mk sz
  have Bdec := Bx.mk dec
  have Bfa := Bx.mk fa
  have Bt1 := Bx.mk t1
  have Bt2 := Bx.mk t2
  have Bh1 := Bx.mk h1
  clear hL sz dec fa t1 t2 h1
  go_enter Tryd.func9, Tryd.ntmps9
  go_wp2_with fail
  refine Calls.mono (head_any _) ?_
  rintro e w1 ⟨rfl, hb⟩
  replace S := S.on hb
  clear hb
  go_wp2_with fail
  refine Calls.mono (parse_not s S.live Bsz.out Bdec.out) ?_
  rintro e w1 ⟨vn, rfl, hl, hb⟩
  replace S := S.next hl hb
  clear hl hb
  go_wp2_with fail
  refine Calls.mono (valid_ok (a := a) S.live (by simp)) ?_
  rintro e w1 ⟨rfl, rfl⟩
  go_wp2_with fail
  refine Calls.mono (valid_ok (a := b) S.live (by simp)) ?_
  rintro e w1 ⟨rfl, rfl⟩
  go_wp2_with fail
  refine Calls.mono (text_is (a := a) Bt1.out S.live (by simp)) ?_
  rintro e w1 ⟨rfl, hl, hb⟩
  replace S := S.next hl hb
  clear hl hb
  go_wp2_with fail
  refine Calls.mono (text_is (a := b) Bt2.out S.live (by simp)) ?_
  rintro e w1 ⟨rfl, hl, hb⟩
  replace S := S.next hl hb
  clear hl hb
  go_wp2_with fail
  refine Calls.mono (parse_is (n := a) Bt1.out Bfa.out S.live) ?_
  rintro e w1 ⟨vm, rfl, hl, hb⟩
  replace S := S.next hl hb
  clear hl hb
  go_wp2_with fail
  refine Calls.mono (cmp_lt (a := a) (b := b) S.live (by simp) (by simp) Bh1.out) ?_
  rintro e w1 ⟨rfl, hl, hb⟩
  replace S := S.next hl hb
  clear hl hb
  go_wp2_with fail
  refine Calls.mono (same_yes (a := a) (b := a) S.live (by simp) (by simp) rfl) ?_
  rintro e w1 ⟨rfl, hl, hb⟩
  replace S := S.next hl hb
  clear hl hb
  go_wp2
  go_ret
  exact ⟨rfl, S.below⟩
set_option maxHeartbeats 4000000 in
set_option maxRecDepth 20000 in
theorem texts_E_ok {va vb : Value} {a b : Nat} {s sa sb : ByteArray} (w0 : World) (hL : Live w0 [(va, a), (vb, b)]) (sz : s.size ≤ maxLen) (dec : isDec (letters s) = true) (fit : Fits (dval (letters s))) (t0 : tx (dval (letters s)) = s) (fa : Fits a) (t1 : tx a = sa) (t2 : tx b = sb) (h1 : a = b) (g1 : sa.size = sb.size) (g2 : Op.bytesLess sa.toList sb.toList = false) :
    Calls Tryd.prog 9 #[va, vb, .string s] w0 fun e w' => e = .returned (.bool true) ∧ Below w0.heap.size w0 w' := by
  have S : St w0 w0 [(va, a), (vb, b)] := ⟨Below.refl _ _, hL⟩
  have Bsz := Bx.mk sz
  have Bdec := Bx.mk dec
  have Bfit := Bx.mk fit
  have Bt0 := Bx.mk t0
  have Bfa := Bx.mk fa
  have Bt1 := Bx.mk t1
  have Bt2 := Bx.mk t2
  have Bh1 := Bx.mk h1
  clear hL sz dec fit t0 fa t1 t2 h1
  go_enter Tryd.func9, Tryd.ntmps9
  go_wp2_with fail
  refine Calls.mono (head_any _) ?_
  rintro e w1 ⟨rfl, hb⟩
  replace S := S.on hb
  clear hb
  go_wp2_with fail
  refine Calls.mono (parse_ok s S.live Bsz.out Bdec.out Bfit.out) ?_
  rintro e w1 ⟨vn, rfl, hl, hb⟩
  replace S := S.next hl hb
  clear hl hb
  go_wp2_with fail
  refine Calls.mono (text_is (a := dval (letters s)) Bt0.out S.live (by simp)) ?_
  rintro e w1 ⟨rfl, hl, hb⟩
  replace S := S.next hl hb
  clear hl hb
  go_wp2_with fail
  refine Calls.mono (valid_ok (a := (dval (letters s))) S.live (by simp)) ?_
  rintro e w1 ⟨rfl, rfl⟩
  go_wp2_with fail
  refine Calls.mono (valid_ok (a := a) S.live (by simp)) ?_
  rintro e w1 ⟨rfl, rfl⟩
  go_wp2_with fail
  refine Calls.mono (valid_ok (a := b) S.live (by simp)) ?_
  rintro e w1 ⟨rfl, rfl⟩
  go_wp2_with fail
  refine Calls.mono (text_is (a := a) Bt1.out S.live (by simp)) ?_
  rintro e w1 ⟨rfl, hl, hb⟩
  replace S := S.next hl hb
  clear hl hb
  go_wp2_with fail
  refine Calls.mono (text_is (a := b) Bt2.out S.live (by simp)) ?_
  rintro e w1 ⟨rfl, hl, hb⟩
  replace S := S.next hl hb
  clear hl hb
  go_wp2_with fail
  refine Calls.mono (parse_is (n := a) Bt1.out Bfa.out S.live) ?_
  rintro e w1 ⟨vm, rfl, hl, hb⟩
  replace S := S.next hl hb
  clear hl hb
  go_wp2_with fail
  refine Calls.mono (cmp_eq (a := a) (b := b) S.live (by simp) (by simp) Bh1.out) ?_
  rintro e w1 ⟨rfl, hl, hb⟩
  replace S := S.next hl hb
  clear hl hb
  go_wp2_with fail
  refine Calls.mono (same_yes (a := a) (b := a) S.live (by simp) (by simp) rfl) ?_
  rintro e w1 ⟨rfl, hl, hb⟩
  replace S := S.next hl hb
  clear hl hb
  go_wp2
  go_ret
  exact ⟨rfl, S.below⟩
set_option maxHeartbeats 4000000 in
set_option maxRecDepth 20000 in
theorem texts_E_ov {va vb : Value} {a b : Nat} {s sa sb : ByteArray} (w0 : World) (hL : Live w0 [(va, a), (vb, b)]) (sz : s.size ≤ maxLen) (dec : isDec (letters s) = true) (fit : Over (dval (letters s))) (fa : Fits a) (t1 : tx a = sa) (t2 : tx b = sb) (h1 : a = b) (g1 : sa.size = sb.size) (g2 : Op.bytesLess sa.toList sb.toList = false) :
    Calls Tryd.prog 9 #[va, vb, .string s] w0 fun e w' => e = .returned (.bool true) ∧ Below w0.heap.size w0 w' := by
  have S : St w0 w0 [(va, a), (vb, b)] := ⟨Below.refl _ _, hL⟩
  have Bsz := Bx.mk sz
  have Bdec := Bx.mk dec
  have Bfit := Bx.mk fit
  have Bfa := Bx.mk fa
  have Bt1 := Bx.mk t1
  have Bt2 := Bx.mk t2
  have Bh1 := Bx.mk h1
  clear hL sz dec fit fa t1 t2 h1
  go_enter Tryd.func9, Tryd.ntmps9
  go_wp2_with fail
  refine Calls.mono (head_any _) ?_
  rintro e w1 ⟨rfl, hb⟩
  replace S := S.on hb
  clear hb
  go_wp2_with fail
  refine Calls.mono (parse_over s S.live Bsz.out Bdec.out Bfit.out) ?_
  rintro e w1 ⟨vn, rfl, hl, hb⟩
  replace S := S.next hl hb
  clear hl hb
  go_wp2_with fail
  refine Calls.mono (valid_ok (a := a) S.live (by simp)) ?_
  rintro e w1 ⟨rfl, rfl⟩
  go_wp2_with fail
  refine Calls.mono (valid_ok (a := b) S.live (by simp)) ?_
  rintro e w1 ⟨rfl, rfl⟩
  go_wp2_with fail
  refine Calls.mono (text_is (a := a) Bt1.out S.live (by simp)) ?_
  rintro e w1 ⟨rfl, hl, hb⟩
  replace S := S.next hl hb
  clear hl hb
  go_wp2_with fail
  refine Calls.mono (text_is (a := b) Bt2.out S.live (by simp)) ?_
  rintro e w1 ⟨rfl, hl, hb⟩
  replace S := S.next hl hb
  clear hl hb
  go_wp2_with fail
  refine Calls.mono (parse_is (n := a) Bt1.out Bfa.out S.live) ?_
  rintro e w1 ⟨vm, rfl, hl, hb⟩
  replace S := S.next hl hb
  clear hl hb
  go_wp2_with fail
  refine Calls.mono (cmp_eq (a := a) (b := b) S.live (by simp) (by simp) Bh1.out) ?_
  rintro e w1 ⟨rfl, hl, hb⟩
  replace S := S.next hl hb
  clear hl hb
  go_wp2_with fail
  refine Calls.mono (same_yes (a := a) (b := a) S.live (by simp) (by simp) rfl) ?_
  rintro e w1 ⟨rfl, hl, hb⟩
  replace S := S.next hl hb
  clear hl hb
  go_wp2
  go_ret
  exact ⟨rfl, S.below⟩
set_option maxHeartbeats 4000000 in
set_option maxRecDepth 20000 in
theorem texts_E_no {va vb : Value} {a b : Nat} {s sa sb : ByteArray} (w0 : World) (hL : Live w0 [(va, a), (vb, b)]) (sz : s.size ≤ maxLen) (dec : isDec (letters s) = false) (fa : Fits a) (t1 : tx a = sa) (t2 : tx b = sb) (h1 : a = b) (g1 : sa.size = sb.size) (g2 : Op.bytesLess sa.toList sb.toList = false) :
    Calls Tryd.prog 9 #[va, vb, .string s] w0 fun e w' => e = .returned (.bool true) ∧ Below w0.heap.size w0 w' := by
  have S : St w0 w0 [(va, a), (vb, b)] := ⟨Below.refl _ _, hL⟩
  have Bsz := Bx.mk sz
  have Bdec := Bx.mk dec
  have Bfa := Bx.mk fa
  have Bt1 := Bx.mk t1
  have Bt2 := Bx.mk t2
  have Bh1 := Bx.mk h1
  clear hL sz dec fa t1 t2 h1
  go_enter Tryd.func9, Tryd.ntmps9
  go_wp2_with fail
  refine Calls.mono (head_any _) ?_
  rintro e w1 ⟨rfl, hb⟩
  replace S := S.on hb
  clear hb
  go_wp2_with fail
  refine Calls.mono (parse_not s S.live Bsz.out Bdec.out) ?_
  rintro e w1 ⟨vn, rfl, hl, hb⟩
  replace S := S.next hl hb
  clear hl hb
  go_wp2_with fail
  refine Calls.mono (valid_ok (a := a) S.live (by simp)) ?_
  rintro e w1 ⟨rfl, rfl⟩
  go_wp2_with fail
  refine Calls.mono (valid_ok (a := b) S.live (by simp)) ?_
  rintro e w1 ⟨rfl, rfl⟩
  go_wp2_with fail
  refine Calls.mono (text_is (a := a) Bt1.out S.live (by simp)) ?_
  rintro e w1 ⟨rfl, hl, hb⟩
  replace S := S.next hl hb
  clear hl hb
  go_wp2_with fail
  refine Calls.mono (text_is (a := b) Bt2.out S.live (by simp)) ?_
  rintro e w1 ⟨rfl, hl, hb⟩
  replace S := S.next hl hb
  clear hl hb
  go_wp2_with fail
  refine Calls.mono (parse_is (n := a) Bt1.out Bfa.out S.live) ?_
  rintro e w1 ⟨vm, rfl, hl, hb⟩
  replace S := S.next hl hb
  clear hl hb
  go_wp2_with fail
  refine Calls.mono (cmp_eq (a := a) (b := b) S.live (by simp) (by simp) Bh1.out) ?_
  rintro e w1 ⟨rfl, hl, hb⟩
  replace S := S.next hl hb
  clear hl hb
  go_wp2_with fail
  refine Calls.mono (same_yes (a := a) (b := a) S.live (by simp) (by simp) rfl) ?_
  rintro e w1 ⟨rfl, hl, hb⟩
  replace S := S.next hl hb
  clear hl hb
  go_wp2
  go_ret
  exact ⟨rfl, S.below⟩
set_option maxHeartbeats 4000000 in
set_option maxRecDepth 20000 in
theorem texts_F_ok {va vb : Value} {a b : Nat} {s sa sb : ByteArray} (w0 : World) (hL : Live w0 [(va, a), (vb, b)]) (sz : s.size ≤ maxLen) (dec : isDec (letters s) = true) (fit : Fits (dval (letters s))) (t0 : tx (dval (letters s)) = s) (fa : Fits a) (t1 : tx a = sa) (t2 : tx b = sb) (h1 : b < a) (g1 : sa.size = sb.size) (g2 : Op.bytesLess sa.toList sb.toList = false) :
    Calls Tryd.prog 9 #[va, vb, .string s] w0 fun e w' => e = .returned (.bool true) ∧ Below w0.heap.size w0 w' := by
  have S : St w0 w0 [(va, a), (vb, b)] := ⟨Below.refl _ _, hL⟩
  have Bsz := Bx.mk sz
  have Bdec := Bx.mk dec
  have Bfit := Bx.mk fit
  have Bt0 := Bx.mk t0
  have Bfa := Bx.mk fa
  have Bt1 := Bx.mk t1
  have Bt2 := Bx.mk t2
  have Bh1 := Bx.mk h1
  clear hL sz dec fit t0 fa t1 t2 h1
  go_enter Tryd.func9, Tryd.ntmps9
  go_wp2_with fail
  refine Calls.mono (head_any _) ?_
  rintro e w1 ⟨rfl, hb⟩
  replace S := S.on hb
  clear hb
  go_wp2_with fail
  refine Calls.mono (parse_ok s S.live Bsz.out Bdec.out Bfit.out) ?_
  rintro e w1 ⟨vn, rfl, hl, hb⟩
  replace S := S.next hl hb
  clear hl hb
  go_wp2_with fail
  refine Calls.mono (text_is (a := dval (letters s)) Bt0.out S.live (by simp)) ?_
  rintro e w1 ⟨rfl, hl, hb⟩
  replace S := S.next hl hb
  clear hl hb
  go_wp2_with fail
  refine Calls.mono (valid_ok (a := (dval (letters s))) S.live (by simp)) ?_
  rintro e w1 ⟨rfl, rfl⟩
  go_wp2_with fail
  refine Calls.mono (valid_ok (a := a) S.live (by simp)) ?_
  rintro e w1 ⟨rfl, rfl⟩
  go_wp2_with fail
  refine Calls.mono (valid_ok (a := b) S.live (by simp)) ?_
  rintro e w1 ⟨rfl, rfl⟩
  go_wp2_with fail
  refine Calls.mono (text_is (a := a) Bt1.out S.live (by simp)) ?_
  rintro e w1 ⟨rfl, hl, hb⟩
  replace S := S.next hl hb
  clear hl hb
  go_wp2_with fail
  refine Calls.mono (text_is (a := b) Bt2.out S.live (by simp)) ?_
  rintro e w1 ⟨rfl, hl, hb⟩
  replace S := S.next hl hb
  clear hl hb
  go_wp2_with fail
  refine Calls.mono (parse_is (n := a) Bt1.out Bfa.out S.live) ?_
  rintro e w1 ⟨vm, rfl, hl, hb⟩
  replace S := S.next hl hb
  clear hl hb
  go_wp2_with fail
  refine Calls.mono (cmp_gt (a := a) (b := b) S.live (by simp) (by simp) Bh1.out) ?_
  rintro e w1 ⟨rfl, hl, hb⟩
  replace S := S.next hl hb
  clear hl hb
  go_wp2_with fail
  refine Calls.mono (same_yes (a := a) (b := a) S.live (by simp) (by simp) rfl) ?_
  rintro e w1 ⟨rfl, hl, hb⟩
  replace S := S.next hl hb
  clear hl hb
  go_wp2
  go_ret
  exact ⟨rfl, S.below⟩
set_option maxHeartbeats 4000000 in
set_option maxRecDepth 20000 in
theorem texts_F_ov {va vb : Value} {a b : Nat} {s sa sb : ByteArray} (w0 : World) (hL : Live w0 [(va, a), (vb, b)]) (sz : s.size ≤ maxLen) (dec : isDec (letters s) = true) (fit : Over (dval (letters s))) (fa : Fits a) (t1 : tx a = sa) (t2 : tx b = sb) (h1 : b < a) (g1 : sa.size = sb.size) (g2 : Op.bytesLess sa.toList sb.toList = false) :
    Calls Tryd.prog 9 #[va, vb, .string s] w0 fun e w' => e = .returned (.bool true) ∧ Below w0.heap.size w0 w' := by
  have S : St w0 w0 [(va, a), (vb, b)] := ⟨Below.refl _ _, hL⟩
  have Bsz := Bx.mk sz
  have Bdec := Bx.mk dec
  have Bfit := Bx.mk fit
  have Bfa := Bx.mk fa
  have Bt1 := Bx.mk t1
  have Bt2 := Bx.mk t2
  have Bh1 := Bx.mk h1
  clear hL sz dec fit fa t1 t2 h1
  go_enter Tryd.func9, Tryd.ntmps9
  go_wp2_with fail
  refine Calls.mono (head_any _) ?_
  rintro e w1 ⟨rfl, hb⟩
  replace S := S.on hb
  clear hb
  go_wp2_with fail
  refine Calls.mono (parse_over s S.live Bsz.out Bdec.out Bfit.out) ?_
  rintro e w1 ⟨vn, rfl, hl, hb⟩
  replace S := S.next hl hb
  clear hl hb
  go_wp2_with fail
  refine Calls.mono (valid_ok (a := a) S.live (by simp)) ?_
  rintro e w1 ⟨rfl, rfl⟩
  go_wp2_with fail
  refine Calls.mono (valid_ok (a := b) S.live (by simp)) ?_
  rintro e w1 ⟨rfl, rfl⟩
  go_wp2_with fail
  refine Calls.mono (text_is (a := a) Bt1.out S.live (by simp)) ?_
  rintro e w1 ⟨rfl, hl, hb⟩
  replace S := S.next hl hb
  clear hl hb
  go_wp2_with fail
  refine Calls.mono (text_is (a := b) Bt2.out S.live (by simp)) ?_
  rintro e w1 ⟨rfl, hl, hb⟩
  replace S := S.next hl hb
  clear hl hb
  go_wp2_with fail
  refine Calls.mono (parse_is (n := a) Bt1.out Bfa.out S.live) ?_
  rintro e w1 ⟨vm, rfl, hl, hb⟩
  replace S := S.next hl hb
  clear hl hb
  go_wp2_with fail
  refine Calls.mono (cmp_gt (a := a) (b := b) S.live (by simp) (by simp) Bh1.out) ?_
  rintro e w1 ⟨rfl, hl, hb⟩
  replace S := S.next hl hb
  clear hl hb
  go_wp2_with fail
  refine Calls.mono (same_yes (a := a) (b := a) S.live (by simp) (by simp) rfl) ?_
  rintro e w1 ⟨rfl, hl, hb⟩
  replace S := S.next hl hb
  clear hl hb
  go_wp2
  go_ret
  exact ⟨rfl, S.below⟩
set_option maxHeartbeats 4000000 in
set_option maxRecDepth 20000 in
theorem texts_F_no {va vb : Value} {a b : Nat} {s sa sb : ByteArray} (w0 : World) (hL : Live w0 [(va, a), (vb, b)]) (sz : s.size ≤ maxLen) (dec : isDec (letters s) = false) (fa : Fits a) (t1 : tx a = sa) (t2 : tx b = sb) (h1 : b < a) (g1 : sa.size = sb.size) (g2 : Op.bytesLess sa.toList sb.toList = false) :
    Calls Tryd.prog 9 #[va, vb, .string s] w0 fun e w' => e = .returned (.bool true) ∧ Below w0.heap.size w0 w' := by
  have S : St w0 w0 [(va, a), (vb, b)] := ⟨Below.refl _ _, hL⟩
  have Bsz := Bx.mk sz
  have Bdec := Bx.mk dec
  have Bfa := Bx.mk fa
  have Bt1 := Bx.mk t1
  have Bt2 := Bx.mk t2
  have Bh1 := Bx.mk h1
  clear hL sz dec fa t1 t2 h1
  go_enter Tryd.func9, Tryd.ntmps9
  go_wp2_with fail
  refine Calls.mono (head_any _) ?_
  rintro e w1 ⟨rfl, hb⟩
  replace S := S.on hb
  clear hb
  go_wp2_with fail
  refine Calls.mono (parse_not s S.live Bsz.out Bdec.out) ?_
  rintro e w1 ⟨vn, rfl, hl, hb⟩
  replace S := S.next hl hb
  clear hl hb
  go_wp2_with fail
  refine Calls.mono (valid_ok (a := a) S.live (by simp)) ?_
  rintro e w1 ⟨rfl, rfl⟩
  go_wp2_with fail
  refine Calls.mono (valid_ok (a := b) S.live (by simp)) ?_
  rintro e w1 ⟨rfl, rfl⟩
  go_wp2_with fail
  refine Calls.mono (text_is (a := a) Bt1.out S.live (by simp)) ?_
  rintro e w1 ⟨rfl, hl, hb⟩
  replace S := S.next hl hb
  clear hl hb
  go_wp2_with fail
  refine Calls.mono (text_is (a := b) Bt2.out S.live (by simp)) ?_
  rintro e w1 ⟨rfl, hl, hb⟩
  replace S := S.next hl hb
  clear hl hb
  go_wp2_with fail
  refine Calls.mono (parse_is (n := a) Bt1.out Bfa.out S.live) ?_
  rintro e w1 ⟨vm, rfl, hl, hb⟩
  replace S := S.next hl hb
  clear hl hb
  go_wp2_with fail
  refine Calls.mono (cmp_gt (a := a) (b := b) S.live (by simp) (by simp) Bh1.out) ?_
  rintro e w1 ⟨rfl, hl, hb⟩
  replace S := S.next hl hb
  clear hl hb
  go_wp2_with fail
  refine Calls.mono (same_yes (a := a) (b := a) S.live (by simp) (by simp) rfl) ?_
  rintro e w1 ⟨rfl, hl, hb⟩
  replace S := S.next hl hb
  clear hl hb
  go_wp2
  go_ret
  exact ⟨rfl, S.below⟩
set_option maxHeartbeats 4000000 in
set_option maxRecDepth 20000 in
theorem texts_C_ok {va vb : Value} {a b : Nat} {s sa sb : ByteArray} (w0 : World) (hL : Live w0 [(va, a), (vb, b)]) (sz : s.size ≤ maxLen) (dec : isDec (letters s) = true) (fit : Fits (dval (letters s))) (t0 : tx (dval (letters s)) = s) (fa : Fits a) (t1 : tx a = sa) (t2 : tx b = sb) (h1 : b < a) (g1 : sb.size < sa.size) (g3 : ¬ sa.size < sb.size) :
    Calls Tryd.prog 9 #[va, vb, .string s] w0 fun e w' => e = .returned (.bool true) ∧ Below w0.heap.size w0 w' := by
  have S : St w0 w0 [(va, a), (vb, b)] := ⟨Below.refl _ _, hL⟩
  have Bsz := Bx.mk sz
  have Bdec := Bx.mk dec
  have Bfit := Bx.mk fit
  have Bt0 := Bx.mk t0
  have Bfa := Bx.mk fa
  have Bt1 := Bx.mk t1
  have Bt2 := Bx.mk t2
  have Bh1 := Bx.mk h1
  clear hL sz dec fit t0 fa t1 t2 h1
  go_enter Tryd.func9, Tryd.ntmps9
  go_wp2_with fail
  refine Calls.mono (head_any _) ?_
  rintro e w1 ⟨rfl, hb⟩
  replace S := S.on hb
  clear hb
  go_wp2_with fail
  refine Calls.mono (parse_ok s S.live Bsz.out Bdec.out Bfit.out) ?_
  rintro e w1 ⟨vn, rfl, hl, hb⟩
  replace S := S.next hl hb
  clear hl hb
  go_wp2_with fail
  refine Calls.mono (text_is (a := dval (letters s)) Bt0.out S.live (by simp)) ?_
  rintro e w1 ⟨rfl, hl, hb⟩
  replace S := S.next hl hb
  clear hl hb
  go_wp2_with fail
  refine Calls.mono (valid_ok (a := (dval (letters s))) S.live (by simp)) ?_
  rintro e w1 ⟨rfl, rfl⟩
  go_wp2_with fail
  refine Calls.mono (valid_ok (a := a) S.live (by simp)) ?_
  rintro e w1 ⟨rfl, rfl⟩
  go_wp2_with fail
  refine Calls.mono (valid_ok (a := b) S.live (by simp)) ?_
  rintro e w1 ⟨rfl, rfl⟩
  go_wp2_with fail
  refine Calls.mono (text_is (a := a) Bt1.out S.live (by simp)) ?_
  rintro e w1 ⟨rfl, hl, hb⟩
  replace S := S.next hl hb
  clear hl hb
  go_wp2_with fail
  refine Calls.mono (text_is (a := b) Bt2.out S.live (by simp)) ?_
  rintro e w1 ⟨rfl, hl, hb⟩
  replace S := S.next hl hb
  clear hl hb
  go_wp2_with fail
  refine Calls.mono (parse_is (n := a) Bt1.out Bfa.out S.live) ?_
  rintro e w1 ⟨vm, rfl, hl, hb⟩
  replace S := S.next hl hb
  clear hl hb
  go_wp2_with fail
  refine Calls.mono (cmp_gt (a := a) (b := b) S.live (by simp) (by simp) Bh1.out) ?_
  rintro e w1 ⟨rfl, hl, hb⟩
  replace S := S.next hl hb
  clear hl hb
  go_wp2_with fail
  refine Calls.mono (same_yes (a := a) (b := a) S.live (by simp) (by simp) rfl) ?_
  rintro e w1 ⟨rfl, hl, hb⟩
  replace S := S.next hl hb
  clear hl hb
  go_wp2
  go_ret
  exact ⟨rfl, S.below⟩
set_option maxHeartbeats 4000000 in
set_option maxRecDepth 20000 in
theorem texts_C_ov {va vb : Value} {a b : Nat} {s sa sb : ByteArray} (w0 : World) (hL : Live w0 [(va, a), (vb, b)]) (sz : s.size ≤ maxLen) (dec : isDec (letters s) = true) (fit : Over (dval (letters s))) (fa : Fits a) (t1 : tx a = sa) (t2 : tx b = sb) (h1 : b < a) (g1 : sb.size < sa.size) (g3 : ¬ sa.size < sb.size) :
    Calls Tryd.prog 9 #[va, vb, .string s] w0 fun e w' => e = .returned (.bool true) ∧ Below w0.heap.size w0 w' := by
  have S : St w0 w0 [(va, a), (vb, b)] := ⟨Below.refl _ _, hL⟩
  have Bsz := Bx.mk sz
  have Bdec := Bx.mk dec
  have Bfit := Bx.mk fit
  have Bfa := Bx.mk fa
  have Bt1 := Bx.mk t1
  have Bt2 := Bx.mk t2
  have Bh1 := Bx.mk h1
  clear hL sz dec fit fa t1 t2 h1
  go_enter Tryd.func9, Tryd.ntmps9
  go_wp2_with fail
  refine Calls.mono (head_any _) ?_
  rintro e w1 ⟨rfl, hb⟩
  replace S := S.on hb
  clear hb
  go_wp2_with fail
  refine Calls.mono (parse_over s S.live Bsz.out Bdec.out Bfit.out) ?_
  rintro e w1 ⟨vn, rfl, hl, hb⟩
  replace S := S.next hl hb
  clear hl hb
  go_wp2_with fail
  refine Calls.mono (valid_ok (a := a) S.live (by simp)) ?_
  rintro e w1 ⟨rfl, rfl⟩
  go_wp2_with fail
  refine Calls.mono (valid_ok (a := b) S.live (by simp)) ?_
  rintro e w1 ⟨rfl, rfl⟩
  go_wp2_with fail
  refine Calls.mono (text_is (a := a) Bt1.out S.live (by simp)) ?_
  rintro e w1 ⟨rfl, hl, hb⟩
  replace S := S.next hl hb
  clear hl hb
  go_wp2_with fail
  refine Calls.mono (text_is (a := b) Bt2.out S.live (by simp)) ?_
  rintro e w1 ⟨rfl, hl, hb⟩
  replace S := S.next hl hb
  clear hl hb
  go_wp2_with fail
  refine Calls.mono (parse_is (n := a) Bt1.out Bfa.out S.live) ?_
  rintro e w1 ⟨vm, rfl, hl, hb⟩
  replace S := S.next hl hb
  clear hl hb
  go_wp2_with fail
  refine Calls.mono (cmp_gt (a := a) (b := b) S.live (by simp) (by simp) Bh1.out) ?_
  rintro e w1 ⟨rfl, hl, hb⟩
  replace S := S.next hl hb
  clear hl hb
  go_wp2_with fail
  refine Calls.mono (same_yes (a := a) (b := a) S.live (by simp) (by simp) rfl) ?_
  rintro e w1 ⟨rfl, hl, hb⟩
  replace S := S.next hl hb
  clear hl hb
  go_wp2
  go_ret
  exact ⟨rfl, S.below⟩
set_option maxHeartbeats 4000000 in
set_option maxRecDepth 20000 in
theorem texts_C_no {va vb : Value} {a b : Nat} {s sa sb : ByteArray} (w0 : World) (hL : Live w0 [(va, a), (vb, b)]) (sz : s.size ≤ maxLen) (dec : isDec (letters s) = false) (fa : Fits a) (t1 : tx a = sa) (t2 : tx b = sb) (h1 : b < a) (g1 : sb.size < sa.size) (g3 : ¬ sa.size < sb.size) :
    Calls Tryd.prog 9 #[va, vb, .string s] w0 fun e w' => e = .returned (.bool true) ∧ Below w0.heap.size w0 w' := by
  have S : St w0 w0 [(va, a), (vb, b)] := ⟨Below.refl _ _, hL⟩
  have Bsz := Bx.mk sz
  have Bdec := Bx.mk dec
  have Bfa := Bx.mk fa
  have Bt1 := Bx.mk t1
  have Bt2 := Bx.mk t2
  have Bh1 := Bx.mk h1
  clear hL sz dec fa t1 t2 h1
  go_enter Tryd.func9, Tryd.ntmps9
  go_wp2_with fail
  refine Calls.mono (head_any _) ?_
  rintro e w1 ⟨rfl, hb⟩
  replace S := S.on hb
  clear hb
  go_wp2_with fail
  refine Calls.mono (parse_not s S.live Bsz.out Bdec.out) ?_
  rintro e w1 ⟨vn, rfl, hl, hb⟩
  replace S := S.next hl hb
  clear hl hb
  go_wp2_with fail
  refine Calls.mono (valid_ok (a := a) S.live (by simp)) ?_
  rintro e w1 ⟨rfl, rfl⟩
  go_wp2_with fail
  refine Calls.mono (valid_ok (a := b) S.live (by simp)) ?_
  rintro e w1 ⟨rfl, rfl⟩
  go_wp2_with fail
  refine Calls.mono (text_is (a := a) Bt1.out S.live (by simp)) ?_
  rintro e w1 ⟨rfl, hl, hb⟩
  replace S := S.next hl hb
  clear hl hb
  go_wp2_with fail
  refine Calls.mono (text_is (a := b) Bt2.out S.live (by simp)) ?_
  rintro e w1 ⟨rfl, hl, hb⟩
  replace S := S.next hl hb
  clear hl hb
  go_wp2_with fail
  refine Calls.mono (parse_is (n := a) Bt1.out Bfa.out S.live) ?_
  rintro e w1 ⟨vm, rfl, hl, hb⟩
  replace S := S.next hl hb
  clear hl hb
  go_wp2_with fail
  refine Calls.mono (cmp_gt (a := a) (b := b) S.live (by simp) (by simp) Bh1.out) ?_
  rintro e w1 ⟨rfl, hl, hb⟩
  replace S := S.next hl hb
  clear hl hb
  go_wp2_with fail
  refine Calls.mono (same_yes (a := a) (b := a) S.live (by simp) (by simp) rfl) ?_
  rintro e w1 ⟨rfl, hl, hb⟩
  replace S := S.next hl hb
  clear hl hb
  go_wp2
  go_ret
  exact ⟨rfl, S.below⟩
set_option maxHeartbeats 4000000 in
set_option maxRecDepth 20000 in
theorem texts_bad1_ok {va vb : Value} {s : ByteArray} (w0 : World) (hL : Live w0 []) (sz : s.size ≤ maxLen) (dec : isDec (letters s) = true) (fit : Fits (dval (letters s))) (t0 : tx (dval (letters s)) = s) (h : ∀ w', Below w0.heap.size w0 w' → Calls Tryd.prog 13 #[va] w' fun e w2 => e = .returned (.bool false) ∧ w' = w2) :
    Calls Tryd.prog 9 #[va, vb, .string s] w0 fun e w' => e = .returned (.bool true) ∧ Below w0.heap.size w0 w' := by
  have S : St w0 w0 [] := ⟨Below.refl _ _, hL⟩
  have Bsz := Bx.mk sz
  have Bdec := Bx.mk dec
  have Bfit := Bx.mk fit
  have Bt0 := Bx.mk t0
  have Bh := Bx.mk h
  clear hL sz dec fit t0 h
  go_enter Tryd.func9, Tryd.ntmps9
  go_wp2_with fail
  refine Calls.mono (head_any _) ?_
  rintro e w1 ⟨rfl, hb⟩
  replace S := S.on hb
  clear hb
  go_wp2_with fail
  refine Calls.mono (parse_ok s S.live Bsz.out Bdec.out Bfit.out) ?_
  rintro e w1 ⟨vn, rfl, hl, hb⟩
  replace S := S.next hl hb
  clear hl hb
  go_wp2_with fail
  refine Calls.mono (text_is (a := dval (letters s)) Bt0.out S.live (by simp)) ?_
  rintro e w1 ⟨rfl, hl, hb⟩
  replace S := S.next hl hb
  clear hl hb
  go_wp2_with fail
  refine Calls.mono (valid_ok (a := (dval (letters s))) S.live (by simp)) ?_
  rintro e w1 ⟨rfl, rfl⟩
  go_wp2_with fail
  refine Calls.mono (Bh.out _ S.below) ?_
  rintro e w1 ⟨rfl, rfl⟩
  go_wp2
  go_ret
  exact ⟨rfl, S.below⟩
set_option maxHeartbeats 4000000 in
set_option maxRecDepth 20000 in
theorem texts_bad2_ok {va vb : Value} {a : Nat} {s : ByteArray} (w0 : World) (hL : Live w0 [(va, a)]) (sz : s.size ≤ maxLen) (dec : isDec (letters s) = true) (fit : Fits (dval (letters s))) (t0 : tx (dval (letters s)) = s) (h : ∀ w', Below w0.heap.size w0 w' → Calls Tryd.prog 13 #[vb] w' fun e w2 => e = .returned (.bool false) ∧ w' = w2) :
    Calls Tryd.prog 9 #[va, vb, .string s] w0 fun e w' => e = .returned (.bool true) ∧ Below w0.heap.size w0 w' := by
  have S : St w0 w0 [(va, a)] := ⟨Below.refl _ _, hL⟩
  have Bsz := Bx.mk sz
  have Bdec := Bx.mk dec
  have Bfit := Bx.mk fit
  have Bt0 := Bx.mk t0
  have Bh := Bx.mk h
  clear hL sz dec fit t0 h
  go_enter Tryd.func9, Tryd.ntmps9
  go_wp2_with fail
  refine Calls.mono (head_any _) ?_
  rintro e w1 ⟨rfl, hb⟩
  replace S := S.on hb
  clear hb
  go_wp2_with fail
  refine Calls.mono (parse_ok s S.live Bsz.out Bdec.out Bfit.out) ?_
  rintro e w1 ⟨vn, rfl, hl, hb⟩
  replace S := S.next hl hb
  clear hl hb
  go_wp2_with fail
  refine Calls.mono (text_is (a := dval (letters s)) Bt0.out S.live (by simp)) ?_
  rintro e w1 ⟨rfl, hl, hb⟩
  replace S := S.next hl hb
  clear hl hb
  go_wp2_with fail
  refine Calls.mono (valid_ok (a := (dval (letters s))) S.live (by simp)) ?_
  rintro e w1 ⟨rfl, rfl⟩
  go_wp2_with fail
  refine Calls.mono (valid_ok (a := a) S.live (by simp)) ?_
  rintro e w1 ⟨rfl, rfl⟩
  go_wp2_with fail
  refine Calls.mono (Bh.out _ S.below) ?_
  rintro e w1 ⟨rfl, rfl⟩
  go_wp2
  go_ret
  exact ⟨rfl, S.below⟩
set_option maxHeartbeats 4000000 in
set_option maxRecDepth 20000 in
theorem texts_bad1_ov {va vb : Value} {s : ByteArray} (w0 : World) (hL : Live w0 []) (sz : s.size ≤ maxLen) (dec : isDec (letters s) = true) (fit : Over (dval (letters s))) (h : ∀ w', Below w0.heap.size w0 w' → Calls Tryd.prog 13 #[va] w' fun e w2 => e = .returned (.bool false) ∧ w' = w2) :
    Calls Tryd.prog 9 #[va, vb, .string s] w0 fun e w' => e = .returned (.bool true) ∧ Below w0.heap.size w0 w' := by
  have S : St w0 w0 [] := ⟨Below.refl _ _, hL⟩
  have Bsz := Bx.mk sz
  have Bdec := Bx.mk dec
  have Bfit := Bx.mk fit
  have Bh := Bx.mk h
  clear hL sz dec fit h
  go_enter Tryd.func9, Tryd.ntmps9
  go_wp2_with fail
  refine Calls.mono (head_any _) ?_
  rintro e w1 ⟨rfl, hb⟩
  replace S := S.on hb
  clear hb
  go_wp2_with fail
  refine Calls.mono (parse_over s S.live Bsz.out Bdec.out Bfit.out) ?_
  rintro e w1 ⟨vn, rfl, hl, hb⟩
  replace S := S.next hl hb
  clear hl hb
  go_wp2_with fail
  refine Calls.mono (Bh.out _ S.below) ?_
  rintro e w1 ⟨rfl, rfl⟩
  go_wp2
  go_ret
  exact ⟨rfl, S.below⟩
set_option maxHeartbeats 4000000 in
set_option maxRecDepth 20000 in
theorem texts_bad2_ov {va vb : Value} {a : Nat} {s : ByteArray} (w0 : World) (hL : Live w0 [(va, a)]) (sz : s.size ≤ maxLen) (dec : isDec (letters s) = true) (fit : Over (dval (letters s))) (h : ∀ w', Below w0.heap.size w0 w' → Calls Tryd.prog 13 #[vb] w' fun e w2 => e = .returned (.bool false) ∧ w' = w2) :
    Calls Tryd.prog 9 #[va, vb, .string s] w0 fun e w' => e = .returned (.bool true) ∧ Below w0.heap.size w0 w' := by
  have S : St w0 w0 [(va, a)] := ⟨Below.refl _ _, hL⟩
  have Bsz := Bx.mk sz
  have Bdec := Bx.mk dec
  have Bfit := Bx.mk fit
  have Bh := Bx.mk h
  clear hL sz dec fit h
  go_enter Tryd.func9, Tryd.ntmps9
  go_wp2_with fail
  refine Calls.mono (head_any _) ?_
  rintro e w1 ⟨rfl, hb⟩
  replace S := S.on hb
  clear hb
  go_wp2_with fail
  refine Calls.mono (parse_over s S.live Bsz.out Bdec.out Bfit.out) ?_
  rintro e w1 ⟨vn, rfl, hl, hb⟩
  replace S := S.next hl hb
  clear hl hb
  go_wp2_with fail
  refine Calls.mono (valid_ok (a := a) S.live (by simp)) ?_
  rintro e w1 ⟨rfl, rfl⟩
  go_wp2_with fail
  refine Calls.mono (Bh.out _ S.below) ?_
  rintro e w1 ⟨rfl, rfl⟩
  go_wp2
  go_ret
  exact ⟨rfl, S.below⟩
set_option maxHeartbeats 4000000 in
set_option maxRecDepth 20000 in
theorem texts_bad1_no {va vb : Value} {s : ByteArray} (w0 : World) (hL : Live w0 []) (sz : s.size ≤ maxLen) (dec : isDec (letters s) = false) (h : ∀ w', Below w0.heap.size w0 w' → Calls Tryd.prog 13 #[va] w' fun e w2 => e = .returned (.bool false) ∧ w' = w2) :
    Calls Tryd.prog 9 #[va, vb, .string s] w0 fun e w' => e = .returned (.bool true) ∧ Below w0.heap.size w0 w' := by
  have S : St w0 w0 [] := ⟨Below.refl _ _, hL⟩
  have Bsz := Bx.mk sz
  have Bdec := Bx.mk dec
  have Bh := Bx.mk h
  clear hL sz dec h
  go_enter Tryd.func9, Tryd.ntmps9
  go_wp2_with fail
  refine Calls.mono (head_any _) ?_
  rintro e w1 ⟨rfl, hb⟩
  replace S := S.on hb
  clear hb
  go_wp2_with fail
  refine Calls.mono (parse_not s S.live Bsz.out Bdec.out) ?_
  rintro e w1 ⟨vn, rfl, hl, hb⟩
  replace S := S.next hl hb
  clear hl hb
  go_wp2_with fail
  refine Calls.mono (Bh.out _ S.below) ?_
  rintro e w1 ⟨rfl, rfl⟩
  go_wp2
  go_ret
  exact ⟨rfl, S.below⟩
set_option maxHeartbeats 4000000 in
set_option maxRecDepth 20000 in
theorem texts_bad2_no {va vb : Value} {a : Nat} {s : ByteArray} (w0 : World) (hL : Live w0 [(va, a)]) (sz : s.size ≤ maxLen) (dec : isDec (letters s) = false) (h : ∀ w', Below w0.heap.size w0 w' → Calls Tryd.prog 13 #[vb] w' fun e w2 => e = .returned (.bool false) ∧ w' = w2) :
    Calls Tryd.prog 9 #[va, vb, .string s] w0 fun e w' => e = .returned (.bool true) ∧ Below w0.heap.size w0 w' := by
  have S : St w0 w0 [(va, a)] := ⟨Below.refl _ _, hL⟩
  have Bsz := Bx.mk sz
  have Bdec := Bx.mk dec
  have Bh := Bx.mk h
  clear hL sz dec h
  go_enter Tryd.func9, Tryd.ntmps9
  go_wp2_with fail
  refine Calls.mono (head_any _) ?_
  rintro e w1 ⟨rfl, hb⟩
  replace S := S.on hb
  clear hb
  go_wp2_with fail
  refine Calls.mono (parse_not s S.live Bsz.out Bdec.out) ?_
  rintro e w1 ⟨vn, rfl, hl, hb⟩
  replace S := S.next hl hb
  clear hl hb
  go_wp2_with fail
  refine Calls.mono (valid_ok (a := a) S.live (by simp)) ?_
  rintro e w1 ⟨rfl, rfl⟩
  go_wp2_with fail
  refine Calls.mono (Bh.out _ S.below) ?_
  rintro e w1 ⟨rfl, rfl⟩
  go_wp2
  go_ret
  exact ⟨rfl, S.below⟩
theorem texts_all {va vb : Value} {s : ByteArray} (w0 : World) (h0 : (∃ n, Nm w0 va n) ∨ ∀ w', Below w0.heap.size w0 w' → Calls Tryd.prog 13 #[va] w' fun e w2 => e = .returned (.bool false) ∧ w' = w2)
    (h1 : (∃ n, Nm w0 vb n) ∨ ∀ w', Below w0.heap.size w0 w' → Calls Tryd.prog 13 #[vb] w' fun e w2 => e = .returned (.bool false) ∧ w' = w2) (sz : s.size ≤ maxLen) :
    Calls Tryd.prog 9 #[va, vb, .string s] w0 fun e w' => e = .returned (.bool true) ∧ Below w0.heap.size w0 w' := by
  have sc : (isDec (letters s) = true ∧ Fits (dval (letters s))) ∨ (isDec (letters s) = true ∧ Over (dval (letters s))) ∨ isDec (letters s) = false := by
    cases hd : isDec (letters s)
    · exact Or.inr (Or.inr rfl)
    · rcases fits_or (dval (letters s)) with h | h
      · exact Or.inl ⟨rfl, h⟩
      · exact Or.inr (Or.inl ⟨rfl, h⟩)
  rcases h0 with ⟨a, ha⟩ | h0
  · rcases h1 with ⟨b, hb⟩ | h1
    · have hL : Live w0 [(va, a), (vb, b)] := fun p hp => by simp at hp; rcases hp with rfl | rfl <;> assumption
      have hiff := text_order a b
      rw [← tx_toList, ← tx_toList, ← tx_size, ← tx_size] at hiff
      have hrev := text_order b a
      rw [← tx_toList, ← tx_toList, ← tx_size, ← tx_size] at hrev
      rcases Nat.lt_trichotomy a b with h | h | h
      · rcases hiff.2 h with g | ⟨g, g2⟩
        · rcases sc with ⟨d, f⟩ | ⟨d, f⟩ | d
          · exact texts_A_ok w0 hL sz d f (tx_dval d) ha.fits rfl rfl h g
          · exact texts_A_ov w0 hL sz d f ha.fits rfl rfl h g
          · exact texts_A_no w0 hL sz d ha.fits rfl rfl h g
        · rcases sc with ⟨d, f⟩ | ⟨d, f⟩ | d
          · exact texts_B_ok w0 hL sz d f (tx_dval d) ha.fits rfl rfl h g g2
          · exact texts_B_ov w0 hL sz d f ha.fits rfl rfl h g g2
          · exact texts_B_no w0 hL sz d ha.fits rfl rfl h g g2
      · have g : (tx a).size = (tx b).size := by rw [h]
        have g2 : Op.bytesLess (tx a).toList (tx b).toList = false := by
          cases hq : Op.bytesLess (tx a).toList (tx b).toList
          · rfl
          · have := hiff.1 (Or.inr ⟨g, hq⟩); omega
        rcases sc with ⟨d, f⟩ | ⟨d, f⟩ | d
        · exact texts_E_ok w0 hL sz d f (tx_dval d) ha.fits rfl rfl h g g2
        · exact texts_E_ov w0 hL sz d f ha.fits rfl rfl h g g2
        · exact texts_E_no w0 hL sz d ha.fits rfl rfl h g g2
      · rcases hrev.2 h with g | ⟨g, -⟩
        · rcases sc with ⟨d, f⟩ | ⟨d, f⟩ | d
          · exact texts_C_ok w0 hL sz d f (tx_dval d) ha.fits rfl rfl h g (by omega)
          · exact texts_C_ov w0 hL sz d f ha.fits rfl rfl h g (by omega)
          · exact texts_C_no w0 hL sz d ha.fits rfl rfl h g (by omega)
        · have g2 : Op.bytesLess (tx a).toList (tx b).toList = false := by
            cases hq : Op.bytesLess (tx a).toList (tx b).toList
            · rfl
            · have := hiff.1 (Or.inr ⟨g.symm, hq⟩); omega
          rcases sc with ⟨d, f⟩ | ⟨d, f⟩ | d
          · exact texts_F_ok w0 hL sz d f (tx_dval d) ha.fits rfl rfl h g.symm g2
          · exact texts_F_ov w0 hL sz d f ha.fits rfl rfl h g.symm g2
          · exact texts_F_no w0 hL sz d ha.fits rfl rfl h g.symm g2
    · have hL : Live w0 [(va, a)] := fun p hp => by simp at hp; subst hp; exact ha
      rcases sc with ⟨d, f⟩ | ⟨d, f⟩ | d
      · exact texts_bad2_ok w0 hL sz d f (tx_dval d) h1
      · exact texts_bad2_ov w0 hL sz d f h1
      · exact texts_bad2_no w0 hL sz d h1
  · have hL : Live w0 [] := fun p hp => by cases hp
    rcases sc with ⟨d, f⟩ | ⟨d, f⟩ | d
    · exact texts_bad1_ok w0 hL sz d f (tx_dval d) h0
    · exact texts_bad1_ov w0 hL sz d f h0
    · exact texts_bad1_no w0 hL sz d h0
end Go.Proofs.YtegjhkjmejckdaaDoor

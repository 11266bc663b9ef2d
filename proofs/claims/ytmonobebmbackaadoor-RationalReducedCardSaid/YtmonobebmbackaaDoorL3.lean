/- RationalReduced, walked. -/
import Derived.Test.YtmonobebmbackaaDoorL0
namespace Go.Proofs.YtmonobebmbackaaDoor
open Go.RowKit M
theorem makeQ_scaled (a b k : Int) (hk : k ≠ 0) : makeQ (a * k) (b * k) = makeQ a b := by
  unfold makeQ
  by_cases hb : b = 0
  · rw [if_pos hb, if_pos (by rw [hb]; omega)]
  · rw [if_neg hb, if_neg (Int.mul_ne_zero hb hk), Rat.divInt_mul_right hk]
theorem makeQ_value {n d x y : Int} (h : makeQ n d = ⟨x, y, 0⟩) : validQ x y = true ∧ x * d = n * y := by
  by_cases hd : d = 0
  · rw [makeQ, if_pos hd] at h; cases h
  · rw [makeQ_rat n d hd] at h
    obtain ⟨hf, rfl, rfl⟩ := rep_eq h
    refine ⟨valid_rat _ hf, ?_⟩
    have e := Rat.num_divInt_den (Rat.divInt n d)
    exact (Rat.divInt_eq_divInt_iff (den_ne _) hd).1 e
theorem prod_48 {x y : Int} (h1 : -2147483648 ≤ x) (h2 : x ≤ 2147483647) (h3 : -32768 ≤ y) (h4 : y ≤ 32767) : -140737488355328 ≤ x * y ∧ x * y ≤ 140737488355328 := by
  have h : (x * y).natAbs ≤ 2147483648 * 32768 := by
    rw [Int.natAbs_mul]; exact Nat.mul_le_mul (by omega) (by omega)
  omega
theorem reduced_ok_z (n d a b k : Int) (w : World) (ht : Tb w) (i1 : I64 n) (i2 : I64 d) (x1 x2 : Int) (h1 : makeQ n d = ⟨x1, x2, 0⟩) (hk : k = 0) :
    Calls Tryd.prog 3 #[.int .i64 n, .int .i64 d, .int .i32 a, .int .i32 b, .int .i16 k] w fun e w' => e = .returned (.bool true) ∧ Below w.heap.size w w' := by
  obtain ⟨hv, hx⟩ := makeQ_value h1
  have ix := makeQ_i64 n d
  rw [h1] at ix
  have S : Bx (St w w []) := ⟨⟨Below.refl _ _, ht, fun t h => by cases h⟩⟩
  go_enter Tryd.func3, Tryd.ntmps3
  go_wp2_with fail
  refine (head_any _ S.out.tb).mono ?_
  rintro e w1 ⟨rfl, hb⟩
  have S := Bx.mk (S.out.call hb)
  clear hb
  go_wp2_with fail
  refine (make_any n d _ _ i1 i2 h1).mono ?_
  rintro e w2 ⟨rfl, hb⟩
  have S := Bx.mk (S.out.call hb)
  clear hb
  have S := Bx.mk (S.out.push x1 x2)
  go_wp2_with fail
  refine (valid_v x1 x2 true _ ix.1 ix.2 hv).mono ?_
  rintro e w3 ⟨rfl, hb⟩
  have S := Bx.mk (S.out.call hb)
  clear hb
  obtain ⟨l0, p0, r0⟩ := S.out.caps (w2.heap.size, x1, x2) (by simp)
  go_wp2_with fail
  go_ret
  exact ⟨rfl, S.out.bl⟩
theorem reduced_ok_n (n d a b k : Int) (w : World) (ht : Tb w) (i1 : I64 n) (i2 : I64 d) (x1 x2 y1 y2 e2 : Int) (h1 : makeQ n d = ⟨x1, x2, 0⟩) (hk : ¬ k = 0) (h2 : makeQ a b = ⟨y1, y2, e2⟩) (a1 : -2147483648 ≤ a) (a2 : a ≤ 2147483647) (b1 : -2147483648 ≤ b) (b2 : b ≤ 2147483647) (k3 : -32768 ≤ k) (k4 : k ≤ 32767) :
    Calls Tryd.prog 3 #[.int .i64 n, .int .i64 d, .int .i32 a, .int .i32 b, .int .i16 k] w fun e w' => e = .returned (.bool true) ∧ Below w.heap.size w w' := by
  obtain ⟨hv, hx⟩ := makeQ_value h1
  have ix := makeQ_i64 n d
  rw [h1] at ix
  have h3 : makeQ (a * k) (b * k) = ⟨y1, y2, e2⟩ := by rw [makeQ_scaled a b k hk]; exact h2
  obtain ⟨p1, p2⟩ := prod_48 a1 a2 k3 k4
  obtain ⟨p3, p4⟩ := prod_48 b1 b2 k3 k4
  have ia : I64 a := ⟨by omega, by omega⟩
  have ib : I64 b := ⟨by omega, by omega⟩
  have iak : I64 (a * k) := ⟨by omega, by omega⟩
  have ibk : I64 (b * k) := ⟨by omega, by omega⟩
  have S : Bx (St w w []) := ⟨⟨Below.refl _ _, ht, fun t h => by cases h⟩⟩
  go_enter Tryd.func3, Tryd.ntmps3
  go_wp2_with fail
  refine (head_any _ S.out.tb).mono ?_
  rintro e w1 ⟨rfl, hb⟩
  have S := Bx.mk (S.out.call hb)
  clear hb
  go_wp2_with fail
  refine (make_any n d _ _ i1 i2 h1).mono ?_
  rintro e w2 ⟨rfl, hb⟩
  have S := Bx.mk (S.out.call hb)
  clear hb
  have S := Bx.mk (S.out.push x1 x2)
  go_wp2_with fail
  refine (valid_v x1 x2 true _ ix.1 ix.2 hv).mono ?_
  rintro e w3 ⟨rfl, hb⟩
  have S := Bx.mk (S.out.call hb)
  clear hb
  obtain ⟨l0, p0, r0⟩ := S.out.caps (w2.heap.size, x1, x2) (by simp)
  go_wp2_with fail
  refine (make_any a b _ _ ia ib h2).mono ?_
  rintro e w4 ⟨rfl, hb⟩
  have S := Bx.mk (S.out.call hb)
  clear hb
  clear l0 p0 r0
  obtain ⟨l0, p0, r0⟩ := S.out.caps (w2.heap.size, x1, x2) (by simp)
  have S := Bx.mk (S.out.push y1 y2)
  go_wp2_with fail
  refine (make_any (a * k) (b * k) _ _ iak ibk h3).mono ?_
  rintro e w5 ⟨rfl, hb⟩
  have S := Bx.mk (S.out.call hb)
  clear hb
  clear l0 p0 r0
  obtain ⟨l0, p0, r0⟩ := S.out.caps (w4.heap.size, y1, y2) (by simp)
  obtain ⟨l1, p1, r1⟩ := S.out.caps (w2.heap.size, x1, x2) (by simp)
  have S := Bx.mk (S.out.push y1 y2)
  go_wp2_with fail
  go_ret
  exact ⟨rfl, S.out.bl⟩
theorem reduced_err_z (n d a b k : Int) (w : World) (ht : Tb w) (i1 : I64 n) (i2 : I64 d) (x1 x2 e1 : Int) (h1 : makeQ n d = ⟨x1, x2, e1⟩) (k1 : ¬ e1 = 0) (hk : k = 0) :
    Calls Tryd.prog 3 #[.int .i64 n, .int .i64 d, .int .i32 a, .int .i32 b, .int .i16 k] w fun e w' => e = .returned (.bool true) ∧ Below w.heap.size w w' := by
  have S : Bx (St w w []) := ⟨⟨Below.refl _ _, ht, fun t h => by cases h⟩⟩
  go_enter Tryd.func3, Tryd.ntmps3
  go_wp2_with fail
  refine (head_any _ S.out.tb).mono ?_
  rintro e w1 ⟨rfl, hb⟩
  have S := Bx.mk (S.out.call hb)
  clear hb
  go_wp2_with fail
  refine (make_any n d _ _ i1 i2 h1).mono ?_
  rintro e w2 ⟨rfl, hb⟩
  have S := Bx.mk (S.out.call hb)
  clear hb
  have S := Bx.mk (S.out.push x1 x2)
  go_wp2_with fail
  go_ret
  exact ⟨rfl, S.out.bl⟩
theorem reduced_err_n (n d a b k : Int) (w : World) (ht : Tb w) (i1 : I64 n) (i2 : I64 d) (x1 x2 e1 y1 y2 e2 : Int) (h1 : makeQ n d = ⟨x1, x2, e1⟩) (k1 : ¬ e1 = 0) (hk : ¬ k = 0) (h2 : makeQ a b = ⟨y1, y2, e2⟩) (a1 : -2147483648 ≤ a) (a2 : a ≤ 2147483647) (b1 : -2147483648 ≤ b) (b2 : b ≤ 2147483647) (k3 : -32768 ≤ k) (k4 : k ≤ 32767) :
    Calls Tryd.prog 3 #[.int .i64 n, .int .i64 d, .int .i32 a, .int .i32 b, .int .i16 k] w fun e w' => e = .returned (.bool true) ∧ Below w.heap.size w w' := by
  have h3 : makeQ (a * k) (b * k) = ⟨y1, y2, e2⟩ := by rw [makeQ_scaled a b k hk]; exact h2
  obtain ⟨p1, p2⟩ := prod_48 a1 a2 k3 k4
  obtain ⟨p3, p4⟩ := prod_48 b1 b2 k3 k4
  have ia : I64 a := ⟨by omega, by omega⟩
  have ib : I64 b := ⟨by omega, by omega⟩
  have iak : I64 (a * k) := ⟨by omega, by omega⟩
  have ibk : I64 (b * k) := ⟨by omega, by omega⟩
  have S : Bx (St w w []) := ⟨⟨Below.refl _ _, ht, fun t h => by cases h⟩⟩
  go_enter Tryd.func3, Tryd.ntmps3
  go_wp2_with fail
  refine (head_any _ S.out.tb).mono ?_
  rintro e w1 ⟨rfl, hb⟩
  have S := Bx.mk (S.out.call hb)
  clear hb
  go_wp2_with fail
  refine (make_any n d _ _ i1 i2 h1).mono ?_
  rintro e w2 ⟨rfl, hb⟩
  have S := Bx.mk (S.out.call hb)
  clear hb
  have S := Bx.mk (S.out.push x1 x2)
  go_wp2_with fail
  refine (make_any a b _ _ ia ib h2).mono ?_
  rintro e w3 ⟨rfl, hb⟩
  have S := Bx.mk (S.out.call hb)
  clear hb
  obtain ⟨l0, p0, r0⟩ := S.out.caps (w2.heap.size, x1, x2) (by simp)
  have S := Bx.mk (S.out.push y1 y2)
  go_wp2_with fail
  refine (make_any (a * k) (b * k) _ _ iak ibk h3).mono ?_
  rintro e w4 ⟨rfl, hb⟩
  have S := Bx.mk (S.out.call hb)
  clear hb
  clear l0 p0 r0
  obtain ⟨l0, p0, r0⟩ := S.out.caps (w3.heap.size, y1, y2) (by simp)
  obtain ⟨l1, p1, r1⟩ := S.out.caps (w2.heap.size, x1, x2) (by simp)
  have S := Bx.mk (S.out.push y1 y2)
  go_wp2_with fail
  go_ret
  exact ⟨rfl, S.out.bl⟩
theorem wf_i32 {a : Int} (h : (Lit.int .i32 a).wf = true) : -2147483648 ≤ a ∧ a ≤ 2147483647 := by
  simp [Lit.wf, IntKind.min, IntKind.max, IntKind.signed, IntKind.bits] at h
  exact ⟨by omega, by omega⟩
theorem wf_i16 {a : Int} (h : (Lit.int .i16 a).wf = true) : -32768 ≤ a ∧ a ≤ 32767 := by
  simp [Lit.wf, IntKind.min, IntKind.max, IntKind.signed, IntKind.bits] at h
  exact ⟨by omega, by omega⟩
theorem reduced_all (n d a b k : Int) (w : World) (ht : Tb w) (i1 : I64 n) (i2 : I64 d) (wa : (Lit.int .i32 a).wf = true) (wb : (Lit.int .i32 b).wf = true) (wk : (Lit.int .i16 k).wf = true) :
    Calls Tryd.prog 3 #[.int .i64 n, .int .i64 d, .int .i32 a, .int .i32 b, .int .i16 k] w fun e w' => e = .returned (.bool true) ∧ Below w.heap.size w w' := by
  obtain ⟨x1, x2, e1, h1⟩ := res_mk (makeQ n d)
  obtain ⟨y1, y2, e2, h2⟩ := res_mk (makeQ a b)
  have A := wf_i32 wa
  have B := wf_i32 wb
  have K := wf_i16 wk
  by_cases k1 : e1 = 0
  · subst k1
    by_cases hk : k = 0
    · exact reduced_ok_z n d a b k w ht i1 i2 x1 x2 h1 hk
    · exact reduced_ok_n n d a b k w ht i1 i2 x1 x2 y1 y2 e2 h1 hk h2 A.1 A.2 B.1 B.2 K.1 K.2
  · by_cases hk : k = 0
    · exact reduced_err_z n d a b k w ht i1 i2 x1 x2 e1 h1 k1 hk
    · exact reduced_err_n n d a b k w ht i1 i2 x1 x2 e1 y1 y2 e2 h1 k1 hk h2 A.1 A.2 B.1 B.2 K.1 K.2
end Go.Proofs.YtmonobebmbackaaDoor

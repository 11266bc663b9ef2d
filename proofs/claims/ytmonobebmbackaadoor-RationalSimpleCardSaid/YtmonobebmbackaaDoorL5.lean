/- RationalSimple, walked. -/
import Derived.Test.YtmonobebmbackaaDoorL0
namespace Go.Proofs.YtmonobebmbackaaDoor
open Go.RowKit M
theorem simple_bad (a1 a2 b1 b2 c1 c2 : Int) (w : World) (ht : Tb w) (i1 : I64 a1) (i2 : I64 a2) (i3 : I64 b1) (i4 : I64 b2) (i5 : I64 c1) (i6 : I64 c2) (X : Int) (hr : SimpR a1 a2 b1 b2 0 0 1) (h1 : cmpQ a1 a2 b1 b2 = (X, 1)) :
    Calls Tryd.prog 8 #[RV a1 a2, RV b1 b2, RV c1 c2] w fun e w' => e = .returned (.bool true) ∧ Below w.heap.size w w' := by
  have S : Bx (St w (((w.alloc (.cells #[.int .i64 a1, .int .i64 a2] 25)).alloc (.cells #[.int .i64 b1, .int .i64 b2] 25)).alloc (.cells #[.int .i64 c1, .int .i64 c2] 25)) [(w.heap.size + 1 + 1, c1, c2), (w.heap.size + 1, b1, b2), (w.heap.size, a1, a2)]) := ⟨start3 w ht a1 a2 b1 b2 c1 c2⟩
  go_enter Tryd.func8, Tryd.ntmps8
  go_wp2_with fail
  refine (head_any _ S.out.tb).mono ?_
  rintro e w1 ⟨rfl, hb⟩
  have S := Bx.mk (S.out.call hb)
  clear hb
  obtain ⟨l0, p0, r0⟩ := S.out.caps (w.heap.size + 1 + 1, c1, c2) (by simp)
  obtain ⟨l1, p1, r1⟩ := S.out.caps (w.heap.size + 1, b1, b2) (by simp)
  obtain ⟨l2, p2, r2⟩ := S.out.caps (w.heap.size, a1, a2) (by simp)
  go_wp2_with fail
  refine (simple_any a1 a2 b1 b2 0 0 1 _ i1 i2 i3 i4 hr).mono ?_
  rintro e w2 ⟨rfl, hb⟩
  have S := Bx.mk (S.out.call hb)
  clear hb
  clear l0 p0 r0 l1 p1 r1 l2 p2 r2
  obtain ⟨l0, p0, r0⟩ := S.out.caps (w.heap.size + 1 + 1, c1, c2) (by simp)
  obtain ⟨l1, p1, r1⟩ := S.out.caps (w.heap.size + 1, b1, b2) (by simp)
  obtain ⟨l2, p2, r2⟩ := S.out.caps (w.heap.size, a1, a2) (by simp)
  have S := Bx.mk (S.out.push 0 0)
  go_wp2_with fail
  refine (cmp_v a1 a2 b1 b2 X 1 _ i1 i2 i3 i4 h1).mono ?_
  rintro e w3 ⟨rfl, hb⟩
  have S := Bx.mk (S.out.call hb)
  clear hb
  clear l0 p0 r0 l1 p1 r1 l2 p2 r2
  obtain ⟨l0, p0, r0⟩ := S.out.caps (w2.heap.size, 0, 0) (by simp)
  obtain ⟨l1, p1, r1⟩ := S.out.caps (w.heap.size + 1 + 1, c1, c2) (by simp)
  obtain ⟨l2, p2, r2⟩ := S.out.caps (w.heap.size + 1, b1, b2) (by simp)
  obtain ⟨l3, p3, r3⟩ := S.out.caps (w.heap.size, a1, a2) (by simp)
  go_wp2_with fail
  go_ret
  exact ⟨rfl, S.out.bl⟩
theorem simple_above (a1 a2 b1 b2 c1 c2 : Int) (w : World) (ht : Tb w) (i1 : I64 a1) (i2 : I64 a2) (i3 : I64 b1) (i4 : I64 b2) (i5 : I64 c1) (i6 : I64 c2) (hr : SimpR a1 a2 b1 b2 0 0 1) (h1 : cmpQ a1 a2 b1 b2 = (1, 0)) :
    Calls Tryd.prog 8 #[RV a1 a2, RV b1 b2, RV c1 c2] w fun e w' => e = .returned (.bool true) ∧ Below w.heap.size w w' := by
  have S : Bx (St w (((w.alloc (.cells #[.int .i64 a1, .int .i64 a2] 25)).alloc (.cells #[.int .i64 b1, .int .i64 b2] 25)).alloc (.cells #[.int .i64 c1, .int .i64 c2] 25)) [(w.heap.size + 1 + 1, c1, c2), (w.heap.size + 1, b1, b2), (w.heap.size, a1, a2)]) := ⟨start3 w ht a1 a2 b1 b2 c1 c2⟩
  go_enter Tryd.func8, Tryd.ntmps8
  go_wp2_with fail
  refine (head_any _ S.out.tb).mono ?_
  rintro e w1 ⟨rfl, hb⟩
  have S := Bx.mk (S.out.call hb)
  clear hb
  obtain ⟨l0, p0, r0⟩ := S.out.caps (w.heap.size + 1 + 1, c1, c2) (by simp)
  obtain ⟨l1, p1, r1⟩ := S.out.caps (w.heap.size + 1, b1, b2) (by simp)
  obtain ⟨l2, p2, r2⟩ := S.out.caps (w.heap.size, a1, a2) (by simp)
  go_wp2_with fail
  refine (simple_any a1 a2 b1 b2 0 0 1 _ i1 i2 i3 i4 hr).mono ?_
  rintro e w2 ⟨rfl, hb⟩
  have S := Bx.mk (S.out.call hb)
  clear hb
  clear l0 p0 r0 l1 p1 r1 l2 p2 r2
  obtain ⟨l0, p0, r0⟩ := S.out.caps (w.heap.size + 1 + 1, c1, c2) (by simp)
  obtain ⟨l1, p1, r1⟩ := S.out.caps (w.heap.size + 1, b1, b2) (by simp)
  obtain ⟨l2, p2, r2⟩ := S.out.caps (w.heap.size, a1, a2) (by simp)
  have S := Bx.mk (S.out.push 0 0)
  go_wp2_with fail
  refine (cmp_v a1 a2 b1 b2 1 0 _ i1 i2 i3 i4 h1).mono ?_
  rintro e w3 ⟨rfl, hb⟩
  have S := Bx.mk (S.out.call hb)
  clear hb
  clear l0 p0 r0 l1 p1 r1 l2 p2 r2
  obtain ⟨l0, p0, r0⟩ := S.out.caps (w2.heap.size, 0, 0) (by simp)
  obtain ⟨l1, p1, r1⟩ := S.out.caps (w.heap.size + 1 + 1, c1, c2) (by simp)
  obtain ⟨l2, p2, r2⟩ := S.out.caps (w.heap.size + 1, b1, b2) (by simp)
  obtain ⟨l3, p3, r3⟩ := S.out.caps (w.heap.size, a1, a2) (by simp)
  go_wp2_with fail
  go_ret
  exact ⟨rfl, S.out.bl⟩
theorem simple_out (a1 a2 b1 b2 c1 c2 : Int) (w : World) (ht : Tb w) (i1 : I64 a1) (i2 : I64 a2) (i3 : I64 b1) (i4 : I64 b2) (i5 : I64 c1) (i6 : I64 c2) (x y X X1 Y1 Z W : Int) (ix : I64 x ∧ I64 y) (hr : SimpR a1 a2 b1 b2 x y 0) (h1 : cmpQ a1 a2 b1 b2 = (X, 0)) (k1 : X ≤ 0) (h2 : cmpQ a1 a2 x y = (X1, 0)) (k2 : X1 ≤ 0) (h3 : cmpQ x y b1 b2 = (Y1, 0)) (k3 : Y1 ≤ 0)
    (h4 : cmpQ a1 a2 c1 c2 = (Z, 1)) (h5 : cmpQ c1 c2 b1 b2 = (W, 1)) :
    Calls Tryd.prog 8 #[RV a1 a2, RV b1 b2, RV c1 c2] w fun e w' => e = .returned (.bool true) ∧ Below w.heap.size w w' := by
  have S : Bx (St w (((w.alloc (.cells #[.int .i64 a1, .int .i64 a2] 25)).alloc (.cells #[.int .i64 b1, .int .i64 b2] 25)).alloc (.cells #[.int .i64 c1, .int .i64 c2] 25)) [(w.heap.size + 1 + 1, c1, c2), (w.heap.size + 1, b1, b2), (w.heap.size, a1, a2)]) := ⟨start3 w ht a1 a2 b1 b2 c1 c2⟩
  go_enter Tryd.func8, Tryd.ntmps8
  go_wp2_with fail
  refine (head_any _ S.out.tb).mono ?_
  rintro e w1 ⟨rfl, hb⟩
  have S := Bx.mk (S.out.call hb)
  clear hb
  obtain ⟨l0, p0, r0⟩ := S.out.caps (w.heap.size + 1 + 1, c1, c2) (by simp)
  obtain ⟨l1, p1, r1⟩ := S.out.caps (w.heap.size + 1, b1, b2) (by simp)
  obtain ⟨l2, p2, r2⟩ := S.out.caps (w.heap.size, a1, a2) (by simp)
  go_wp2_with fail
  refine (simple_any a1 a2 b1 b2 x y 0 _ i1 i2 i3 i4 hr).mono ?_
  rintro e w2 ⟨rfl, hb⟩
  have S := Bx.mk (S.out.call hb)
  clear hb
  clear l0 p0 r0 l1 p1 r1 l2 p2 r2
  obtain ⟨l0, p0, r0⟩ := S.out.caps (w.heap.size + 1 + 1, c1, c2) (by simp)
  obtain ⟨l1, p1, r1⟩ := S.out.caps (w.heap.size + 1, b1, b2) (by simp)
  obtain ⟨l2, p2, r2⟩ := S.out.caps (w.heap.size, a1, a2) (by simp)
  have S := Bx.mk (S.out.push x y)
  go_wp2_with fail
  refine (cmp_v a1 a2 b1 b2 X 0 _ i1 i2 i3 i4 h1).mono ?_
  rintro e w3 ⟨rfl, hb⟩
  have S := Bx.mk (S.out.call hb)
  clear hb
  clear l0 p0 r0 l1 p1 r1 l2 p2 r2
  obtain ⟨l0, p0, r0⟩ := S.out.caps (w2.heap.size, x, y) (by simp)
  obtain ⟨l1, p1, r1⟩ := S.out.caps (w.heap.size + 1 + 1, c1, c2) (by simp)
  obtain ⟨l2, p2, r2⟩ := S.out.caps (w.heap.size + 1, b1, b2) (by simp)
  obtain ⟨l3, p3, r3⟩ := S.out.caps (w.heap.size, a1, a2) (by simp)
  go_wp2_with fail
  refine (cmp_v a1 a2 x y X1 0 _ i1 i2 ix.1 ix.2 h2).mono ?_
  rintro e w4 ⟨rfl, hb⟩
  have S := Bx.mk (S.out.call hb)
  clear hb
  clear l0 p0 r0 l1 p1 r1 l2 p2 r2 l3 p3 r3
  obtain ⟨l0, p0, r0⟩ := S.out.caps (w2.heap.size, x, y) (by simp)
  obtain ⟨l1, p1, r1⟩ := S.out.caps (w.heap.size + 1 + 1, c1, c2) (by simp)
  obtain ⟨l2, p2, r2⟩ := S.out.caps (w.heap.size + 1, b1, b2) (by simp)
  obtain ⟨l3, p3, r3⟩ := S.out.caps (w.heap.size, a1, a2) (by simp)
  go_wp2_with fail
  refine (cmp_v x y b1 b2 Y1 0 _ ix.1 ix.2 i3 i4 h3).mono ?_
  rintro e w5 ⟨rfl, hb⟩
  have S := Bx.mk (S.out.call hb)
  clear hb
  clear l0 p0 r0 l1 p1 r1 l2 p2 r2 l3 p3 r3
  obtain ⟨l0, p0, r0⟩ := S.out.caps (w2.heap.size, x, y) (by simp)
  obtain ⟨l1, p1, r1⟩ := S.out.caps (w.heap.size + 1 + 1, c1, c2) (by simp)
  obtain ⟨l2, p2, r2⟩ := S.out.caps (w.heap.size + 1, b1, b2) (by simp)
  obtain ⟨l3, p3, r3⟩ := S.out.caps (w.heap.size, a1, a2) (by simp)
  go_wp2_with fail
  refine (cmp_v a1 a2 c1 c2 Z 1 _ i1 i2 i5 i6 h4).mono ?_
  rintro e w6 ⟨rfl, hb⟩
  have S := Bx.mk (S.out.call hb)
  clear hb
  clear l0 p0 r0 l1 p1 r1 l2 p2 r2 l3 p3 r3
  obtain ⟨l0, p0, r0⟩ := S.out.caps (w2.heap.size, x, y) (by simp)
  obtain ⟨l1, p1, r1⟩ := S.out.caps (w.heap.size + 1 + 1, c1, c2) (by simp)
  obtain ⟨l2, p2, r2⟩ := S.out.caps (w.heap.size + 1, b1, b2) (by simp)
  obtain ⟨l3, p3, r3⟩ := S.out.caps (w.heap.size, a1, a2) (by simp)
  go_wp2_with fail
  refine (cmp_v c1 c2 b1 b2 W 1 _ i5 i6 i3 i4 h5).mono ?_
  rintro e w7 ⟨rfl, hb⟩
  have S := Bx.mk (S.out.call hb)
  clear hb
  clear l0 p0 r0 l1 p1 r1 l2 p2 r2 l3 p3 r3
  obtain ⟨l0, p0, r0⟩ := S.out.caps (w2.heap.size, x, y) (by simp)
  obtain ⟨l1, p1, r1⟩ := S.out.caps (w.heap.size + 1 + 1, c1, c2) (by simp)
  obtain ⟨l2, p2, r2⟩ := S.out.caps (w.heap.size + 1, b1, b2) (by simp)
  obtain ⟨l3, p3, r3⟩ := S.out.caps (w.heap.size, a1, a2) (by simp)
  go_wp2_with fail
  go_ret
  exact ⟨rfl, S.out.bl⟩
theorem simple_low (a1 a2 b1 b2 c1 c2 : Int) (w : World) (ht : Tb w) (i1 : I64 a1) (i2 : I64 a2) (i3 : I64 b1) (i4 : I64 b2) (i5 : I64 c1) (i6 : I64 c2) (x y X X1 Y1 Z W : Int) (ix : I64 x ∧ I64 y) (hr : SimpR a1 a2 b1 b2 x y 0) (h1 : cmpQ a1 a2 b1 b2 = (X, 0)) (k1 : X ≤ 0) (h2 : cmpQ a1 a2 x y = (X1, 0)) (k2 : X1 ≤ 0) (h3 : cmpQ x y b1 b2 = (Y1, 0)) (k3 : Y1 ≤ 0)
    (h4 : cmpQ a1 a2 c1 c2 = (Z, 0)) (h5 : cmpQ c1 c2 b1 b2 = (W, 0)) (k4 : 0 < Z) :
    Calls Tryd.prog 8 #[RV a1 a2, RV b1 b2, RV c1 c2] w fun e w' => e = .returned (.bool true) ∧ Below w.heap.size w w' := by
  have S : Bx (St w (((w.alloc (.cells #[.int .i64 a1, .int .i64 a2] 25)).alloc (.cells #[.int .i64 b1, .int .i64 b2] 25)).alloc (.cells #[.int .i64 c1, .int .i64 c2] 25)) [(w.heap.size + 1 + 1, c1, c2), (w.heap.size + 1, b1, b2), (w.heap.size, a1, a2)]) := ⟨start3 w ht a1 a2 b1 b2 c1 c2⟩
  go_enter Tryd.func8, Tryd.ntmps8
  go_wp2_with fail
  refine (head_any _ S.out.tb).mono ?_
  rintro e w1 ⟨rfl, hb⟩
  have S := Bx.mk (S.out.call hb)
  clear hb
  obtain ⟨l0, p0, r0⟩ := S.out.caps (w.heap.size + 1 + 1, c1, c2) (by simp)
  obtain ⟨l1, p1, r1⟩ := S.out.caps (w.heap.size + 1, b1, b2) (by simp)
  obtain ⟨l2, p2, r2⟩ := S.out.caps (w.heap.size, a1, a2) (by simp)
  go_wp2_with fail
  refine (simple_any a1 a2 b1 b2 x y 0 _ i1 i2 i3 i4 hr).mono ?_
  rintro e w2 ⟨rfl, hb⟩
  have S := Bx.mk (S.out.call hb)
  clear hb
  clear l0 p0 r0 l1 p1 r1 l2 p2 r2
  obtain ⟨l0, p0, r0⟩ := S.out.caps (w.heap.size + 1 + 1, c1, c2) (by simp)
  obtain ⟨l1, p1, r1⟩ := S.out.caps (w.heap.size + 1, b1, b2) (by simp)
  obtain ⟨l2, p2, r2⟩ := S.out.caps (w.heap.size, a1, a2) (by simp)
  have S := Bx.mk (S.out.push x y)
  go_wp2_with fail
  refine (cmp_v a1 a2 b1 b2 X 0 _ i1 i2 i3 i4 h1).mono ?_
  rintro e w3 ⟨rfl, hb⟩
  have S := Bx.mk (S.out.call hb)
  clear hb
  clear l0 p0 r0 l1 p1 r1 l2 p2 r2
  obtain ⟨l0, p0, r0⟩ := S.out.caps (w2.heap.size, x, y) (by simp)
  obtain ⟨l1, p1, r1⟩ := S.out.caps (w.heap.size + 1 + 1, c1, c2) (by simp)
  obtain ⟨l2, p2, r2⟩ := S.out.caps (w.heap.size + 1, b1, b2) (by simp)
  obtain ⟨l3, p3, r3⟩ := S.out.caps (w.heap.size, a1, a2) (by simp)
  go_wp2_with fail
  refine (cmp_v a1 a2 x y X1 0 _ i1 i2 ix.1 ix.2 h2).mono ?_
  rintro e w4 ⟨rfl, hb⟩
  have S := Bx.mk (S.out.call hb)
  clear hb
  clear l0 p0 r0 l1 p1 r1 l2 p2 r2 l3 p3 r3
  obtain ⟨l0, p0, r0⟩ := S.out.caps (w2.heap.size, x, y) (by simp)
  obtain ⟨l1, p1, r1⟩ := S.out.caps (w.heap.size + 1 + 1, c1, c2) (by simp)
  obtain ⟨l2, p2, r2⟩ := S.out.caps (w.heap.size + 1, b1, b2) (by simp)
  obtain ⟨l3, p3, r3⟩ := S.out.caps (w.heap.size, a1, a2) (by simp)
  go_wp2_with fail
  refine (cmp_v x y b1 b2 Y1 0 _ ix.1 ix.2 i3 i4 h3).mono ?_
  rintro e w5 ⟨rfl, hb⟩
  have S := Bx.mk (S.out.call hb)
  clear hb
  clear l0 p0 r0 l1 p1 r1 l2 p2 r2 l3 p3 r3
  obtain ⟨l0, p0, r0⟩ := S.out.caps (w2.heap.size, x, y) (by simp)
  obtain ⟨l1, p1, r1⟩ := S.out.caps (w.heap.size + 1 + 1, c1, c2) (by simp)
  obtain ⟨l2, p2, r2⟩ := S.out.caps (w.heap.size + 1, b1, b2) (by simp)
  obtain ⟨l3, p3, r3⟩ := S.out.caps (w.heap.size, a1, a2) (by simp)
  go_wp2_with fail
  refine (cmp_v a1 a2 c1 c2 Z 0 _ i1 i2 i5 i6 h4).mono ?_
  rintro e w6 ⟨rfl, hb⟩
  have S := Bx.mk (S.out.call hb)
  clear hb
  clear l0 p0 r0 l1 p1 r1 l2 p2 r2 l3 p3 r3
  obtain ⟨l0, p0, r0⟩ := S.out.caps (w2.heap.size, x, y) (by simp)
  obtain ⟨l1, p1, r1⟩ := S.out.caps (w.heap.size + 1 + 1, c1, c2) (by simp)
  obtain ⟨l2, p2, r2⟩ := S.out.caps (w.heap.size + 1, b1, b2) (by simp)
  obtain ⟨l3, p3, r3⟩ := S.out.caps (w.heap.size, a1, a2) (by simp)
  go_wp2_with fail
  refine (cmp_v c1 c2 b1 b2 W 0 _ i5 i6 i3 i4 h5).mono ?_
  rintro e w7 ⟨rfl, hb⟩
  have S := Bx.mk (S.out.call hb)
  clear hb
  clear l0 p0 r0 l1 p1 r1 l2 p2 r2 l3 p3 r3
  obtain ⟨l0, p0, r0⟩ := S.out.caps (w2.heap.size, x, y) (by simp)
  obtain ⟨l1, p1, r1⟩ := S.out.caps (w.heap.size + 1 + 1, c1, c2) (by simp)
  obtain ⟨l2, p2, r2⟩ := S.out.caps (w.heap.size + 1, b1, b2) (by simp)
  obtain ⟨l3, p3, r3⟩ := S.out.caps (w.heap.size, a1, a2) (by simp)
  go_wp2_with fail
  go_ret
  exact ⟨rfl, S.out.bl⟩
theorem simple_high (a1 a2 b1 b2 c1 c2 : Int) (w : World) (ht : Tb w) (i1 : I64 a1) (i2 : I64 a2) (i3 : I64 b1) (i4 : I64 b2) (i5 : I64 c1) (i6 : I64 c2) (x y X X1 Y1 Z W : Int) (ix : I64 x ∧ I64 y) (hr : SimpR a1 a2 b1 b2 x y 0) (h1 : cmpQ a1 a2 b1 b2 = (X, 0)) (k1 : X ≤ 0) (h2 : cmpQ a1 a2 x y = (X1, 0)) (k2 : X1 ≤ 0) (h3 : cmpQ x y b1 b2 = (Y1, 0)) (k3 : Y1 ≤ 0)
    (h4 : cmpQ a1 a2 c1 c2 = (Z, 0)) (h5 : cmpQ c1 c2 b1 b2 = (W, 0)) (k4 : Z ≤ 0) (k5 : 0 < W) :
    Calls Tryd.prog 8 #[RV a1 a2, RV b1 b2, RV c1 c2] w fun e w' => e = .returned (.bool true) ∧ Below w.heap.size w w' := by
  have S : Bx (St w (((w.alloc (.cells #[.int .i64 a1, .int .i64 a2] 25)).alloc (.cells #[.int .i64 b1, .int .i64 b2] 25)).alloc (.cells #[.int .i64 c1, .int .i64 c2] 25)) [(w.heap.size + 1 + 1, c1, c2), (w.heap.size + 1, b1, b2), (w.heap.size, a1, a2)]) := ⟨start3 w ht a1 a2 b1 b2 c1 c2⟩
  go_enter Tryd.func8, Tryd.ntmps8
  go_wp2_with fail
  refine (head_any _ S.out.tb).mono ?_
  rintro e w1 ⟨rfl, hb⟩
  have S := Bx.mk (S.out.call hb)
  clear hb
  obtain ⟨l0, p0, r0⟩ := S.out.caps (w.heap.size + 1 + 1, c1, c2) (by simp)
  obtain ⟨l1, p1, r1⟩ := S.out.caps (w.heap.size + 1, b1, b2) (by simp)
  obtain ⟨l2, p2, r2⟩ := S.out.caps (w.heap.size, a1, a2) (by simp)
  go_wp2_with fail
  refine (simple_any a1 a2 b1 b2 x y 0 _ i1 i2 i3 i4 hr).mono ?_
  rintro e w2 ⟨rfl, hb⟩
  have S := Bx.mk (S.out.call hb)
  clear hb
  clear l0 p0 r0 l1 p1 r1 l2 p2 r2
  obtain ⟨l0, p0, r0⟩ := S.out.caps (w.heap.size + 1 + 1, c1, c2) (by simp)
  obtain ⟨l1, p1, r1⟩ := S.out.caps (w.heap.size + 1, b1, b2) (by simp)
  obtain ⟨l2, p2, r2⟩ := S.out.caps (w.heap.size, a1, a2) (by simp)
  have S := Bx.mk (S.out.push x y)
  go_wp2_with fail
  refine (cmp_v a1 a2 b1 b2 X 0 _ i1 i2 i3 i4 h1).mono ?_
  rintro e w3 ⟨rfl, hb⟩
  have S := Bx.mk (S.out.call hb)
  clear hb
  clear l0 p0 r0 l1 p1 r1 l2 p2 r2
  obtain ⟨l0, p0, r0⟩ := S.out.caps (w2.heap.size, x, y) (by simp)
  obtain ⟨l1, p1, r1⟩ := S.out.caps (w.heap.size + 1 + 1, c1, c2) (by simp)
  obtain ⟨l2, p2, r2⟩ := S.out.caps (w.heap.size + 1, b1, b2) (by simp)
  obtain ⟨l3, p3, r3⟩ := S.out.caps (w.heap.size, a1, a2) (by simp)
  go_wp2_with fail
  refine (cmp_v a1 a2 x y X1 0 _ i1 i2 ix.1 ix.2 h2).mono ?_
  rintro e w4 ⟨rfl, hb⟩
  have S := Bx.mk (S.out.call hb)
  clear hb
  clear l0 p0 r0 l1 p1 r1 l2 p2 r2 l3 p3 r3
  obtain ⟨l0, p0, r0⟩ := S.out.caps (w2.heap.size, x, y) (by simp)
  obtain ⟨l1, p1, r1⟩ := S.out.caps (w.heap.size + 1 + 1, c1, c2) (by simp)
  obtain ⟨l2, p2, r2⟩ := S.out.caps (w.heap.size + 1, b1, b2) (by simp)
  obtain ⟨l3, p3, r3⟩ := S.out.caps (w.heap.size, a1, a2) (by simp)
  go_wp2_with fail
  refine (cmp_v x y b1 b2 Y1 0 _ ix.1 ix.2 i3 i4 h3).mono ?_
  rintro e w5 ⟨rfl, hb⟩
  have S := Bx.mk (S.out.call hb)
  clear hb
  clear l0 p0 r0 l1 p1 r1 l2 p2 r2 l3 p3 r3
  obtain ⟨l0, p0, r0⟩ := S.out.caps (w2.heap.size, x, y) (by simp)
  obtain ⟨l1, p1, r1⟩ := S.out.caps (w.heap.size + 1 + 1, c1, c2) (by simp)
  obtain ⟨l2, p2, r2⟩ := S.out.caps (w.heap.size + 1, b1, b2) (by simp)
  obtain ⟨l3, p3, r3⟩ := S.out.caps (w.heap.size, a1, a2) (by simp)
  go_wp2_with fail
  refine (cmp_v a1 a2 c1 c2 Z 0 _ i1 i2 i5 i6 h4).mono ?_
  rintro e w6 ⟨rfl, hb⟩
  have S := Bx.mk (S.out.call hb)
  clear hb
  clear l0 p0 r0 l1 p1 r1 l2 p2 r2 l3 p3 r3
  obtain ⟨l0, p0, r0⟩ := S.out.caps (w2.heap.size, x, y) (by simp)
  obtain ⟨l1, p1, r1⟩ := S.out.caps (w.heap.size + 1 + 1, c1, c2) (by simp)
  obtain ⟨l2, p2, r2⟩ := S.out.caps (w.heap.size + 1, b1, b2) (by simp)
  obtain ⟨l3, p3, r3⟩ := S.out.caps (w.heap.size, a1, a2) (by simp)
  go_wp2_with fail
  refine (cmp_v c1 c2 b1 b2 W 0 _ i5 i6 i3 i4 h5).mono ?_
  rintro e w7 ⟨rfl, hb⟩
  have S := Bx.mk (S.out.call hb)
  clear hb
  clear l0 p0 r0 l1 p1 r1 l2 p2 r2 l3 p3 r3
  obtain ⟨l0, p0, r0⟩ := S.out.caps (w2.heap.size, x, y) (by simp)
  obtain ⟨l1, p1, r1⟩ := S.out.caps (w.heap.size + 1 + 1, c1, c2) (by simp)
  obtain ⟨l2, p2, r2⟩ := S.out.caps (w.heap.size + 1, b1, b2) (by simp)
  obtain ⟨l3, p3, r3⟩ := S.out.caps (w.heap.size, a1, a2) (by simp)
  go_wp2_with fail
  go_ret
  exact ⟨rfl, S.out.bl⟩
theorem simple_in (a1 a2 b1 b2 c1 c2 : Int) (w : World) (ht : Tb w) (i1 : I64 a1) (i2 : I64 a2) (i3 : I64 b1) (i4 : I64 b2) (i5 : I64 c1) (i6 : I64 c2) (x y X X1 Y1 Z W : Int) (ix : I64 x ∧ I64 y) (hr : SimpR a1 a2 b1 b2 x y 0) (h1 : cmpQ a1 a2 b1 b2 = (X, 0)) (k1 : X ≤ 0) (h2 : cmpQ a1 a2 x y = (X1, 0)) (k2 : X1 ≤ 0) (h3 : cmpQ x y b1 b2 = (Y1, 0)) (k3 : Y1 ≤ 0)
    (h4 : cmpQ a1 a2 c1 c2 = (Z, 0)) (h5 : cmpQ c1 c2 b1 b2 = (W, 0)) (k4 : Z ≤ 0) (k5 : W ≤ 0) (l1 : y ≤ c2) (l2 : max x (-x) ≤ max c1 (-c1)) (l3 : -1000000000 ≤ x) (l4 : x ≤ 1000000000) (l5 : -1000000000 ≤ c1) (l6 : c1 ≤ 1000000000) :
    Calls Tryd.prog 8 #[RV a1 a2, RV b1 b2, RV c1 c2] w fun e w' => e = .returned (.bool true) ∧ Below w.heap.size w w' := by
  have S : Bx (St w (((w.alloc (.cells #[.int .i64 a1, .int .i64 a2] 25)).alloc (.cells #[.int .i64 b1, .int .i64 b2] 25)).alloc (.cells #[.int .i64 c1, .int .i64 c2] 25)) [(w.heap.size + 1 + 1, c1, c2), (w.heap.size + 1, b1, b2), (w.heap.size, a1, a2)]) := ⟨start3 w ht a1 a2 b1 b2 c1 c2⟩
  go_enter Tryd.func8, Tryd.ntmps8
  go_wp2_with fail
  refine (head_any _ S.out.tb).mono ?_
  rintro e w1 ⟨rfl, hb⟩
  have S := Bx.mk (S.out.call hb)
  clear hb
  obtain ⟨l0, p0, r0⟩ := S.out.caps (w.heap.size + 1 + 1, c1, c2) (by simp)
  obtain ⟨l1, p1, r1⟩ := S.out.caps (w.heap.size + 1, b1, b2) (by simp)
  obtain ⟨l2, p2, r2⟩ := S.out.caps (w.heap.size, a1, a2) (by simp)
  go_wp2_with fail
  refine (simple_any a1 a2 b1 b2 x y 0 _ i1 i2 i3 i4 hr).mono ?_
  rintro e w2 ⟨rfl, hb⟩
  have S := Bx.mk (S.out.call hb)
  clear hb
  clear l0 p0 r0 l1 p1 r1 l2 p2 r2
  obtain ⟨l0, p0, r0⟩ := S.out.caps (w.heap.size + 1 + 1, c1, c2) (by simp)
  obtain ⟨l1, p1, r1⟩ := S.out.caps (w.heap.size + 1, b1, b2) (by simp)
  obtain ⟨l2, p2, r2⟩ := S.out.caps (w.heap.size, a1, a2) (by simp)
  have S := Bx.mk (S.out.push x y)
  go_wp2_with fail
  refine (cmp_v a1 a2 b1 b2 X 0 _ i1 i2 i3 i4 h1).mono ?_
  rintro e w3 ⟨rfl, hb⟩
  have S := Bx.mk (S.out.call hb)
  clear hb
  clear l0 p0 r0 l1 p1 r1 l2 p2 r2
  obtain ⟨l0, p0, r0⟩ := S.out.caps (w2.heap.size, x, y) (by simp)
  obtain ⟨l1, p1, r1⟩ := S.out.caps (w.heap.size + 1 + 1, c1, c2) (by simp)
  obtain ⟨l2, p2, r2⟩ := S.out.caps (w.heap.size + 1, b1, b2) (by simp)
  obtain ⟨l3, p3, r3⟩ := S.out.caps (w.heap.size, a1, a2) (by simp)
  go_wp2_with fail
  refine (cmp_v a1 a2 x y X1 0 _ i1 i2 ix.1 ix.2 h2).mono ?_
  rintro e w4 ⟨rfl, hb⟩
  have S := Bx.mk (S.out.call hb)
  clear hb
  clear l0 p0 r0 l1 p1 r1 l2 p2 r2 l3 p3 r3
  obtain ⟨l0, p0, r0⟩ := S.out.caps (w2.heap.size, x, y) (by simp)
  obtain ⟨l1, p1, r1⟩ := S.out.caps (w.heap.size + 1 + 1, c1, c2) (by simp)
  obtain ⟨l2, p2, r2⟩ := S.out.caps (w.heap.size + 1, b1, b2) (by simp)
  obtain ⟨l3, p3, r3⟩ := S.out.caps (w.heap.size, a1, a2) (by simp)
  go_wp2_with fail
  refine (cmp_v x y b1 b2 Y1 0 _ ix.1 ix.2 i3 i4 h3).mono ?_
  rintro e w5 ⟨rfl, hb⟩
  have S := Bx.mk (S.out.call hb)
  clear hb
  clear l0 p0 r0 l1 p1 r1 l2 p2 r2 l3 p3 r3
  obtain ⟨l0, p0, r0⟩ := S.out.caps (w2.heap.size, x, y) (by simp)
  obtain ⟨l1, p1, r1⟩ := S.out.caps (w.heap.size + 1 + 1, c1, c2) (by simp)
  obtain ⟨l2, p2, r2⟩ := S.out.caps (w.heap.size + 1, b1, b2) (by simp)
  obtain ⟨l3, p3, r3⟩ := S.out.caps (w.heap.size, a1, a2) (by simp)
  go_wp2_with fail
  refine (cmp_v a1 a2 c1 c2 Z 0 _ i1 i2 i5 i6 h4).mono ?_
  rintro e w6 ⟨rfl, hb⟩
  have S := Bx.mk (S.out.call hb)
  clear hb
  clear l0 p0 r0 l1 p1 r1 l2 p2 r2 l3 p3 r3
  obtain ⟨l0, p0, r0⟩ := S.out.caps (w2.heap.size, x, y) (by simp)
  obtain ⟨l1, p1, r1⟩ := S.out.caps (w.heap.size + 1 + 1, c1, c2) (by simp)
  obtain ⟨l2, p2, r2⟩ := S.out.caps (w.heap.size + 1, b1, b2) (by simp)
  obtain ⟨l3, p3, r3⟩ := S.out.caps (w.heap.size, a1, a2) (by simp)
  go_wp2_with fail
  refine (cmp_v c1 c2 b1 b2 W 0 _ i5 i6 i3 i4 h5).mono ?_
  rintro e w7 ⟨rfl, hb⟩
  have S := Bx.mk (S.out.call hb)
  clear hb
  clear l0 p0 r0 l1 p1 r1 l2 p2 r2 l3 p3 r3
  obtain ⟨l0, p0, r0⟩ := S.out.caps (w2.heap.size, x, y) (by simp)
  obtain ⟨l1, p1, r1⟩ := S.out.caps (w.heap.size + 1 + 1, c1, c2) (by simp)
  obtain ⟨l2, p2, r2⟩ := S.out.caps (w.heap.size + 1, b1, b2) (by simp)
  obtain ⟨l3, p3, r3⟩ := S.out.caps (w.heap.size, a1, a2) (by simp)
  go_wp2_with fail
  go_ret
  exact ⟨rfl, S.out.bl⟩
theorem sgn_le {x y : Int} : sgn x y ≤ 0 ↔ x ≤ y := by rcases sgn_cases x y with ⟨h, e⟩ | ⟨h, e⟩ | ⟨h, e⟩ <;> rw [e] <;> omega
theorem sgn_gt {x y : Int} (h : y < x) : sgn x y = 1 := by rcases sgn_cases x y with ⟨h', e⟩ | ⟨h', e⟩ | ⟨h', e⟩ <;> (try omega)
theorem simple_all (a1 a2 b1 b2 c1 c2 : Int) (w : World) (ht : Tb w) (i1 : I64 a1) (i2 : I64 a2) (i3 : I64 b1) (i4 : I64 b2) (i5 : I64 c1) (i6 : I64 c2) :
    Calls Tryd.prog 8 #[RV a1 a2, RV b1 b2, RV c1 c2] w fun e w' => e = .returned (.bool true) ∧ Below w.heap.size w w' := by
  obtain ⟨x, y, c, hr⟩ := simple_some a1 a2 b1 b2 i1 i2 i3 i4 w
  rcases id hr with ⟨hv, hw, hle, rfl, hS⟩ | ⟨h, rfl, rfl, rfl⟩
  · have B1 := validQ_bd _ _ hv
    have B2 := validQ_bd _ _ hw
    have hin := simpleP_in B1.pos B2.pos hS
    have hval := simpleP_valid hv hw hle hS
    have B3 := validQ_bd _ _ hval
    have ix : I64 x ∧ I64 y := ⟨⟨by have := B3.lo; omega, by have := B3.hi; omega⟩, ⟨by have := B3.pos; omega, by have := B3.top; omega⟩⟩
    have h1 := cmpQ_good hv hw
    have h2 := cmpQ_good hv hval
    have h3 := cmpQ_good hval hw
    have k1 := sgn_le.2 hle
    have k2 := sgn_le.2 hin.2.1
    have k3 := sgn_le.2 hin.2.2
    by_cases hc : validQ c1 c2 = true
    · have h4 := cmpQ_good hv hc
      have h5 := cmpQ_good hc hw
      have B4 := validQ_bd _ _ hc
      by_cases z : sgn (a1 * c2) (c1 * a2) ≤ 0
      · by_cases u : sgn (c1 * b2) (b1 * c2) ≤ 0
        · have hl := simpleP_least hS c1 c2 B4.pos (sgn_le.1 z) (sgn_le.1 u)
          exact simple_in a1 a2 b1 b2 c1 c2 w ht i1 i2 i3 i4 i5 i6 x y _ _ _ _ _ ix hr h1 k1 h2 k2 h3 k3 h4 h5 z u hl.1 hl.2 B3.lo B3.hi B4.lo B4.hi
        · exact simple_high a1 a2 b1 b2 c1 c2 w ht i1 i2 i3 i4 i5 i6 x y _ _ _ _ _ ix hr h1 k1 h2 k2 h3 k3 h4 h5 z (by omega)
      · exact simple_low a1 a2 b1 b2 c1 c2 w ht i1 i2 i3 i4 i5 i6 x y _ _ _ _ _ ix hr h1 k1 h2 k2 h3 k3 h4 h5 (by omega)
    · exact simple_out a1 a2 b1 b2 c1 c2 w ht i1 i2 i3 i4 i5 i6 x y _ _ _ 0 0 ix hr h1 k1 h2 k2 h3 k3 (cmpQ_bad fun h => hc h.2) (cmpQ_bad fun h => hc h.1)
  · by_cases hv : validQ a1 a2 = true ∧ validQ b1 b2 = true
    · have hlt : b1 * a2 < a1 * b2 := by
        rcases h with h | h
        · exact absurd hv h
        · exact h
      exact simple_above a1 a2 b1 b2 c1 c2 w ht i1 i2 i3 i4 i5 i6 hr (by rw [cmpQ_good hv.1 hv.2, sgn_gt hlt])
    · exact simple_bad a1 a2 b1 b2 c1 c2 w ht i1 i2 i3 i4 i5 i6 0 hr (cmpQ_bad hv)
end Go.Proofs.YtmonobebmbackaaDoor

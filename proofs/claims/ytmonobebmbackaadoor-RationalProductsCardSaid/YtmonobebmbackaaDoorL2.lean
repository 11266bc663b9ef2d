/- RationalProducts, walked. -/
import Derived.Test.YtmonobebmbackaaDoorL0
namespace Go.Proofs.YtmonobebmbackaaDoor
open Go.RowKit M
theorem products_err (a1 a2 b1 b2 c1 c2 : Int) (w : World) (ht : Tb w) (i1 : I64 a1) (i2 : I64 a2) (i3 : I64 b1) (i4 : I64 b2) (i5 : I64 c1) (i6 : I64 c2) (x1 x2 e1 : Int) (h1 : mulQ a1 a2 b1 b2 = ⟨x1, x2, e1⟩) (he : ¬ e1 = 0) :
    Calls Tryd.prog 5 #[RV a1 a2, RV b1 b2, RV c1 c2] w fun e w' => e = .returned (.bool true) ∧ Below w.heap.size w w' := by
  have h2 : mulQ b1 b2 a1 a2 = ⟨x1, x2, e1⟩ := by rw [mulQ_comm]; exact h1
  have S : Bx (St w (((w.alloc (.cells #[.int .i64 a1, .int .i64 a2] 25)).alloc (.cells #[.int .i64 b1, .int .i64 b2] 25)).alloc (.cells #[.int .i64 c1, .int .i64 c2] 25)) [(w.heap.size + 1 + 1, c1, c2), (w.heap.size + 1, b1, b2), (w.heap.size, a1, a2)]) := ⟨start3 w ht a1 a2 b1 b2 c1 c2⟩
  go_enter Tryd.func5, Tryd.ntmps5
  go_wp2_with fail
  refine (head_any _ S.out.tb).mono ?_
  rintro e w1 ⟨rfl, hb⟩
  have S := Bx.mk (S.out.call hb)
  clear hb
  obtain ⟨l0, p0, r0⟩ := S.out.caps (w.heap.size + 1 + 1, c1, c2) (by simp)
  obtain ⟨l1, p1, r1⟩ := S.out.caps (w.heap.size + 1, b1, b2) (by simp)
  obtain ⟨l2, p2, r2⟩ := S.out.caps (w.heap.size, a1, a2) (by simp)
  go_wp2_with fail
  refine (mul_any a1 a2 b1 b2 _ _ i1 i2 i3 i4 h1).mono ?_
  rintro e w2 ⟨rfl, hb⟩
  have S := Bx.mk (S.out.call hb)
  clear hb
  clear l0 p0 r0 l1 p1 r1 l2 p2 r2
  obtain ⟨l0, p0, r0⟩ := S.out.caps (w.heap.size + 1 + 1, c1, c2) (by simp)
  obtain ⟨l1, p1, r1⟩ := S.out.caps (w.heap.size + 1, b1, b2) (by simp)
  obtain ⟨l2, p2, r2⟩ := S.out.caps (w.heap.size, a1, a2) (by simp)
  have S := Bx.mk (S.out.push x1 x2)
  go_wp2_with fail
  refine (mul_any b1 b2 a1 a2 _ _ i3 i4 i1 i2 h2).mono ?_
  rintro e w3 ⟨rfl, hb⟩
  have S := Bx.mk (S.out.call hb)
  clear hb
  clear l0 p0 r0 l1 p1 r1 l2 p2 r2
  obtain ⟨l0, p0, r0⟩ := S.out.caps (w2.heap.size, x1, x2) (by simp)
  obtain ⟨l1, p1, r1⟩ := S.out.caps (w.heap.size + 1 + 1, c1, c2) (by simp)
  obtain ⟨l2, p2, r2⟩ := S.out.caps (w.heap.size + 1, b1, b2) (by simp)
  obtain ⟨l3, p3, r3⟩ := S.out.caps (w.heap.size, a1, a2) (by simp)
  have S := Bx.mk (S.out.push x1 x2)
  go_wp2_with fail
  go_ret
  exact ⟨rfl, S.out.bl⟩
set_option maxHeartbeats 4000000 in
theorem products_z0 (a1 a2 b1 b2 c1 c2 : Int) (w : World) (ht : Tb w) (i1 : I64 a1) (i2 : I64 a2) (i3 : I64 b1) (i4 : I64 b2) (i5 : I64 c1) (i6 : I64 c2) (x1 x2 z1 z2 y1 y2  s1 s2 e6 t1 t2 e7 v1 v2 e8 m1 m2 e9  : Int) (hb : b1 = 0) (h1 : mulQ a1 a2 b1 b2 = ⟨x1, x2, 0⟩) (h4 : mulQ b1 b2 c1 c2 = ⟨z1, z2, 0⟩) (h5 : mulQ x1 x2 c1 c2 = ⟨y1, y2, 0⟩) (h6 : mulQ a1 a2 z1 z2 = ⟨y1, y2, 0⟩)
    (h7 : addQ b1 b2 c1 c2 = ⟨s1, s2, e6⟩) (h8 : mulQ a1 a2 s1 s2 = ⟨t1, t2, e7⟩) (h9 : mulQ a1 a2 c1 c2 = ⟨v1, v2, e8⟩) (h10 : addQ x1 x2 v1 v2 = ⟨m1, m2, e9⟩) :
    Calls Tryd.prog 5 #[RV a1 a2, RV b1 b2, RV c1 c2] w fun e w' => e = .returned (.bool true) ∧ Below w.heap.size w w' := by
  have h2 : mulQ b1 b2 a1 a2 = ⟨x1, x2, 0⟩ := by rw [mulQ_comm]; exact h1
  have ix := mulQ_i64 h1
  have iz := mulQ_i64 h4
  have iS := addQ_i64 h7
  have iv := mulQ_i64 h9
  subst hb
  have S : Bx (St w (((w.alloc (.cells #[.int .i64 a1, .int .i64 a2] 25)).alloc (.cells #[.int .i64 0, .int .i64 b2] 25)).alloc (.cells #[.int .i64 c1, .int .i64 c2] 25)) [(w.heap.size + 1 + 1, c1, c2), (w.heap.size + 1, 0, b2), (w.heap.size, a1, a2)]) := ⟨start3 w ht a1 a2 0 b2 c1 c2⟩
  go_enter Tryd.func5, Tryd.ntmps5
  go_wp2_with fail
  refine (head_any _ S.out.tb).mono ?_
  rintro e w1 ⟨rfl, hb⟩
  have S := Bx.mk (S.out.call hb)
  clear hb
  obtain ⟨l0, p0, r0⟩ := S.out.caps (w.heap.size + 1 + 1, c1, c2) (by simp)
  obtain ⟨l1, p1, r1⟩ := S.out.caps (w.heap.size + 1, 0, b2) (by simp)
  obtain ⟨l2, p2, r2⟩ := S.out.caps (w.heap.size, a1, a2) (by simp)
  go_wp2_with fail
  refine (mul_any a1 a2 0 b2 _ _ i1 i2 i3 i4 h1).mono ?_
  rintro e w2 ⟨rfl, hb⟩
  have S := Bx.mk (S.out.call hb)
  clear hb
  clear l0 p0 r0 l1 p1 r1 l2 p2 r2
  obtain ⟨l0, p0, r0⟩ := S.out.caps (w.heap.size + 1 + 1, c1, c2) (by simp)
  obtain ⟨l1, p1, r1⟩ := S.out.caps (w.heap.size + 1, 0, b2) (by simp)
  obtain ⟨l2, p2, r2⟩ := S.out.caps (w.heap.size, a1, a2) (by simp)
  have S := Bx.mk (S.out.push x1 x2)
  go_wp2_with fail
  refine (mul_any 0 b2 a1 a2 _ _ i3 i4 i1 i2 h2).mono ?_
  rintro e w3 ⟨rfl, hb⟩
  have S := Bx.mk (S.out.call hb)
  clear hb
  clear l0 p0 r0 l1 p1 r1 l2 p2 r2
  obtain ⟨l0, p0, r0⟩ := S.out.caps (w2.heap.size, x1, x2) (by simp)
  obtain ⟨l1, p1, r1⟩ := S.out.caps (w.heap.size + 1 + 1, c1, c2) (by simp)
  obtain ⟨l2, p2, r2⟩ := S.out.caps (w.heap.size + 1, 0, b2) (by simp)
  obtain ⟨l3, p3, r3⟩ := S.out.caps (w.heap.size, a1, a2) (by simp)
  have S := Bx.mk (S.out.push x1 x2)
  go_wp2_with fail
  refine (mul_any 0 b2 c1 c2 _ _ i3 i4 i5 i6 h4).mono ?_
  rintro e w4 ⟨rfl, hb⟩
  have S := Bx.mk (S.out.call hb)
  clear hb
  clear l0 p0 r0 l1 p1 r1 l2 p2 r2 l3 p3 r3
  obtain ⟨l0, p0, r0⟩ := S.out.caps (w3.heap.size, x1, x2) (by simp)
  obtain ⟨l1, p1, r1⟩ := S.out.caps (w2.heap.size, x1, x2) (by simp)
  obtain ⟨l2, p2, r2⟩ := S.out.caps (w.heap.size + 1 + 1, c1, c2) (by simp)
  obtain ⟨l3, p3, r3⟩ := S.out.caps (w.heap.size + 1, 0, b2) (by simp)
  obtain ⟨l4, p4, r4⟩ := S.out.caps (w.heap.size, a1, a2) (by simp)
  have S := Bx.mk (S.out.push z1 z2)
  go_wp2_with fail
  refine (mul_any x1 x2 c1 c2 _ _ ix.1 ix.2 i5 i6 h5).mono ?_
  rintro e w5 ⟨rfl, hb⟩
  have S := Bx.mk (S.out.call hb)
  clear hb
  clear l0 p0 r0 l1 p1 r1 l2 p2 r2 l3 p3 r3 l4 p4 r4
  obtain ⟨l0, p0, r0⟩ := S.out.caps (w4.heap.size, z1, z2) (by simp)
  obtain ⟨l1, p1, r1⟩ := S.out.caps (w3.heap.size, x1, x2) (by simp)
  obtain ⟨l2, p2, r2⟩ := S.out.caps (w2.heap.size, x1, x2) (by simp)
  obtain ⟨l3, p3, r3⟩ := S.out.caps (w.heap.size + 1 + 1, c1, c2) (by simp)
  obtain ⟨l4, p4, r4⟩ := S.out.caps (w.heap.size + 1, 0, b2) (by simp)
  obtain ⟨l5, p5, r5⟩ := S.out.caps (w.heap.size, a1, a2) (by simp)
  have S := Bx.mk (S.out.push y1 y2)
  go_wp2_with fail
  refine (mul_any a1 a2 z1 z2 _ _ i1 i2 iz.1 iz.2 h6).mono ?_
  rintro e w6 ⟨rfl, hb⟩
  have S := Bx.mk (S.out.call hb)
  clear hb
  clear l0 p0 r0 l1 p1 r1 l2 p2 r2 l3 p3 r3 l4 p4 r4 l5 p5 r5
  obtain ⟨l0, p0, r0⟩ := S.out.caps (w5.heap.size, y1, y2) (by simp)
  obtain ⟨l1, p1, r1⟩ := S.out.caps (w4.heap.size, z1, z2) (by simp)
  obtain ⟨l2, p2, r2⟩ := S.out.caps (w3.heap.size, x1, x2) (by simp)
  obtain ⟨l3, p3, r3⟩ := S.out.caps (w2.heap.size, x1, x2) (by simp)
  obtain ⟨l4, p4, r4⟩ := S.out.caps (w.heap.size + 1 + 1, c1, c2) (by simp)
  obtain ⟨l5, p5, r5⟩ := S.out.caps (w.heap.size + 1, 0, b2) (by simp)
  obtain ⟨l6, p6, r6⟩ := S.out.caps (w.heap.size, a1, a2) (by simp)
  have S := Bx.mk (S.out.push y1 y2)
  go_wp2_with fail
  refine (add_any 0 b2 c1 c2 _ _ i3 i4 i5 i6 h7).mono ?_
  rintro e w7 ⟨rfl, hb⟩
  have S := Bx.mk (S.out.call hb)
  clear hb
  clear l0 p0 r0 l1 p1 r1 l2 p2 r2 l3 p3 r3 l4 p4 r4 l5 p5 r5 l6 p6 r6
  obtain ⟨l0, p0, r0⟩ := S.out.caps (w6.heap.size, y1, y2) (by simp)
  obtain ⟨l1, p1, r1⟩ := S.out.caps (w5.heap.size, y1, y2) (by simp)
  obtain ⟨l2, p2, r2⟩ := S.out.caps (w4.heap.size, z1, z2) (by simp)
  obtain ⟨l3, p3, r3⟩ := S.out.caps (w3.heap.size, x1, x2) (by simp)
  obtain ⟨l4, p4, r4⟩ := S.out.caps (w2.heap.size, x1, x2) (by simp)
  obtain ⟨l5, p5, r5⟩ := S.out.caps (w.heap.size + 1 + 1, c1, c2) (by simp)
  obtain ⟨l6, p6, r6⟩ := S.out.caps (w.heap.size + 1, 0, b2) (by simp)
  obtain ⟨l7, p7, r7⟩ := S.out.caps (w.heap.size, a1, a2) (by simp)
  have S := Bx.mk (S.out.push s1 s2)
  go_wp2_with fail
  refine (mul_any a1 a2 s1 s2 _ _ i1 i2 iS.1 iS.2 h8).mono ?_
  rintro e w8 ⟨rfl, hb⟩
  have S := Bx.mk (S.out.call hb)
  clear hb
  clear l0 p0 r0 l1 p1 r1 l2 p2 r2 l3 p3 r3 l4 p4 r4 l5 p5 r5 l6 p6 r6 l7 p7 r7
  obtain ⟨l0, p0, r0⟩ := S.out.caps (w7.heap.size, s1, s2) (by simp)
  obtain ⟨l1, p1, r1⟩ := S.out.caps (w6.heap.size, y1, y2) (by simp)
  obtain ⟨l2, p2, r2⟩ := S.out.caps (w5.heap.size, y1, y2) (by simp)
  obtain ⟨l3, p3, r3⟩ := S.out.caps (w4.heap.size, z1, z2) (by simp)
  obtain ⟨l4, p4, r4⟩ := S.out.caps (w3.heap.size, x1, x2) (by simp)
  obtain ⟨l5, p5, r5⟩ := S.out.caps (w2.heap.size, x1, x2) (by simp)
  obtain ⟨l6, p6, r6⟩ := S.out.caps (w.heap.size + 1 + 1, c1, c2) (by simp)
  obtain ⟨l7, p7, r7⟩ := S.out.caps (w.heap.size + 1, 0, b2) (by simp)
  obtain ⟨l8, p8, r8⟩ := S.out.caps (w.heap.size, a1, a2) (by simp)
  have S := Bx.mk (S.out.push t1 t2)
  go_wp2_with fail
  refine (mul_any a1 a2 c1 c2 _ _ i1 i2 i5 i6 h9).mono ?_
  rintro e w9 ⟨rfl, hb⟩
  have S := Bx.mk (S.out.call hb)
  clear hb
  clear l0 p0 r0 l1 p1 r1 l2 p2 r2 l3 p3 r3 l4 p4 r4 l5 p5 r5 l6 p6 r6 l7 p7 r7 l8 p8 r8
  obtain ⟨l0, p0, r0⟩ := S.out.caps (w8.heap.size, t1, t2) (by simp)
  obtain ⟨l1, p1, r1⟩ := S.out.caps (w7.heap.size, s1, s2) (by simp)
  obtain ⟨l2, p2, r2⟩ := S.out.caps (w6.heap.size, y1, y2) (by simp)
  obtain ⟨l3, p3, r3⟩ := S.out.caps (w5.heap.size, y1, y2) (by simp)
  obtain ⟨l4, p4, r4⟩ := S.out.caps (w4.heap.size, z1, z2) (by simp)
  obtain ⟨l5, p5, r5⟩ := S.out.caps (w3.heap.size, x1, x2) (by simp)
  obtain ⟨l6, p6, r6⟩ := S.out.caps (w2.heap.size, x1, x2) (by simp)
  obtain ⟨l7, p7, r7⟩ := S.out.caps (w.heap.size + 1 + 1, c1, c2) (by simp)
  obtain ⟨l8, p8, r8⟩ := S.out.caps (w.heap.size + 1, 0, b2) (by simp)
  obtain ⟨l9, p9, r9⟩ := S.out.caps (w.heap.size, a1, a2) (by simp)
  have S := Bx.mk (S.out.push v1 v2)
  go_wp2_with fail
  refine (add_any x1 x2 v1 v2 _ _ ix.1 ix.2 iv.1 iv.2 h10).mono ?_
  rintro e w10 ⟨rfl, hb⟩
  have S := Bx.mk (S.out.call hb)
  clear hb
  clear l0 p0 r0 l1 p1 r1 l2 p2 r2 l3 p3 r3 l4 p4 r4 l5 p5 r5 l6 p6 r6 l7 p7 r7 l8 p8 r8 l9 p9 r9
  obtain ⟨l0, p0, r0⟩ := S.out.caps (w9.heap.size, v1, v2) (by simp)
  obtain ⟨l1, p1, r1⟩ := S.out.caps (w8.heap.size, t1, t2) (by simp)
  obtain ⟨l2, p2, r2⟩ := S.out.caps (w7.heap.size, s1, s2) (by simp)
  obtain ⟨l3, p3, r3⟩ := S.out.caps (w6.heap.size, y1, y2) (by simp)
  obtain ⟨l4, p4, r4⟩ := S.out.caps (w5.heap.size, y1, y2) (by simp)
  obtain ⟨l5, p5, r5⟩ := S.out.caps (w4.heap.size, z1, z2) (by simp)
  obtain ⟨l6, p6, r6⟩ := S.out.caps (w3.heap.size, x1, x2) (by simp)
  obtain ⟨l7, p7, r7⟩ := S.out.caps (w2.heap.size, x1, x2) (by simp)
  obtain ⟨l8, p8, r8⟩ := S.out.caps (w.heap.size + 1 + 1, c1, c2) (by simp)
  obtain ⟨l9, p9, r9⟩ := S.out.caps (w.heap.size + 1, 0, b2) (by simp)
  obtain ⟨l10, p10, r10⟩ := S.out.caps (w.heap.size, a1, a2) (by simp)
  have S := Bx.mk (S.out.push m1 m2)
  by_cases k6 : e6 = 0
  · by_cases k7 : e7 = 0
    · by_cases k8 : e8 = 0
      · by_cases k9 : e9 = 0
        · subst k6; subst k7; subst k8; subst k9
          obtain ⟨rfl, rfl⟩ := mul_add h1 h7 h8 h9 h10
          clear h1 h2 h4 h5 h6 h7 h8 h9 h10
          go_wp2_with fail
          go_ret
          exact ⟨rfl, S.out.bl⟩
        · subst k6; subst k7; subst k8
          clear h1 h2 h4 h5 h6 h7 h8 h9 h10
          go_wp2_with fail
          go_ret
          exact ⟨rfl, S.out.bl⟩
      · subst k6; subst k7
        clear h1 h2 h4 h5 h6 h7 h8 h9 h10
        go_wp2_with fail
        go_ret
        exact ⟨rfl, S.out.bl⟩
    · subst k6
      clear h1 h2 h4 h5 h6 h7 h8 h9 h10
      go_wp2_with fail
      go_ret
      exact ⟨rfl, S.out.bl⟩
  · clear h1 h2 h4 h5 h6 h7 h8 h9 h10
    go_wp2_with fail
    go_ret
    exact ⟨rfl, S.out.bl⟩
set_option maxHeartbeats 4000000 in
theorem products_z3 (a1 a2 b1 b2 c1 c2 : Int) (w : World) (ht : Tb w) (i1 : I64 a1) (i2 : I64 a2) (i3 : I64 b1) (i4 : I64 b2) (i5 : I64 c1) (i6 : I64 c2) (x1 x2 z1 z2 y1 y2 u1 u2 s1 s2 e6 t1 t2 e7 v1 v2 e8 m1 m2 e9 e3 e4 e5 : Int) (k3 : ¬ e3 = 0) (hb : b1 = 0) (h1 : mulQ a1 a2 b1 b2 = ⟨x1, x2, 0⟩) (h4 : mulQ b1 b2 c1 c2 = ⟨z1, z2, e3⟩) (h5 : mulQ x1 x2 c1 c2 = ⟨y1, y2, e4⟩) (h6 : mulQ a1 a2 z1 z2 = ⟨u1, u2, e5⟩)
    (h7 : addQ b1 b2 c1 c2 = ⟨s1, s2, e6⟩) (h8 : mulQ a1 a2 s1 s2 = ⟨t1, t2, e7⟩) (h9 : mulQ a1 a2 c1 c2 = ⟨v1, v2, e8⟩) (h10 : addQ x1 x2 v1 v2 = ⟨m1, m2, e9⟩) :
    Calls Tryd.prog 5 #[RV a1 a2, RV b1 b2, RV c1 c2] w fun e w' => e = .returned (.bool true) ∧ Below w.heap.size w w' := by
  have h2 : mulQ b1 b2 a1 a2 = ⟨x1, x2, 0⟩ := by rw [mulQ_comm]; exact h1
  have ix := mulQ_i64 h1
  have iz := mulQ_i64 h4
  have iS := addQ_i64 h7
  have iv := mulQ_i64 h9
  subst hb
  have S : Bx (St w (((w.alloc (.cells #[.int .i64 a1, .int .i64 a2] 25)).alloc (.cells #[.int .i64 0, .int .i64 b2] 25)).alloc (.cells #[.int .i64 c1, .int .i64 c2] 25)) [(w.heap.size + 1 + 1, c1, c2), (w.heap.size + 1, 0, b2), (w.heap.size, a1, a2)]) := ⟨start3 w ht a1 a2 0 b2 c1 c2⟩
  go_enter Tryd.func5, Tryd.ntmps5
  go_wp2_with fail
  refine (head_any _ S.out.tb).mono ?_
  rintro e w1 ⟨rfl, hb⟩
  have S := Bx.mk (S.out.call hb)
  clear hb
  obtain ⟨l0, p0, r0⟩ := S.out.caps (w.heap.size + 1 + 1, c1, c2) (by simp)
  obtain ⟨l1, p1, r1⟩ := S.out.caps (w.heap.size + 1, 0, b2) (by simp)
  obtain ⟨l2, p2, r2⟩ := S.out.caps (w.heap.size, a1, a2) (by simp)
  go_wp2_with fail
  refine (mul_any a1 a2 0 b2 _ _ i1 i2 i3 i4 h1).mono ?_
  rintro e w2 ⟨rfl, hb⟩
  have S := Bx.mk (S.out.call hb)
  clear hb
  clear l0 p0 r0 l1 p1 r1 l2 p2 r2
  obtain ⟨l0, p0, r0⟩ := S.out.caps (w.heap.size + 1 + 1, c1, c2) (by simp)
  obtain ⟨l1, p1, r1⟩ := S.out.caps (w.heap.size + 1, 0, b2) (by simp)
  obtain ⟨l2, p2, r2⟩ := S.out.caps (w.heap.size, a1, a2) (by simp)
  have S := Bx.mk (S.out.push x1 x2)
  go_wp2_with fail
  refine (mul_any 0 b2 a1 a2 _ _ i3 i4 i1 i2 h2).mono ?_
  rintro e w3 ⟨rfl, hb⟩
  have S := Bx.mk (S.out.call hb)
  clear hb
  clear l0 p0 r0 l1 p1 r1 l2 p2 r2
  obtain ⟨l0, p0, r0⟩ := S.out.caps (w2.heap.size, x1, x2) (by simp)
  obtain ⟨l1, p1, r1⟩ := S.out.caps (w.heap.size + 1 + 1, c1, c2) (by simp)
  obtain ⟨l2, p2, r2⟩ := S.out.caps (w.heap.size + 1, 0, b2) (by simp)
  obtain ⟨l3, p3, r3⟩ := S.out.caps (w.heap.size, a1, a2) (by simp)
  have S := Bx.mk (S.out.push x1 x2)
  go_wp2_with fail
  refine (mul_any 0 b2 c1 c2 _ _ i3 i4 i5 i6 h4).mono ?_
  rintro e w4 ⟨rfl, hb⟩
  have S := Bx.mk (S.out.call hb)
  clear hb
  clear l0 p0 r0 l1 p1 r1 l2 p2 r2 l3 p3 r3
  obtain ⟨l0, p0, r0⟩ := S.out.caps (w3.heap.size, x1, x2) (by simp)
  obtain ⟨l1, p1, r1⟩ := S.out.caps (w2.heap.size, x1, x2) (by simp)
  obtain ⟨l2, p2, r2⟩ := S.out.caps (w.heap.size + 1 + 1, c1, c2) (by simp)
  obtain ⟨l3, p3, r3⟩ := S.out.caps (w.heap.size + 1, 0, b2) (by simp)
  obtain ⟨l4, p4, r4⟩ := S.out.caps (w.heap.size, a1, a2) (by simp)
  have S := Bx.mk (S.out.push z1 z2)
  go_wp2_with fail
  refine (mul_any x1 x2 c1 c2 _ _ ix.1 ix.2 i5 i6 h5).mono ?_
  rintro e w5 ⟨rfl, hb⟩
  have S := Bx.mk (S.out.call hb)
  clear hb
  clear l0 p0 r0 l1 p1 r1 l2 p2 r2 l3 p3 r3 l4 p4 r4
  obtain ⟨l0, p0, r0⟩ := S.out.caps (w4.heap.size, z1, z2) (by simp)
  obtain ⟨l1, p1, r1⟩ := S.out.caps (w3.heap.size, x1, x2) (by simp)
  obtain ⟨l2, p2, r2⟩ := S.out.caps (w2.heap.size, x1, x2) (by simp)
  obtain ⟨l3, p3, r3⟩ := S.out.caps (w.heap.size + 1 + 1, c1, c2) (by simp)
  obtain ⟨l4, p4, r4⟩ := S.out.caps (w.heap.size + 1, 0, b2) (by simp)
  obtain ⟨l5, p5, r5⟩ := S.out.caps (w.heap.size, a1, a2) (by simp)
  have S := Bx.mk (S.out.push y1 y2)
  go_wp2_with fail
  refine (mul_any a1 a2 z1 z2 _ _ i1 i2 iz.1 iz.2 h6).mono ?_
  rintro e w6 ⟨rfl, hb⟩
  have S := Bx.mk (S.out.call hb)
  clear hb
  clear l0 p0 r0 l1 p1 r1 l2 p2 r2 l3 p3 r3 l4 p4 r4 l5 p5 r5
  obtain ⟨l0, p0, r0⟩ := S.out.caps (w5.heap.size, y1, y2) (by simp)
  obtain ⟨l1, p1, r1⟩ := S.out.caps (w4.heap.size, z1, z2) (by simp)
  obtain ⟨l2, p2, r2⟩ := S.out.caps (w3.heap.size, x1, x2) (by simp)
  obtain ⟨l3, p3, r3⟩ := S.out.caps (w2.heap.size, x1, x2) (by simp)
  obtain ⟨l4, p4, r4⟩ := S.out.caps (w.heap.size + 1 + 1, c1, c2) (by simp)
  obtain ⟨l5, p5, r5⟩ := S.out.caps (w.heap.size + 1, 0, b2) (by simp)
  obtain ⟨l6, p6, r6⟩ := S.out.caps (w.heap.size, a1, a2) (by simp)
  have S := Bx.mk (S.out.push u1 u2)
  go_wp2_with fail
  refine (add_any 0 b2 c1 c2 _ _ i3 i4 i5 i6 h7).mono ?_
  rintro e w7 ⟨rfl, hb⟩
  have S := Bx.mk (S.out.call hb)
  clear hb
  clear l0 p0 r0 l1 p1 r1 l2 p2 r2 l3 p3 r3 l4 p4 r4 l5 p5 r5 l6 p6 r6
  obtain ⟨l0, p0, r0⟩ := S.out.caps (w6.heap.size, u1, u2) (by simp)
  obtain ⟨l1, p1, r1⟩ := S.out.caps (w5.heap.size, y1, y2) (by simp)
  obtain ⟨l2, p2, r2⟩ := S.out.caps (w4.heap.size, z1, z2) (by simp)
  obtain ⟨l3, p3, r3⟩ := S.out.caps (w3.heap.size, x1, x2) (by simp)
  obtain ⟨l4, p4, r4⟩ := S.out.caps (w2.heap.size, x1, x2) (by simp)
  obtain ⟨l5, p5, r5⟩ := S.out.caps (w.heap.size + 1 + 1, c1, c2) (by simp)
  obtain ⟨l6, p6, r6⟩ := S.out.caps (w.heap.size + 1, 0, b2) (by simp)
  obtain ⟨l7, p7, r7⟩ := S.out.caps (w.heap.size, a1, a2) (by simp)
  have S := Bx.mk (S.out.push s1 s2)
  go_wp2_with fail
  refine (mul_any a1 a2 s1 s2 _ _ i1 i2 iS.1 iS.2 h8).mono ?_
  rintro e w8 ⟨rfl, hb⟩
  have S := Bx.mk (S.out.call hb)
  clear hb
  clear l0 p0 r0 l1 p1 r1 l2 p2 r2 l3 p3 r3 l4 p4 r4 l5 p5 r5 l6 p6 r6 l7 p7 r7
  obtain ⟨l0, p0, r0⟩ := S.out.caps (w7.heap.size, s1, s2) (by simp)
  obtain ⟨l1, p1, r1⟩ := S.out.caps (w6.heap.size, u1, u2) (by simp)
  obtain ⟨l2, p2, r2⟩ := S.out.caps (w5.heap.size, y1, y2) (by simp)
  obtain ⟨l3, p3, r3⟩ := S.out.caps (w4.heap.size, z1, z2) (by simp)
  obtain ⟨l4, p4, r4⟩ := S.out.caps (w3.heap.size, x1, x2) (by simp)
  obtain ⟨l5, p5, r5⟩ := S.out.caps (w2.heap.size, x1, x2) (by simp)
  obtain ⟨l6, p6, r6⟩ := S.out.caps (w.heap.size + 1 + 1, c1, c2) (by simp)
  obtain ⟨l7, p7, r7⟩ := S.out.caps (w.heap.size + 1, 0, b2) (by simp)
  obtain ⟨l8, p8, r8⟩ := S.out.caps (w.heap.size, a1, a2) (by simp)
  have S := Bx.mk (S.out.push t1 t2)
  go_wp2_with fail
  refine (mul_any a1 a2 c1 c2 _ _ i1 i2 i5 i6 h9).mono ?_
  rintro e w9 ⟨rfl, hb⟩
  have S := Bx.mk (S.out.call hb)
  clear hb
  clear l0 p0 r0 l1 p1 r1 l2 p2 r2 l3 p3 r3 l4 p4 r4 l5 p5 r5 l6 p6 r6 l7 p7 r7 l8 p8 r8
  obtain ⟨l0, p0, r0⟩ := S.out.caps (w8.heap.size, t1, t2) (by simp)
  obtain ⟨l1, p1, r1⟩ := S.out.caps (w7.heap.size, s1, s2) (by simp)
  obtain ⟨l2, p2, r2⟩ := S.out.caps (w6.heap.size, u1, u2) (by simp)
  obtain ⟨l3, p3, r3⟩ := S.out.caps (w5.heap.size, y1, y2) (by simp)
  obtain ⟨l4, p4, r4⟩ := S.out.caps (w4.heap.size, z1, z2) (by simp)
  obtain ⟨l5, p5, r5⟩ := S.out.caps (w3.heap.size, x1, x2) (by simp)
  obtain ⟨l6, p6, r6⟩ := S.out.caps (w2.heap.size, x1, x2) (by simp)
  obtain ⟨l7, p7, r7⟩ := S.out.caps (w.heap.size + 1 + 1, c1, c2) (by simp)
  obtain ⟨l8, p8, r8⟩ := S.out.caps (w.heap.size + 1, 0, b2) (by simp)
  obtain ⟨l9, p9, r9⟩ := S.out.caps (w.heap.size, a1, a2) (by simp)
  have S := Bx.mk (S.out.push v1 v2)
  go_wp2_with fail
  refine (add_any x1 x2 v1 v2 _ _ ix.1 ix.2 iv.1 iv.2 h10).mono ?_
  rintro e w10 ⟨rfl, hb⟩
  have S := Bx.mk (S.out.call hb)
  clear hb
  clear l0 p0 r0 l1 p1 r1 l2 p2 r2 l3 p3 r3 l4 p4 r4 l5 p5 r5 l6 p6 r6 l7 p7 r7 l8 p8 r8 l9 p9 r9
  obtain ⟨l0, p0, r0⟩ := S.out.caps (w9.heap.size, v1, v2) (by simp)
  obtain ⟨l1, p1, r1⟩ := S.out.caps (w8.heap.size, t1, t2) (by simp)
  obtain ⟨l2, p2, r2⟩ := S.out.caps (w7.heap.size, s1, s2) (by simp)
  obtain ⟨l3, p3, r3⟩ := S.out.caps (w6.heap.size, u1, u2) (by simp)
  obtain ⟨l4, p4, r4⟩ := S.out.caps (w5.heap.size, y1, y2) (by simp)
  obtain ⟨l5, p5, r5⟩ := S.out.caps (w4.heap.size, z1, z2) (by simp)
  obtain ⟨l6, p6, r6⟩ := S.out.caps (w3.heap.size, x1, x2) (by simp)
  obtain ⟨l7, p7, r7⟩ := S.out.caps (w2.heap.size, x1, x2) (by simp)
  obtain ⟨l8, p8, r8⟩ := S.out.caps (w.heap.size + 1 + 1, c1, c2) (by simp)
  obtain ⟨l9, p9, r9⟩ := S.out.caps (w.heap.size + 1, 0, b2) (by simp)
  obtain ⟨l10, p10, r10⟩ := S.out.caps (w.heap.size, a1, a2) (by simp)
  have S := Bx.mk (S.out.push m1 m2)
  by_cases k6 : e6 = 0
  · by_cases k7 : e7 = 0
    · by_cases k8 : e8 = 0
      · by_cases k9 : e9 = 0
        · subst k6; subst k7; subst k8; subst k9
          obtain ⟨rfl, rfl⟩ := mul_add h1 h7 h8 h9 h10
          clear h1 h2 h4 h5 h6 h7 h8 h9 h10
          go_wp2_with fail
          go_ret
          exact ⟨rfl, S.out.bl⟩
        · subst k6; subst k7; subst k8
          clear h1 h2 h4 h5 h6 h7 h8 h9 h10
          go_wp2_with fail
          go_ret
          exact ⟨rfl, S.out.bl⟩
      · subst k6; subst k7
        clear h1 h2 h4 h5 h6 h7 h8 h9 h10
        go_wp2_with fail
        go_ret
        exact ⟨rfl, S.out.bl⟩
    · subst k6
      clear h1 h2 h4 h5 h6 h7 h8 h9 h10
      go_wp2_with fail
      go_ret
      exact ⟨rfl, S.out.bl⟩
  · clear h1 h2 h4 h5 h6 h7 h8 h9 h10
    go_wp2_with fail
    go_ret
    exact ⟨rfl, S.out.bl⟩
set_option maxHeartbeats 4000000 in
theorem products_z4 (a1 a2 b1 b2 c1 c2 : Int) (w : World) (ht : Tb w) (i1 : I64 a1) (i2 : I64 a2) (i3 : I64 b1) (i4 : I64 b2) (i5 : I64 c1) (i6 : I64 c2) (x1 x2 z1 z2 y1 y2 u1 u2 s1 s2 e6 t1 t2 e7 v1 v2 e8 m1 m2 e9 e4 e5 : Int) (k4 : ¬ e4 = 0) (hb : b1 = 0) (h1 : mulQ a1 a2 b1 b2 = ⟨x1, x2, 0⟩) (h4 : mulQ b1 b2 c1 c2 = ⟨z1, z2, 0⟩) (h5 : mulQ x1 x2 c1 c2 = ⟨y1, y2, e4⟩) (h6 : mulQ a1 a2 z1 z2 = ⟨u1, u2, e5⟩)
    (h7 : addQ b1 b2 c1 c2 = ⟨s1, s2, e6⟩) (h8 : mulQ a1 a2 s1 s2 = ⟨t1, t2, e7⟩) (h9 : mulQ a1 a2 c1 c2 = ⟨v1, v2, e8⟩) (h10 : addQ x1 x2 v1 v2 = ⟨m1, m2, e9⟩) :
    Calls Tryd.prog 5 #[RV a1 a2, RV b1 b2, RV c1 c2] w fun e w' => e = .returned (.bool true) ∧ Below w.heap.size w w' := by
  have h2 : mulQ b1 b2 a1 a2 = ⟨x1, x2, 0⟩ := by rw [mulQ_comm]; exact h1
  have ix := mulQ_i64 h1
  have iz := mulQ_i64 h4
  have iS := addQ_i64 h7
  have iv := mulQ_i64 h9
  subst hb
  have S : Bx (St w (((w.alloc (.cells #[.int .i64 a1, .int .i64 a2] 25)).alloc (.cells #[.int .i64 0, .int .i64 b2] 25)).alloc (.cells #[.int .i64 c1, .int .i64 c2] 25)) [(w.heap.size + 1 + 1, c1, c2), (w.heap.size + 1, 0, b2), (w.heap.size, a1, a2)]) := ⟨start3 w ht a1 a2 0 b2 c1 c2⟩
  go_enter Tryd.func5, Tryd.ntmps5
  go_wp2_with fail
  refine (head_any _ S.out.tb).mono ?_
  rintro e w1 ⟨rfl, hb⟩
  have S := Bx.mk (S.out.call hb)
  clear hb
  obtain ⟨l0, p0, r0⟩ := S.out.caps (w.heap.size + 1 + 1, c1, c2) (by simp)
  obtain ⟨l1, p1, r1⟩ := S.out.caps (w.heap.size + 1, 0, b2) (by simp)
  obtain ⟨l2, p2, r2⟩ := S.out.caps (w.heap.size, a1, a2) (by simp)
  go_wp2_with fail
  refine (mul_any a1 a2 0 b2 _ _ i1 i2 i3 i4 h1).mono ?_
  rintro e w2 ⟨rfl, hb⟩
  have S := Bx.mk (S.out.call hb)
  clear hb
  clear l0 p0 r0 l1 p1 r1 l2 p2 r2
  obtain ⟨l0, p0, r0⟩ := S.out.caps (w.heap.size + 1 + 1, c1, c2) (by simp)
  obtain ⟨l1, p1, r1⟩ := S.out.caps (w.heap.size + 1, 0, b2) (by simp)
  obtain ⟨l2, p2, r2⟩ := S.out.caps (w.heap.size, a1, a2) (by simp)
  have S := Bx.mk (S.out.push x1 x2)
  go_wp2_with fail
  refine (mul_any 0 b2 a1 a2 _ _ i3 i4 i1 i2 h2).mono ?_
  rintro e w3 ⟨rfl, hb⟩
  have S := Bx.mk (S.out.call hb)
  clear hb
  clear l0 p0 r0 l1 p1 r1 l2 p2 r2
  obtain ⟨l0, p0, r0⟩ := S.out.caps (w2.heap.size, x1, x2) (by simp)
  obtain ⟨l1, p1, r1⟩ := S.out.caps (w.heap.size + 1 + 1, c1, c2) (by simp)
  obtain ⟨l2, p2, r2⟩ := S.out.caps (w.heap.size + 1, 0, b2) (by simp)
  obtain ⟨l3, p3, r3⟩ := S.out.caps (w.heap.size, a1, a2) (by simp)
  have S := Bx.mk (S.out.push x1 x2)
  go_wp2_with fail
  refine (mul_any 0 b2 c1 c2 _ _ i3 i4 i5 i6 h4).mono ?_
  rintro e w4 ⟨rfl, hb⟩
  have S := Bx.mk (S.out.call hb)
  clear hb
  clear l0 p0 r0 l1 p1 r1 l2 p2 r2 l3 p3 r3
  obtain ⟨l0, p0, r0⟩ := S.out.caps (w3.heap.size, x1, x2) (by simp)
  obtain ⟨l1, p1, r1⟩ := S.out.caps (w2.heap.size, x1, x2) (by simp)
  obtain ⟨l2, p2, r2⟩ := S.out.caps (w.heap.size + 1 + 1, c1, c2) (by simp)
  obtain ⟨l3, p3, r3⟩ := S.out.caps (w.heap.size + 1, 0, b2) (by simp)
  obtain ⟨l4, p4, r4⟩ := S.out.caps (w.heap.size, a1, a2) (by simp)
  have S := Bx.mk (S.out.push z1 z2)
  go_wp2_with fail
  refine (mul_any x1 x2 c1 c2 _ _ ix.1 ix.2 i5 i6 h5).mono ?_
  rintro e w5 ⟨rfl, hb⟩
  have S := Bx.mk (S.out.call hb)
  clear hb
  clear l0 p0 r0 l1 p1 r1 l2 p2 r2 l3 p3 r3 l4 p4 r4
  obtain ⟨l0, p0, r0⟩ := S.out.caps (w4.heap.size, z1, z2) (by simp)
  obtain ⟨l1, p1, r1⟩ := S.out.caps (w3.heap.size, x1, x2) (by simp)
  obtain ⟨l2, p2, r2⟩ := S.out.caps (w2.heap.size, x1, x2) (by simp)
  obtain ⟨l3, p3, r3⟩ := S.out.caps (w.heap.size + 1 + 1, c1, c2) (by simp)
  obtain ⟨l4, p4, r4⟩ := S.out.caps (w.heap.size + 1, 0, b2) (by simp)
  obtain ⟨l5, p5, r5⟩ := S.out.caps (w.heap.size, a1, a2) (by simp)
  have S := Bx.mk (S.out.push y1 y2)
  go_wp2_with fail
  refine (mul_any a1 a2 z1 z2 _ _ i1 i2 iz.1 iz.2 h6).mono ?_
  rintro e w6 ⟨rfl, hb⟩
  have S := Bx.mk (S.out.call hb)
  clear hb
  clear l0 p0 r0 l1 p1 r1 l2 p2 r2 l3 p3 r3 l4 p4 r4 l5 p5 r5
  obtain ⟨l0, p0, r0⟩ := S.out.caps (w5.heap.size, y1, y2) (by simp)
  obtain ⟨l1, p1, r1⟩ := S.out.caps (w4.heap.size, z1, z2) (by simp)
  obtain ⟨l2, p2, r2⟩ := S.out.caps (w3.heap.size, x1, x2) (by simp)
  obtain ⟨l3, p3, r3⟩ := S.out.caps (w2.heap.size, x1, x2) (by simp)
  obtain ⟨l4, p4, r4⟩ := S.out.caps (w.heap.size + 1 + 1, c1, c2) (by simp)
  obtain ⟨l5, p5, r5⟩ := S.out.caps (w.heap.size + 1, 0, b2) (by simp)
  obtain ⟨l6, p6, r6⟩ := S.out.caps (w.heap.size, a1, a2) (by simp)
  have S := Bx.mk (S.out.push u1 u2)
  go_wp2_with fail
  refine (add_any 0 b2 c1 c2 _ _ i3 i4 i5 i6 h7).mono ?_
  rintro e w7 ⟨rfl, hb⟩
  have S := Bx.mk (S.out.call hb)
  clear hb
  clear l0 p0 r0 l1 p1 r1 l2 p2 r2 l3 p3 r3 l4 p4 r4 l5 p5 r5 l6 p6 r6
  obtain ⟨l0, p0, r0⟩ := S.out.caps (w6.heap.size, u1, u2) (by simp)
  obtain ⟨l1, p1, r1⟩ := S.out.caps (w5.heap.size, y1, y2) (by simp)
  obtain ⟨l2, p2, r2⟩ := S.out.caps (w4.heap.size, z1, z2) (by simp)
  obtain ⟨l3, p3, r3⟩ := S.out.caps (w3.heap.size, x1, x2) (by simp)
  obtain ⟨l4, p4, r4⟩ := S.out.caps (w2.heap.size, x1, x2) (by simp)
  obtain ⟨l5, p5, r5⟩ := S.out.caps (w.heap.size + 1 + 1, c1, c2) (by simp)
  obtain ⟨l6, p6, r6⟩ := S.out.caps (w.heap.size + 1, 0, b2) (by simp)
  obtain ⟨l7, p7, r7⟩ := S.out.caps (w.heap.size, a1, a2) (by simp)
  have S := Bx.mk (S.out.push s1 s2)
  go_wp2_with fail
  refine (mul_any a1 a2 s1 s2 _ _ i1 i2 iS.1 iS.2 h8).mono ?_
  rintro e w8 ⟨rfl, hb⟩
  have S := Bx.mk (S.out.call hb)
  clear hb
  clear l0 p0 r0 l1 p1 r1 l2 p2 r2 l3 p3 r3 l4 p4 r4 l5 p5 r5 l6 p6 r6 l7 p7 r7
  obtain ⟨l0, p0, r0⟩ := S.out.caps (w7.heap.size, s1, s2) (by simp)
  obtain ⟨l1, p1, r1⟩ := S.out.caps (w6.heap.size, u1, u2) (by simp)
  obtain ⟨l2, p2, r2⟩ := S.out.caps (w5.heap.size, y1, y2) (by simp)
  obtain ⟨l3, p3, r3⟩ := S.out.caps (w4.heap.size, z1, z2) (by simp)
  obtain ⟨l4, p4, r4⟩ := S.out.caps (w3.heap.size, x1, x2) (by simp)
  obtain ⟨l5, p5, r5⟩ := S.out.caps (w2.heap.size, x1, x2) (by simp)
  obtain ⟨l6, p6, r6⟩ := S.out.caps (w.heap.size + 1 + 1, c1, c2) (by simp)
  obtain ⟨l7, p7, r7⟩ := S.out.caps (w.heap.size + 1, 0, b2) (by simp)
  obtain ⟨l8, p8, r8⟩ := S.out.caps (w.heap.size, a1, a2) (by simp)
  have S := Bx.mk (S.out.push t1 t2)
  go_wp2_with fail
  refine (mul_any a1 a2 c1 c2 _ _ i1 i2 i5 i6 h9).mono ?_
  rintro e w9 ⟨rfl, hb⟩
  have S := Bx.mk (S.out.call hb)
  clear hb
  clear l0 p0 r0 l1 p1 r1 l2 p2 r2 l3 p3 r3 l4 p4 r4 l5 p5 r5 l6 p6 r6 l7 p7 r7 l8 p8 r8
  obtain ⟨l0, p0, r0⟩ := S.out.caps (w8.heap.size, t1, t2) (by simp)
  obtain ⟨l1, p1, r1⟩ := S.out.caps (w7.heap.size, s1, s2) (by simp)
  obtain ⟨l2, p2, r2⟩ := S.out.caps (w6.heap.size, u1, u2) (by simp)
  obtain ⟨l3, p3, r3⟩ := S.out.caps (w5.heap.size, y1, y2) (by simp)
  obtain ⟨l4, p4, r4⟩ := S.out.caps (w4.heap.size, z1, z2) (by simp)
  obtain ⟨l5, p5, r5⟩ := S.out.caps (w3.heap.size, x1, x2) (by simp)
  obtain ⟨l6, p6, r6⟩ := S.out.caps (w2.heap.size, x1, x2) (by simp)
  obtain ⟨l7, p7, r7⟩ := S.out.caps (w.heap.size + 1 + 1, c1, c2) (by simp)
  obtain ⟨l8, p8, r8⟩ := S.out.caps (w.heap.size + 1, 0, b2) (by simp)
  obtain ⟨l9, p9, r9⟩ := S.out.caps (w.heap.size, a1, a2) (by simp)
  have S := Bx.mk (S.out.push v1 v2)
  go_wp2_with fail
  refine (add_any x1 x2 v1 v2 _ _ ix.1 ix.2 iv.1 iv.2 h10).mono ?_
  rintro e w10 ⟨rfl, hb⟩
  have S := Bx.mk (S.out.call hb)
  clear hb
  clear l0 p0 r0 l1 p1 r1 l2 p2 r2 l3 p3 r3 l4 p4 r4 l5 p5 r5 l6 p6 r6 l7 p7 r7 l8 p8 r8 l9 p9 r9
  obtain ⟨l0, p0, r0⟩ := S.out.caps (w9.heap.size, v1, v2) (by simp)
  obtain ⟨l1, p1, r1⟩ := S.out.caps (w8.heap.size, t1, t2) (by simp)
  obtain ⟨l2, p2, r2⟩ := S.out.caps (w7.heap.size, s1, s2) (by simp)
  obtain ⟨l3, p3, r3⟩ := S.out.caps (w6.heap.size, u1, u2) (by simp)
  obtain ⟨l4, p4, r4⟩ := S.out.caps (w5.heap.size, y1, y2) (by simp)
  obtain ⟨l5, p5, r5⟩ := S.out.caps (w4.heap.size, z1, z2) (by simp)
  obtain ⟨l6, p6, r6⟩ := S.out.caps (w3.heap.size, x1, x2) (by simp)
  obtain ⟨l7, p7, r7⟩ := S.out.caps (w2.heap.size, x1, x2) (by simp)
  obtain ⟨l8, p8, r8⟩ := S.out.caps (w.heap.size + 1 + 1, c1, c2) (by simp)
  obtain ⟨l9, p9, r9⟩ := S.out.caps (w.heap.size + 1, 0, b2) (by simp)
  obtain ⟨l10, p10, r10⟩ := S.out.caps (w.heap.size, a1, a2) (by simp)
  have S := Bx.mk (S.out.push m1 m2)
  by_cases k6 : e6 = 0
  · by_cases k7 : e7 = 0
    · by_cases k8 : e8 = 0
      · by_cases k9 : e9 = 0
        · subst k6; subst k7; subst k8; subst k9
          obtain ⟨rfl, rfl⟩ := mul_add h1 h7 h8 h9 h10
          clear h1 h2 h4 h5 h6 h7 h8 h9 h10
          go_wp2_with fail
          go_ret
          exact ⟨rfl, S.out.bl⟩
        · subst k6; subst k7; subst k8
          clear h1 h2 h4 h5 h6 h7 h8 h9 h10
          go_wp2_with fail
          go_ret
          exact ⟨rfl, S.out.bl⟩
      · subst k6; subst k7
        clear h1 h2 h4 h5 h6 h7 h8 h9 h10
        go_wp2_with fail
        go_ret
        exact ⟨rfl, S.out.bl⟩
    · subst k6
      clear h1 h2 h4 h5 h6 h7 h8 h9 h10
      go_wp2_with fail
      go_ret
      exact ⟨rfl, S.out.bl⟩
  · clear h1 h2 h4 h5 h6 h7 h8 h9 h10
    go_wp2_with fail
    go_ret
    exact ⟨rfl, S.out.bl⟩
set_option maxHeartbeats 4000000 in
theorem products_z5 (a1 a2 b1 b2 c1 c2 : Int) (w : World) (ht : Tb w) (i1 : I64 a1) (i2 : I64 a2) (i3 : I64 b1) (i4 : I64 b2) (i5 : I64 c1) (i6 : I64 c2) (x1 x2 z1 z2 y1 y2 u1 u2 s1 s2 e6 t1 t2 e7 v1 v2 e8 m1 m2 e9 e5 : Int) (k5 : ¬ e5 = 0) (hb : b1 = 0) (h1 : mulQ a1 a2 b1 b2 = ⟨x1, x2, 0⟩) (h4 : mulQ b1 b2 c1 c2 = ⟨z1, z2, 0⟩) (h5 : mulQ x1 x2 c1 c2 = ⟨y1, y2, 0⟩) (h6 : mulQ a1 a2 z1 z2 = ⟨u1, u2, e5⟩)
    (h7 : addQ b1 b2 c1 c2 = ⟨s1, s2, e6⟩) (h8 : mulQ a1 a2 s1 s2 = ⟨t1, t2, e7⟩) (h9 : mulQ a1 a2 c1 c2 = ⟨v1, v2, e8⟩) (h10 : addQ x1 x2 v1 v2 = ⟨m1, m2, e9⟩) :
    Calls Tryd.prog 5 #[RV a1 a2, RV b1 b2, RV c1 c2] w fun e w' => e = .returned (.bool true) ∧ Below w.heap.size w w' := by
  have h2 : mulQ b1 b2 a1 a2 = ⟨x1, x2, 0⟩ := by rw [mulQ_comm]; exact h1
  have ix := mulQ_i64 h1
  have iz := mulQ_i64 h4
  have iS := addQ_i64 h7
  have iv := mulQ_i64 h9
  subst hb
  have S : Bx (St w (((w.alloc (.cells #[.int .i64 a1, .int .i64 a2] 25)).alloc (.cells #[.int .i64 0, .int .i64 b2] 25)).alloc (.cells #[.int .i64 c1, .int .i64 c2] 25)) [(w.heap.size + 1 + 1, c1, c2), (w.heap.size + 1, 0, b2), (w.heap.size, a1, a2)]) := ⟨start3 w ht a1 a2 0 b2 c1 c2⟩
  go_enter Tryd.func5, Tryd.ntmps5
  go_wp2_with fail
  refine (head_any _ S.out.tb).mono ?_
  rintro e w1 ⟨rfl, hb⟩
  have S := Bx.mk (S.out.call hb)
  clear hb
  obtain ⟨l0, p0, r0⟩ := S.out.caps (w.heap.size + 1 + 1, c1, c2) (by simp)
  obtain ⟨l1, p1, r1⟩ := S.out.caps (w.heap.size + 1, 0, b2) (by simp)
  obtain ⟨l2, p2, r2⟩ := S.out.caps (w.heap.size, a1, a2) (by simp)
  go_wp2_with fail
  refine (mul_any a1 a2 0 b2 _ _ i1 i2 i3 i4 h1).mono ?_
  rintro e w2 ⟨rfl, hb⟩
  have S := Bx.mk (S.out.call hb)
  clear hb
  clear l0 p0 r0 l1 p1 r1 l2 p2 r2
  obtain ⟨l0, p0, r0⟩ := S.out.caps (w.heap.size + 1 + 1, c1, c2) (by simp)
  obtain ⟨l1, p1, r1⟩ := S.out.caps (w.heap.size + 1, 0, b2) (by simp)
  obtain ⟨l2, p2, r2⟩ := S.out.caps (w.heap.size, a1, a2) (by simp)
  have S := Bx.mk (S.out.push x1 x2)
  go_wp2_with fail
  refine (mul_any 0 b2 a1 a2 _ _ i3 i4 i1 i2 h2).mono ?_
  rintro e w3 ⟨rfl, hb⟩
  have S := Bx.mk (S.out.call hb)
  clear hb
  clear l0 p0 r0 l1 p1 r1 l2 p2 r2
  obtain ⟨l0, p0, r0⟩ := S.out.caps (w2.heap.size, x1, x2) (by simp)
  obtain ⟨l1, p1, r1⟩ := S.out.caps (w.heap.size + 1 + 1, c1, c2) (by simp)
  obtain ⟨l2, p2, r2⟩ := S.out.caps (w.heap.size + 1, 0, b2) (by simp)
  obtain ⟨l3, p3, r3⟩ := S.out.caps (w.heap.size, a1, a2) (by simp)
  have S := Bx.mk (S.out.push x1 x2)
  go_wp2_with fail
  refine (mul_any 0 b2 c1 c2 _ _ i3 i4 i5 i6 h4).mono ?_
  rintro e w4 ⟨rfl, hb⟩
  have S := Bx.mk (S.out.call hb)
  clear hb
  clear l0 p0 r0 l1 p1 r1 l2 p2 r2 l3 p3 r3
  obtain ⟨l0, p0, r0⟩ := S.out.caps (w3.heap.size, x1, x2) (by simp)
  obtain ⟨l1, p1, r1⟩ := S.out.caps (w2.heap.size, x1, x2) (by simp)
  obtain ⟨l2, p2, r2⟩ := S.out.caps (w.heap.size + 1 + 1, c1, c2) (by simp)
  obtain ⟨l3, p3, r3⟩ := S.out.caps (w.heap.size + 1, 0, b2) (by simp)
  obtain ⟨l4, p4, r4⟩ := S.out.caps (w.heap.size, a1, a2) (by simp)
  have S := Bx.mk (S.out.push z1 z2)
  go_wp2_with fail
  refine (mul_any x1 x2 c1 c2 _ _ ix.1 ix.2 i5 i6 h5).mono ?_
  rintro e w5 ⟨rfl, hb⟩
  have S := Bx.mk (S.out.call hb)
  clear hb
  clear l0 p0 r0 l1 p1 r1 l2 p2 r2 l3 p3 r3 l4 p4 r4
  obtain ⟨l0, p0, r0⟩ := S.out.caps (w4.heap.size, z1, z2) (by simp)
  obtain ⟨l1, p1, r1⟩ := S.out.caps (w3.heap.size, x1, x2) (by simp)
  obtain ⟨l2, p2, r2⟩ := S.out.caps (w2.heap.size, x1, x2) (by simp)
  obtain ⟨l3, p3, r3⟩ := S.out.caps (w.heap.size + 1 + 1, c1, c2) (by simp)
  obtain ⟨l4, p4, r4⟩ := S.out.caps (w.heap.size + 1, 0, b2) (by simp)
  obtain ⟨l5, p5, r5⟩ := S.out.caps (w.heap.size, a1, a2) (by simp)
  have S := Bx.mk (S.out.push y1 y2)
  go_wp2_with fail
  refine (mul_any a1 a2 z1 z2 _ _ i1 i2 iz.1 iz.2 h6).mono ?_
  rintro e w6 ⟨rfl, hb⟩
  have S := Bx.mk (S.out.call hb)
  clear hb
  clear l0 p0 r0 l1 p1 r1 l2 p2 r2 l3 p3 r3 l4 p4 r4 l5 p5 r5
  obtain ⟨l0, p0, r0⟩ := S.out.caps (w5.heap.size, y1, y2) (by simp)
  obtain ⟨l1, p1, r1⟩ := S.out.caps (w4.heap.size, z1, z2) (by simp)
  obtain ⟨l2, p2, r2⟩ := S.out.caps (w3.heap.size, x1, x2) (by simp)
  obtain ⟨l3, p3, r3⟩ := S.out.caps (w2.heap.size, x1, x2) (by simp)
  obtain ⟨l4, p4, r4⟩ := S.out.caps (w.heap.size + 1 + 1, c1, c2) (by simp)
  obtain ⟨l5, p5, r5⟩ := S.out.caps (w.heap.size + 1, 0, b2) (by simp)
  obtain ⟨l6, p6, r6⟩ := S.out.caps (w.heap.size, a1, a2) (by simp)
  have S := Bx.mk (S.out.push u1 u2)
  go_wp2_with fail
  refine (add_any 0 b2 c1 c2 _ _ i3 i4 i5 i6 h7).mono ?_
  rintro e w7 ⟨rfl, hb⟩
  have S := Bx.mk (S.out.call hb)
  clear hb
  clear l0 p0 r0 l1 p1 r1 l2 p2 r2 l3 p3 r3 l4 p4 r4 l5 p5 r5 l6 p6 r6
  obtain ⟨l0, p0, r0⟩ := S.out.caps (w6.heap.size, u1, u2) (by simp)
  obtain ⟨l1, p1, r1⟩ := S.out.caps (w5.heap.size, y1, y2) (by simp)
  obtain ⟨l2, p2, r2⟩ := S.out.caps (w4.heap.size, z1, z2) (by simp)
  obtain ⟨l3, p3, r3⟩ := S.out.caps (w3.heap.size, x1, x2) (by simp)
  obtain ⟨l4, p4, r4⟩ := S.out.caps (w2.heap.size, x1, x2) (by simp)
  obtain ⟨l5, p5, r5⟩ := S.out.caps (w.heap.size + 1 + 1, c1, c2) (by simp)
  obtain ⟨l6, p6, r6⟩ := S.out.caps (w.heap.size + 1, 0, b2) (by simp)
  obtain ⟨l7, p7, r7⟩ := S.out.caps (w.heap.size, a1, a2) (by simp)
  have S := Bx.mk (S.out.push s1 s2)
  go_wp2_with fail
  refine (mul_any a1 a2 s1 s2 _ _ i1 i2 iS.1 iS.2 h8).mono ?_
  rintro e w8 ⟨rfl, hb⟩
  have S := Bx.mk (S.out.call hb)
  clear hb
  clear l0 p0 r0 l1 p1 r1 l2 p2 r2 l3 p3 r3 l4 p4 r4 l5 p5 r5 l6 p6 r6 l7 p7 r7
  obtain ⟨l0, p0, r0⟩ := S.out.caps (w7.heap.size, s1, s2) (by simp)
  obtain ⟨l1, p1, r1⟩ := S.out.caps (w6.heap.size, u1, u2) (by simp)
  obtain ⟨l2, p2, r2⟩ := S.out.caps (w5.heap.size, y1, y2) (by simp)
  obtain ⟨l3, p3, r3⟩ := S.out.caps (w4.heap.size, z1, z2) (by simp)
  obtain ⟨l4, p4, r4⟩ := S.out.caps (w3.heap.size, x1, x2) (by simp)
  obtain ⟨l5, p5, r5⟩ := S.out.caps (w2.heap.size, x1, x2) (by simp)
  obtain ⟨l6, p6, r6⟩ := S.out.caps (w.heap.size + 1 + 1, c1, c2) (by simp)
  obtain ⟨l7, p7, r7⟩ := S.out.caps (w.heap.size + 1, 0, b2) (by simp)
  obtain ⟨l8, p8, r8⟩ := S.out.caps (w.heap.size, a1, a2) (by simp)
  have S := Bx.mk (S.out.push t1 t2)
  go_wp2_with fail
  refine (mul_any a1 a2 c1 c2 _ _ i1 i2 i5 i6 h9).mono ?_
  rintro e w9 ⟨rfl, hb⟩
  have S := Bx.mk (S.out.call hb)
  clear hb
  clear l0 p0 r0 l1 p1 r1 l2 p2 r2 l3 p3 r3 l4 p4 r4 l5 p5 r5 l6 p6 r6 l7 p7 r7 l8 p8 r8
  obtain ⟨l0, p0, r0⟩ := S.out.caps (w8.heap.size, t1, t2) (by simp)
  obtain ⟨l1, p1, r1⟩ := S.out.caps (w7.heap.size, s1, s2) (by simp)
  obtain ⟨l2, p2, r2⟩ := S.out.caps (w6.heap.size, u1, u2) (by simp)
  obtain ⟨l3, p3, r3⟩ := S.out.caps (w5.heap.size, y1, y2) (by simp)
  obtain ⟨l4, p4, r4⟩ := S.out.caps (w4.heap.size, z1, z2) (by simp)
  obtain ⟨l5, p5, r5⟩ := S.out.caps (w3.heap.size, x1, x2) (by simp)
  obtain ⟨l6, p6, r6⟩ := S.out.caps (w2.heap.size, x1, x2) (by simp)
  obtain ⟨l7, p7, r7⟩ := S.out.caps (w.heap.size + 1 + 1, c1, c2) (by simp)
  obtain ⟨l8, p8, r8⟩ := S.out.caps (w.heap.size + 1, 0, b2) (by simp)
  obtain ⟨l9, p9, r9⟩ := S.out.caps (w.heap.size, a1, a2) (by simp)
  have S := Bx.mk (S.out.push v1 v2)
  go_wp2_with fail
  refine (add_any x1 x2 v1 v2 _ _ ix.1 ix.2 iv.1 iv.2 h10).mono ?_
  rintro e w10 ⟨rfl, hb⟩
  have S := Bx.mk (S.out.call hb)
  clear hb
  clear l0 p0 r0 l1 p1 r1 l2 p2 r2 l3 p3 r3 l4 p4 r4 l5 p5 r5 l6 p6 r6 l7 p7 r7 l8 p8 r8 l9 p9 r9
  obtain ⟨l0, p0, r0⟩ := S.out.caps (w9.heap.size, v1, v2) (by simp)
  obtain ⟨l1, p1, r1⟩ := S.out.caps (w8.heap.size, t1, t2) (by simp)
  obtain ⟨l2, p2, r2⟩ := S.out.caps (w7.heap.size, s1, s2) (by simp)
  obtain ⟨l3, p3, r3⟩ := S.out.caps (w6.heap.size, u1, u2) (by simp)
  obtain ⟨l4, p4, r4⟩ := S.out.caps (w5.heap.size, y1, y2) (by simp)
  obtain ⟨l5, p5, r5⟩ := S.out.caps (w4.heap.size, z1, z2) (by simp)
  obtain ⟨l6, p6, r6⟩ := S.out.caps (w3.heap.size, x1, x2) (by simp)
  obtain ⟨l7, p7, r7⟩ := S.out.caps (w2.heap.size, x1, x2) (by simp)
  obtain ⟨l8, p8, r8⟩ := S.out.caps (w.heap.size + 1 + 1, c1, c2) (by simp)
  obtain ⟨l9, p9, r9⟩ := S.out.caps (w.heap.size + 1, 0, b2) (by simp)
  obtain ⟨l10, p10, r10⟩ := S.out.caps (w.heap.size, a1, a2) (by simp)
  have S := Bx.mk (S.out.push m1 m2)
  by_cases k6 : e6 = 0
  · by_cases k7 : e7 = 0
    · by_cases k8 : e8 = 0
      · by_cases k9 : e9 = 0
        · subst k6; subst k7; subst k8; subst k9
          obtain ⟨rfl, rfl⟩ := mul_add h1 h7 h8 h9 h10
          clear h1 h2 h4 h5 h6 h7 h8 h9 h10
          go_wp2_with fail
          go_ret
          exact ⟨rfl, S.out.bl⟩
        · subst k6; subst k7; subst k8
          clear h1 h2 h4 h5 h6 h7 h8 h9 h10
          go_wp2_with fail
          go_ret
          exact ⟨rfl, S.out.bl⟩
      · subst k6; subst k7
        clear h1 h2 h4 h5 h6 h7 h8 h9 h10
        go_wp2_with fail
        go_ret
        exact ⟨rfl, S.out.bl⟩
    · subst k6
      clear h1 h2 h4 h5 h6 h7 h8 h9 h10
      go_wp2_with fail
      go_ret
      exact ⟨rfl, S.out.bl⟩
  · clear h1 h2 h4 h5 h6 h7 h8 h9 h10
    go_wp2_with fail
    go_ret
    exact ⟨rfl, S.out.bl⟩
set_option maxHeartbeats 4000000 in
theorem products_n0 (a1 a2 b1 b2 c1 c2 : Int) (w : World) (ht : Tb w) (i1 : I64 a1) (i2 : I64 a2) (i3 : I64 b1) (i4 : I64 b2) (i5 : I64 c1) (i6 : I64 c2) (x1 x2 z1 z2 y1 y2  s1 s2 e6 t1 t2 e7 v1 v2 e8 m1 m2 e9  : Int) (hb : ¬ b1 = 0) (h1 : mulQ a1 a2 b1 b2 = ⟨x1, x2, 0⟩) (h4 : mulQ b1 b2 c1 c2 = ⟨z1, z2, 0⟩) (h5 : mulQ x1 x2 c1 c2 = ⟨y1, y2, 0⟩) (h6 : mulQ a1 a2 z1 z2 = ⟨y1, y2, 0⟩)
    (h7 : addQ b1 b2 c1 c2 = ⟨s1, s2, e6⟩) (h8 : mulQ a1 a2 s1 s2 = ⟨t1, t2, e7⟩) (h9 : mulQ a1 a2 c1 c2 = ⟨v1, v2, e8⟩) (h10 : addQ x1 x2 v1 v2 = ⟨m1, m2, e9⟩) :
    Calls Tryd.prog 5 #[RV a1 a2, RV b1 b2, RV c1 c2] w fun e w' => e = .returned (.bool true) ∧ Below w.heap.size w w' := by
  have h2 : mulQ b1 b2 a1 a2 = ⟨x1, x2, 0⟩ := by rw [mulQ_comm]; exact h1
  have h3 := div_undoes h1 hb
  have ix := mulQ_i64 h1
  have iz := mulQ_i64 h4
  have iS := addQ_i64 h7
  have iv := mulQ_i64 h9
  have S : Bx (St w (((w.alloc (.cells #[.int .i64 a1, .int .i64 a2] 25)).alloc (.cells #[.int .i64 b1, .int .i64 b2] 25)).alloc (.cells #[.int .i64 c1, .int .i64 c2] 25)) [(w.heap.size + 1 + 1, c1, c2), (w.heap.size + 1, b1, b2), (w.heap.size, a1, a2)]) := ⟨start3 w ht a1 a2 b1 b2 c1 c2⟩
  go_enter Tryd.func5, Tryd.ntmps5
  go_wp2_with fail
  refine (head_any _ S.out.tb).mono ?_
  rintro e w1 ⟨rfl, hb⟩
  have S := Bx.mk (S.out.call hb)
  clear hb
  obtain ⟨l0, p0, r0⟩ := S.out.caps (w.heap.size + 1 + 1, c1, c2) (by simp)
  obtain ⟨l1, p1, r1⟩ := S.out.caps (w.heap.size + 1, b1, b2) (by simp)
  obtain ⟨l2, p2, r2⟩ := S.out.caps (w.heap.size, a1, a2) (by simp)
  go_wp2_with fail
  refine (mul_any a1 a2 b1 b2 _ _ i1 i2 i3 i4 h1).mono ?_
  rintro e w2 ⟨rfl, hb⟩
  have S := Bx.mk (S.out.call hb)
  clear hb
  clear l0 p0 r0 l1 p1 r1 l2 p2 r2
  obtain ⟨l0, p0, r0⟩ := S.out.caps (w.heap.size + 1 + 1, c1, c2) (by simp)
  obtain ⟨l1, p1, r1⟩ := S.out.caps (w.heap.size + 1, b1, b2) (by simp)
  obtain ⟨l2, p2, r2⟩ := S.out.caps (w.heap.size, a1, a2) (by simp)
  have S := Bx.mk (S.out.push x1 x2)
  go_wp2_with fail
  refine (mul_any b1 b2 a1 a2 _ _ i3 i4 i1 i2 h2).mono ?_
  rintro e w3 ⟨rfl, hb⟩
  have S := Bx.mk (S.out.call hb)
  clear hb
  clear l0 p0 r0 l1 p1 r1 l2 p2 r2
  obtain ⟨l0, p0, r0⟩ := S.out.caps (w2.heap.size, x1, x2) (by simp)
  obtain ⟨l1, p1, r1⟩ := S.out.caps (w.heap.size + 1 + 1, c1, c2) (by simp)
  obtain ⟨l2, p2, r2⟩ := S.out.caps (w.heap.size + 1, b1, b2) (by simp)
  obtain ⟨l3, p3, r3⟩ := S.out.caps (w.heap.size, a1, a2) (by simp)
  have S := Bx.mk (S.out.push x1 x2)
  go_wp2_with fail
  refine (div_any x1 x2 b1 b2 _ _ ix.1 ix.2 i3 i4 h3).mono ?_
  rintro e w4 ⟨rfl, hb⟩
  have S := Bx.mk (S.out.call hb)
  clear hb
  clear l0 p0 r0 l1 p1 r1 l2 p2 r2 l3 p3 r3
  obtain ⟨l0, p0, r0⟩ := S.out.caps (w3.heap.size, x1, x2) (by simp)
  obtain ⟨l1, p1, r1⟩ := S.out.caps (w2.heap.size, x1, x2) (by simp)
  obtain ⟨l2, p2, r2⟩ := S.out.caps (w.heap.size + 1 + 1, c1, c2) (by simp)
  obtain ⟨l3, p3, r3⟩ := S.out.caps (w.heap.size + 1, b1, b2) (by simp)
  obtain ⟨l4, p4, r4⟩ := S.out.caps (w.heap.size, a1, a2) (by simp)
  have S := Bx.mk (S.out.push a1 a2)
  go_wp2_with fail
  refine (mul_any b1 b2 c1 c2 _ _ i3 i4 i5 i6 h4).mono ?_
  rintro e w5 ⟨rfl, hb⟩
  have S := Bx.mk (S.out.call hb)
  clear hb
  clear l0 p0 r0 l1 p1 r1 l2 p2 r2 l3 p3 r3 l4 p4 r4
  obtain ⟨l0, p0, r0⟩ := S.out.caps (w4.heap.size, a1, a2) (by simp)
  obtain ⟨l1, p1, r1⟩ := S.out.caps (w3.heap.size, x1, x2) (by simp)
  obtain ⟨l2, p2, r2⟩ := S.out.caps (w2.heap.size, x1, x2) (by simp)
  obtain ⟨l3, p3, r3⟩ := S.out.caps (w.heap.size + 1 + 1, c1, c2) (by simp)
  obtain ⟨l4, p4, r4⟩ := S.out.caps (w.heap.size + 1, b1, b2) (by simp)
  obtain ⟨l5, p5, r5⟩ := S.out.caps (w.heap.size, a1, a2) (by simp)
  have S := Bx.mk (S.out.push z1 z2)
  go_wp2_with fail
  refine (mul_any x1 x2 c1 c2 _ _ ix.1 ix.2 i5 i6 h5).mono ?_
  rintro e w6 ⟨rfl, hb⟩
  have S := Bx.mk (S.out.call hb)
  clear hb
  clear l0 p0 r0 l1 p1 r1 l2 p2 r2 l3 p3 r3 l4 p4 r4 l5 p5 r5
  obtain ⟨l0, p0, r0⟩ := S.out.caps (w5.heap.size, z1, z2) (by simp)
  obtain ⟨l1, p1, r1⟩ := S.out.caps (w4.heap.size, a1, a2) (by simp)
  obtain ⟨l2, p2, r2⟩ := S.out.caps (w3.heap.size, x1, x2) (by simp)
  obtain ⟨l3, p3, r3⟩ := S.out.caps (w2.heap.size, x1, x2) (by simp)
  obtain ⟨l4, p4, r4⟩ := S.out.caps (w.heap.size + 1 + 1, c1, c2) (by simp)
  obtain ⟨l5, p5, r5⟩ := S.out.caps (w.heap.size + 1, b1, b2) (by simp)
  obtain ⟨l6, p6, r6⟩ := S.out.caps (w.heap.size, a1, a2) (by simp)
  have S := Bx.mk (S.out.push y1 y2)
  go_wp2_with fail
  refine (mul_any a1 a2 z1 z2 _ _ i1 i2 iz.1 iz.2 h6).mono ?_
  rintro e w7 ⟨rfl, hb⟩
  have S := Bx.mk (S.out.call hb)
  clear hb
  clear l0 p0 r0 l1 p1 r1 l2 p2 r2 l3 p3 r3 l4 p4 r4 l5 p5 r5 l6 p6 r6
  obtain ⟨l0, p0, r0⟩ := S.out.caps (w6.heap.size, y1, y2) (by simp)
  obtain ⟨l1, p1, r1⟩ := S.out.caps (w5.heap.size, z1, z2) (by simp)
  obtain ⟨l2, p2, r2⟩ := S.out.caps (w4.heap.size, a1, a2) (by simp)
  obtain ⟨l3, p3, r3⟩ := S.out.caps (w3.heap.size, x1, x2) (by simp)
  obtain ⟨l4, p4, r4⟩ := S.out.caps (w2.heap.size, x1, x2) (by simp)
  obtain ⟨l5, p5, r5⟩ := S.out.caps (w.heap.size + 1 + 1, c1, c2) (by simp)
  obtain ⟨l6, p6, r6⟩ := S.out.caps (w.heap.size + 1, b1, b2) (by simp)
  obtain ⟨l7, p7, r7⟩ := S.out.caps (w.heap.size, a1, a2) (by simp)
  have S := Bx.mk (S.out.push y1 y2)
  go_wp2_with fail
  refine (add_any b1 b2 c1 c2 _ _ i3 i4 i5 i6 h7).mono ?_
  rintro e w8 ⟨rfl, hb⟩
  have S := Bx.mk (S.out.call hb)
  clear hb
  clear l0 p0 r0 l1 p1 r1 l2 p2 r2 l3 p3 r3 l4 p4 r4 l5 p5 r5 l6 p6 r6 l7 p7 r7
  obtain ⟨l0, p0, r0⟩ := S.out.caps (w7.heap.size, y1, y2) (by simp)
  obtain ⟨l1, p1, r1⟩ := S.out.caps (w6.heap.size, y1, y2) (by simp)
  obtain ⟨l2, p2, r2⟩ := S.out.caps (w5.heap.size, z1, z2) (by simp)
  obtain ⟨l3, p3, r3⟩ := S.out.caps (w4.heap.size, a1, a2) (by simp)
  obtain ⟨l4, p4, r4⟩ := S.out.caps (w3.heap.size, x1, x2) (by simp)
  obtain ⟨l5, p5, r5⟩ := S.out.caps (w2.heap.size, x1, x2) (by simp)
  obtain ⟨l6, p6, r6⟩ := S.out.caps (w.heap.size + 1 + 1, c1, c2) (by simp)
  obtain ⟨l7, p7, r7⟩ := S.out.caps (w.heap.size + 1, b1, b2) (by simp)
  obtain ⟨l8, p8, r8⟩ := S.out.caps (w.heap.size, a1, a2) (by simp)
  have S := Bx.mk (S.out.push s1 s2)
  go_wp2_with fail
  refine (mul_any a1 a2 s1 s2 _ _ i1 i2 iS.1 iS.2 h8).mono ?_
  rintro e w9 ⟨rfl, hb⟩
  have S := Bx.mk (S.out.call hb)
  clear hb
  clear l0 p0 r0 l1 p1 r1 l2 p2 r2 l3 p3 r3 l4 p4 r4 l5 p5 r5 l6 p6 r6 l7 p7 r7 l8 p8 r8
  obtain ⟨l0, p0, r0⟩ := S.out.caps (w8.heap.size, s1, s2) (by simp)
  obtain ⟨l1, p1, r1⟩ := S.out.caps (w7.heap.size, y1, y2) (by simp)
  obtain ⟨l2, p2, r2⟩ := S.out.caps (w6.heap.size, y1, y2) (by simp)
  obtain ⟨l3, p3, r3⟩ := S.out.caps (w5.heap.size, z1, z2) (by simp)
  obtain ⟨l4, p4, r4⟩ := S.out.caps (w4.heap.size, a1, a2) (by simp)
  obtain ⟨l5, p5, r5⟩ := S.out.caps (w3.heap.size, x1, x2) (by simp)
  obtain ⟨l6, p6, r6⟩ := S.out.caps (w2.heap.size, x1, x2) (by simp)
  obtain ⟨l7, p7, r7⟩ := S.out.caps (w.heap.size + 1 + 1, c1, c2) (by simp)
  obtain ⟨l8, p8, r8⟩ := S.out.caps (w.heap.size + 1, b1, b2) (by simp)
  obtain ⟨l9, p9, r9⟩ := S.out.caps (w.heap.size, a1, a2) (by simp)
  have S := Bx.mk (S.out.push t1 t2)
  go_wp2_with fail
  refine (mul_any a1 a2 c1 c2 _ _ i1 i2 i5 i6 h9).mono ?_
  rintro e w10 ⟨rfl, hb⟩
  have S := Bx.mk (S.out.call hb)
  clear hb
  clear l0 p0 r0 l1 p1 r1 l2 p2 r2 l3 p3 r3 l4 p4 r4 l5 p5 r5 l6 p6 r6 l7 p7 r7 l8 p8 r8 l9 p9 r9
  obtain ⟨l0, p0, r0⟩ := S.out.caps (w9.heap.size, t1, t2) (by simp)
  obtain ⟨l1, p1, r1⟩ := S.out.caps (w8.heap.size, s1, s2) (by simp)
  obtain ⟨l2, p2, r2⟩ := S.out.caps (w7.heap.size, y1, y2) (by simp)
  obtain ⟨l3, p3, r3⟩ := S.out.caps (w6.heap.size, y1, y2) (by simp)
  obtain ⟨l4, p4, r4⟩ := S.out.caps (w5.heap.size, z1, z2) (by simp)
  obtain ⟨l5, p5, r5⟩ := S.out.caps (w4.heap.size, a1, a2) (by simp)
  obtain ⟨l6, p6, r6⟩ := S.out.caps (w3.heap.size, x1, x2) (by simp)
  obtain ⟨l7, p7, r7⟩ := S.out.caps (w2.heap.size, x1, x2) (by simp)
  obtain ⟨l8, p8, r8⟩ := S.out.caps (w.heap.size + 1 + 1, c1, c2) (by simp)
  obtain ⟨l9, p9, r9⟩ := S.out.caps (w.heap.size + 1, b1, b2) (by simp)
  obtain ⟨l10, p10, r10⟩ := S.out.caps (w.heap.size, a1, a2) (by simp)
  have S := Bx.mk (S.out.push v1 v2)
  go_wp2_with fail
  refine (add_any x1 x2 v1 v2 _ _ ix.1 ix.2 iv.1 iv.2 h10).mono ?_
  rintro e w11 ⟨rfl, hb⟩
  have S := Bx.mk (S.out.call hb)
  clear hb
  clear l0 p0 r0 l1 p1 r1 l2 p2 r2 l3 p3 r3 l4 p4 r4 l5 p5 r5 l6 p6 r6 l7 p7 r7 l8 p8 r8 l9 p9 r9 l10 p10 r10
  obtain ⟨l0, p0, r0⟩ := S.out.caps (w10.heap.size, v1, v2) (by simp)
  obtain ⟨l1, p1, r1⟩ := S.out.caps (w9.heap.size, t1, t2) (by simp)
  obtain ⟨l2, p2, r2⟩ := S.out.caps (w8.heap.size, s1, s2) (by simp)
  obtain ⟨l3, p3, r3⟩ := S.out.caps (w7.heap.size, y1, y2) (by simp)
  obtain ⟨l4, p4, r4⟩ := S.out.caps (w6.heap.size, y1, y2) (by simp)
  obtain ⟨l5, p5, r5⟩ := S.out.caps (w5.heap.size, z1, z2) (by simp)
  obtain ⟨l6, p6, r6⟩ := S.out.caps (w4.heap.size, a1, a2) (by simp)
  obtain ⟨l7, p7, r7⟩ := S.out.caps (w3.heap.size, x1, x2) (by simp)
  obtain ⟨l8, p8, r8⟩ := S.out.caps (w2.heap.size, x1, x2) (by simp)
  obtain ⟨l9, p9, r9⟩ := S.out.caps (w.heap.size + 1 + 1, c1, c2) (by simp)
  obtain ⟨l10, p10, r10⟩ := S.out.caps (w.heap.size + 1, b1, b2) (by simp)
  obtain ⟨l11, p11, r11⟩ := S.out.caps (w.heap.size, a1, a2) (by simp)
  have S := Bx.mk (S.out.push m1 m2)
  by_cases k6 : e6 = 0
  · by_cases k7 : e7 = 0
    · by_cases k8 : e8 = 0
      · by_cases k9 : e9 = 0
        · subst k6; subst k7; subst k8; subst k9
          obtain ⟨rfl, rfl⟩ := mul_add h1 h7 h8 h9 h10
          clear h1 h2 h4 h5 h6 h7 h8 h9 h10
          go_wp2_with fail
          go_ret
          exact ⟨rfl, S.out.bl⟩
        · subst k6; subst k7; subst k8
          clear h1 h2 h4 h5 h6 h7 h8 h9 h10
          go_wp2_with fail
          go_ret
          exact ⟨rfl, S.out.bl⟩
      · subst k6; subst k7
        clear h1 h2 h4 h5 h6 h7 h8 h9 h10
        go_wp2_with fail
        go_ret
        exact ⟨rfl, S.out.bl⟩
    · subst k6
      clear h1 h2 h4 h5 h6 h7 h8 h9 h10
      go_wp2_with fail
      go_ret
      exact ⟨rfl, S.out.bl⟩
  · clear h1 h2 h4 h5 h6 h7 h8 h9 h10
    go_wp2_with fail
    go_ret
    exact ⟨rfl, S.out.bl⟩
set_option maxHeartbeats 4000000 in
theorem products_n3 (a1 a2 b1 b2 c1 c2 : Int) (w : World) (ht : Tb w) (i1 : I64 a1) (i2 : I64 a2) (i3 : I64 b1) (i4 : I64 b2) (i5 : I64 c1) (i6 : I64 c2) (x1 x2 z1 z2 y1 y2 u1 u2 s1 s2 e6 t1 t2 e7 v1 v2 e8 m1 m2 e9 e3 e4 e5 : Int) (k3 : ¬ e3 = 0) (hb : ¬ b1 = 0) (h1 : mulQ a1 a2 b1 b2 = ⟨x1, x2, 0⟩) (h4 : mulQ b1 b2 c1 c2 = ⟨z1, z2, e3⟩) (h5 : mulQ x1 x2 c1 c2 = ⟨y1, y2, e4⟩) (h6 : mulQ a1 a2 z1 z2 = ⟨u1, u2, e5⟩)
    (h7 : addQ b1 b2 c1 c2 = ⟨s1, s2, e6⟩) (h8 : mulQ a1 a2 s1 s2 = ⟨t1, t2, e7⟩) (h9 : mulQ a1 a2 c1 c2 = ⟨v1, v2, e8⟩) (h10 : addQ x1 x2 v1 v2 = ⟨m1, m2, e9⟩) :
    Calls Tryd.prog 5 #[RV a1 a2, RV b1 b2, RV c1 c2] w fun e w' => e = .returned (.bool true) ∧ Below w.heap.size w w' := by
  have h2 : mulQ b1 b2 a1 a2 = ⟨x1, x2, 0⟩ := by rw [mulQ_comm]; exact h1
  have h3 := div_undoes h1 hb
  have ix := mulQ_i64 h1
  have iz := mulQ_i64 h4
  have iS := addQ_i64 h7
  have iv := mulQ_i64 h9
  have S : Bx (St w (((w.alloc (.cells #[.int .i64 a1, .int .i64 a2] 25)).alloc (.cells #[.int .i64 b1, .int .i64 b2] 25)).alloc (.cells #[.int .i64 c1, .int .i64 c2] 25)) [(w.heap.size + 1 + 1, c1, c2), (w.heap.size + 1, b1, b2), (w.heap.size, a1, a2)]) := ⟨start3 w ht a1 a2 b1 b2 c1 c2⟩
  go_enter Tryd.func5, Tryd.ntmps5
  go_wp2_with fail
  refine (head_any _ S.out.tb).mono ?_
  rintro e w1 ⟨rfl, hb⟩
  have S := Bx.mk (S.out.call hb)
  clear hb
  obtain ⟨l0, p0, r0⟩ := S.out.caps (w.heap.size + 1 + 1, c1, c2) (by simp)
  obtain ⟨l1, p1, r1⟩ := S.out.caps (w.heap.size + 1, b1, b2) (by simp)
  obtain ⟨l2, p2, r2⟩ := S.out.caps (w.heap.size, a1, a2) (by simp)
  go_wp2_with fail
  refine (mul_any a1 a2 b1 b2 _ _ i1 i2 i3 i4 h1).mono ?_
  rintro e w2 ⟨rfl, hb⟩
  have S := Bx.mk (S.out.call hb)
  clear hb
  clear l0 p0 r0 l1 p1 r1 l2 p2 r2
  obtain ⟨l0, p0, r0⟩ := S.out.caps (w.heap.size + 1 + 1, c1, c2) (by simp)
  obtain ⟨l1, p1, r1⟩ := S.out.caps (w.heap.size + 1, b1, b2) (by simp)
  obtain ⟨l2, p2, r2⟩ := S.out.caps (w.heap.size, a1, a2) (by simp)
  have S := Bx.mk (S.out.push x1 x2)
  go_wp2_with fail
  refine (mul_any b1 b2 a1 a2 _ _ i3 i4 i1 i2 h2).mono ?_
  rintro e w3 ⟨rfl, hb⟩
  have S := Bx.mk (S.out.call hb)
  clear hb
  clear l0 p0 r0 l1 p1 r1 l2 p2 r2
  obtain ⟨l0, p0, r0⟩ := S.out.caps (w2.heap.size, x1, x2) (by simp)
  obtain ⟨l1, p1, r1⟩ := S.out.caps (w.heap.size + 1 + 1, c1, c2) (by simp)
  obtain ⟨l2, p2, r2⟩ := S.out.caps (w.heap.size + 1, b1, b2) (by simp)
  obtain ⟨l3, p3, r3⟩ := S.out.caps (w.heap.size, a1, a2) (by simp)
  have S := Bx.mk (S.out.push x1 x2)
  go_wp2_with fail
  refine (div_any x1 x2 b1 b2 _ _ ix.1 ix.2 i3 i4 h3).mono ?_
  rintro e w4 ⟨rfl, hb⟩
  have S := Bx.mk (S.out.call hb)
  clear hb
  clear l0 p0 r0 l1 p1 r1 l2 p2 r2 l3 p3 r3
  obtain ⟨l0, p0, r0⟩ := S.out.caps (w3.heap.size, x1, x2) (by simp)
  obtain ⟨l1, p1, r1⟩ := S.out.caps (w2.heap.size, x1, x2) (by simp)
  obtain ⟨l2, p2, r2⟩ := S.out.caps (w.heap.size + 1 + 1, c1, c2) (by simp)
  obtain ⟨l3, p3, r3⟩ := S.out.caps (w.heap.size + 1, b1, b2) (by simp)
  obtain ⟨l4, p4, r4⟩ := S.out.caps (w.heap.size, a1, a2) (by simp)
  have S := Bx.mk (S.out.push a1 a2)
  go_wp2_with fail
  refine (mul_any b1 b2 c1 c2 _ _ i3 i4 i5 i6 h4).mono ?_
  rintro e w5 ⟨rfl, hb⟩
  have S := Bx.mk (S.out.call hb)
  clear hb
  clear l0 p0 r0 l1 p1 r1 l2 p2 r2 l3 p3 r3 l4 p4 r4
  obtain ⟨l0, p0, r0⟩ := S.out.caps (w4.heap.size, a1, a2) (by simp)
  obtain ⟨l1, p1, r1⟩ := S.out.caps (w3.heap.size, x1, x2) (by simp)
  obtain ⟨l2, p2, r2⟩ := S.out.caps (w2.heap.size, x1, x2) (by simp)
  obtain ⟨l3, p3, r3⟩ := S.out.caps (w.heap.size + 1 + 1, c1, c2) (by simp)
  obtain ⟨l4, p4, r4⟩ := S.out.caps (w.heap.size + 1, b1, b2) (by simp)
  obtain ⟨l5, p5, r5⟩ := S.out.caps (w.heap.size, a1, a2) (by simp)
  have S := Bx.mk (S.out.push z1 z2)
  go_wp2_with fail
  refine (mul_any x1 x2 c1 c2 _ _ ix.1 ix.2 i5 i6 h5).mono ?_
  rintro e w6 ⟨rfl, hb⟩
  have S := Bx.mk (S.out.call hb)
  clear hb
  clear l0 p0 r0 l1 p1 r1 l2 p2 r2 l3 p3 r3 l4 p4 r4 l5 p5 r5
  obtain ⟨l0, p0, r0⟩ := S.out.caps (w5.heap.size, z1, z2) (by simp)
  obtain ⟨l1, p1, r1⟩ := S.out.caps (w4.heap.size, a1, a2) (by simp)
  obtain ⟨l2, p2, r2⟩ := S.out.caps (w3.heap.size, x1, x2) (by simp)
  obtain ⟨l3, p3, r3⟩ := S.out.caps (w2.heap.size, x1, x2) (by simp)
  obtain ⟨l4, p4, r4⟩ := S.out.caps (w.heap.size + 1 + 1, c1, c2) (by simp)
  obtain ⟨l5, p5, r5⟩ := S.out.caps (w.heap.size + 1, b1, b2) (by simp)
  obtain ⟨l6, p6, r6⟩ := S.out.caps (w.heap.size, a1, a2) (by simp)
  have S := Bx.mk (S.out.push y1 y2)
  go_wp2_with fail
  refine (mul_any a1 a2 z1 z2 _ _ i1 i2 iz.1 iz.2 h6).mono ?_
  rintro e w7 ⟨rfl, hb⟩
  have S := Bx.mk (S.out.call hb)
  clear hb
  clear l0 p0 r0 l1 p1 r1 l2 p2 r2 l3 p3 r3 l4 p4 r4 l5 p5 r5 l6 p6 r6
  obtain ⟨l0, p0, r0⟩ := S.out.caps (w6.heap.size, y1, y2) (by simp)
  obtain ⟨l1, p1, r1⟩ := S.out.caps (w5.heap.size, z1, z2) (by simp)
  obtain ⟨l2, p2, r2⟩ := S.out.caps (w4.heap.size, a1, a2) (by simp)
  obtain ⟨l3, p3, r3⟩ := S.out.caps (w3.heap.size, x1, x2) (by simp)
  obtain ⟨l4, p4, r4⟩ := S.out.caps (w2.heap.size, x1, x2) (by simp)
  obtain ⟨l5, p5, r5⟩ := S.out.caps (w.heap.size + 1 + 1, c1, c2) (by simp)
  obtain ⟨l6, p6, r6⟩ := S.out.caps (w.heap.size + 1, b1, b2) (by simp)
  obtain ⟨l7, p7, r7⟩ := S.out.caps (w.heap.size, a1, a2) (by simp)
  have S := Bx.mk (S.out.push u1 u2)
  go_wp2_with fail
  refine (add_any b1 b2 c1 c2 _ _ i3 i4 i5 i6 h7).mono ?_
  rintro e w8 ⟨rfl, hb⟩
  have S := Bx.mk (S.out.call hb)
  clear hb
  clear l0 p0 r0 l1 p1 r1 l2 p2 r2 l3 p3 r3 l4 p4 r4 l5 p5 r5 l6 p6 r6 l7 p7 r7
  obtain ⟨l0, p0, r0⟩ := S.out.caps (w7.heap.size, u1, u2) (by simp)
  obtain ⟨l1, p1, r1⟩ := S.out.caps (w6.heap.size, y1, y2) (by simp)
  obtain ⟨l2, p2, r2⟩ := S.out.caps (w5.heap.size, z1, z2) (by simp)
  obtain ⟨l3, p3, r3⟩ := S.out.caps (w4.heap.size, a1, a2) (by simp)
  obtain ⟨l4, p4, r4⟩ := S.out.caps (w3.heap.size, x1, x2) (by simp)
  obtain ⟨l5, p5, r5⟩ := S.out.caps (w2.heap.size, x1, x2) (by simp)
  obtain ⟨l6, p6, r6⟩ := S.out.caps (w.heap.size + 1 + 1, c1, c2) (by simp)
  obtain ⟨l7, p7, r7⟩ := S.out.caps (w.heap.size + 1, b1, b2) (by simp)
  obtain ⟨l8, p8, r8⟩ := S.out.caps (w.heap.size, a1, a2) (by simp)
  have S := Bx.mk (S.out.push s1 s2)
  go_wp2_with fail
  refine (mul_any a1 a2 s1 s2 _ _ i1 i2 iS.1 iS.2 h8).mono ?_
  rintro e w9 ⟨rfl, hb⟩
  have S := Bx.mk (S.out.call hb)
  clear hb
  clear l0 p0 r0 l1 p1 r1 l2 p2 r2 l3 p3 r3 l4 p4 r4 l5 p5 r5 l6 p6 r6 l7 p7 r7 l8 p8 r8
  obtain ⟨l0, p0, r0⟩ := S.out.caps (w8.heap.size, s1, s2) (by simp)
  obtain ⟨l1, p1, r1⟩ := S.out.caps (w7.heap.size, u1, u2) (by simp)
  obtain ⟨l2, p2, r2⟩ := S.out.caps (w6.heap.size, y1, y2) (by simp)
  obtain ⟨l3, p3, r3⟩ := S.out.caps (w5.heap.size, z1, z2) (by simp)
  obtain ⟨l4, p4, r4⟩ := S.out.caps (w4.heap.size, a1, a2) (by simp)
  obtain ⟨l5, p5, r5⟩ := S.out.caps (w3.heap.size, x1, x2) (by simp)
  obtain ⟨l6, p6, r6⟩ := S.out.caps (w2.heap.size, x1, x2) (by simp)
  obtain ⟨l7, p7, r7⟩ := S.out.caps (w.heap.size + 1 + 1, c1, c2) (by simp)
  obtain ⟨l8, p8, r8⟩ := S.out.caps (w.heap.size + 1, b1, b2) (by simp)
  obtain ⟨l9, p9, r9⟩ := S.out.caps (w.heap.size, a1, a2) (by simp)
  have S := Bx.mk (S.out.push t1 t2)
  go_wp2_with fail
  refine (mul_any a1 a2 c1 c2 _ _ i1 i2 i5 i6 h9).mono ?_
  rintro e w10 ⟨rfl, hb⟩
  have S := Bx.mk (S.out.call hb)
  clear hb
  clear l0 p0 r0 l1 p1 r1 l2 p2 r2 l3 p3 r3 l4 p4 r4 l5 p5 r5 l6 p6 r6 l7 p7 r7 l8 p8 r8 l9 p9 r9
  obtain ⟨l0, p0, r0⟩ := S.out.caps (w9.heap.size, t1, t2) (by simp)
  obtain ⟨l1, p1, r1⟩ := S.out.caps (w8.heap.size, s1, s2) (by simp)
  obtain ⟨l2, p2, r2⟩ := S.out.caps (w7.heap.size, u1, u2) (by simp)
  obtain ⟨l3, p3, r3⟩ := S.out.caps (w6.heap.size, y1, y2) (by simp)
  obtain ⟨l4, p4, r4⟩ := S.out.caps (w5.heap.size, z1, z2) (by simp)
  obtain ⟨l5, p5, r5⟩ := S.out.caps (w4.heap.size, a1, a2) (by simp)
  obtain ⟨l6, p6, r6⟩ := S.out.caps (w3.heap.size, x1, x2) (by simp)
  obtain ⟨l7, p7, r7⟩ := S.out.caps (w2.heap.size, x1, x2) (by simp)
  obtain ⟨l8, p8, r8⟩ := S.out.caps (w.heap.size + 1 + 1, c1, c2) (by simp)
  obtain ⟨l9, p9, r9⟩ := S.out.caps (w.heap.size + 1, b1, b2) (by simp)
  obtain ⟨l10, p10, r10⟩ := S.out.caps (w.heap.size, a1, a2) (by simp)
  have S := Bx.mk (S.out.push v1 v2)
  go_wp2_with fail
  refine (add_any x1 x2 v1 v2 _ _ ix.1 ix.2 iv.1 iv.2 h10).mono ?_
  rintro e w11 ⟨rfl, hb⟩
  have S := Bx.mk (S.out.call hb)
  clear hb
  clear l0 p0 r0 l1 p1 r1 l2 p2 r2 l3 p3 r3 l4 p4 r4 l5 p5 r5 l6 p6 r6 l7 p7 r7 l8 p8 r8 l9 p9 r9 l10 p10 r10
  obtain ⟨l0, p0, r0⟩ := S.out.caps (w10.heap.size, v1, v2) (by simp)
  obtain ⟨l1, p1, r1⟩ := S.out.caps (w9.heap.size, t1, t2) (by simp)
  obtain ⟨l2, p2, r2⟩ := S.out.caps (w8.heap.size, s1, s2) (by simp)
  obtain ⟨l3, p3, r3⟩ := S.out.caps (w7.heap.size, u1, u2) (by simp)
  obtain ⟨l4, p4, r4⟩ := S.out.caps (w6.heap.size, y1, y2) (by simp)
  obtain ⟨l5, p5, r5⟩ := S.out.caps (w5.heap.size, z1, z2) (by simp)
  obtain ⟨l6, p6, r6⟩ := S.out.caps (w4.heap.size, a1, a2) (by simp)
  obtain ⟨l7, p7, r7⟩ := S.out.caps (w3.heap.size, x1, x2) (by simp)
  obtain ⟨l8, p8, r8⟩ := S.out.caps (w2.heap.size, x1, x2) (by simp)
  obtain ⟨l9, p9, r9⟩ := S.out.caps (w.heap.size + 1 + 1, c1, c2) (by simp)
  obtain ⟨l10, p10, r10⟩ := S.out.caps (w.heap.size + 1, b1, b2) (by simp)
  obtain ⟨l11, p11, r11⟩ := S.out.caps (w.heap.size, a1, a2) (by simp)
  have S := Bx.mk (S.out.push m1 m2)
  by_cases k6 : e6 = 0
  · by_cases k7 : e7 = 0
    · by_cases k8 : e8 = 0
      · by_cases k9 : e9 = 0
        · subst k6; subst k7; subst k8; subst k9
          obtain ⟨rfl, rfl⟩ := mul_add h1 h7 h8 h9 h10
          clear h1 h2 h4 h5 h6 h7 h8 h9 h10
          go_wp2_with fail
          go_ret
          exact ⟨rfl, S.out.bl⟩
        · subst k6; subst k7; subst k8
          clear h1 h2 h4 h5 h6 h7 h8 h9 h10
          go_wp2_with fail
          go_ret
          exact ⟨rfl, S.out.bl⟩
      · subst k6; subst k7
        clear h1 h2 h4 h5 h6 h7 h8 h9 h10
        go_wp2_with fail
        go_ret
        exact ⟨rfl, S.out.bl⟩
    · subst k6
      clear h1 h2 h4 h5 h6 h7 h8 h9 h10
      go_wp2_with fail
      go_ret
      exact ⟨rfl, S.out.bl⟩
  · clear h1 h2 h4 h5 h6 h7 h8 h9 h10
    go_wp2_with fail
    go_ret
    exact ⟨rfl, S.out.bl⟩
set_option maxHeartbeats 4000000 in
theorem products_n4 (a1 a2 b1 b2 c1 c2 : Int) (w : World) (ht : Tb w) (i1 : I64 a1) (i2 : I64 a2) (i3 : I64 b1) (i4 : I64 b2) (i5 : I64 c1) (i6 : I64 c2) (x1 x2 z1 z2 y1 y2 u1 u2 s1 s2 e6 t1 t2 e7 v1 v2 e8 m1 m2 e9 e4 e5 : Int) (k4 : ¬ e4 = 0) (hb : ¬ b1 = 0) (h1 : mulQ a1 a2 b1 b2 = ⟨x1, x2, 0⟩) (h4 : mulQ b1 b2 c1 c2 = ⟨z1, z2, 0⟩) (h5 : mulQ x1 x2 c1 c2 = ⟨y1, y2, e4⟩) (h6 : mulQ a1 a2 z1 z2 = ⟨u1, u2, e5⟩)
    (h7 : addQ b1 b2 c1 c2 = ⟨s1, s2, e6⟩) (h8 : mulQ a1 a2 s1 s2 = ⟨t1, t2, e7⟩) (h9 : mulQ a1 a2 c1 c2 = ⟨v1, v2, e8⟩) (h10 : addQ x1 x2 v1 v2 = ⟨m1, m2, e9⟩) :
    Calls Tryd.prog 5 #[RV a1 a2, RV b1 b2, RV c1 c2] w fun e w' => e = .returned (.bool true) ∧ Below w.heap.size w w' := by
  have h2 : mulQ b1 b2 a1 a2 = ⟨x1, x2, 0⟩ := by rw [mulQ_comm]; exact h1
  have h3 := div_undoes h1 hb
  have ix := mulQ_i64 h1
  have iz := mulQ_i64 h4
  have iS := addQ_i64 h7
  have iv := mulQ_i64 h9
  have S : Bx (St w (((w.alloc (.cells #[.int .i64 a1, .int .i64 a2] 25)).alloc (.cells #[.int .i64 b1, .int .i64 b2] 25)).alloc (.cells #[.int .i64 c1, .int .i64 c2] 25)) [(w.heap.size + 1 + 1, c1, c2), (w.heap.size + 1, b1, b2), (w.heap.size, a1, a2)]) := ⟨start3 w ht a1 a2 b1 b2 c1 c2⟩
  go_enter Tryd.func5, Tryd.ntmps5
  go_wp2_with fail
  refine (head_any _ S.out.tb).mono ?_
  rintro e w1 ⟨rfl, hb⟩
  have S := Bx.mk (S.out.call hb)
  clear hb
  obtain ⟨l0, p0, r0⟩ := S.out.caps (w.heap.size + 1 + 1, c1, c2) (by simp)
  obtain ⟨l1, p1, r1⟩ := S.out.caps (w.heap.size + 1, b1, b2) (by simp)
  obtain ⟨l2, p2, r2⟩ := S.out.caps (w.heap.size, a1, a2) (by simp)
  go_wp2_with fail
  refine (mul_any a1 a2 b1 b2 _ _ i1 i2 i3 i4 h1).mono ?_
  rintro e w2 ⟨rfl, hb⟩
  have S := Bx.mk (S.out.call hb)
  clear hb
  clear l0 p0 r0 l1 p1 r1 l2 p2 r2
  obtain ⟨l0, p0, r0⟩ := S.out.caps (w.heap.size + 1 + 1, c1, c2) (by simp)
  obtain ⟨l1, p1, r1⟩ := S.out.caps (w.heap.size + 1, b1, b2) (by simp)
  obtain ⟨l2, p2, r2⟩ := S.out.caps (w.heap.size, a1, a2) (by simp)
  have S := Bx.mk (S.out.push x1 x2)
  go_wp2_with fail
  refine (mul_any b1 b2 a1 a2 _ _ i3 i4 i1 i2 h2).mono ?_
  rintro e w3 ⟨rfl, hb⟩
  have S := Bx.mk (S.out.call hb)
  clear hb
  clear l0 p0 r0 l1 p1 r1 l2 p2 r2
  obtain ⟨l0, p0, r0⟩ := S.out.caps (w2.heap.size, x1, x2) (by simp)
  obtain ⟨l1, p1, r1⟩ := S.out.caps (w.heap.size + 1 + 1, c1, c2) (by simp)
  obtain ⟨l2, p2, r2⟩ := S.out.caps (w.heap.size + 1, b1, b2) (by simp)
  obtain ⟨l3, p3, r3⟩ := S.out.caps (w.heap.size, a1, a2) (by simp)
  have S := Bx.mk (S.out.push x1 x2)
  go_wp2_with fail
  refine (div_any x1 x2 b1 b2 _ _ ix.1 ix.2 i3 i4 h3).mono ?_
  rintro e w4 ⟨rfl, hb⟩
  have S := Bx.mk (S.out.call hb)
  clear hb
  clear l0 p0 r0 l1 p1 r1 l2 p2 r2 l3 p3 r3
  obtain ⟨l0, p0, r0⟩ := S.out.caps (w3.heap.size, x1, x2) (by simp)
  obtain ⟨l1, p1, r1⟩ := S.out.caps (w2.heap.size, x1, x2) (by simp)
  obtain ⟨l2, p2, r2⟩ := S.out.caps (w.heap.size + 1 + 1, c1, c2) (by simp)
  obtain ⟨l3, p3, r3⟩ := S.out.caps (w.heap.size + 1, b1, b2) (by simp)
  obtain ⟨l4, p4, r4⟩ := S.out.caps (w.heap.size, a1, a2) (by simp)
  have S := Bx.mk (S.out.push a1 a2)
  go_wp2_with fail
  refine (mul_any b1 b2 c1 c2 _ _ i3 i4 i5 i6 h4).mono ?_
  rintro e w5 ⟨rfl, hb⟩
  have S := Bx.mk (S.out.call hb)
  clear hb
  clear l0 p0 r0 l1 p1 r1 l2 p2 r2 l3 p3 r3 l4 p4 r4
  obtain ⟨l0, p0, r0⟩ := S.out.caps (w4.heap.size, a1, a2) (by simp)
  obtain ⟨l1, p1, r1⟩ := S.out.caps (w3.heap.size, x1, x2) (by simp)
  obtain ⟨l2, p2, r2⟩ := S.out.caps (w2.heap.size, x1, x2) (by simp)
  obtain ⟨l3, p3, r3⟩ := S.out.caps (w.heap.size + 1 + 1, c1, c2) (by simp)
  obtain ⟨l4, p4, r4⟩ := S.out.caps (w.heap.size + 1, b1, b2) (by simp)
  obtain ⟨l5, p5, r5⟩ := S.out.caps (w.heap.size, a1, a2) (by simp)
  have S := Bx.mk (S.out.push z1 z2)
  go_wp2_with fail
  refine (mul_any x1 x2 c1 c2 _ _ ix.1 ix.2 i5 i6 h5).mono ?_
  rintro e w6 ⟨rfl, hb⟩
  have S := Bx.mk (S.out.call hb)
  clear hb
  clear l0 p0 r0 l1 p1 r1 l2 p2 r2 l3 p3 r3 l4 p4 r4 l5 p5 r5
  obtain ⟨l0, p0, r0⟩ := S.out.caps (w5.heap.size, z1, z2) (by simp)
  obtain ⟨l1, p1, r1⟩ := S.out.caps (w4.heap.size, a1, a2) (by simp)
  obtain ⟨l2, p2, r2⟩ := S.out.caps (w3.heap.size, x1, x2) (by simp)
  obtain ⟨l3, p3, r3⟩ := S.out.caps (w2.heap.size, x1, x2) (by simp)
  obtain ⟨l4, p4, r4⟩ := S.out.caps (w.heap.size + 1 + 1, c1, c2) (by simp)
  obtain ⟨l5, p5, r5⟩ := S.out.caps (w.heap.size + 1, b1, b2) (by simp)
  obtain ⟨l6, p6, r6⟩ := S.out.caps (w.heap.size, a1, a2) (by simp)
  have S := Bx.mk (S.out.push y1 y2)
  go_wp2_with fail
  refine (mul_any a1 a2 z1 z2 _ _ i1 i2 iz.1 iz.2 h6).mono ?_
  rintro e w7 ⟨rfl, hb⟩
  have S := Bx.mk (S.out.call hb)
  clear hb
  clear l0 p0 r0 l1 p1 r1 l2 p2 r2 l3 p3 r3 l4 p4 r4 l5 p5 r5 l6 p6 r6
  obtain ⟨l0, p0, r0⟩ := S.out.caps (w6.heap.size, y1, y2) (by simp)
  obtain ⟨l1, p1, r1⟩ := S.out.caps (w5.heap.size, z1, z2) (by simp)
  obtain ⟨l2, p2, r2⟩ := S.out.caps (w4.heap.size, a1, a2) (by simp)
  obtain ⟨l3, p3, r3⟩ := S.out.caps (w3.heap.size, x1, x2) (by simp)
  obtain ⟨l4, p4, r4⟩ := S.out.caps (w2.heap.size, x1, x2) (by simp)
  obtain ⟨l5, p5, r5⟩ := S.out.caps (w.heap.size + 1 + 1, c1, c2) (by simp)
  obtain ⟨l6, p6, r6⟩ := S.out.caps (w.heap.size + 1, b1, b2) (by simp)
  obtain ⟨l7, p7, r7⟩ := S.out.caps (w.heap.size, a1, a2) (by simp)
  have S := Bx.mk (S.out.push u1 u2)
  go_wp2_with fail
  refine (add_any b1 b2 c1 c2 _ _ i3 i4 i5 i6 h7).mono ?_
  rintro e w8 ⟨rfl, hb⟩
  have S := Bx.mk (S.out.call hb)
  clear hb
  clear l0 p0 r0 l1 p1 r1 l2 p2 r2 l3 p3 r3 l4 p4 r4 l5 p5 r5 l6 p6 r6 l7 p7 r7
  obtain ⟨l0, p0, r0⟩ := S.out.caps (w7.heap.size, u1, u2) (by simp)
  obtain ⟨l1, p1, r1⟩ := S.out.caps (w6.heap.size, y1, y2) (by simp)
  obtain ⟨l2, p2, r2⟩ := S.out.caps (w5.heap.size, z1, z2) (by simp)
  obtain ⟨l3, p3, r3⟩ := S.out.caps (w4.heap.size, a1, a2) (by simp)
  obtain ⟨l4, p4, r4⟩ := S.out.caps (w3.heap.size, x1, x2) (by simp)
  obtain ⟨l5, p5, r5⟩ := S.out.caps (w2.heap.size, x1, x2) (by simp)
  obtain ⟨l6, p6, r6⟩ := S.out.caps (w.heap.size + 1 + 1, c1, c2) (by simp)
  obtain ⟨l7, p7, r7⟩ := S.out.caps (w.heap.size + 1, b1, b2) (by simp)
  obtain ⟨l8, p8, r8⟩ := S.out.caps (w.heap.size, a1, a2) (by simp)
  have S := Bx.mk (S.out.push s1 s2)
  go_wp2_with fail
  refine (mul_any a1 a2 s1 s2 _ _ i1 i2 iS.1 iS.2 h8).mono ?_
  rintro e w9 ⟨rfl, hb⟩
  have S := Bx.mk (S.out.call hb)
  clear hb
  clear l0 p0 r0 l1 p1 r1 l2 p2 r2 l3 p3 r3 l4 p4 r4 l5 p5 r5 l6 p6 r6 l7 p7 r7 l8 p8 r8
  obtain ⟨l0, p0, r0⟩ := S.out.caps (w8.heap.size, s1, s2) (by simp)
  obtain ⟨l1, p1, r1⟩ := S.out.caps (w7.heap.size, u1, u2) (by simp)
  obtain ⟨l2, p2, r2⟩ := S.out.caps (w6.heap.size, y1, y2) (by simp)
  obtain ⟨l3, p3, r3⟩ := S.out.caps (w5.heap.size, z1, z2) (by simp)
  obtain ⟨l4, p4, r4⟩ := S.out.caps (w4.heap.size, a1, a2) (by simp)
  obtain ⟨l5, p5, r5⟩ := S.out.caps (w3.heap.size, x1, x2) (by simp)
  obtain ⟨l6, p6, r6⟩ := S.out.caps (w2.heap.size, x1, x2) (by simp)
  obtain ⟨l7, p7, r7⟩ := S.out.caps (w.heap.size + 1 + 1, c1, c2) (by simp)
  obtain ⟨l8, p8, r8⟩ := S.out.caps (w.heap.size + 1, b1, b2) (by simp)
  obtain ⟨l9, p9, r9⟩ := S.out.caps (w.heap.size, a1, a2) (by simp)
  have S := Bx.mk (S.out.push t1 t2)
  go_wp2_with fail
  refine (mul_any a1 a2 c1 c2 _ _ i1 i2 i5 i6 h9).mono ?_
  rintro e w10 ⟨rfl, hb⟩
  have S := Bx.mk (S.out.call hb)
  clear hb
  clear l0 p0 r0 l1 p1 r1 l2 p2 r2 l3 p3 r3 l4 p4 r4 l5 p5 r5 l6 p6 r6 l7 p7 r7 l8 p8 r8 l9 p9 r9
  obtain ⟨l0, p0, r0⟩ := S.out.caps (w9.heap.size, t1, t2) (by simp)
  obtain ⟨l1, p1, r1⟩ := S.out.caps (w8.heap.size, s1, s2) (by simp)
  obtain ⟨l2, p2, r2⟩ := S.out.caps (w7.heap.size, u1, u2) (by simp)
  obtain ⟨l3, p3, r3⟩ := S.out.caps (w6.heap.size, y1, y2) (by simp)
  obtain ⟨l4, p4, r4⟩ := S.out.caps (w5.heap.size, z1, z2) (by simp)
  obtain ⟨l5, p5, r5⟩ := S.out.caps (w4.heap.size, a1, a2) (by simp)
  obtain ⟨l6, p6, r6⟩ := S.out.caps (w3.heap.size, x1, x2) (by simp)
  obtain ⟨l7, p7, r7⟩ := S.out.caps (w2.heap.size, x1, x2) (by simp)
  obtain ⟨l8, p8, r8⟩ := S.out.caps (w.heap.size + 1 + 1, c1, c2) (by simp)
  obtain ⟨l9, p9, r9⟩ := S.out.caps (w.heap.size + 1, b1, b2) (by simp)
  obtain ⟨l10, p10, r10⟩ := S.out.caps (w.heap.size, a1, a2) (by simp)
  have S := Bx.mk (S.out.push v1 v2)
  go_wp2_with fail
  refine (add_any x1 x2 v1 v2 _ _ ix.1 ix.2 iv.1 iv.2 h10).mono ?_
  rintro e w11 ⟨rfl, hb⟩
  have S := Bx.mk (S.out.call hb)
  clear hb
  clear l0 p0 r0 l1 p1 r1 l2 p2 r2 l3 p3 r3 l4 p4 r4 l5 p5 r5 l6 p6 r6 l7 p7 r7 l8 p8 r8 l9 p9 r9 l10 p10 r10
  obtain ⟨l0, p0, r0⟩ := S.out.caps (w10.heap.size, v1, v2) (by simp)
  obtain ⟨l1, p1, r1⟩ := S.out.caps (w9.heap.size, t1, t2) (by simp)
  obtain ⟨l2, p2, r2⟩ := S.out.caps (w8.heap.size, s1, s2) (by simp)
  obtain ⟨l3, p3, r3⟩ := S.out.caps (w7.heap.size, u1, u2) (by simp)
  obtain ⟨l4, p4, r4⟩ := S.out.caps (w6.heap.size, y1, y2) (by simp)
  obtain ⟨l5, p5, r5⟩ := S.out.caps (w5.heap.size, z1, z2) (by simp)
  obtain ⟨l6, p6, r6⟩ := S.out.caps (w4.heap.size, a1, a2) (by simp)
  obtain ⟨l7, p7, r7⟩ := S.out.caps (w3.heap.size, x1, x2) (by simp)
  obtain ⟨l8, p8, r8⟩ := S.out.caps (w2.heap.size, x1, x2) (by simp)
  obtain ⟨l9, p9, r9⟩ := S.out.caps (w.heap.size + 1 + 1, c1, c2) (by simp)
  obtain ⟨l10, p10, r10⟩ := S.out.caps (w.heap.size + 1, b1, b2) (by simp)
  obtain ⟨l11, p11, r11⟩ := S.out.caps (w.heap.size, a1, a2) (by simp)
  have S := Bx.mk (S.out.push m1 m2)
  by_cases k6 : e6 = 0
  · by_cases k7 : e7 = 0
    · by_cases k8 : e8 = 0
      · by_cases k9 : e9 = 0
        · subst k6; subst k7; subst k8; subst k9
          obtain ⟨rfl, rfl⟩ := mul_add h1 h7 h8 h9 h10
          clear h1 h2 h4 h5 h6 h7 h8 h9 h10
          go_wp2_with fail
          go_ret
          exact ⟨rfl, S.out.bl⟩
        · subst k6; subst k7; subst k8
          clear h1 h2 h4 h5 h6 h7 h8 h9 h10
          go_wp2_with fail
          go_ret
          exact ⟨rfl, S.out.bl⟩
      · subst k6; subst k7
        clear h1 h2 h4 h5 h6 h7 h8 h9 h10
        go_wp2_with fail
        go_ret
        exact ⟨rfl, S.out.bl⟩
    · subst k6
      clear h1 h2 h4 h5 h6 h7 h8 h9 h10
      go_wp2_with fail
      go_ret
      exact ⟨rfl, S.out.bl⟩
  · clear h1 h2 h4 h5 h6 h7 h8 h9 h10
    go_wp2_with fail
    go_ret
    exact ⟨rfl, S.out.bl⟩
set_option maxHeartbeats 4000000 in
theorem products_n5 (a1 a2 b1 b2 c1 c2 : Int) (w : World) (ht : Tb w) (i1 : I64 a1) (i2 : I64 a2) (i3 : I64 b1) (i4 : I64 b2) (i5 : I64 c1) (i6 : I64 c2) (x1 x2 z1 z2 y1 y2 u1 u2 s1 s2 e6 t1 t2 e7 v1 v2 e8 m1 m2 e9 e5 : Int) (k5 : ¬ e5 = 0) (hb : ¬ b1 = 0) (h1 : mulQ a1 a2 b1 b2 = ⟨x1, x2, 0⟩) (h4 : mulQ b1 b2 c1 c2 = ⟨z1, z2, 0⟩) (h5 : mulQ x1 x2 c1 c2 = ⟨y1, y2, 0⟩) (h6 : mulQ a1 a2 z1 z2 = ⟨u1, u2, e5⟩)
    (h7 : addQ b1 b2 c1 c2 = ⟨s1, s2, e6⟩) (h8 : mulQ a1 a2 s1 s2 = ⟨t1, t2, e7⟩) (h9 : mulQ a1 a2 c1 c2 = ⟨v1, v2, e8⟩) (h10 : addQ x1 x2 v1 v2 = ⟨m1, m2, e9⟩) :
    Calls Tryd.prog 5 #[RV a1 a2, RV b1 b2, RV c1 c2] w fun e w' => e = .returned (.bool true) ∧ Below w.heap.size w w' := by
  have h2 : mulQ b1 b2 a1 a2 = ⟨x1, x2, 0⟩ := by rw [mulQ_comm]; exact h1
  have h3 := div_undoes h1 hb
  have ix := mulQ_i64 h1
  have iz := mulQ_i64 h4
  have iS := addQ_i64 h7
  have iv := mulQ_i64 h9
  have S : Bx (St w (((w.alloc (.cells #[.int .i64 a1, .int .i64 a2] 25)).alloc (.cells #[.int .i64 b1, .int .i64 b2] 25)).alloc (.cells #[.int .i64 c1, .int .i64 c2] 25)) [(w.heap.size + 1 + 1, c1, c2), (w.heap.size + 1, b1, b2), (w.heap.size, a1, a2)]) := ⟨start3 w ht a1 a2 b1 b2 c1 c2⟩
  go_enter Tryd.func5, Tryd.ntmps5
  go_wp2_with fail
  refine (head_any _ S.out.tb).mono ?_
  rintro e w1 ⟨rfl, hb⟩
  have S := Bx.mk (S.out.call hb)
  clear hb
  obtain ⟨l0, p0, r0⟩ := S.out.caps (w.heap.size + 1 + 1, c1, c2) (by simp)
  obtain ⟨l1, p1, r1⟩ := S.out.caps (w.heap.size + 1, b1, b2) (by simp)
  obtain ⟨l2, p2, r2⟩ := S.out.caps (w.heap.size, a1, a2) (by simp)
  go_wp2_with fail
  refine (mul_any a1 a2 b1 b2 _ _ i1 i2 i3 i4 h1).mono ?_
  rintro e w2 ⟨rfl, hb⟩
  have S := Bx.mk (S.out.call hb)
  clear hb
  clear l0 p0 r0 l1 p1 r1 l2 p2 r2
  obtain ⟨l0, p0, r0⟩ := S.out.caps (w.heap.size + 1 + 1, c1, c2) (by simp)
  obtain ⟨l1, p1, r1⟩ := S.out.caps (w.heap.size + 1, b1, b2) (by simp)
  obtain ⟨l2, p2, r2⟩ := S.out.caps (w.heap.size, a1, a2) (by simp)
  have S := Bx.mk (S.out.push x1 x2)
  go_wp2_with fail
  refine (mul_any b1 b2 a1 a2 _ _ i3 i4 i1 i2 h2).mono ?_
  rintro e w3 ⟨rfl, hb⟩
  have S := Bx.mk (S.out.call hb)
  clear hb
  clear l0 p0 r0 l1 p1 r1 l2 p2 r2
  obtain ⟨l0, p0, r0⟩ := S.out.caps (w2.heap.size, x1, x2) (by simp)
  obtain ⟨l1, p1, r1⟩ := S.out.caps (w.heap.size + 1 + 1, c1, c2) (by simp)
  obtain ⟨l2, p2, r2⟩ := S.out.caps (w.heap.size + 1, b1, b2) (by simp)
  obtain ⟨l3, p3, r3⟩ := S.out.caps (w.heap.size, a1, a2) (by simp)
  have S := Bx.mk (S.out.push x1 x2)
  go_wp2_with fail
  refine (div_any x1 x2 b1 b2 _ _ ix.1 ix.2 i3 i4 h3).mono ?_
  rintro e w4 ⟨rfl, hb⟩
  have S := Bx.mk (S.out.call hb)
  clear hb
  clear l0 p0 r0 l1 p1 r1 l2 p2 r2 l3 p3 r3
  obtain ⟨l0, p0, r0⟩ := S.out.caps (w3.heap.size, x1, x2) (by simp)
  obtain ⟨l1, p1, r1⟩ := S.out.caps (w2.heap.size, x1, x2) (by simp)
  obtain ⟨l2, p2, r2⟩ := S.out.caps (w.heap.size + 1 + 1, c1, c2) (by simp)
  obtain ⟨l3, p3, r3⟩ := S.out.caps (w.heap.size + 1, b1, b2) (by simp)
  obtain ⟨l4, p4, r4⟩ := S.out.caps (w.heap.size, a1, a2) (by simp)
  have S := Bx.mk (S.out.push a1 a2)
  go_wp2_with fail
  refine (mul_any b1 b2 c1 c2 _ _ i3 i4 i5 i6 h4).mono ?_
  rintro e w5 ⟨rfl, hb⟩
  have S := Bx.mk (S.out.call hb)
  clear hb
  clear l0 p0 r0 l1 p1 r1 l2 p2 r2 l3 p3 r3 l4 p4 r4
  obtain ⟨l0, p0, r0⟩ := S.out.caps (w4.heap.size, a1, a2) (by simp)
  obtain ⟨l1, p1, r1⟩ := S.out.caps (w3.heap.size, x1, x2) (by simp)
  obtain ⟨l2, p2, r2⟩ := S.out.caps (w2.heap.size, x1, x2) (by simp)
  obtain ⟨l3, p3, r3⟩ := S.out.caps (w.heap.size + 1 + 1, c1, c2) (by simp)
  obtain ⟨l4, p4, r4⟩ := S.out.caps (w.heap.size + 1, b1, b2) (by simp)
  obtain ⟨l5, p5, r5⟩ := S.out.caps (w.heap.size, a1, a2) (by simp)
  have S := Bx.mk (S.out.push z1 z2)
  go_wp2_with fail
  refine (mul_any x1 x2 c1 c2 _ _ ix.1 ix.2 i5 i6 h5).mono ?_
  rintro e w6 ⟨rfl, hb⟩
  have S := Bx.mk (S.out.call hb)
  clear hb
  clear l0 p0 r0 l1 p1 r1 l2 p2 r2 l3 p3 r3 l4 p4 r4 l5 p5 r5
  obtain ⟨l0, p0, r0⟩ := S.out.caps (w5.heap.size, z1, z2) (by simp)
  obtain ⟨l1, p1, r1⟩ := S.out.caps (w4.heap.size, a1, a2) (by simp)
  obtain ⟨l2, p2, r2⟩ := S.out.caps (w3.heap.size, x1, x2) (by simp)
  obtain ⟨l3, p3, r3⟩ := S.out.caps (w2.heap.size, x1, x2) (by simp)
  obtain ⟨l4, p4, r4⟩ := S.out.caps (w.heap.size + 1 + 1, c1, c2) (by simp)
  obtain ⟨l5, p5, r5⟩ := S.out.caps (w.heap.size + 1, b1, b2) (by simp)
  obtain ⟨l6, p6, r6⟩ := S.out.caps (w.heap.size, a1, a2) (by simp)
  have S := Bx.mk (S.out.push y1 y2)
  go_wp2_with fail
  refine (mul_any a1 a2 z1 z2 _ _ i1 i2 iz.1 iz.2 h6).mono ?_
  rintro e w7 ⟨rfl, hb⟩
  have S := Bx.mk (S.out.call hb)
  clear hb
  clear l0 p0 r0 l1 p1 r1 l2 p2 r2 l3 p3 r3 l4 p4 r4 l5 p5 r5 l6 p6 r6
  obtain ⟨l0, p0, r0⟩ := S.out.caps (w6.heap.size, y1, y2) (by simp)
  obtain ⟨l1, p1, r1⟩ := S.out.caps (w5.heap.size, z1, z2) (by simp)
  obtain ⟨l2, p2, r2⟩ := S.out.caps (w4.heap.size, a1, a2) (by simp)
  obtain ⟨l3, p3, r3⟩ := S.out.caps (w3.heap.size, x1, x2) (by simp)
  obtain ⟨l4, p4, r4⟩ := S.out.caps (w2.heap.size, x1, x2) (by simp)
  obtain ⟨l5, p5, r5⟩ := S.out.caps (w.heap.size + 1 + 1, c1, c2) (by simp)
  obtain ⟨l6, p6, r6⟩ := S.out.caps (w.heap.size + 1, b1, b2) (by simp)
  obtain ⟨l7, p7, r7⟩ := S.out.caps (w.heap.size, a1, a2) (by simp)
  have S := Bx.mk (S.out.push u1 u2)
  go_wp2_with fail
  refine (add_any b1 b2 c1 c2 _ _ i3 i4 i5 i6 h7).mono ?_
  rintro e w8 ⟨rfl, hb⟩
  have S := Bx.mk (S.out.call hb)
  clear hb
  clear l0 p0 r0 l1 p1 r1 l2 p2 r2 l3 p3 r3 l4 p4 r4 l5 p5 r5 l6 p6 r6 l7 p7 r7
  obtain ⟨l0, p0, r0⟩ := S.out.caps (w7.heap.size, u1, u2) (by simp)
  obtain ⟨l1, p1, r1⟩ := S.out.caps (w6.heap.size, y1, y2) (by simp)
  obtain ⟨l2, p2, r2⟩ := S.out.caps (w5.heap.size, z1, z2) (by simp)
  obtain ⟨l3, p3, r3⟩ := S.out.caps (w4.heap.size, a1, a2) (by simp)
  obtain ⟨l4, p4, r4⟩ := S.out.caps (w3.heap.size, x1, x2) (by simp)
  obtain ⟨l5, p5, r5⟩ := S.out.caps (w2.heap.size, x1, x2) (by simp)
  obtain ⟨l6, p6, r6⟩ := S.out.caps (w.heap.size + 1 + 1, c1, c2) (by simp)
  obtain ⟨l7, p7, r7⟩ := S.out.caps (w.heap.size + 1, b1, b2) (by simp)
  obtain ⟨l8, p8, r8⟩ := S.out.caps (w.heap.size, a1, a2) (by simp)
  have S := Bx.mk (S.out.push s1 s2)
  go_wp2_with fail
  refine (mul_any a1 a2 s1 s2 _ _ i1 i2 iS.1 iS.2 h8).mono ?_
  rintro e w9 ⟨rfl, hb⟩
  have S := Bx.mk (S.out.call hb)
  clear hb
  clear l0 p0 r0 l1 p1 r1 l2 p2 r2 l3 p3 r3 l4 p4 r4 l5 p5 r5 l6 p6 r6 l7 p7 r7 l8 p8 r8
  obtain ⟨l0, p0, r0⟩ := S.out.caps (w8.heap.size, s1, s2) (by simp)
  obtain ⟨l1, p1, r1⟩ := S.out.caps (w7.heap.size, u1, u2) (by simp)
  obtain ⟨l2, p2, r2⟩ := S.out.caps (w6.heap.size, y1, y2) (by simp)
  obtain ⟨l3, p3, r3⟩ := S.out.caps (w5.heap.size, z1, z2) (by simp)
  obtain ⟨l4, p4, r4⟩ := S.out.caps (w4.heap.size, a1, a2) (by simp)
  obtain ⟨l5, p5, r5⟩ := S.out.caps (w3.heap.size, x1, x2) (by simp)
  obtain ⟨l6, p6, r6⟩ := S.out.caps (w2.heap.size, x1, x2) (by simp)
  obtain ⟨l7, p7, r7⟩ := S.out.caps (w.heap.size + 1 + 1, c1, c2) (by simp)
  obtain ⟨l8, p8, r8⟩ := S.out.caps (w.heap.size + 1, b1, b2) (by simp)
  obtain ⟨l9, p9, r9⟩ := S.out.caps (w.heap.size, a1, a2) (by simp)
  have S := Bx.mk (S.out.push t1 t2)
  go_wp2_with fail
  refine (mul_any a1 a2 c1 c2 _ _ i1 i2 i5 i6 h9).mono ?_
  rintro e w10 ⟨rfl, hb⟩
  have S := Bx.mk (S.out.call hb)
  clear hb
  clear l0 p0 r0 l1 p1 r1 l2 p2 r2 l3 p3 r3 l4 p4 r4 l5 p5 r5 l6 p6 r6 l7 p7 r7 l8 p8 r8 l9 p9 r9
  obtain ⟨l0, p0, r0⟩ := S.out.caps (w9.heap.size, t1, t2) (by simp)
  obtain ⟨l1, p1, r1⟩ := S.out.caps (w8.heap.size, s1, s2) (by simp)
  obtain ⟨l2, p2, r2⟩ := S.out.caps (w7.heap.size, u1, u2) (by simp)
  obtain ⟨l3, p3, r3⟩ := S.out.caps (w6.heap.size, y1, y2) (by simp)
  obtain ⟨l4, p4, r4⟩ := S.out.caps (w5.heap.size, z1, z2) (by simp)
  obtain ⟨l5, p5, r5⟩ := S.out.caps (w4.heap.size, a1, a2) (by simp)
  obtain ⟨l6, p6, r6⟩ := S.out.caps (w3.heap.size, x1, x2) (by simp)
  obtain ⟨l7, p7, r7⟩ := S.out.caps (w2.heap.size, x1, x2) (by simp)
  obtain ⟨l8, p8, r8⟩ := S.out.caps (w.heap.size + 1 + 1, c1, c2) (by simp)
  obtain ⟨l9, p9, r9⟩ := S.out.caps (w.heap.size + 1, b1, b2) (by simp)
  obtain ⟨l10, p10, r10⟩ := S.out.caps (w.heap.size, a1, a2) (by simp)
  have S := Bx.mk (S.out.push v1 v2)
  go_wp2_with fail
  refine (add_any x1 x2 v1 v2 _ _ ix.1 ix.2 iv.1 iv.2 h10).mono ?_
  rintro e w11 ⟨rfl, hb⟩
  have S := Bx.mk (S.out.call hb)
  clear hb
  clear l0 p0 r0 l1 p1 r1 l2 p2 r2 l3 p3 r3 l4 p4 r4 l5 p5 r5 l6 p6 r6 l7 p7 r7 l8 p8 r8 l9 p9 r9 l10 p10 r10
  obtain ⟨l0, p0, r0⟩ := S.out.caps (w10.heap.size, v1, v2) (by simp)
  obtain ⟨l1, p1, r1⟩ := S.out.caps (w9.heap.size, t1, t2) (by simp)
  obtain ⟨l2, p2, r2⟩ := S.out.caps (w8.heap.size, s1, s2) (by simp)
  obtain ⟨l3, p3, r3⟩ := S.out.caps (w7.heap.size, u1, u2) (by simp)
  obtain ⟨l4, p4, r4⟩ := S.out.caps (w6.heap.size, y1, y2) (by simp)
  obtain ⟨l5, p5, r5⟩ := S.out.caps (w5.heap.size, z1, z2) (by simp)
  obtain ⟨l6, p6, r6⟩ := S.out.caps (w4.heap.size, a1, a2) (by simp)
  obtain ⟨l7, p7, r7⟩ := S.out.caps (w3.heap.size, x1, x2) (by simp)
  obtain ⟨l8, p8, r8⟩ := S.out.caps (w2.heap.size, x1, x2) (by simp)
  obtain ⟨l9, p9, r9⟩ := S.out.caps (w.heap.size + 1 + 1, c1, c2) (by simp)
  obtain ⟨l10, p10, r10⟩ := S.out.caps (w.heap.size + 1, b1, b2) (by simp)
  obtain ⟨l11, p11, r11⟩ := S.out.caps (w.heap.size, a1, a2) (by simp)
  have S := Bx.mk (S.out.push m1 m2)
  by_cases k6 : e6 = 0
  · by_cases k7 : e7 = 0
    · by_cases k8 : e8 = 0
      · by_cases k9 : e9 = 0
        · subst k6; subst k7; subst k8; subst k9
          obtain ⟨rfl, rfl⟩ := mul_add h1 h7 h8 h9 h10
          clear h1 h2 h4 h5 h6 h7 h8 h9 h10
          go_wp2_with fail
          go_ret
          exact ⟨rfl, S.out.bl⟩
        · subst k6; subst k7; subst k8
          clear h1 h2 h4 h5 h6 h7 h8 h9 h10
          go_wp2_with fail
          go_ret
          exact ⟨rfl, S.out.bl⟩
      · subst k6; subst k7
        clear h1 h2 h4 h5 h6 h7 h8 h9 h10
        go_wp2_with fail
        go_ret
        exact ⟨rfl, S.out.bl⟩
    · subst k6
      clear h1 h2 h4 h5 h6 h7 h8 h9 h10
      go_wp2_with fail
      go_ret
      exact ⟨rfl, S.out.bl⟩
  · clear h1 h2 h4 h5 h6 h7 h8 h9 h10
    go_wp2_with fail
    go_ret
    exact ⟨rfl, S.out.bl⟩
theorem products_all (a1 a2 b1 b2 c1 c2 : Int) (w : World) (ht : Tb w) (i1 : I64 a1) (i2 : I64 a2) (i3 : I64 b1) (i4 : I64 b2) (i5 : I64 c1) (i6 : I64 c2) :
    Calls Tryd.prog 5 #[RV a1 a2, RV b1 b2, RV c1 c2] w fun e w' => e = .returned (.bool true) ∧ Below w.heap.size w w' := by
  obtain ⟨x1, x2, e1, h1⟩ := res_mk (mulQ a1 a2 b1 b2)
  by_cases he : e1 = 0
  · subst he
    obtain ⟨z1, z2, e3, h4⟩ := res_mk (mulQ b1 b2 c1 c2)
    obtain ⟨y1, y2, e4, h5⟩ := res_mk (mulQ x1 x2 c1 c2)
    obtain ⟨u1, u2, e5, h6⟩ := res_mk (mulQ a1 a2 z1 z2)
    obtain ⟨s1, s2, e6, h7⟩ := res_mk (addQ b1 b2 c1 c2)
    obtain ⟨t1, t2, e7, h8⟩ := res_mk (mulQ a1 a2 s1 s2)
    obtain ⟨v1, v2, e8, h9⟩ := res_mk (mulQ a1 a2 c1 c2)
    obtain ⟨m1, m2, e9, h10⟩ := res_mk (addQ x1 x2 v1 v2)
    by_cases hb : b1 = 0
    · by_cases k3 : e3 = 0
      · subst k3
        by_cases k4 : e4 = 0
        · subst k4
          by_cases k5 : e5 = 0
          · subst k5
            obtain ⟨rfl, rfl⟩ := mul_assoc h1 h4 h5 h6
            exact products_z0 a1 a2 b1 b2 c1 c2 w ht i1 i2 i3 i4 i5 i6 x1 x2 z1 z2 y1 y2 s1 s2 e6 t1 t2 e7 v1 v2 e8 m1 m2 e9 hb h1 h4 h5 h6 h7 h8 h9 h10
          · exact products_z5 a1 a2 b1 b2 c1 c2 w ht i1 i2 i3 i4 i5 i6 x1 x2 z1 z2 y1 y2 u1 u2 s1 s2 e6 t1 t2 e7 v1 v2 e8 m1 m2 e9 e5 k5 hb h1 h4 h5 h6 h7 h8 h9 h10
        · exact products_z4 a1 a2 b1 b2 c1 c2 w ht i1 i2 i3 i4 i5 i6 x1 x2 z1 z2 y1 y2 u1 u2 s1 s2 e6 t1 t2 e7 v1 v2 e8 m1 m2 e9 e4 e5 k4 hb h1 h4 h5 h6 h7 h8 h9 h10
      · exact products_z3 a1 a2 b1 b2 c1 c2 w ht i1 i2 i3 i4 i5 i6 x1 x2 z1 z2 y1 y2 u1 u2 s1 s2 e6 t1 t2 e7 v1 v2 e8 m1 m2 e9 e3 e4 e5 k3 hb h1 h4 h5 h6 h7 h8 h9 h10
    · by_cases k3 : e3 = 0
      · subst k3
        by_cases k4 : e4 = 0
        · subst k4
          by_cases k5 : e5 = 0
          · subst k5
            obtain ⟨rfl, rfl⟩ := mul_assoc h1 h4 h5 h6
            exact products_n0 a1 a2 b1 b2 c1 c2 w ht i1 i2 i3 i4 i5 i6 x1 x2 z1 z2 y1 y2 s1 s2 e6 t1 t2 e7 v1 v2 e8 m1 m2 e9 hb h1 h4 h5 h6 h7 h8 h9 h10
          · exact products_n5 a1 a2 b1 b2 c1 c2 w ht i1 i2 i3 i4 i5 i6 x1 x2 z1 z2 y1 y2 u1 u2 s1 s2 e6 t1 t2 e7 v1 v2 e8 m1 m2 e9 e5 k5 hb h1 h4 h5 h6 h7 h8 h9 h10
        · exact products_n4 a1 a2 b1 b2 c1 c2 w ht i1 i2 i3 i4 i5 i6 x1 x2 z1 z2 y1 y2 u1 u2 s1 s2 e6 t1 t2 e7 v1 v2 e8 m1 m2 e9 e4 e5 k4 hb h1 h4 h5 h6 h7 h8 h9 h10
      · exact products_n3 a1 a2 b1 b2 c1 c2 w ht i1 i2 i3 i4 i5 i6 x1 x2 z1 z2 y1 y2 u1 u2 s1 s2 e6 t1 t2 e7 v1 v2 e8 m1 m2 e9 e3 e4 e5 k3 hb h1 h4 h5 h6 h7 h8 h9 h10
  · exact products_err a1 a2 b1 b2 c1 c2 w ht i1 i2 i3 i4 i5 i6 x1 x2 e1 h1 he
end Go.Proofs.YtmonobebmbackaaDoor

/- RationalSums, walked. -/
import Derived.Test.YtmonobebmbackaaDoorL0
namespace Go.Proofs.YtmonobebmbackaaDoor
open Go.RowKit M
theorem sums_err (a1 a2 b1 b2 c1 c2 : Int) (w : World) (ht : Tb w) (i1 : I64 a1) (i2 : I64 a2) (i3 : I64 b1) (i4 : I64 b2) (i5 : I64 c1) (i6 : I64 c2) (x1 x2 e1 : Int) (h1 : addQ a1 a2 b1 b2 = ⟨x1, x2, e1⟩) (he : ¬ e1 = 0) :
    Calls Tryd.prog 4 #[RV a1 a2, RV b1 b2, RV c1 c2] w fun e w' => e = .returned (.bool true) ∧ Below w.heap.size w w' := by
  have h2 : addQ b1 b2 a1 a2 = ⟨x1, x2, e1⟩ := by rw [addQ_comm]; exact h1
  have S : Bx (St w (((w.alloc (.cells #[.int .i64 a1, .int .i64 a2] 25)).alloc (.cells #[.int .i64 b1, .int .i64 b2] 25)).alloc (.cells #[.int .i64 c1, .int .i64 c2] 25)) [(w.heap.size + 1 + 1, c1, c2), (w.heap.size + 1, b1, b2), (w.heap.size, a1, a2)]) := ⟨start3 w ht a1 a2 b1 b2 c1 c2⟩
  go_enter Tryd.func4, Tryd.ntmps4
  go_wp2_with fail
  refine (head_any _ S.out.tb).mono ?_
  rintro e w1 ⟨rfl, hb⟩
  have S := Bx.mk (S.out.call hb)
  clear hb
  obtain ⟨l0, p0, r0⟩ := S.out.caps (w.heap.size + 1 + 1, c1, c2) (by simp)
  obtain ⟨l1, p1, r1⟩ := S.out.caps (w.heap.size + 1, b1, b2) (by simp)
  obtain ⟨l2, p2, r2⟩ := S.out.caps (w.heap.size, a1, a2) (by simp)
  go_wp2_with fail
  refine (add_any a1 a2 b1 b2 _ _ i1 i2 i3 i4 h1).mono ?_
  rintro e w2 ⟨rfl, hb⟩
  have S := Bx.mk (S.out.call hb)
  clear hb
  clear l0 p0 r0 l1 p1 r1 l2 p2 r2
  obtain ⟨l0, p0, r0⟩ := S.out.caps (w.heap.size + 1 + 1, c1, c2) (by simp)
  obtain ⟨l1, p1, r1⟩ := S.out.caps (w.heap.size + 1, b1, b2) (by simp)
  obtain ⟨l2, p2, r2⟩ := S.out.caps (w.heap.size, a1, a2) (by simp)
  have S := Bx.mk (S.out.push x1 x2)
  go_wp2_with fail
  refine (add_any b1 b2 a1 a2 _ _ i3 i4 i1 i2 h2).mono ?_
  rintro e w3 ⟨rfl, hb⟩
  have S := Bx.mk (S.out.call hb)
  clear hb
  clear l0 p0 r0 l1 p1 r1 l2 p2 r2
  obtain ⟨l0, p0, r0⟩ := S.out.caps (w2.heap.size, x1, x2) (by simp)
  obtain ⟨l1, p1, r1⟩ := S.out.caps (w.heap.size + 1 + 1, c1, c2) (by simp)
  obtain ⟨l2, p2, r2⟩ := S.out.caps (w.heap.size + 1, b1, b2) (by simp)
  obtain ⟨l3, p3, r3⟩ := S.out.caps (w.heap.size, a1, a2) (by simp)
  have S := Bx.mk (S.out.push x1 x2)
  go_wp2_with fail
  go_ret
  exact ⟨rfl, S.out.bl⟩
set_option maxHeartbeats 4000000 in
theorem sums_ok (a1 a2 b1 b2 c1 c2 : Int) (w : World) (ht : Tb w) (i1 : I64 a1) (i2 : I64 a2) (i3 : I64 b1) (i4 : I64 b2) (i5 : I64 c1) (i6 : I64 c2) (x1 x2 z1 z2 e3 y1 y2 e4 u1 u2 e5 : Int) (h1 : addQ a1 a2 b1 b2 = ⟨x1, x2, 0⟩) (h4 : addQ b1 b2 c1 c2 = ⟨z1, z2, e3⟩) (h5 : addQ x1 x2 c1 c2 = ⟨y1, y2, e4⟩) (h6 : addQ a1 a2 z1 z2 = ⟨u1, u2, e5⟩) :
    Calls Tryd.prog 4 #[RV a1 a2, RV b1 b2, RV c1 c2] w fun e w' => e = .returned (.bool true) ∧ Below w.heap.size w w' := by
  have h2 : addQ b1 b2 a1 a2 = ⟨x1, x2, 0⟩ := by rw [addQ_comm]; exact h1
  have h3 := sub_undoes h1
  have ix := addQ_i64 h1
  have iz := addQ_i64 h4
  have S : Bx (St w (((w.alloc (.cells #[.int .i64 a1, .int .i64 a2] 25)).alloc (.cells #[.int .i64 b1, .int .i64 b2] 25)).alloc (.cells #[.int .i64 c1, .int .i64 c2] 25)) [(w.heap.size + 1 + 1, c1, c2), (w.heap.size + 1, b1, b2), (w.heap.size, a1, a2)]) := ⟨start3 w ht a1 a2 b1 b2 c1 c2⟩
  go_enter Tryd.func4, Tryd.ntmps4
  go_wp2_with fail
  refine (head_any _ S.out.tb).mono ?_
  rintro e w1 ⟨rfl, hb⟩
  have S := Bx.mk (S.out.call hb)
  clear hb
  obtain ⟨l0, p0, r0⟩ := S.out.caps (w.heap.size + 1 + 1, c1, c2) (by simp)
  obtain ⟨l1, p1, r1⟩ := S.out.caps (w.heap.size + 1, b1, b2) (by simp)
  obtain ⟨l2, p2, r2⟩ := S.out.caps (w.heap.size, a1, a2) (by simp)
  go_wp2_with fail
  refine (add_any a1 a2 b1 b2 _ _ i1 i2 i3 i4 h1).mono ?_
  rintro e w2 ⟨rfl, hb⟩
  have S := Bx.mk (S.out.call hb)
  clear hb
  clear l0 p0 r0 l1 p1 r1 l2 p2 r2
  obtain ⟨l0, p0, r0⟩ := S.out.caps (w.heap.size + 1 + 1, c1, c2) (by simp)
  obtain ⟨l1, p1, r1⟩ := S.out.caps (w.heap.size + 1, b1, b2) (by simp)
  obtain ⟨l2, p2, r2⟩ := S.out.caps (w.heap.size, a1, a2) (by simp)
  have S := Bx.mk (S.out.push x1 x2)
  go_wp2_with fail
  refine (add_any b1 b2 a1 a2 _ _ i3 i4 i1 i2 h2).mono ?_
  rintro e w3 ⟨rfl, hb⟩
  have S := Bx.mk (S.out.call hb)
  clear hb
  clear l0 p0 r0 l1 p1 r1 l2 p2 r2
  obtain ⟨l0, p0, r0⟩ := S.out.caps (w2.heap.size, x1, x2) (by simp)
  obtain ⟨l1, p1, r1⟩ := S.out.caps (w.heap.size + 1 + 1, c1, c2) (by simp)
  obtain ⟨l2, p2, r2⟩ := S.out.caps (w.heap.size + 1, b1, b2) (by simp)
  obtain ⟨l3, p3, r3⟩ := S.out.caps (w.heap.size, a1, a2) (by simp)
  have S := Bx.mk (S.out.push x1 x2)
  go_wp2_with fail
  refine (sub_any x1 x2 b1 b2 _ _ ix.1 ix.2 i3 i4 h3).mono ?_
  rintro e w4 ⟨rfl, hb⟩
  have S := Bx.mk (S.out.call hb)
  clear hb
  clear l0 p0 r0 l1 p1 r1 l2 p2 r2 l3 p3 r3
  obtain ⟨l0, p0, r0⟩ := S.out.caps (w3.heap.size, x1, x2) (by simp)
  obtain ⟨l1, p1, r1⟩ := S.out.caps (w2.heap.size, x1, x2) (by simp)
  obtain ⟨l2, p2, r2⟩ := S.out.caps (w.heap.size + 1 + 1, c1, c2) (by simp)
  obtain ⟨l3, p3, r3⟩ := S.out.caps (w.heap.size + 1, b1, b2) (by simp)
  obtain ⟨l4, p4, r4⟩ := S.out.caps (w.heap.size, a1, a2) (by simp)
  have S := Bx.mk (S.out.push a1 a2)
  go_wp2_with fail
  refine (add_any b1 b2 c1 c2 _ _ i3 i4 i5 i6 h4).mono ?_
  rintro e w5 ⟨rfl, hb⟩
  have S := Bx.mk (S.out.call hb)
  clear hb
  clear l0 p0 r0 l1 p1 r1 l2 p2 r2 l3 p3 r3 l4 p4 r4
  obtain ⟨l0, p0, r0⟩ := S.out.caps (w4.heap.size, a1, a2) (by simp)
  obtain ⟨l1, p1, r1⟩ := S.out.caps (w3.heap.size, x1, x2) (by simp)
  obtain ⟨l2, p2, r2⟩ := S.out.caps (w2.heap.size, x1, x2) (by simp)
  obtain ⟨l3, p3, r3⟩ := S.out.caps (w.heap.size + 1 + 1, c1, c2) (by simp)
  obtain ⟨l4, p4, r4⟩ := S.out.caps (w.heap.size + 1, b1, b2) (by simp)
  obtain ⟨l5, p5, r5⟩ := S.out.caps (w.heap.size, a1, a2) (by simp)
  have S := Bx.mk (S.out.push z1 z2)
  go_wp2_with fail
  refine (add_any x1 x2 c1 c2 _ _ ix.1 ix.2 i5 i6 h5).mono ?_
  rintro e w6 ⟨rfl, hb⟩
  have S := Bx.mk (S.out.call hb)
  clear hb
  clear l0 p0 r0 l1 p1 r1 l2 p2 r2 l3 p3 r3 l4 p4 r4 l5 p5 r5
  obtain ⟨l0, p0, r0⟩ := S.out.caps (w5.heap.size, z1, z2) (by simp)
  obtain ⟨l1, p1, r1⟩ := S.out.caps (w4.heap.size, a1, a2) (by simp)
  obtain ⟨l2, p2, r2⟩ := S.out.caps (w3.heap.size, x1, x2) (by simp)
  obtain ⟨l3, p3, r3⟩ := S.out.caps (w2.heap.size, x1, x2) (by simp)
  obtain ⟨l4, p4, r4⟩ := S.out.caps (w.heap.size + 1 + 1, c1, c2) (by simp)
  obtain ⟨l5, p5, r5⟩ := S.out.caps (w.heap.size + 1, b1, b2) (by simp)
  obtain ⟨l6, p6, r6⟩ := S.out.caps (w.heap.size, a1, a2) (by simp)
  have S := Bx.mk (S.out.push y1 y2)
  go_wp2_with fail
  refine (add_any a1 a2 z1 z2 _ _ i1 i2 iz.1 iz.2 h6).mono ?_
  rintro e w7 ⟨rfl, hb⟩
  have S := Bx.mk (S.out.call hb)
  clear hb
  clear l0 p0 r0 l1 p1 r1 l2 p2 r2 l3 p3 r3 l4 p4 r4 l5 p5 r5 l6 p6 r6
  obtain ⟨l0, p0, r0⟩ := S.out.caps (w6.heap.size, y1, y2) (by simp)
  obtain ⟨l1, p1, r1⟩ := S.out.caps (w5.heap.size, z1, z2) (by simp)
  obtain ⟨l2, p2, r2⟩ := S.out.caps (w4.heap.size, a1, a2) (by simp)
  obtain ⟨l3, p3, r3⟩ := S.out.caps (w3.heap.size, x1, x2) (by simp)
  obtain ⟨l4, p4, r4⟩ := S.out.caps (w2.heap.size, x1, x2) (by simp)
  obtain ⟨l5, p5, r5⟩ := S.out.caps (w.heap.size + 1 + 1, c1, c2) (by simp)
  obtain ⟨l6, p6, r6⟩ := S.out.caps (w.heap.size + 1, b1, b2) (by simp)
  obtain ⟨l7, p7, r7⟩ := S.out.caps (w.heap.size, a1, a2) (by simp)
  have S := Bx.mk (S.out.push u1 u2)
  by_cases k3 : e3 = 0
  · by_cases k4 : e4 = 0
    · by_cases k5 : e5 = 0
      · subst k3; subst k4; subst k5
        obtain ⟨rfl, rfl⟩ := add_assoc h1 h4 h5 h6
        clear h1 h2 h3 h4 h5 h6
        go_wp2_with fail
        go_ret
        exact ⟨rfl, S.out.bl⟩
      · subst k3; subst k4
        clear h1 h2 h3 h4 h5 h6
        go_wp2_with fail
        go_ret
        exact ⟨rfl, S.out.bl⟩
    · subst k3
      clear h1 h2 h3 h4 h5 h6
      go_wp2_with fail
      go_ret
      exact ⟨rfl, S.out.bl⟩
  · clear h1 h2 h3 h4 h5 h6
    go_wp2_with fail
    go_ret
    exact ⟨rfl, S.out.bl⟩
theorem sums_all (a1 a2 b1 b2 c1 c2 : Int) (w : World) (ht : Tb w) (i1 : I64 a1) (i2 : I64 a2) (i3 : I64 b1) (i4 : I64 b2) (i5 : I64 c1) (i6 : I64 c2) :
    Calls Tryd.prog 4 #[RV a1 a2, RV b1 b2, RV c1 c2] w fun e w' => e = .returned (.bool true) ∧ Below w.heap.size w w' := by
  obtain ⟨x1, x2, e1, h1⟩ := res_mk (addQ a1 a2 b1 b2)
  by_cases he : e1 = 0
  · subst he
    obtain ⟨z1, z2, e3, h4⟩ := res_mk (addQ b1 b2 c1 c2)
    obtain ⟨y1, y2, e4, h5⟩ := res_mk (addQ x1 x2 c1 c2)
    obtain ⟨u1, u2, e5, h6⟩ := res_mk (addQ a1 a2 z1 z2)
    exact sums_ok a1 a2 b1 b2 c1 c2 w ht i1 i2 i3 i4 i5 i6 x1 x2 z1 z2 e3 y1 y2 e4 u1 u2 e5 h1 h4 h5 h6
  · exact sums_err a1 a2 b1 b2 c1 c2 w ht i1 i2 i3 i4 i5 i6 x1 x2 e1 h1 he
end Go.Proofs.YtmonobebmbackaaDoor

/- RationalOrder, walked. -/
import Derived.Test.YtmonobebmbackaaDoorL0
namespace Go.Proofs.YtmonobebmbackaaDoor
open Go.RowKit M
set_option maxRecDepth 20000 in
set_option maxHeartbeats 4000000 in
theorem order_lt2_d (a1 a2 b2 c1 c2 : Int) (w : World) (ht : Tb w) (i1 : I64 a1) (i2 : I64 a2) (i5 : I64 c1) (i6 : I64 c2) (i4 : I64 b2) (hne : ¬ a2 = b2) (q t d1 d2 Z W ec pp1 pp2 e6 qq1 qq2 e7 : Int)
    (h1 : cmpQ a1 a2 a1 b2 = ((-1), 0)) (h2 : cmpQ a1 b2 a1 a2 = (1, 0)) (h3 : subQ a1 a2 a1 b2 = ⟨d1, d2, 0⟩) (hd : decide (0 < d1) = false) (hd2 : decide (d1 < 0) = true) (h4 : floorQ a1 a2 = (q, 0)) (hq : q * a2 = t) (t1 : 0 ≤ a1 - t) (t2 : a1 - t < a2) (t3 : -1000000000 ≤ a1) (t4 : a1 ≤ 1000000000) (t5 : a2 ≤ 1000000000)
    (h5 : cmpQ a1 b2 c1 c2 = (Z, ec)) (h6 : cmpQ a1 a2 c1 c2 = (W, ec)) (kw : ec = 0 → Z ≤ 0 → W < 0) (h7 : addQ a1 a2 c1 c2 = ⟨pp1, pp2, e6⟩) (h8 : addQ a1 b2 c1 c2 = ⟨qq1, qq2, e7⟩) (h9 : e6 = 0 → e7 = 0 → cmpQ pp1 pp2 qq1 qq2 = ((-1), 0)) :
    Calls Tryd.prog 6 #[RV a1 a2, RV a1 b2, RV c1 c2] w fun e w' => e = .returned (.bool true) ∧ Below w.heap.size w w' := by
  have ip := addQ_i64 h7
  have iq := addQ_i64 h8
  have S : Bx (St w (((w.alloc (.cells #[.int .i64 a1, .int .i64 a2] 25)).alloc (.cells #[.int .i64 a1, .int .i64 b2] 25)).alloc (.cells #[.int .i64 c1, .int .i64 c2] 25)) [(w.heap.size + 1 + 1, c1, c2), (w.heap.size + 1, a1, b2), (w.heap.size, a1, a2)]) := ⟨start3 w ht a1 a2 a1 b2 c1 c2⟩
  go_enter Tryd.func6, Tryd.ntmps6
  go_wp2_with fail
  refine (head_any _ S.out.tb).mono ?_
  rintro e w1 ⟨rfl, hb⟩
  have S := Bx.mk (S.out.call hb)
  clear hb
  obtain ⟨l0, p0, r0⟩ := S.out.caps (w.heap.size + 1 + 1, c1, c2) (by simp)
  obtain ⟨l1, p1, r1⟩ := S.out.caps (w.heap.size + 1, a1, b2) (by simp)
  obtain ⟨l2, p2, r2⟩ := S.out.caps (w.heap.size, a1, a2) (by simp)
  go_wp2_with fail
  refine (cmp_v a1 a2 a1 b2 (-1) 0 _ i1 i2 i1 i4 h1).mono ?_
  rintro e w2 ⟨rfl, hb⟩
  have S := Bx.mk (S.out.call hb)
  clear hb
  clear l0 p0 r0 l1 p1 r1 l2 p2 r2
  obtain ⟨l0, p0, r0⟩ := S.out.caps (w.heap.size + 1 + 1, c1, c2) (by simp)
  obtain ⟨l1, p1, r1⟩ := S.out.caps (w.heap.size + 1, a1, b2) (by simp)
  obtain ⟨l2, p2, r2⟩ := S.out.caps (w.heap.size, a1, a2) (by simp)
  go_wp2_with fail
  refine (cmp_v a1 b2 a1 a2 1 0 _ i1 i4 i1 i2 h2).mono ?_
  rintro e w3 ⟨rfl, hb⟩
  have S := Bx.mk (S.out.call hb)
  clear hb
  clear l0 p0 r0 l1 p1 r1 l2 p2 r2
  obtain ⟨l0, p0, r0⟩ := S.out.caps (w.heap.size + 1 + 1, c1, c2) (by simp)
  obtain ⟨l1, p1, r1⟩ := S.out.caps (w.heap.size + 1, a1, b2) (by simp)
  obtain ⟨l2, p2, r2⟩ := S.out.caps (w.heap.size, a1, a2) (by simp)
  go_wp2_with fail
  refine (sub_any a1 a2 a1 b2 _ _ i1 i2 i1 i4 h3).mono ?_
  rintro e w4 ⟨rfl, hb⟩
  have S := Bx.mk (S.out.call hb)
  clear hb
  clear l0 p0 r0 l1 p1 r1 l2 p2 r2
  obtain ⟨l0, p0, r0⟩ := S.out.caps (w.heap.size + 1 + 1, c1, c2) (by simp)
  obtain ⟨l1, p1, r1⟩ := S.out.caps (w.heap.size + 1, a1, b2) (by simp)
  obtain ⟨l2, p2, r2⟩ := S.out.caps (w.heap.size, a1, a2) (by simp)
  have S := Bx.mk (S.out.push d1 d2)
  go_wp2_with fail
  refine (floor_v a1 a2 q 0 _ i1 i2 h4).mono ?_
  rintro e w5 ⟨rfl, hb⟩
  have S := Bx.mk (S.out.call hb)
  clear hb
  clear l0 p0 r0 l1 p1 r1 l2 p2 r2
  obtain ⟨l0, p0, r0⟩ := S.out.caps (w4.heap.size, d1, d2) (by simp)
  obtain ⟨l1, p1, r1⟩ := S.out.caps (w.heap.size + 1 + 1, c1, c2) (by simp)
  obtain ⟨l2, p2, r2⟩ := S.out.caps (w.heap.size + 1, a1, b2) (by simp)
  obtain ⟨l3, p3, r3⟩ := S.out.caps (w.heap.size, a1, a2) (by simp)
  go_wp2_with fail
  refine (cmp_v a1 b2 c1 c2 Z ec _ i1 i4 i5 i6 h5).mono ?_
  rintro e w6 ⟨rfl, hb⟩
  have S := Bx.mk (S.out.call hb)
  clear hb
  clear l0 p0 r0 l1 p1 r1 l2 p2 r2 l3 p3 r3
  obtain ⟨l0, p0, r0⟩ := S.out.caps (w4.heap.size, d1, d2) (by simp)
  obtain ⟨l1, p1, r1⟩ := S.out.caps (w.heap.size + 1 + 1, c1, c2) (by simp)
  obtain ⟨l2, p2, r2⟩ := S.out.caps (w.heap.size + 1, a1, b2) (by simp)
  obtain ⟨l3, p3, r3⟩ := S.out.caps (w.heap.size, a1, a2) (by simp)
  go_wp2_with fail
  refine (cmp_v a1 a2 c1 c2 W ec _ i1 i2 i5 i6 h6).mono ?_
  rintro e w7 ⟨rfl, hb⟩
  have S := Bx.mk (S.out.call hb)
  clear hb
  clear l0 p0 r0 l1 p1 r1 l2 p2 r2 l3 p3 r3
  obtain ⟨l0, p0, r0⟩ := S.out.caps (w4.heap.size, d1, d2) (by simp)
  obtain ⟨l1, p1, r1⟩ := S.out.caps (w.heap.size + 1 + 1, c1, c2) (by simp)
  obtain ⟨l2, p2, r2⟩ := S.out.caps (w.heap.size + 1, a1, b2) (by simp)
  obtain ⟨l3, p3, r3⟩ := S.out.caps (w.heap.size, a1, a2) (by simp)
  by_cases kc : ec = 0
  · subst kc
    by_cases kz : 0 < Z
    · clear kw
      go_wp2_with fail
      refine (add_any a1 a2 c1 c2 _ _ i1 i2 i5 i6 h7).mono ?_
      rintro e w8 ⟨rfl, hb⟩
      have S := Bx.mk (S.out.call hb)
      clear hb
      clear l0 p0 r0 l1 p1 r1 l2 p2 r2 l3 p3 r3
      obtain ⟨l0, p0, r0⟩ := S.out.caps (w4.heap.size, d1, d2) (by simp)
      obtain ⟨l1, p1, r1⟩ := S.out.caps (w.heap.size + 1 + 1, c1, c2) (by simp)
      obtain ⟨l2, p2, r2⟩ := S.out.caps (w.heap.size + 1, a1, b2) (by simp)
      obtain ⟨l3, p3, r3⟩ := S.out.caps (w.heap.size, a1, a2) (by simp)
      have S := Bx.mk (S.out.push pp1 pp2)
      go_wp2_with fail
      refine (add_any a1 b2 c1 c2 _ _ i1 i4 i5 i6 h8).mono ?_
      rintro e w9 ⟨rfl, hb⟩
      have S := Bx.mk (S.out.call hb)
      clear hb
      clear l0 p0 r0 l1 p1 r1 l2 p2 r2 l3 p3 r3
      obtain ⟨l0, p0, r0⟩ := S.out.caps (w8.heap.size, pp1, pp2) (by simp)
      obtain ⟨l1, p1, r1⟩ := S.out.caps (w4.heap.size, d1, d2) (by simp)
      obtain ⟨l2, p2, r2⟩ := S.out.caps (w.heap.size + 1 + 1, c1, c2) (by simp)
      obtain ⟨l3, p3, r3⟩ := S.out.caps (w.heap.size + 1, a1, b2) (by simp)
      obtain ⟨l4, p4, r4⟩ := S.out.caps (w.heap.size, a1, a2) (by simp)
      have S := Bx.mk (S.out.push qq1 qq2)
      by_cases k6 : e6 = 0
      · by_cases k7 : e7 = 0
        · have HC := Bx.mk (fun w => cmp_v pp1 pp2 qq1 qq2 (-1) 0 w ip.1 ip.2 iq.1 iq.2 (h9 k6 k7))
          subst k6; subst k7
          clear h7 h8 h9
          go_wp2_with fail
          refine (HC.out _).mono ?_
          rintro e w10 ⟨rfl, hb⟩
          have S := Bx.mk (S.out.call hb)
          clear hb
          clear l0 p0 r0 l1 p1 r1 l2 p2 r2 l3 p3 r3 l4 p4 r4
          obtain ⟨l0, p0, r0⟩ := S.out.caps (w9.heap.size, qq1, qq2) (by simp)
          obtain ⟨l1, p1, r1⟩ := S.out.caps (w8.heap.size, pp1, pp2) (by simp)
          obtain ⟨l2, p2, r2⟩ := S.out.caps (w4.heap.size, d1, d2) (by simp)
          obtain ⟨l3, p3, r3⟩ := S.out.caps (w.heap.size + 1 + 1, c1, c2) (by simp)
          obtain ⟨l4, p4, r4⟩ := S.out.caps (w.heap.size + 1, a1, b2) (by simp)
          obtain ⟨l5, p5, r5⟩ := S.out.caps (w.heap.size, a1, a2) (by simp)
          go_wp2_with fail
          go_ret
          exact ⟨rfl, S.out.bl⟩
        · subst k6
          clear h7 h8 h9
          go_wp2_with fail
          go_ret
          exact ⟨rfl, S.out.bl⟩
      · clear h7 h8 h9
        go_wp2_with fail
        go_ret
        exact ⟨rfl, S.out.bl⟩
    · have kw := kw rfl (by omega)
      have kz : Z ≤ 0 := by omega
      go_wp2_with fail
      refine (add_any a1 a2 c1 c2 _ _ i1 i2 i5 i6 h7).mono ?_
      rintro e w8 ⟨rfl, hb⟩
      have S := Bx.mk (S.out.call hb)
      clear hb
      clear l0 p0 r0 l1 p1 r1 l2 p2 r2 l3 p3 r3
      obtain ⟨l0, p0, r0⟩ := S.out.caps (w4.heap.size, d1, d2) (by simp)
      obtain ⟨l1, p1, r1⟩ := S.out.caps (w.heap.size + 1 + 1, c1, c2) (by simp)
      obtain ⟨l2, p2, r2⟩ := S.out.caps (w.heap.size + 1, a1, b2) (by simp)
      obtain ⟨l3, p3, r3⟩ := S.out.caps (w.heap.size, a1, a2) (by simp)
      have S := Bx.mk (S.out.push pp1 pp2)
      go_wp2_with fail
      refine (add_any a1 b2 c1 c2 _ _ i1 i4 i5 i6 h8).mono ?_
      rintro e w9 ⟨rfl, hb⟩
      have S := Bx.mk (S.out.call hb)
      clear hb
      clear l0 p0 r0 l1 p1 r1 l2 p2 r2 l3 p3 r3
      obtain ⟨l0, p0, r0⟩ := S.out.caps (w8.heap.size, pp1, pp2) (by simp)
      obtain ⟨l1, p1, r1⟩ := S.out.caps (w4.heap.size, d1, d2) (by simp)
      obtain ⟨l2, p2, r2⟩ := S.out.caps (w.heap.size + 1 + 1, c1, c2) (by simp)
      obtain ⟨l3, p3, r3⟩ := S.out.caps (w.heap.size + 1, a1, b2) (by simp)
      obtain ⟨l4, p4, r4⟩ := S.out.caps (w.heap.size, a1, a2) (by simp)
      have S := Bx.mk (S.out.push qq1 qq2)
      by_cases k6 : e6 = 0
      · by_cases k7 : e7 = 0
        · have HC := Bx.mk (fun w => cmp_v pp1 pp2 qq1 qq2 (-1) 0 w ip.1 ip.2 iq.1 iq.2 (h9 k6 k7))
          subst k6; subst k7
          clear h7 h8 h9
          go_wp2_with fail
          refine (HC.out _).mono ?_
          rintro e w10 ⟨rfl, hb⟩
          have S := Bx.mk (S.out.call hb)
          clear hb
          clear l0 p0 r0 l1 p1 r1 l2 p2 r2 l3 p3 r3 l4 p4 r4
          obtain ⟨l0, p0, r0⟩ := S.out.caps (w9.heap.size, qq1, qq2) (by simp)
          obtain ⟨l1, p1, r1⟩ := S.out.caps (w8.heap.size, pp1, pp2) (by simp)
          obtain ⟨l2, p2, r2⟩ := S.out.caps (w4.heap.size, d1, d2) (by simp)
          obtain ⟨l3, p3, r3⟩ := S.out.caps (w.heap.size + 1 + 1, c1, c2) (by simp)
          obtain ⟨l4, p4, r4⟩ := S.out.caps (w.heap.size + 1, a1, b2) (by simp)
          obtain ⟨l5, p5, r5⟩ := S.out.caps (w.heap.size, a1, a2) (by simp)
          go_wp2_with fail
          go_ret
          exact ⟨rfl, S.out.bl⟩
        · subst k6
          clear h7 h8 h9
          go_wp2_with fail
          go_ret
          exact ⟨rfl, S.out.bl⟩
      · clear h7 h8 h9
        go_wp2_with fail
        go_ret
        exact ⟨rfl, S.out.bl⟩
  · clear h7 h8 h9
    go_wp2_with fail
    go_ret
    exact ⟨rfl, S.out.bl⟩
set_option maxRecDepth 20000 in
set_option maxHeartbeats 4000000 in
theorem order_lt2_n (a1 a2 b2 c1 c2 : Int) (w : World) (ht : Tb w) (i1 : I64 a1) (i2 : I64 a2) (i5 : I64 c1) (i6 : I64 c2) (i4 : I64 b2) (hne : ¬ a2 = b2) (q t d1 d2 e3 Z W ec pp1 pp2 e6 qq1 qq2 e7 : Int)
    (h1 : cmpQ a1 a2 a1 b2 = ((-1), 0)) (h2 : cmpQ a1 b2 a1 a2 = (1, 0)) (h3 : subQ a1 a2 a1 b2 = ⟨d1, d2, e3⟩) (k3 : ¬ e3 = 0) (h4 : floorQ a1 a2 = (q, 0)) (hq : q * a2 = t) (t1 : 0 ≤ a1 - t) (t2 : a1 - t < a2) (t3 : -1000000000 ≤ a1) (t4 : a1 ≤ 1000000000) (t5 : a2 ≤ 1000000000)
    (h5 : cmpQ a1 b2 c1 c2 = (Z, ec)) (h6 : cmpQ a1 a2 c1 c2 = (W, ec)) (kw : ec = 0 → Z ≤ 0 → W < 0) (h7 : addQ a1 a2 c1 c2 = ⟨pp1, pp2, e6⟩) (h8 : addQ a1 b2 c1 c2 = ⟨qq1, qq2, e7⟩) (h9 : e6 = 0 → e7 = 0 → cmpQ pp1 pp2 qq1 qq2 = ((-1), 0)) :
    Calls Tryd.prog 6 #[RV a1 a2, RV a1 b2, RV c1 c2] w fun e w' => e = .returned (.bool true) ∧ Below w.heap.size w w' := by
  have ip := addQ_i64 h7
  have iq := addQ_i64 h8
  have S : Bx (St w (((w.alloc (.cells #[.int .i64 a1, .int .i64 a2] 25)).alloc (.cells #[.int .i64 a1, .int .i64 b2] 25)).alloc (.cells #[.int .i64 c1, .int .i64 c2] 25)) [(w.heap.size + 1 + 1, c1, c2), (w.heap.size + 1, a1, b2), (w.heap.size, a1, a2)]) := ⟨start3 w ht a1 a2 a1 b2 c1 c2⟩
  go_enter Tryd.func6, Tryd.ntmps6
  go_wp2_with fail
  refine (head_any _ S.out.tb).mono ?_
  rintro e w1 ⟨rfl, hb⟩
  have S := Bx.mk (S.out.call hb)
  clear hb
  obtain ⟨l0, p0, r0⟩ := S.out.caps (w.heap.size + 1 + 1, c1, c2) (by simp)
  obtain ⟨l1, p1, r1⟩ := S.out.caps (w.heap.size + 1, a1, b2) (by simp)
  obtain ⟨l2, p2, r2⟩ := S.out.caps (w.heap.size, a1, a2) (by simp)
  go_wp2_with fail
  refine (cmp_v a1 a2 a1 b2 (-1) 0 _ i1 i2 i1 i4 h1).mono ?_
  rintro e w2 ⟨rfl, hb⟩
  have S := Bx.mk (S.out.call hb)
  clear hb
  clear l0 p0 r0 l1 p1 r1 l2 p2 r2
  obtain ⟨l0, p0, r0⟩ := S.out.caps (w.heap.size + 1 + 1, c1, c2) (by simp)
  obtain ⟨l1, p1, r1⟩ := S.out.caps (w.heap.size + 1, a1, b2) (by simp)
  obtain ⟨l2, p2, r2⟩ := S.out.caps (w.heap.size, a1, a2) (by simp)
  go_wp2_with fail
  refine (cmp_v a1 b2 a1 a2 1 0 _ i1 i4 i1 i2 h2).mono ?_
  rintro e w3 ⟨rfl, hb⟩
  have S := Bx.mk (S.out.call hb)
  clear hb
  clear l0 p0 r0 l1 p1 r1 l2 p2 r2
  obtain ⟨l0, p0, r0⟩ := S.out.caps (w.heap.size + 1 + 1, c1, c2) (by simp)
  obtain ⟨l1, p1, r1⟩ := S.out.caps (w.heap.size + 1, a1, b2) (by simp)
  obtain ⟨l2, p2, r2⟩ := S.out.caps (w.heap.size, a1, a2) (by simp)
  go_wp2_with fail
  refine (sub_any a1 a2 a1 b2 _ _ i1 i2 i1 i4 h3).mono ?_
  rintro e w4 ⟨rfl, hb⟩
  have S := Bx.mk (S.out.call hb)
  clear hb
  clear l0 p0 r0 l1 p1 r1 l2 p2 r2
  obtain ⟨l0, p0, r0⟩ := S.out.caps (w.heap.size + 1 + 1, c1, c2) (by simp)
  obtain ⟨l1, p1, r1⟩ := S.out.caps (w.heap.size + 1, a1, b2) (by simp)
  obtain ⟨l2, p2, r2⟩ := S.out.caps (w.heap.size, a1, a2) (by simp)
  have S := Bx.mk (S.out.push d1 d2)
  go_wp2_with fail
  refine (floor_v a1 a2 q 0 _ i1 i2 h4).mono ?_
  rintro e w5 ⟨rfl, hb⟩
  have S := Bx.mk (S.out.call hb)
  clear hb
  clear l0 p0 r0 l1 p1 r1 l2 p2 r2
  obtain ⟨l0, p0, r0⟩ := S.out.caps (w4.heap.size, d1, d2) (by simp)
  obtain ⟨l1, p1, r1⟩ := S.out.caps (w.heap.size + 1 + 1, c1, c2) (by simp)
  obtain ⟨l2, p2, r2⟩ := S.out.caps (w.heap.size + 1, a1, b2) (by simp)
  obtain ⟨l3, p3, r3⟩ := S.out.caps (w.heap.size, a1, a2) (by simp)
  go_wp2_with fail
  refine (cmp_v a1 b2 c1 c2 Z ec _ i1 i4 i5 i6 h5).mono ?_
  rintro e w6 ⟨rfl, hb⟩
  have S := Bx.mk (S.out.call hb)
  clear hb
  clear l0 p0 r0 l1 p1 r1 l2 p2 r2 l3 p3 r3
  obtain ⟨l0, p0, r0⟩ := S.out.caps (w4.heap.size, d1, d2) (by simp)
  obtain ⟨l1, p1, r1⟩ := S.out.caps (w.heap.size + 1 + 1, c1, c2) (by simp)
  obtain ⟨l2, p2, r2⟩ := S.out.caps (w.heap.size + 1, a1, b2) (by simp)
  obtain ⟨l3, p3, r3⟩ := S.out.caps (w.heap.size, a1, a2) (by simp)
  go_wp2_with fail
  refine (cmp_v a1 a2 c1 c2 W ec _ i1 i2 i5 i6 h6).mono ?_
  rintro e w7 ⟨rfl, hb⟩
  have S := Bx.mk (S.out.call hb)
  clear hb
  clear l0 p0 r0 l1 p1 r1 l2 p2 r2 l3 p3 r3
  obtain ⟨l0, p0, r0⟩ := S.out.caps (w4.heap.size, d1, d2) (by simp)
  obtain ⟨l1, p1, r1⟩ := S.out.caps (w.heap.size + 1 + 1, c1, c2) (by simp)
  obtain ⟨l2, p2, r2⟩ := S.out.caps (w.heap.size + 1, a1, b2) (by simp)
  obtain ⟨l3, p3, r3⟩ := S.out.caps (w.heap.size, a1, a2) (by simp)
  by_cases kc : ec = 0
  · subst kc
    by_cases kz : 0 < Z
    · clear kw
      go_wp2_with fail
      refine (add_any a1 a2 c1 c2 _ _ i1 i2 i5 i6 h7).mono ?_
      rintro e w8 ⟨rfl, hb⟩
      have S := Bx.mk (S.out.call hb)
      clear hb
      clear l0 p0 r0 l1 p1 r1 l2 p2 r2 l3 p3 r3
      obtain ⟨l0, p0, r0⟩ := S.out.caps (w4.heap.size, d1, d2) (by simp)
      obtain ⟨l1, p1, r1⟩ := S.out.caps (w.heap.size + 1 + 1, c1, c2) (by simp)
      obtain ⟨l2, p2, r2⟩ := S.out.caps (w.heap.size + 1, a1, b2) (by simp)
      obtain ⟨l3, p3, r3⟩ := S.out.caps (w.heap.size, a1, a2) (by simp)
      have S := Bx.mk (S.out.push pp1 pp2)
      go_wp2_with fail
      refine (add_any a1 b2 c1 c2 _ _ i1 i4 i5 i6 h8).mono ?_
      rintro e w9 ⟨rfl, hb⟩
      have S := Bx.mk (S.out.call hb)
      clear hb
      clear l0 p0 r0 l1 p1 r1 l2 p2 r2 l3 p3 r3
      obtain ⟨l0, p0, r0⟩ := S.out.caps (w8.heap.size, pp1, pp2) (by simp)
      obtain ⟨l1, p1, r1⟩ := S.out.caps (w4.heap.size, d1, d2) (by simp)
      obtain ⟨l2, p2, r2⟩ := S.out.caps (w.heap.size + 1 + 1, c1, c2) (by simp)
      obtain ⟨l3, p3, r3⟩ := S.out.caps (w.heap.size + 1, a1, b2) (by simp)
      obtain ⟨l4, p4, r4⟩ := S.out.caps (w.heap.size, a1, a2) (by simp)
      have S := Bx.mk (S.out.push qq1 qq2)
      by_cases k6 : e6 = 0
      · by_cases k7 : e7 = 0
        · have HC := Bx.mk (fun w => cmp_v pp1 pp2 qq1 qq2 (-1) 0 w ip.1 ip.2 iq.1 iq.2 (h9 k6 k7))
          subst k6; subst k7
          clear h7 h8 h9
          go_wp2_with fail
          refine (HC.out _).mono ?_
          rintro e w10 ⟨rfl, hb⟩
          have S := Bx.mk (S.out.call hb)
          clear hb
          clear l0 p0 r0 l1 p1 r1 l2 p2 r2 l3 p3 r3 l4 p4 r4
          obtain ⟨l0, p0, r0⟩ := S.out.caps (w9.heap.size, qq1, qq2) (by simp)
          obtain ⟨l1, p1, r1⟩ := S.out.caps (w8.heap.size, pp1, pp2) (by simp)
          obtain ⟨l2, p2, r2⟩ := S.out.caps (w4.heap.size, d1, d2) (by simp)
          obtain ⟨l3, p3, r3⟩ := S.out.caps (w.heap.size + 1 + 1, c1, c2) (by simp)
          obtain ⟨l4, p4, r4⟩ := S.out.caps (w.heap.size + 1, a1, b2) (by simp)
          obtain ⟨l5, p5, r5⟩ := S.out.caps (w.heap.size, a1, a2) (by simp)
          go_wp2_with fail
          go_ret
          exact ⟨rfl, S.out.bl⟩
        · subst k6
          clear h7 h8 h9
          go_wp2_with fail
          go_ret
          exact ⟨rfl, S.out.bl⟩
      · clear h7 h8 h9
        go_wp2_with fail
        go_ret
        exact ⟨rfl, S.out.bl⟩
    · have kw := kw rfl (by omega)
      have kz : Z ≤ 0 := by omega
      go_wp2_with fail
      refine (add_any a1 a2 c1 c2 _ _ i1 i2 i5 i6 h7).mono ?_
      rintro e w8 ⟨rfl, hb⟩
      have S := Bx.mk (S.out.call hb)
      clear hb
      clear l0 p0 r0 l1 p1 r1 l2 p2 r2 l3 p3 r3
      obtain ⟨l0, p0, r0⟩ := S.out.caps (w4.heap.size, d1, d2) (by simp)
      obtain ⟨l1, p1, r1⟩ := S.out.caps (w.heap.size + 1 + 1, c1, c2) (by simp)
      obtain ⟨l2, p2, r2⟩ := S.out.caps (w.heap.size + 1, a1, b2) (by simp)
      obtain ⟨l3, p3, r3⟩ := S.out.caps (w.heap.size, a1, a2) (by simp)
      have S := Bx.mk (S.out.push pp1 pp2)
      go_wp2_with fail
      refine (add_any a1 b2 c1 c2 _ _ i1 i4 i5 i6 h8).mono ?_
      rintro e w9 ⟨rfl, hb⟩
      have S := Bx.mk (S.out.call hb)
      clear hb
      clear l0 p0 r0 l1 p1 r1 l2 p2 r2 l3 p3 r3
      obtain ⟨l0, p0, r0⟩ := S.out.caps (w8.heap.size, pp1, pp2) (by simp)
      obtain ⟨l1, p1, r1⟩ := S.out.caps (w4.heap.size, d1, d2) (by simp)
      obtain ⟨l2, p2, r2⟩ := S.out.caps (w.heap.size + 1 + 1, c1, c2) (by simp)
      obtain ⟨l3, p3, r3⟩ := S.out.caps (w.heap.size + 1, a1, b2) (by simp)
      obtain ⟨l4, p4, r4⟩ := S.out.caps (w.heap.size, a1, a2) (by simp)
      have S := Bx.mk (S.out.push qq1 qq2)
      by_cases k6 : e6 = 0
      · by_cases k7 : e7 = 0
        · have HC := Bx.mk (fun w => cmp_v pp1 pp2 qq1 qq2 (-1) 0 w ip.1 ip.2 iq.1 iq.2 (h9 k6 k7))
          subst k6; subst k7
          clear h7 h8 h9
          go_wp2_with fail
          refine (HC.out _).mono ?_
          rintro e w10 ⟨rfl, hb⟩
          have S := Bx.mk (S.out.call hb)
          clear hb
          clear l0 p0 r0 l1 p1 r1 l2 p2 r2 l3 p3 r3 l4 p4 r4
          obtain ⟨l0, p0, r0⟩ := S.out.caps (w9.heap.size, qq1, qq2) (by simp)
          obtain ⟨l1, p1, r1⟩ := S.out.caps (w8.heap.size, pp1, pp2) (by simp)
          obtain ⟨l2, p2, r2⟩ := S.out.caps (w4.heap.size, d1, d2) (by simp)
          obtain ⟨l3, p3, r3⟩ := S.out.caps (w.heap.size + 1 + 1, c1, c2) (by simp)
          obtain ⟨l4, p4, r4⟩ := S.out.caps (w.heap.size + 1, a1, b2) (by simp)
          obtain ⟨l5, p5, r5⟩ := S.out.caps (w.heap.size, a1, a2) (by simp)
          go_wp2_with fail
          go_ret
          exact ⟨rfl, S.out.bl⟩
        · subst k6
          clear h7 h8 h9
          go_wp2_with fail
          go_ret
          exact ⟨rfl, S.out.bl⟩
      · clear h7 h8 h9
        go_wp2_with fail
        go_ret
        exact ⟨rfl, S.out.bl⟩
  · clear h7 h8 h9
    go_wp2_with fail
    go_ret
    exact ⟨rfl, S.out.bl⟩
end Go.Proofs.YtmonobebmbackaaDoor

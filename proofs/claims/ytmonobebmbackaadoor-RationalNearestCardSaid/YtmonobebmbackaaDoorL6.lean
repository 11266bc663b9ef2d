/- RationalNearest, walked. -/
import Derived.Test.YtmonobebmbackaaDoorL0
namespace Go.Proofs.YtmonobebmbackaaDoor
open Go.RowKit M
theorem small_true (n d : Int) (w : World) (h1 : -1000000 ≤ n) (h2 : n ≤ 1000000) (h3 : d ≤ 1000000) :
    Calls Tryd.prog 20 #[RV n d] w fun e w' => e = .returned (.bool true) ∧ Below w.heap.size w w' := by
  go_enter Tryd.func20, Tryd.ntmps20
  go_wp2
  go_ret
  exact ⟨rfl, by repeat (first | exact Below.refl _ _ | apply below_drewN | refine Below.setCell ?_ (by simp <;> omega) _ | refine Below.alloc ?_ (by simp <;> omega) _)⟩
theorem small_false (n d : Int) (w : World) (h : n < -1000000 ∨ 1000000 < n ∨ 1000000 < d) :
    Calls Tryd.prog 20 #[RV n d] w fun e w' => e = .returned (.bool false) ∧ Below w.heap.size w w' := by
  by_cases h1 : n < -1000000
  · clear h
    go_enter Tryd.func20, Tryd.ntmps20
    go_wp2
    go_ret
    exact ⟨rfl, by repeat (first | exact Below.refl _ _ | apply below_drewN | refine Below.setCell ?_ (by simp <;> omega) _ | refine Below.alloc ?_ (by simp <;> omega) _)⟩
  by_cases h2 : 1000000 < n
  · clear h
    go_enter Tryd.func20, Tryd.ntmps20
    go_wp2
    go_ret
    exact ⟨rfl, by repeat (first | exact Below.refl _ _ | apply below_drewN | refine Below.setCell ?_ (by simp <;> omega) _ | refine Below.alloc ?_ (by simp <;> omega) _)⟩
  have h3 : decide (d ≤ 1000000) = false := by simp only [decide_eq_false_iff_not]; omega
  have h3 := Bx.mk h3
  clear h
  go_enter Tryd.func20, Tryd.ntmps20
  go_wp2
  go_ret
  exact ⟨by rw [← h3.out]; rfl, by repeat (first | exact Below.refl _ _ | apply below_drewN | refine Below.setCell ?_ (by simp <;> omega) _ | refine Below.alloc ?_ (by simp <;> omega) _)⟩
theorem gap_any (a b c d : Int) (w : World) (h : BdQ a b) (h' : BdQ c d) : Calls Tryd.prog 21 #[RV a b, RV c d] w fun e w' => e = .returned (.int .i64 (gapQ a b c d)) ∧ Below w.heap.size w w' := by
  obtain ⟨h1, h2, h3, h4⟩ := h
  obtain ⟨h5, h6, h7, h8⟩ := h'
  have p0 := prod_bd h1 h2 (show -1000000000 ≤ d by omega) h8
  have p1 := prod_bd h5 h6 (show -1000000000 ≤ b by omega) h4
  obtain ⟨x, hx⟩ : ∃ x, a * d = x := ⟨_, rfl⟩
  obtain ⟨y, hy⟩ : ∃ y, c * b = y := ⟨_, rfl⟩
  rw [hx] at p0
  rw [hy] at p1
  have e : gapQ a b c d = max (x - y) (-(x - y)) := by unfold gapQ; rw [hx, hy]
  rw [e]
  clear e h1 h2 h3 h4 h5 h6 h7 h8
  go_enter Tryd.func21, Tryd.ntmps21
  go_wp2
  (try go_quiet (fail))
  (try go_wp2)
  go_ret
  exact ⟨rfl, by repeat (first | exact Below.refl _ _ | apply below_drewN | refine Below.setCell ?_ (by simp <;> omega) _ | refine Below.alloc ?_ (by simp <;> omega) _)⟩
/-- The numbers that are compared lie in three variables. -/
theorem St.three {w0 w : World} {ba bb bn : Nat} {a1 a2 b1 b2 x y : Int} (h : St w0 w [(bn, x, y), (bb, b1, b2), (ba, a1, a2)]) :
    St w0 w [(bn, x, y), (bb, b1, b2), (ba, a1, a2)] ∧ w.cell? ⟨ba, 0, none⟩ = some (.int .i64 a1) ∧ w.cell? ⟨ba, 1, none⟩ = some (.int .i64 a2) ∧ w.cell? ⟨bb, 0, none⟩ = some (.int .i64 b1) ∧ w.cell? ⟨bb, 1, none⟩ = some (.int .i64 b2) ∧ w.cell? ⟨bn, 0, none⟩ = some (.int .i64 x) ∧ w.cell? ⟨bn, 1, none⟩ = some (.int .i64 y) :=
  ⟨h, (h.caps (ba, a1, a2) (by simp)).c0, (h.caps (ba, a1, a2) (by simp)).c1, (h.caps (bb, b1, b2) (by simp)).c0, (h.caps (bb, b1, b2) (by simp)).c1, (h.caps (bn, x, y) (by simp)).c0, (h.caps (bn, x, y) (by simp)).c1⟩
theorem nearest_bad (a1 a2 b1 b2 m : Int) (w : World) (ht : Tb w) (i1 : I64 a1) (i2 : I64 a2) (i3 : I64 b1) (i4 : I64 b2) (i5 : I64 m) (hr : NearR a1 a2 m 0 0 1) (hv : validQ a1 a2 = false) :
    Calls Tryd.prog 7 #[RV a1 a2, RV b1 b2, .int .i64 m] w fun e w' => e = .returned (.bool true) ∧ Below w.heap.size w w' := by
  have S : Bx (St w ((w.alloc (.cells #[.int .i64 a1, .int .i64 a2] 25)).alloc (.cells #[.int .i64 b1, .int .i64 b2] 25)) [(w.heap.size + 1, b1, b2), (w.heap.size, a1, a2)]) := ⟨start2 w ht a1 a2 b1 b2⟩
  go_enter Tryd.func7, Tryd.ntmps7
  go_wp2_with fail
  refine (head_any _ S.out.tb).mono ?_
  rintro e w1 ⟨rfl, hb⟩
  have S := Bx.mk (S.out.call hb)
  clear hb
  obtain ⟨l0, p0, r0⟩ := S.out.caps (w.heap.size + 1, b1, b2) (by simp)
  obtain ⟨l1, p1, r1⟩ := S.out.caps (w.heap.size, a1, a2) (by simp)
  go_wp2_with fail
  refine (near_any a1 a2 m 0 0 1 _ i1 i2 hr).mono ?_
  rintro e w2 ⟨rfl, hb⟩
  have S := Bx.mk (S.out.call hb)
  clear hb
  clear l0 p0 r0 l1 p1 r1
  obtain ⟨l0, p0, r0⟩ := S.out.caps (w.heap.size + 1, b1, b2) (by simp)
  obtain ⟨l1, p1, r1⟩ := S.out.caps (w.heap.size, a1, a2) (by simp)
  have S := Bx.mk (S.out.push 0 0)
  go_wp2_with fail
  refine (valid_v a1 a2 false _ i1 i2 hv).mono ?_
  rintro e w3 ⟨rfl, hb⟩
  have S := Bx.mk (S.out.call hb)
  clear hb
  clear l0 p0 r0 l1 p1 r1
  obtain ⟨l0, p0, r0⟩ := S.out.caps (w2.heap.size, 0, 0) (by simp)
  obtain ⟨l1, p1, r1⟩ := S.out.caps (w.heap.size + 1, b1, b2) (by simp)
  obtain ⟨l2, p2, r2⟩ := S.out.caps (w.heap.size, a1, a2) (by simp)
  go_wp2_with fail
  go_ret
  exact ⟨rfl, S.out.bl⟩
theorem nearest_few (a1 a2 b1 b2 m : Int) (w : World) (ht : Tb w) (i1 : I64 a1) (i2 : I64 a2) (i3 : I64 b1) (i4 : I64 b2) (i5 : I64 m) (hr : NearR a1 a2 m 0 0 1) (hv : validQ a1 a2 = true) (hm : m < 1) :
    Calls Tryd.prog 7 #[RV a1 a2, RV b1 b2, .int .i64 m] w fun e w' => e = .returned (.bool true) ∧ Below w.heap.size w w' := by
  have S : Bx (St w ((w.alloc (.cells #[.int .i64 a1, .int .i64 a2] 25)).alloc (.cells #[.int .i64 b1, .int .i64 b2] 25)) [(w.heap.size + 1, b1, b2), (w.heap.size, a1, a2)]) := ⟨start2 w ht a1 a2 b1 b2⟩
  go_enter Tryd.func7, Tryd.ntmps7
  go_wp2_with fail
  refine (head_any _ S.out.tb).mono ?_
  rintro e w1 ⟨rfl, hb⟩
  have S := Bx.mk (S.out.call hb)
  clear hb
  obtain ⟨l0, p0, r0⟩ := S.out.caps (w.heap.size + 1, b1, b2) (by simp)
  obtain ⟨l1, p1, r1⟩ := S.out.caps (w.heap.size, a1, a2) (by simp)
  go_wp2_with fail
  refine (near_any a1 a2 m 0 0 1 _ i1 i2 hr).mono ?_
  rintro e w2 ⟨rfl, hb⟩
  have S := Bx.mk (S.out.call hb)
  clear hb
  clear l0 p0 r0 l1 p1 r1
  obtain ⟨l0, p0, r0⟩ := S.out.caps (w.heap.size + 1, b1, b2) (by simp)
  obtain ⟨l1, p1, r1⟩ := S.out.caps (w.heap.size, a1, a2) (by simp)
  have S := Bx.mk (S.out.push 0 0)
  go_wp2_with fail
  refine (valid_v a1 a2 true _ i1 i2 hv).mono ?_
  rintro e w3 ⟨rfl, hb⟩
  have S := Bx.mk (S.out.call hb)
  clear hb
  clear l0 p0 r0 l1 p1 r1
  obtain ⟨l0, p0, r0⟩ := S.out.caps (w2.heap.size, 0, 0) (by simp)
  obtain ⟨l1, p1, r1⟩ := S.out.caps (w.heap.size + 1, b1, b2) (by simp)
  obtain ⟨l2, p2, r2⟩ := S.out.caps (w.heap.size, a1, a2) (by simp)
  go_wp2_with fail
  go_ret
  exact ⟨rfl, S.out.bl⟩
theorem nearest_many (a1 a2 b1 b2 m : Int) (w : World) (ht : Tb w) (i1 : I64 a1) (i2 : I64 a2) (i3 : I64 b1) (i4 : I64 b2) (i5 : I64 m) (hr : NearR a1 a2 m 0 0 1) (hv : validQ a1 a2 = true) (hm : 1000000000 < m) :
    Calls Tryd.prog 7 #[RV a1 a2, RV b1 b2, .int .i64 m] w fun e w' => e = .returned (.bool true) ∧ Below w.heap.size w w' := by
  have S : Bx (St w ((w.alloc (.cells #[.int .i64 a1, .int .i64 a2] 25)).alloc (.cells #[.int .i64 b1, .int .i64 b2] 25)) [(w.heap.size + 1, b1, b2), (w.heap.size, a1, a2)]) := ⟨start2 w ht a1 a2 b1 b2⟩
  go_enter Tryd.func7, Tryd.ntmps7
  go_wp2_with fail
  refine (head_any _ S.out.tb).mono ?_
  rintro e w1 ⟨rfl, hb⟩
  have S := Bx.mk (S.out.call hb)
  clear hb
  obtain ⟨l0, p0, r0⟩ := S.out.caps (w.heap.size + 1, b1, b2) (by simp)
  obtain ⟨l1, p1, r1⟩ := S.out.caps (w.heap.size, a1, a2) (by simp)
  go_wp2_with fail
  refine (near_any a1 a2 m 0 0 1 _ i1 i2 hr).mono ?_
  rintro e w2 ⟨rfl, hb⟩
  have S := Bx.mk (S.out.call hb)
  clear hb
  clear l0 p0 r0 l1 p1 r1
  obtain ⟨l0, p0, r0⟩ := S.out.caps (w.heap.size + 1, b1, b2) (by simp)
  obtain ⟨l1, p1, r1⟩ := S.out.caps (w.heap.size, a1, a2) (by simp)
  have S := Bx.mk (S.out.push 0 0)
  go_wp2_with fail
  refine (valid_v a1 a2 true _ i1 i2 hv).mono ?_
  rintro e w3 ⟨rfl, hb⟩
  have S := Bx.mk (S.out.call hb)
  clear hb
  clear l0 p0 r0 l1 p1 r1
  obtain ⟨l0, p0, r0⟩ := S.out.caps (w2.heap.size, 0, 0) (by simp)
  obtain ⟨l1, p1, r1⟩ := S.out.caps (w.heap.size + 1, b1, b2) (by simp)
  obtain ⟨l2, p2, r2⟩ := S.out.caps (w.heap.size, a1, a2) (by simp)
  go_wp2_with fail
  go_ret
  exact ⟨rfl, S.out.bl⟩
theorem nearest_1 (a1 a2 b1 b2 m : Int) (w : World) (ht : Tb w) (i1 : I64 a1) (i2 : I64 a2) (i3 : I64 b1) (i4 : I64 b2) (i5 : I64 m) (x y : Int) (ix : I64 x ∧ I64 y) (hr : NearR a1 a2 m x y 0) (hn : validQ x y = true) (hy : y ≤ m) (hb : validQ b1 b2 = false) :
    Calls Tryd.prog 7 #[RV a1 a2, RV b1 b2, .int .i64 m] w fun e w' => e = .returned (.bool true) ∧ Below w.heap.size w w' := by
  have S : Bx (St w ((w.alloc (.cells #[.int .i64 a1, .int .i64 a2] 25)).alloc (.cells #[.int .i64 b1, .int .i64 b2] 25)) [(w.heap.size + 1, b1, b2), (w.heap.size, a1, a2)]) := ⟨start2 w ht a1 a2 b1 b2⟩
  go_enter Tryd.func7, Tryd.ntmps7
  go_wp2_with fail
  refine (head_any _ S.out.tb).mono ?_
  rintro e w1 ⟨rfl, hb⟩
  have S := Bx.mk (S.out.call hb)
  clear hb
  obtain ⟨l0, p0, r0⟩ := S.out.caps (w.heap.size + 1, b1, b2) (by simp)
  obtain ⟨l1, p1, r1⟩ := S.out.caps (w.heap.size, a1, a2) (by simp)
  go_wp2_with fail
  refine (near_any a1 a2 m x y 0 _ i1 i2 hr).mono ?_
  rintro e w2 ⟨rfl, hb⟩
  have S := Bx.mk (S.out.call hb)
  clear hb
  clear l0 p0 r0 l1 p1 r1
  obtain ⟨l0, p0, r0⟩ := S.out.caps (w.heap.size + 1, b1, b2) (by simp)
  obtain ⟨l1, p1, r1⟩ := S.out.caps (w.heap.size, a1, a2) (by simp)
  have S := Bx.mk (S.out.push x y)
  go_wp2_with fail
  refine (valid_v x y true _ ix.1 ix.2 hn).mono ?_
  rintro e w3 ⟨rfl, hb⟩
  have S := Bx.mk (S.out.call hb)
  clear hb
  clear l0 p0 r0 l1 p1 r1
  obtain ⟨l0, p0, r0⟩ := S.out.caps (w2.heap.size, x, y) (by simp)
  obtain ⟨l1, p1, r1⟩ := S.out.caps (w.heap.size + 1, b1, b2) (by simp)
  obtain ⟨l2, p2, r2⟩ := S.out.caps (w.heap.size, a1, a2) (by simp)
  go_wp2_with fail
  refine (valid_v b1 b2 false _ i3 i4 hb).mono ?_
  rintro e w4 ⟨rfl, hb⟩
  have S := Bx.mk (S.out.call hb)
  clear hb
  clear l0 p0 r0 l1 p1 r1 l2 p2 r2
  obtain ⟨l0, p0, r0⟩ := S.out.caps (w2.heap.size, x, y) (by simp)
  obtain ⟨l1, p1, r1⟩ := S.out.caps (w.heap.size + 1, b1, b2) (by simp)
  obtain ⟨l2, p2, r2⟩ := S.out.caps (w.heap.size, a1, a2) (by simp)
  go_wp2_with fail
  go_ret
  exact ⟨rfl, S.out.bl⟩
theorem nearest_2 (a1 a2 b1 b2 m : Int) (w : World) (ht : Tb w) (i1 : I64 a1) (i2 : I64 a2) (i3 : I64 b1) (i4 : I64 b2) (i5 : I64 m) (x y : Int) (ix : I64 x ∧ I64 y) (hr : NearR a1 a2 m x y 0) (hn : validQ x y = true) (hy : y ≤ m) (hb : validQ b1 b2 = true) (hd : m < b2) :
    Calls Tryd.prog 7 #[RV a1 a2, RV b1 b2, .int .i64 m] w fun e w' => e = .returned (.bool true) ∧ Below w.heap.size w w' := by
  have S : Bx (St w ((w.alloc (.cells #[.int .i64 a1, .int .i64 a2] 25)).alloc (.cells #[.int .i64 b1, .int .i64 b2] 25)) [(w.heap.size + 1, b1, b2), (w.heap.size, a1, a2)]) := ⟨start2 w ht a1 a2 b1 b2⟩
  go_enter Tryd.func7, Tryd.ntmps7
  go_wp2_with fail
  refine (head_any _ S.out.tb).mono ?_
  rintro e w1 ⟨rfl, hb⟩
  have S := Bx.mk (S.out.call hb)
  clear hb
  obtain ⟨l0, p0, r0⟩ := S.out.caps (w.heap.size + 1, b1, b2) (by simp)
  obtain ⟨l1, p1, r1⟩ := S.out.caps (w.heap.size, a1, a2) (by simp)
  go_wp2_with fail
  refine (near_any a1 a2 m x y 0 _ i1 i2 hr).mono ?_
  rintro e w2 ⟨rfl, hb⟩
  have S := Bx.mk (S.out.call hb)
  clear hb
  clear l0 p0 r0 l1 p1 r1
  obtain ⟨l0, p0, r0⟩ := S.out.caps (w.heap.size + 1, b1, b2) (by simp)
  obtain ⟨l1, p1, r1⟩ := S.out.caps (w.heap.size, a1, a2) (by simp)
  have S := Bx.mk (S.out.push x y)
  go_wp2_with fail
  refine (valid_v x y true _ ix.1 ix.2 hn).mono ?_
  rintro e w3 ⟨rfl, hb⟩
  have S := Bx.mk (S.out.call hb)
  clear hb
  clear l0 p0 r0 l1 p1 r1
  obtain ⟨l0, p0, r0⟩ := S.out.caps (w2.heap.size, x, y) (by simp)
  obtain ⟨l1, p1, r1⟩ := S.out.caps (w.heap.size + 1, b1, b2) (by simp)
  obtain ⟨l2, p2, r2⟩ := S.out.caps (w.heap.size, a1, a2) (by simp)
  go_wp2_with fail
  refine (valid_v b1 b2 true _ i3 i4 hb).mono ?_
  rintro e w4 ⟨rfl, hb⟩
  have S := Bx.mk (S.out.call hb)
  clear hb
  clear l0 p0 r0 l1 p1 r1 l2 p2 r2
  obtain ⟨l0, p0, r0⟩ := S.out.caps (w2.heap.size, x, y) (by simp)
  obtain ⟨l1, p1, r1⟩ := S.out.caps (w.heap.size + 1, b1, b2) (by simp)
  obtain ⟨l2, p2, r2⟩ := S.out.caps (w.heap.size, a1, a2) (by simp)
  go_wp2_with fail
  go_ret
  exact ⟨rfl, S.out.bl⟩
theorem nearest_3 (a1 a2 b1 b2 m : Int) (w : World) (ht : Tb w) (i1 : I64 a1) (i2 : I64 a2) (i3 : I64 b1) (i4 : I64 b2) (i5 : I64 m) (x y : Int) (ix : I64 x ∧ I64 y) (hr : NearR a1 a2 m x y 0) (hn : validQ x y = true) (hy : y ≤ m) (hb : validQ b1 b2 = true) (hd : b2 ≤ m) (sa : a1 < -1000000 ∨ 1000000 < a1 ∨ 1000000 < a2) :
    Calls Tryd.prog 7 #[RV a1 a2, RV b1 b2, .int .i64 m] w fun e w' => e = .returned (.bool true) ∧ Below w.heap.size w w' := by
  have S : Bx (St w ((w.alloc (.cells #[.int .i64 a1, .int .i64 a2] 25)).alloc (.cells #[.int .i64 b1, .int .i64 b2] 25)) [(w.heap.size + 1, b1, b2), (w.heap.size, a1, a2)]) := ⟨start2 w ht a1 a2 b1 b2⟩
  go_enter Tryd.func7, Tryd.ntmps7
  go_wp2_with fail
  refine (head_any _ S.out.tb).mono ?_
  rintro e w1 ⟨rfl, hb⟩
  have S := Bx.mk (S.out.call hb)
  clear hb
  obtain ⟨l0, p0, r0⟩ := S.out.caps (w.heap.size + 1, b1, b2) (by simp)
  obtain ⟨l1, p1, r1⟩ := S.out.caps (w.heap.size, a1, a2) (by simp)
  go_wp2_with fail
  refine (near_any a1 a2 m x y 0 _ i1 i2 hr).mono ?_
  rintro e w2 ⟨rfl, hb⟩
  have S := Bx.mk (S.out.call hb)
  clear hb
  clear l0 p0 r0 l1 p1 r1
  obtain ⟨l0, p0, r0⟩ := S.out.caps (w.heap.size + 1, b1, b2) (by simp)
  obtain ⟨l1, p1, r1⟩ := S.out.caps (w.heap.size, a1, a2) (by simp)
  have S := Bx.mk (S.out.push x y)
  go_wp2_with fail
  refine (valid_v x y true _ ix.1 ix.2 hn).mono ?_
  rintro e w3 ⟨rfl, hb⟩
  have S := Bx.mk (S.out.call hb)
  clear hb
  clear l0 p0 r0 l1 p1 r1
  obtain ⟨l0, p0, r0⟩ := S.out.caps (w2.heap.size, x, y) (by simp)
  obtain ⟨l1, p1, r1⟩ := S.out.caps (w.heap.size + 1, b1, b2) (by simp)
  obtain ⟨l2, p2, r2⟩ := S.out.caps (w.heap.size, a1, a2) (by simp)
  go_wp2_with fail
  refine (valid_v b1 b2 true _ i3 i4 hb).mono ?_
  rintro e w4 ⟨rfl, hb⟩
  have S := Bx.mk (S.out.call hb)
  clear hb
  clear l0 p0 r0 l1 p1 r1 l2 p2 r2
  obtain ⟨l0, p0, r0⟩ := S.out.caps (w2.heap.size, x, y) (by simp)
  obtain ⟨l1, p1, r1⟩ := S.out.caps (w.heap.size + 1, b1, b2) (by simp)
  obtain ⟨l2, p2, r2⟩ := S.out.caps (w.heap.size, a1, a2) (by simp)
  go_wp2_with fail
  refine (small_false a1 a2 _ sa).mono ?_
  rintro e w5 ⟨rfl, hb⟩
  have S := Bx.mk (S.out.call hb)
  clear hb
  clear l0 p0 r0 l1 p1 r1 l2 p2 r2
  obtain ⟨l0, p0, r0⟩ := S.out.caps (w2.heap.size, x, y) (by simp)
  obtain ⟨l1, p1, r1⟩ := S.out.caps (w.heap.size + 1, b1, b2) (by simp)
  obtain ⟨l2, p2, r2⟩ := S.out.caps (w.heap.size, a1, a2) (by simp)
  go_wp2_with fail
  go_ret
  exact ⟨rfl, S.out.bl⟩
theorem nearest_4 (a1 a2 b1 b2 m : Int) (w : World) (ht : Tb w) (i1 : I64 a1) (i2 : I64 a2) (i3 : I64 b1) (i4 : I64 b2) (i5 : I64 m) (x y : Int) (ix : I64 x ∧ I64 y) (hr : NearR a1 a2 m x y 0) (hn : validQ x y = true) (hy : y ≤ m) (hb : validQ b1 b2 = true) (hd : b2 ≤ m) (sa : -1000000 ≤ a1 ∧ a1 ≤ 1000000 ∧ a2 ≤ 1000000) (sb : b1 < -1000000 ∨ 1000000 < b1 ∨ 1000000 < b2) :
    Calls Tryd.prog 7 #[RV a1 a2, RV b1 b2, .int .i64 m] w fun e w' => e = .returned (.bool true) ∧ Below w.heap.size w w' := by
  have S : Bx (St w ((w.alloc (.cells #[.int .i64 a1, .int .i64 a2] 25)).alloc (.cells #[.int .i64 b1, .int .i64 b2] 25)) [(w.heap.size + 1, b1, b2), (w.heap.size, a1, a2)]) := ⟨start2 w ht a1 a2 b1 b2⟩
  go_enter Tryd.func7, Tryd.ntmps7
  go_wp2_with fail
  refine (head_any _ S.out.tb).mono ?_
  rintro e w1 ⟨rfl, hb⟩
  have S := Bx.mk (S.out.call hb)
  clear hb
  obtain ⟨l0, p0, r0⟩ := S.out.caps (w.heap.size + 1, b1, b2) (by simp)
  obtain ⟨l1, p1, r1⟩ := S.out.caps (w.heap.size, a1, a2) (by simp)
  go_wp2_with fail
  refine (near_any a1 a2 m x y 0 _ i1 i2 hr).mono ?_
  rintro e w2 ⟨rfl, hb⟩
  have S := Bx.mk (S.out.call hb)
  clear hb
  clear l0 p0 r0 l1 p1 r1
  obtain ⟨l0, p0, r0⟩ := S.out.caps (w.heap.size + 1, b1, b2) (by simp)
  obtain ⟨l1, p1, r1⟩ := S.out.caps (w.heap.size, a1, a2) (by simp)
  have S := Bx.mk (S.out.push x y)
  go_wp2_with fail
  refine (valid_v x y true _ ix.1 ix.2 hn).mono ?_
  rintro e w3 ⟨rfl, hb⟩
  have S := Bx.mk (S.out.call hb)
  clear hb
  clear l0 p0 r0 l1 p1 r1
  obtain ⟨l0, p0, r0⟩ := S.out.caps (w2.heap.size, x, y) (by simp)
  obtain ⟨l1, p1, r1⟩ := S.out.caps (w.heap.size + 1, b1, b2) (by simp)
  obtain ⟨l2, p2, r2⟩ := S.out.caps (w.heap.size, a1, a2) (by simp)
  go_wp2_with fail
  refine (valid_v b1 b2 true _ i3 i4 hb).mono ?_
  rintro e w4 ⟨rfl, hb⟩
  have S := Bx.mk (S.out.call hb)
  clear hb
  clear l0 p0 r0 l1 p1 r1 l2 p2 r2
  obtain ⟨l0, p0, r0⟩ := S.out.caps (w2.heap.size, x, y) (by simp)
  obtain ⟨l1, p1, r1⟩ := S.out.caps (w.heap.size + 1, b1, b2) (by simp)
  obtain ⟨l2, p2, r2⟩ := S.out.caps (w.heap.size, a1, a2) (by simp)
  go_wp2_with fail
  refine (small_true a1 a2 _ sa.1 sa.2.1 sa.2.2).mono ?_
  rintro e w5 ⟨rfl, hb⟩
  have S := Bx.mk (S.out.call hb)
  clear hb
  clear l0 p0 r0 l1 p1 r1 l2 p2 r2
  obtain ⟨l0, p0, r0⟩ := S.out.caps (w2.heap.size, x, y) (by simp)
  obtain ⟨l1, p1, r1⟩ := S.out.caps (w.heap.size + 1, b1, b2) (by simp)
  obtain ⟨l2, p2, r2⟩ := S.out.caps (w.heap.size, a1, a2) (by simp)
  go_wp2_with fail
  refine (small_false b1 b2 _ sb).mono ?_
  rintro e w6 ⟨rfl, hb⟩
  have S := Bx.mk (S.out.call hb)
  clear hb
  clear l0 p0 r0 l1 p1 r1 l2 p2 r2
  obtain ⟨l0, p0, r0⟩ := S.out.caps (w2.heap.size, x, y) (by simp)
  obtain ⟨l1, p1, r1⟩ := S.out.caps (w.heap.size + 1, b1, b2) (by simp)
  obtain ⟨l2, p2, r2⟩ := S.out.caps (w.heap.size, a1, a2) (by simp)
  go_wp2_with fail
  go_ret
  exact ⟨rfl, S.out.bl⟩
theorem nearest_5 (a1 a2 b1 b2 m : Int) (w : World) (ht : Tb w) (i1 : I64 a1) (i2 : I64 a2) (i3 : I64 b1) (i4 : I64 b2) (i5 : I64 m) (x y : Int) (ix : I64 x ∧ I64 y) (hr : NearR a1 a2 m x y 0) (hn : validQ x y = true) (hy : y ≤ m) (hb : validQ b1 b2 = true) (hd : b2 ≤ m) (sa : -1000000 ≤ a1 ∧ a1 ≤ 1000000 ∧ a2 ≤ 1000000) (sb : -1000000 ≤ b1 ∧ b1 ≤ 1000000 ∧ b2 ≤ 1000000) (sn : -1000000 ≤ x ∧ x ≤ 1000000 ∧ y ≤ 1000000) (g1 g2 v1 v2 : Int) (e1 : gapQ a1 a2 x y = g1) (e2 : gapQ a1 a2 b1 b2 = g2) (f1 : IntKind.i64.wrap (g1 * b2) = v1) (f2 : IntKind.i64.wrap (g2 * y) = v2) (hle : v1 ≤ v2) (hva : validQ a1 a2 = true) :
    Calls Tryd.prog 7 #[RV a1 a2, RV b1 b2, .int .i64 m] w fun e w' => e = .returned (.bool true) ∧ Below w.heap.size w w' := by
  have HG1 := Bx.mk (fun w => by have h := gap_any a1 a2 x y w (validQ_bd _ _ hva) (validQ_bd _ _ hn); rw [e1] at h; exact h)
  have HG2 := Bx.mk (fun w => by have h := gap_any a1 a2 b1 b2 w (validQ_bd _ _ hva) (validQ_bd _ _ hb); rw [e2] at h; exact h)
  have S : Bx (St w ((w.alloc (.cells #[.int .i64 a1, .int .i64 a2] 25)).alloc (.cells #[.int .i64 b1, .int .i64 b2] 25)) [(w.heap.size + 1, b1, b2), (w.heap.size, a1, a2)]) := ⟨start2 w ht a1 a2 b1 b2⟩
  go_enter Tryd.func7, Tryd.ntmps7
  go_wp2_with fail
  refine (head_any _ S.out.tb).mono ?_
  rintro e w1 ⟨rfl, hb⟩
  have S := Bx.mk (S.out.call hb)
  clear hb
  obtain ⟨l0, p0, r0⟩ := S.out.caps (w.heap.size + 1, b1, b2) (by simp)
  obtain ⟨l1, p1, r1⟩ := S.out.caps (w.heap.size, a1, a2) (by simp)
  go_wp2_with fail
  refine (near_any a1 a2 m x y 0 _ i1 i2 hr).mono ?_
  rintro e w2 ⟨rfl, hb⟩
  have S := Bx.mk (S.out.call hb)
  clear hb
  clear l0 p0 r0 l1 p1 r1
  obtain ⟨l0, p0, r0⟩ := S.out.caps (w.heap.size + 1, b1, b2) (by simp)
  obtain ⟨l1, p1, r1⟩ := S.out.caps (w.heap.size, a1, a2) (by simp)
  have S := Bx.mk (S.out.push x y)
  go_wp2_with fail
  refine (valid_v x y true _ ix.1 ix.2 hn).mono ?_
  rintro e w3 ⟨rfl, hb⟩
  have S := Bx.mk (S.out.call hb)
  clear hb
  clear l0 p0 r0 l1 p1 r1
  obtain ⟨l0, p0, r0⟩ := S.out.caps (w2.heap.size, x, y) (by simp)
  obtain ⟨l1, p1, r1⟩ := S.out.caps (w.heap.size + 1, b1, b2) (by simp)
  obtain ⟨l2, p2, r2⟩ := S.out.caps (w.heap.size, a1, a2) (by simp)
  go_wp2_with fail
  refine (valid_v b1 b2 true _ i3 i4 hb).mono ?_
  rintro e w4 ⟨rfl, hb⟩
  have S := Bx.mk (S.out.call hb)
  clear hb
  clear l0 p0 r0 l1 p1 r1 l2 p2 r2
  obtain ⟨l0, p0, r0⟩ := S.out.caps (w2.heap.size, x, y) (by simp)
  obtain ⟨l1, p1, r1⟩ := S.out.caps (w.heap.size + 1, b1, b2) (by simp)
  obtain ⟨l2, p2, r2⟩ := S.out.caps (w.heap.size, a1, a2) (by simp)
  go_wp2_with fail
  refine (small_true a1 a2 _ sa.1 sa.2.1 sa.2.2).mono ?_
  rintro e w5 ⟨rfl, hb⟩
  have S := Bx.mk (S.out.call hb)
  clear hb
  clear l0 p0 r0 l1 p1 r1 l2 p2 r2
  obtain ⟨l0, p0, r0⟩ := S.out.caps (w2.heap.size, x, y) (by simp)
  obtain ⟨l1, p1, r1⟩ := S.out.caps (w.heap.size + 1, b1, b2) (by simp)
  obtain ⟨l2, p2, r2⟩ := S.out.caps (w.heap.size, a1, a2) (by simp)
  go_wp2_with fail
  refine (small_true b1 b2 _ sb.1 sb.2.1 sb.2.2).mono ?_
  rintro e w6 ⟨rfl, hb⟩
  have S := Bx.mk (S.out.call hb)
  clear hb
  clear l0 p0 r0 l1 p1 r1 l2 p2 r2
  obtain ⟨l0, p0, r0⟩ := S.out.caps (w2.heap.size, x, y) (by simp)
  obtain ⟨l1, p1, r1⟩ := S.out.caps (w.heap.size + 1, b1, b2) (by simp)
  obtain ⟨l2, p2, r2⟩ := S.out.caps (w.heap.size, a1, a2) (by simp)
  go_wp2_with fail
  refine (small_true x y _ sn.1 sn.2.1 sn.2.2).mono ?_
  rintro e w7 ⟨rfl, hb⟩
  have S := Bx.mk (S.out.call hb)
  clear hb
  clear l0 p0 r0 l1 p1 r1 l2 p2 r2
  obtain ⟨l0, p0, r0⟩ := S.out.caps (w2.heap.size, x, y) (by simp)
  obtain ⟨l1, p1, r1⟩ := S.out.caps (w.heap.size + 1, b1, b2) (by simp)
  obtain ⟨l2, p2, r2⟩ := S.out.caps (w.heap.size, a1, a2) (by simp)
  go_wp2_with fail
  have HS := S.out
  generalize w7 = W at *
  clear S
  obtain ⟨bn, hbn⟩ : ∃ b, w2.heap.size = b := ⟨_, rfl⟩
  obtain ⟨ba, hba⟩ : ∃ b, w.heap.size = b := ⟨_, rfl⟩
  obtain ⟨bb, hbb⟩ : ∃ b, w.heap.size + 1 = b := ⟨_, rfl⟩
  simp only [hbn, hbb] at *
  simp only [hba] at *
  have HD := St.three (HS.call (Below.refl _ _).drew)
  have HA := St.three HS
  obtain ⟨_, c1, c2, c3, c4, c5, c6⟩ := HA
  go_region_held3 (fun W' => St w W' [(bn, x, y), (bb, b1, b2), (ba, a1, a2)] ∧ W'.cell? ⟨ba, 0, none⟩ = some (.int .i64 a1) ∧ W'.cell? ⟨ba, 1, none⟩ = some (.int .i64 a2) ∧ W'.cell? ⟨bb, 0, none⟩ = some (.int .i64 b1) ∧ W'.cell? ⟨bb, 1, none⟩ = some (.int .i64 b2) ∧ W'.cell? ⟨bn, 0, none⟩ = some (.int .i64 x) ∧ W'.cell? ⟨bn, 1, none⟩ = some (.int .i64 y))
    (first | (with_reducible assumption) | (refine St.three ?_; with_reducible assumption) | (refine St.three (And.left (b := _ ∧ _) ?_); with_reducible assumption))
    (first
      | (go_at_call 21; with_reducible refine (HG1.out _).mono ?_; rintro e w' ⟨rfl, hb⟩; have hS' := (And.left (by assumption) : St w _ [(bn, x, y), (bb, b1, b2), (ba, a1, a2)]).call hb)
      | (go_at_call 21; with_reducible refine (HG2.out _).mono ?_; rintro e w' ⟨rfl, hb⟩; have hS' := (And.left (by assumption) : St w _ [(bn, x, y), (bb, b1, b2), (ba, a1, a2)]).call hb))
  all_goals
    (try simp only [Exit.inBlock, Exit.then])
    go_wp2
    go_ret
    have hB := St.bl (by assumption : St w _ [(bn, x, y), (bb, b1, b2), (ba, a1, a2)])
    exact ⟨by simp [hle], by first | exact hB | (rw [hba] at hB; exact hB)⟩
theorem nearP_small {A D m x y : Int} (h : nearP A D m x y) (hc : Int.gcd A D = 1) (h1 : -1000000 ≤ A) (h2 : A ≤ 1000000) (h3 : D ≤ 1000000) : -1000000 ≤ x ∧ x ≤ 1000000 ∧ y ≤ 1000000 := by
  rcases h with ⟨h0, rfl, rfl⟩ | ⟨h0, l, h, H, hs, he⟩
  · exact ⟨h1, h2, h3⟩
  · have bd := H.nb.bounds hc h0 (B := 1000000) h1 h2
    have l3 := H.nb.lm
    have l4 := H.nb.hm
    rcases nearer_cases l h with ⟨e, _⟩ | ⟨e, _⟩ <;> rw [e] at he <;> simp only [Prod.mk.injEq] at he <;> obtain ⟨rfl, rfl⟩ := he
    · exact ⟨bd.1.1, bd.1.2, by omega⟩
    · exact ⟨bd.2.1, bd.2.2, by omega⟩
theorem prod_le {x y : Int} (A B : Nat) (h1 : x.natAbs ≤ A) (h2 : y.natAbs ≤ B) : (x * y).natAbs ≤ A * B := by
  rw [Int.natAbs_mul]; exact Nat.mul_le_mul h1 h2
theorem gap_small {a b c d e : Int} (h1 : a.natAbs ≤ 1000000) (h2 : b.natAbs ≤ 1000000) (h3 : c.natAbs ≤ 1000000) (h4 : d.natAbs ≤ 1000000) (h5 : e.natAbs ≤ 1000000) : IntKind.i64.wrap (gapQ a b c d * e) = gapQ a b c d * e := by
  have p1 := prod_le _ _ h1 h4
  have p2 := prod_le _ _ h3 h2
  have hg : (gapQ a b c d).natAbs ≤ 2000000000000 := by unfold gapQ; omega
  have p3 := prod_le _ _ hg h5
  generalize gapQ a b c d * e = z at *
  exact IntWalk.i64_in _ ⟨by omega, by omega⟩
theorem nearest_all (a1 a2 b1 b2 m : Int) (w : World) (ht : Tb w) (i1 : I64 a1) (i2 : I64 a2) (i3 : I64 b1) (i4 : I64 b2) (i5 : I64 m) :
    Calls Tryd.prog 7 #[RV a1 a2, RV b1 b2, .int .i64 m] w fun e w' => e = .returned (.bool true) ∧ Below w.heap.size w w' := by
  obtain ⟨x, y, c, hr⟩ := near_some a1 a2 m i1 i2 w
  rcases id hr with ⟨hv, h1, h2, rfl, hn⟩ | ⟨h, rfl, rfl, rfl⟩
  · have B1 := validQ_bd _ _ hv
    obtain ⟨hval, hym⟩ := nearP_valid hv h1 hn
    have B3 := validQ_bd _ _ hval
    have ix : I64 x ∧ I64 y := ⟨⟨by have := B3.lo; omega, by have := B3.hi; omega⟩, ⟨by have := B3.pos; omega, by have := B3.top; omega⟩⟩
    cases hb : validQ b1 b2 with
    | false => exact nearest_1 a1 a2 b1 b2 m w ht i1 i2 i3 i4 i5 x y ix hr hval hym hb
    | true =>
      have B2 := validQ_bd _ _ hb
      by_cases hd : m < b2
      · exact nearest_2 a1 a2 b1 b2 m w ht i1 i2 i3 i4 i5 x y ix hr hval hym hb hd
      by_cases sa : a1 < -1000000 ∨ 1000000 < a1 ∨ 1000000 < a2
      · exact nearest_3 a1 a2 b1 b2 m w ht i1 i2 i3 i4 i5 x y ix hr hval hym hb (by omega) sa
      by_cases sb : b1 < -1000000 ∨ 1000000 < b1 ∨ 1000000 < b2
      · exact nearest_4 a1 a2 b1 b2 m w ht i1 i2 i3 i4 i5 x y ix hr hval hym hb (by omega) (by omega) sb
      have sn := nearP_small hn (validQ_gcd hv) (by omega) (by omega) (by omega)
      have q1 := B1.pos
      have q2 := B2.pos
      have q3 := B3.pos
      exact nearest_5 a1 a2 b1 b2 m w ht i1 i2 i3 i4 i5 x y ix hr hval hym hb (by omega) (by omega) (by omega) sn _ _ _ _ rfl rfl (gap_small (by omega) (by omega) (by omega) (by omega) (by omega)) (gap_small (by omega) (by omega) (by omega) (by omega) (by omega)) (nearP_least hn q1 b1 b2 q2 (by omega)) hv
  · cases hv : validQ a1 a2 with
    | false => exact nearest_bad a1 a2 b1 b2 m w ht i1 i2 i3 i4 i5 hr hv
    | true =>
      rcases h with h | h | h
      · rw [hv] at h; cases h
      · exact nearest_few a1 a2 b1 b2 m w ht i1 i2 i3 i4 i5 hr hv h
      · exact nearest_many a1 a2 b1 b2 m w ht i1 i2 i3 i4 i5 hr hv h
end Go.Proofs.YtmonobebmbackaaDoor

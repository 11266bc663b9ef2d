/- ScaleOctaves, walked. -/
import Derived.Test.YtomgihlkbmaleaaDoorQX
namespace Go.Proofs.YtomgihlkbmaleaaDoor
open Go.RowKit M
theorem SS.put1 {w0 w : World} {L M : List (Nat × TypeId × Array Value)} {b : Nat} {t : TypeId} {c0 c1 c2 c3 c4 c5 : Value} (h : SS w0 w (L ++ (b, t, #[c0, c1, c2, c3, c4, c5]) :: M)) (u : Value) : SS w0 (w.setCell ⟨b, 0, none⟩ u) (L ++ (b, t, #[u, c1, c2, c3, c4, c5]) :: M) := h.put 0 u
set_option maxRecDepth 100000 in
set_option maxHeartbeats 4000000 in
theorem soct_no (p : Nat → Int) (b' : Int) (w : World) (hs : Sm w) (O1 : Hx (∀ w, Sm w → Calls Tryd.prog 10 #[PV p] w fun e w' => e = .returned (.tuple #[.agg #[.int .i64 0, .int .i64 0, .int .i64 0, .int .i64 0, .int .i64 0, .int .i64 0], .int .i64 0, .int .i64 3]) ∧ Below w.heap.size w w')) :
    Calls Tryd.prog 3 #[PV p, .int .i64 b'] w fun e w' => e = .returned (.bool true) ∧ Below w.heap.size w w' := by
  have S : Bx (SS w w []) := ⟨SS.start w hs⟩
  replace S := Bx.mk (S.out.push #[.int .i64 (p 0), .int .i64 (p 1), .int .i64 (p 2), .int .i64 (p 3), .int .i64 (p 4), .int .i64 (p 5)] 23)
  go_enter Tryd.func3, Tryd.ntmps3
  go_wp2_with fail
  refine (shead_any _ S.out.sm).mono ?_
  rintro e w1 ⟨rfl, hb⟩
  replace S := Bx.mk (S.out.call hb)
  clear hb
  obtain ⟨c0_0, c0_1, c0_2, c0_3, c0_4, c0_5, z0⟩ := S.out.six w.heap.size 23 (.int .i64 (p 0)) (.int .i64 (p 1)) (.int .i64 (p 2)) (.int .i64 (p 3)) (.int .i64 (p 4)) (.int .i64 (p 5)) List.mem_cons_self
  go_wp2_with fail
  refine (O1.out _ S.out.sm).mono ?_
  rintro e w2 ⟨rfl, hb⟩
  replace S := Bx.mk (S.out.call hb)
  clear hb
  clear c0_0 c0_1 c0_2 c0_3 c0_4 c0_5 z0
  replace S := Bx.mk (S.out.push #[.int .i64 0, .int .i64 0, .int .i64 0, .int .i64 0, .int .i64 0, .int .i64 0] 23)
  obtain ⟨c1_0, c1_1, c1_2, c1_3, c1_4, c1_5, z1⟩ := S.out.six w.heap.size 23 (.int .i64 (p 0)) (.int .i64 (p 1)) (.int .i64 (p 2)) (.int .i64 (p 3)) (.int .i64 (p 4)) (.int .i64 (p 5)) (List.mem_cons_of_mem _ List.mem_cons_self)
  go_wp2_with fail
  go_ret
  exact ⟨rfl, S.out.bl⟩
set_option maxRecDepth 100000 in
set_option maxHeartbeats 4000000 in
theorem soct_bad (p : Nat → Int) (b' : Int) (w : World) (hs : Sm w) (O1 : Hx (∀ w, Sm w → Calls Tryd.prog 10 #[PV p] w fun e w' => e = .returned (.tuple #[.agg #[.int .i64 0, .int .i64 0, .int .i64 0, .int .i64 0, .int .i64 0, .int .i64 0], .int .i64 0, .int .i64 1]) ∧ Below w.heap.size w w')) (V1 : Hx (∀ w, Calls Tryd.prog 11 #[PV p] w fun e w' => e = .returned (.bool false) ∧ Below w.heap.size w w')) :
    Calls Tryd.prog 3 #[PV p, .int .i64 b'] w fun e w' => e = .returned (.bool true) ∧ Below w.heap.size w w' := by
  have S : Bx (SS w w []) := ⟨SS.start w hs⟩
  replace S := Bx.mk (S.out.push #[.int .i64 (p 0), .int .i64 (p 1), .int .i64 (p 2), .int .i64 (p 3), .int .i64 (p 4), .int .i64 (p 5)] 23)
  go_enter Tryd.func3, Tryd.ntmps3
  go_wp2_with fail
  refine (shead_any _ S.out.sm).mono ?_
  rintro e w1 ⟨rfl, hb⟩
  replace S := Bx.mk (S.out.call hb)
  clear hb
  obtain ⟨c0_0, c0_1, c0_2, c0_3, c0_4, c0_5, z0⟩ := S.out.six w.heap.size 23 (.int .i64 (p 0)) (.int .i64 (p 1)) (.int .i64 (p 2)) (.int .i64 (p 3)) (.int .i64 (p 4)) (.int .i64 (p 5)) List.mem_cons_self
  go_wp2_with fail
  refine (O1.out _ S.out.sm).mono ?_
  rintro e w2 ⟨rfl, hb⟩
  replace S := Bx.mk (S.out.call hb)
  clear hb
  clear c0_0 c0_1 c0_2 c0_3 c0_4 c0_5 z0
  replace S := Bx.mk (S.out.push #[.int .i64 0, .int .i64 0, .int .i64 0, .int .i64 0, .int .i64 0, .int .i64 0] 23)
  obtain ⟨c1_0, c1_1, c1_2, c1_3, c1_4, c1_5, z1⟩ := S.out.six w.heap.size 23 (.int .i64 (p 0)) (.int .i64 (p 1)) (.int .i64 (p 2)) (.int .i64 (p 3)) (.int .i64 (p 4)) (.int .i64 (p 5)) (List.mem_cons_of_mem _ List.mem_cons_self)
  go_wp2_with fail
  refine (V1.out _).mono ?_
  rintro e w3 ⟨rfl, hb⟩
  replace S := Bx.mk (S.out.call hb)
  clear hb
  clear c1_0 c1_1 c1_2 c1_3 c1_4 c1_5 z1
  obtain ⟨c1_0, c1_1, c1_2, c1_3, c1_4, c1_5, z1⟩ := S.out.six w.heap.size 23 (.int .i64 (p 0)) (.int .i64 (p 1)) (.int .i64 (p 2)) (.int .i64 (p 3)) (.int .i64 (p 4)) (.int .i64 (p 5)) (List.mem_cons_of_mem _ List.mem_cons_self)
  go_wp2_with fail
  go_ret
  exact ⟨rfl, S.out.bl⟩
set_option maxRecDepth 100000 in
set_option maxHeartbeats 4000000 in
theorem soct_lo (p : Nat → Int) (b' : Int) (w : World) (hs : Sm w) (h1 : b' < -20) (q : Nat → Int) (o ka : Int) (hka : 0 ≤ ka) (o0 : -96 ≤ o) (o1 : o ≤ 96) (q0 : -576 ≤ q 0) (q1 : q 0 ≤ 576) (p0 : -576 ≤ p 0) (p1 : p 0 ≤ 576) (EQ : Hx (∀ w, (Op.equalIn 10000 23 (.agg #[.int .i64 (q 0 + 12 * o), .int .i64 (q 1), .int .i64 (q 2), .int .i64 (q 3), .int .i64 (q 4), .int .i64 (q 5)]) (PV p)).run Tryd.prog w = .ok true w)) (O1 : Hx (∀ w, Sm w → Calls Tryd.prog 10 #[PV p] w fun e w' => e = .returned (.tuple #[PV q, .int .i64 o, .int .i64 0]) ∧ Below w.heap.size w w')) (C1 : Hx (∀ w, Sm w → Calls Tryd.prog 12 #[PV q, .agg #[.int .i64 0, .int .i64 0, .int .i64 0, .int .i64 0, .int .i64 0, .int .i64 0]] w fun e w' => e = .returned (.tuple #[.int .i64 ka, .int .i64 0]) ∧ Below w.heap.size w w')) (C2 : Hx (∀ w, Sm w → Calls Tryd.prog 12 #[PV q, .agg #[.int .i64 12, .int .i64 0, .int .i64 0, .int .i64 0, .int .i64 0, .int .i64 0]] w fun e w' => e = .returned (.tuple #[.int .i64 (-1), .int .i64 0]) ∧ Below w.heap.size w w')) :
    Calls Tryd.prog 3 #[PV p, .int .i64 b'] w fun e w' => e = .returned (.bool true) ∧ Below w.heap.size w w' := by
  have S : Bx (SS w w []) := ⟨SS.start w hs⟩
  replace S := Bx.mk (S.out.push #[.int .i64 (p 0), .int .i64 (p 1), .int .i64 (p 2), .int .i64 (p 3), .int .i64 (p 4), .int .i64 (p 5)] 23)
  go_enter Tryd.func3, Tryd.ntmps3
  go_wp2_with fail
  refine (shead_any _ S.out.sm).mono ?_
  rintro e w1 ⟨rfl, hb⟩
  replace S := Bx.mk (S.out.call hb)
  clear hb
  obtain ⟨c0_0, c0_1, c0_2, c0_3, c0_4, c0_5, z0⟩ := S.out.six w.heap.size 23 (.int .i64 (p 0)) (.int .i64 (p 1)) (.int .i64 (p 2)) (.int .i64 (p 3)) (.int .i64 (p 4)) (.int .i64 (p 5)) List.mem_cons_self
  go_wp2_with fail
  refine (O1.out _ S.out.sm).mono ?_
  rintro e w2 ⟨rfl, hb⟩
  replace S := Bx.mk (S.out.call hb)
  clear hb
  clear c0_0 c0_1 c0_2 c0_3 c0_4 c0_5 z0
  replace S := Bx.mk (S.out.push #[.int .i64 (q 0), .int .i64 (q 1), .int .i64 (q 2), .int .i64 (q 3), .int .i64 (q 4), .int .i64 (q 5)] 23)
  obtain ⟨c0_0, c0_1, c0_2, c0_3, c0_4, c0_5, z0⟩ := S.out.six w2.heap.size 23 (.int .i64 (q 0)) (.int .i64 (q 1)) (.int .i64 (q 2)) (.int .i64 (q 3)) (.int .i64 (q 4)) (.int .i64 (q 5)) List.mem_cons_self
  go_wp2_with fail
  refine (C1.out _ S.out.sm).mono ?_
  rintro e w3 ⟨rfl, hb⟩
  replace S := Bx.mk (S.out.call hb)
  clear hb
  clear c0_0 c0_1 c0_2 c0_3 c0_4 c0_5 z0
  obtain ⟨c0_0, c0_1, c0_2, c0_3, c0_4, c0_5, z0⟩ := S.out.six w2.heap.size 23 (.int .i64 (q 0)) (.int .i64 (q 1)) (.int .i64 (q 2)) (.int .i64 (q 3)) (.int .i64 (q 4)) (.int .i64 (q 5)) List.mem_cons_self
  go_wp2_with fail
  refine (C2.out _ S.out.sm).mono ?_
  rintro e w4 ⟨rfl, hb⟩
  replace S := Bx.mk (S.out.call hb)
  clear hb
  clear c0_0 c0_1 c0_2 c0_3 c0_4 c0_5 z0
  obtain ⟨c0_0, c0_1, c0_2, c0_3, c0_4, c0_5, z0⟩ := S.out.six w2.heap.size 23 (.int .i64 (q 0)) (.int .i64 (q 1)) (.int .i64 (q 2)) (.int .i64 (q 3)) (.int .i64 (q 4)) (.int .i64 (q 5)) List.mem_cons_self
  obtain ⟨c1_0, c1_1, c1_2, c1_3, c1_4, c1_5, z1⟩ := S.out.six w.heap.size 23 (.int .i64 (p 0)) (.int .i64 (p 1)) (.int .i64 (p 2)) (.int .i64 (p 3)) (.int .i64 (p 4)) (.int .i64 (p 5)) (List.mem_cons_of_mem _ List.mem_cons_self)
  obtain ⟨fz0_0, fz0_1, fz0_2, fz0_3, fz0_4, fz0_5⟩ := S.out.fz6 w2.heap.size 23 #[.int .i64 (q 0), .int .i64 (q 1), .int .i64 (q 2), .int .i64 (q 3), .int .i64 (q 4), .int .i64 (q 5)] List.mem_cons_self
  obtain ⟨fz1_0, fz1_1, fz1_2, fz1_3, fz1_4, fz1_5⟩ := S.out.fz6 w.heap.size 23 #[.int .i64 (p 0), .int .i64 (p 1), .int .i64 (p 2), .int .i64 (p 3), .int .i64 (p 4), .int .i64 (p 5)] (List.mem_cons_of_mem _ List.mem_cons_self)
  have eq := EQ.out
  have hBL := S.out.bl
  clear S
  go_wp2_with fail
  go_ret
  exact ⟨rfl, by repeat (first | with_reducible exact hBL | (with_reducible refine Below.setCell ?_ ?side _; case side => (first | omega | (simp <;> omega))) | (with_reducible refine Below.alloc ?_ ?side _; case side => (first | omega | (simp <;> omega))))⟩
set_option maxRecDepth 100000 in
set_option maxHeartbeats 4000000 in
theorem soct_hi (p : Nat → Int) (b' : Int) (w : World) (hs : Sm w) (h1 : ¬ b' < -20) (h2 : 20 < b') (q : Nat → Int) (o ka : Int) (hka : 0 ≤ ka) (o0 : -96 ≤ o) (o1 : o ≤ 96) (q0 : -576 ≤ q 0) (q1 : q 0 ≤ 576) (p0 : -576 ≤ p 0) (p1 : p 0 ≤ 576) (EQ : Hx (∀ w, (Op.equalIn 10000 23 (.agg #[.int .i64 (q 0 + 12 * o), .int .i64 (q 1), .int .i64 (q 2), .int .i64 (q 3), .int .i64 (q 4), .int .i64 (q 5)]) (PV p)).run Tryd.prog w = .ok true w)) (O1 : Hx (∀ w, Sm w → Calls Tryd.prog 10 #[PV p] w fun e w' => e = .returned (.tuple #[PV q, .int .i64 o, .int .i64 0]) ∧ Below w.heap.size w w')) (C1 : Hx (∀ w, Sm w → Calls Tryd.prog 12 #[PV q, .agg #[.int .i64 0, .int .i64 0, .int .i64 0, .int .i64 0, .int .i64 0, .int .i64 0]] w fun e w' => e = .returned (.tuple #[.int .i64 ka, .int .i64 0]) ∧ Below w.heap.size w w')) (C2 : Hx (∀ w, Sm w → Calls Tryd.prog 12 #[PV q, .agg #[.int .i64 12, .int .i64 0, .int .i64 0, .int .i64 0, .int .i64 0, .int .i64 0]] w fun e w' => e = .returned (.tuple #[.int .i64 (-1), .int .i64 0]) ∧ Below w.heap.size w w')) :
    Calls Tryd.prog 3 #[PV p, .int .i64 b'] w fun e w' => e = .returned (.bool true) ∧ Below w.heap.size w w' := by
  have S : Bx (SS w w []) := ⟨SS.start w hs⟩
  replace S := Bx.mk (S.out.push #[.int .i64 (p 0), .int .i64 (p 1), .int .i64 (p 2), .int .i64 (p 3), .int .i64 (p 4), .int .i64 (p 5)] 23)
  go_enter Tryd.func3, Tryd.ntmps3
  go_wp2_with fail
  refine (shead_any _ S.out.sm).mono ?_
  rintro e w1 ⟨rfl, hb⟩
  replace S := Bx.mk (S.out.call hb)
  clear hb
  obtain ⟨c0_0, c0_1, c0_2, c0_3, c0_4, c0_5, z0⟩ := S.out.six w.heap.size 23 (.int .i64 (p 0)) (.int .i64 (p 1)) (.int .i64 (p 2)) (.int .i64 (p 3)) (.int .i64 (p 4)) (.int .i64 (p 5)) List.mem_cons_self
  go_wp2_with fail
  refine (O1.out _ S.out.sm).mono ?_
  rintro e w2 ⟨rfl, hb⟩
  replace S := Bx.mk (S.out.call hb)
  clear hb
  clear c0_0 c0_1 c0_2 c0_3 c0_4 c0_5 z0
  replace S := Bx.mk (S.out.push #[.int .i64 (q 0), .int .i64 (q 1), .int .i64 (q 2), .int .i64 (q 3), .int .i64 (q 4), .int .i64 (q 5)] 23)
  obtain ⟨c0_0, c0_1, c0_2, c0_3, c0_4, c0_5, z0⟩ := S.out.six w2.heap.size 23 (.int .i64 (q 0)) (.int .i64 (q 1)) (.int .i64 (q 2)) (.int .i64 (q 3)) (.int .i64 (q 4)) (.int .i64 (q 5)) List.mem_cons_self
  go_wp2_with fail
  refine (C1.out _ S.out.sm).mono ?_
  rintro e w3 ⟨rfl, hb⟩
  replace S := Bx.mk (S.out.call hb)
  clear hb
  clear c0_0 c0_1 c0_2 c0_3 c0_4 c0_5 z0
  obtain ⟨c0_0, c0_1, c0_2, c0_3, c0_4, c0_5, z0⟩ := S.out.six w2.heap.size 23 (.int .i64 (q 0)) (.int .i64 (q 1)) (.int .i64 (q 2)) (.int .i64 (q 3)) (.int .i64 (q 4)) (.int .i64 (q 5)) List.mem_cons_self
  go_wp2_with fail
  refine (C2.out _ S.out.sm).mono ?_
  rintro e w4 ⟨rfl, hb⟩
  replace S := Bx.mk (S.out.call hb)
  clear hb
  clear c0_0 c0_1 c0_2 c0_3 c0_4 c0_5 z0
  obtain ⟨c0_0, c0_1, c0_2, c0_3, c0_4, c0_5, z0⟩ := S.out.six w2.heap.size 23 (.int .i64 (q 0)) (.int .i64 (q 1)) (.int .i64 (q 2)) (.int .i64 (q 3)) (.int .i64 (q 4)) (.int .i64 (q 5)) List.mem_cons_self
  obtain ⟨c1_0, c1_1, c1_2, c1_3, c1_4, c1_5, z1⟩ := S.out.six w.heap.size 23 (.int .i64 (p 0)) (.int .i64 (p 1)) (.int .i64 (p 2)) (.int .i64 (p 3)) (.int .i64 (p 4)) (.int .i64 (p 5)) (List.mem_cons_of_mem _ List.mem_cons_self)
  obtain ⟨fz0_0, fz0_1, fz0_2, fz0_3, fz0_4, fz0_5⟩ := S.out.fz6 w2.heap.size 23 #[.int .i64 (q 0), .int .i64 (q 1), .int .i64 (q 2), .int .i64 (q 3), .int .i64 (q 4), .int .i64 (q 5)] List.mem_cons_self
  obtain ⟨fz1_0, fz1_1, fz1_2, fz1_3, fz1_4, fz1_5⟩ := S.out.fz6 w.heap.size 23 #[.int .i64 (p 0), .int .i64 (p 1), .int .i64 (p 2), .int .i64 (p 3), .int .i64 (p 4), .int .i64 (p 5)] (List.mem_cons_of_mem _ List.mem_cons_self)
  have eq := EQ.out
  have hBL := S.out.bl
  clear S
  go_wp2_with fail
  go_ret
  exact ⟨rfl, by repeat (first | with_reducible exact hBL | (with_reducible refine Below.setCell ?_ ?side _; case side => (first | omega | (simp <;> omega))) | (with_reducible refine Below.alloc ?_ ?side _; case side => (first | omega | (simp <;> omega))))⟩
set_option maxRecDepth 100000 in
set_option maxHeartbeats 4000000 in
theorem soct_in (p : Nat → Int) (b' : Int) (w : World) (hs : Sm w) (h1 : -20 ≤ b') (h2 : b' ≤ 20) (q : Nat → Int) (o ka : Int) (hka : 0 ≤ ka) (o0 : -96 ≤ o) (o1 : o ≤ 96) (q0 : -576 ≤ q 0) (q1 : q 0 ≤ 576) (p0 : -576 ≤ p 0) (p1 : p 0 ≤ 576) (EQ : Hx (∀ w, (Op.equalIn 10000 23 (.agg #[.int .i64 (q 0 + 12 * o), .int .i64 (q 1), .int .i64 (q 2), .int .i64 (q 3), .int .i64 (q 4), .int .i64 (q 5)]) (PV p)).run Tryd.prog w = .ok true w)) (O1 : Hx (∀ w, Sm w → Calls Tryd.prog 10 #[PV p] w fun e w' => e = .returned (.tuple #[PV q, .int .i64 o, .int .i64 0]) ∧ Below w.heap.size w w')) (C1 : Hx (∀ w, Sm w → Calls Tryd.prog 12 #[PV q, .agg #[.int .i64 0, .int .i64 0, .int .i64 0, .int .i64 0, .int .i64 0, .int .i64 0]] w fun e w' => e = .returned (.tuple #[.int .i64 ka, .int .i64 0]) ∧ Below w.heap.size w w')) (C2 : Hx (∀ w, Sm w → Calls Tryd.prog 12 #[PV q, .agg #[.int .i64 12, .int .i64 0, .int .i64 0, .int .i64 0, .int .i64 0, .int .i64 0]] w fun e w' => e = .returned (.tuple #[.int .i64 (-1), .int .i64 0]) ∧ Below w.heap.size w w')) (EQ2 : Hx (∀ w, (Op.equalIn 10000 23 (PV q) (PV q)).run Tryd.prog w = .ok true w)) (O2 : Hx (∀ w, Sm w → Calls Tryd.prog 10 #[.agg #[.int .i64 (p 0 + 12 * b'), .int .i64 (p 1), .int .i64 (p 2), .int .i64 (p 3), .int .i64 (p 4), .int .i64 (p 5)]] w fun e w' => e = .returned (.tuple #[PV q, .int .i64 (o + b'), .int .i64 0]) ∧ Below w.heap.size w w')) :
    Calls Tryd.prog 3 #[PV p, .int .i64 b'] w fun e w' => e = .returned (.bool true) ∧ Below w.heap.size w w' := by
  have S : Bx (SS w w []) := ⟨SS.start w hs⟩
  replace S := Bx.mk (S.out.push #[.int .i64 (p 0), .int .i64 (p 1), .int .i64 (p 2), .int .i64 (p 3), .int .i64 (p 4), .int .i64 (p 5)] 23)
  go_enter Tryd.func3, Tryd.ntmps3
  go_wp2_with fail
  refine (shead_any _ S.out.sm).mono ?_
  rintro e w1 ⟨rfl, hb⟩
  replace S := Bx.mk (S.out.call hb)
  clear hb
  obtain ⟨c0_0, c0_1, c0_2, c0_3, c0_4, c0_5, z0⟩ := S.out.six w.heap.size 23 (.int .i64 (p 0)) (.int .i64 (p 1)) (.int .i64 (p 2)) (.int .i64 (p 3)) (.int .i64 (p 4)) (.int .i64 (p 5)) List.mem_cons_self
  go_wp2_with fail
  refine (O1.out _ S.out.sm).mono ?_
  rintro e w2 ⟨rfl, hb⟩
  replace S := Bx.mk (S.out.call hb)
  clear hb
  clear c0_0 c0_1 c0_2 c0_3 c0_4 c0_5 z0
  replace S := Bx.mk (S.out.push #[.int .i64 (q 0), .int .i64 (q 1), .int .i64 (q 2), .int .i64 (q 3), .int .i64 (q 4), .int .i64 (q 5)] 23)
  obtain ⟨c0_0, c0_1, c0_2, c0_3, c0_4, c0_5, z0⟩ := S.out.six w2.heap.size 23 (.int .i64 (q 0)) (.int .i64 (q 1)) (.int .i64 (q 2)) (.int .i64 (q 3)) (.int .i64 (q 4)) (.int .i64 (q 5)) List.mem_cons_self
  go_wp2_with fail
  refine (C1.out _ S.out.sm).mono ?_
  rintro e w3 ⟨rfl, hb⟩
  replace S := Bx.mk (S.out.call hb)
  clear hb
  clear c0_0 c0_1 c0_2 c0_3 c0_4 c0_5 z0
  obtain ⟨c0_0, c0_1, c0_2, c0_3, c0_4, c0_5, z0⟩ := S.out.six w2.heap.size 23 (.int .i64 (q 0)) (.int .i64 (q 1)) (.int .i64 (q 2)) (.int .i64 (q 3)) (.int .i64 (q 4)) (.int .i64 (q 5)) List.mem_cons_self
  go_wp2_with fail
  refine (C2.out _ S.out.sm).mono ?_
  rintro e w4 ⟨rfl, hb⟩
  replace S := Bx.mk (S.out.call hb)
  clear hb
  clear c0_0 c0_1 c0_2 c0_3 c0_4 c0_5 z0
  obtain ⟨c0_0, c0_1, c0_2, c0_3, c0_4, c0_5, z0⟩ := S.out.six w2.heap.size 23 (.int .i64 (q 0)) (.int .i64 (q 1)) (.int .i64 (q 2)) (.int .i64 (q 3)) (.int .i64 (q 4)) (.int .i64 (q 5)) List.mem_cons_self
  obtain ⟨c1_0, c1_1, c1_2, c1_3, c1_4, c1_5, z1⟩ := S.out.six w.heap.size 23 (.int .i64 (p 0)) (.int .i64 (p 1)) (.int .i64 (p 2)) (.int .i64 (p 3)) (.int .i64 (p 4)) (.int .i64 (p 5)) (List.mem_cons_of_mem _ List.mem_cons_self)
  obtain ⟨fz0_0, fz0_1, fz0_2, fz0_3, fz0_4, fz0_5⟩ := S.out.fz6 w2.heap.size 23 #[.int .i64 (q 0), .int .i64 (q 1), .int .i64 (q 2), .int .i64 (q 3), .int .i64 (q 4), .int .i64 (q 5)] List.mem_cons_self
  obtain ⟨fz1_0, fz1_1, fz1_2, fz1_3, fz1_4, fz1_5⟩ := S.out.fz6 w.heap.size 23 #[.int .i64 (p 0), .int .i64 (p 1), .int .i64 (p 2), .int .i64 (p 3), .int .i64 (p 4), .int .i64 (p 5)] (List.mem_cons_of_mem _ List.mem_cons_self)
  have eq := EQ.out
  have n1 : decide (b' < -20) = false := by simp; omega
  have n2 : decide (20 < b') = false := by simp; omega
  have S2 := S
  clear S
  go_wp2_with fail
  have S := Bx.mk (SS.put1 (L := [(w2.heap.size, 23, #[.int .i64 (q 0), .int .i64 (q 1), .int .i64 (q 2), .int .i64 (q 3), .int .i64 (q 4), .int .i64 (q 5)])]) (M := []) (b := w.heap.size) (t := 23) S2.out (.int .i64 (p 0 + 12 * b')))
  clear S2
  simp only [List.cons_append, List.nil_append] at S
  replace S := Bx.mk (S.out.push #[.int .i64 (q 0 + 12 * o), .int .i64 (q 1), .int .i64 (q 2), .int .i64 (q 3), .int .i64 (q 4), .int .i64 (q 5)] 23)
  simp only [World.size_setCell] at S
  refine (O2.out _ S.out.sm).mono ?_
  rintro e w5 ⟨rfl, hb⟩
  replace S := Bx.mk (S.out.call hb)
  clear hb
  clear c0_0 c0_1 c0_2 c0_3 c0_4 c0_5 z0 c1_0 c1_1 c1_2 c1_3 c1_4 c1_5 z1 fz0_0 fz0_1 fz0_2 fz0_3 fz0_4 fz0_5 fz1_0 fz1_1 fz1_2 fz1_3 fz1_4 fz1_5
  replace S := Bx.mk (S.out.push #[.int .i64 (q 0), .int .i64 (q 1), .int .i64 (q 2), .int .i64 (q 3), .int .i64 (q 4), .int .i64 (q 5)] 23)
  obtain ⟨c0_0, c0_1, c0_2, c0_3, c0_4, c0_5, z0⟩ := S.out.six w5.heap.size 23 (.int .i64 (q 0)) (.int .i64 (q 1)) (.int .i64 (q 2)) (.int .i64 (q 3)) (.int .i64 (q 4)) (.int .i64 (q 5)) List.mem_cons_self
  obtain ⟨c2_0, c2_1, c2_2, c2_3, c2_4, c2_5, z2⟩ := S.out.six w2.heap.size 23 (.int .i64 (q 0)) (.int .i64 (q 1)) (.int .i64 (q 2)) (.int .i64 (q 3)) (.int .i64 (q 4)) (.int .i64 (q 5)) (List.mem_cons_of_mem _ (List.mem_cons_of_mem _ List.mem_cons_self))
  have eq2 := EQ2.out
  go_wp2_with fail
  go_ret
  exact ⟨rfl, S.out.bl⟩
set_option maxRecDepth 100000 in
set_option maxHeartbeats 4000000 in
theorem soct_out (p : Nat → Int) (b' : Int) (w : World) (hs : Sm w) (h1 : -20 ≤ b') (h2 : b' ≤ 20) (q : Nat → Int) (o ka : Int) (hka : 0 ≤ ka) (o0 : -96 ≤ o) (o1 : o ≤ 96) (q0 : -576 ≤ q 0) (q1 : q 0 ≤ 576) (p0 : -576 ≤ p 0) (p1 : p 0 ≤ 576) (EQ : Hx (∀ w, (Op.equalIn 10000 23 (.agg #[.int .i64 (q 0 + 12 * o), .int .i64 (q 1), .int .i64 (q 2), .int .i64 (q 3), .int .i64 (q 4), .int .i64 (q 5)]) (PV p)).run Tryd.prog w = .ok true w)) (O1 : Hx (∀ w, Sm w → Calls Tryd.prog 10 #[PV p] w fun e w' => e = .returned (.tuple #[PV q, .int .i64 o, .int .i64 0]) ∧ Below w.heap.size w w')) (C1 : Hx (∀ w, Sm w → Calls Tryd.prog 12 #[PV q, .agg #[.int .i64 0, .int .i64 0, .int .i64 0, .int .i64 0, .int .i64 0, .int .i64 0]] w fun e w' => e = .returned (.tuple #[.int .i64 ka, .int .i64 0]) ∧ Below w.heap.size w w')) (C2 : Hx (∀ w, Sm w → Calls Tryd.prog 12 #[PV q, .agg #[.int .i64 12, .int .i64 0, .int .i64 0, .int .i64 0, .int .i64 0, .int .i64 0]] w fun e w' => e = .returned (.tuple #[.int .i64 (-1), .int .i64 0]) ∧ Below w.heap.size w w')) (O2 : Hx (∀ w, Sm w → Calls Tryd.prog 10 #[.agg #[.int .i64 (p 0 + 12 * b'), .int .i64 (p 1), .int .i64 (p 2), .int .i64 (p 3), .int .i64 (p 4), .int .i64 (p 5)]] w fun e w' => e = .returned (.tuple #[.agg #[.int .i64 0, .int .i64 0, .int .i64 0, .int .i64 0, .int .i64 0, .int .i64 0], .int .i64 0, .int .i64 1]) ∧ Below w.heap.size w w')) (V1 : Hx (∀ w, Calls Tryd.prog 11 #[.agg #[.int .i64 (p 0 + 12 * b'), .int .i64 (p 1), .int .i64 (p 2), .int .i64 (p 3), .int .i64 (p 4), .int .i64 (p 5)]] w fun e w' => e = .returned (.bool false) ∧ Below w.heap.size w w')) :
    Calls Tryd.prog 3 #[PV p, .int .i64 b'] w fun e w' => e = .returned (.bool true) ∧ Below w.heap.size w w' := by
  have S : Bx (SS w w []) := ⟨SS.start w hs⟩
  replace S := Bx.mk (S.out.push #[.int .i64 (p 0), .int .i64 (p 1), .int .i64 (p 2), .int .i64 (p 3), .int .i64 (p 4), .int .i64 (p 5)] 23)
  go_enter Tryd.func3, Tryd.ntmps3
  go_wp2_with fail
  refine (shead_any _ S.out.sm).mono ?_
  rintro e w1 ⟨rfl, hb⟩
  replace S := Bx.mk (S.out.call hb)
  clear hb
  obtain ⟨c0_0, c0_1, c0_2, c0_3, c0_4, c0_5, z0⟩ := S.out.six w.heap.size 23 (.int .i64 (p 0)) (.int .i64 (p 1)) (.int .i64 (p 2)) (.int .i64 (p 3)) (.int .i64 (p 4)) (.int .i64 (p 5)) List.mem_cons_self
  go_wp2_with fail
  refine (O1.out _ S.out.sm).mono ?_
  rintro e w2 ⟨rfl, hb⟩
  replace S := Bx.mk (S.out.call hb)
  clear hb
  clear c0_0 c0_1 c0_2 c0_3 c0_4 c0_5 z0
  replace S := Bx.mk (S.out.push #[.int .i64 (q 0), .int .i64 (q 1), .int .i64 (q 2), .int .i64 (q 3), .int .i64 (q 4), .int .i64 (q 5)] 23)
  obtain ⟨c0_0, c0_1, c0_2, c0_3, c0_4, c0_5, z0⟩ := S.out.six w2.heap.size 23 (.int .i64 (q 0)) (.int .i64 (q 1)) (.int .i64 (q 2)) (.int .i64 (q 3)) (.int .i64 (q 4)) (.int .i64 (q 5)) List.mem_cons_self
  go_wp2_with fail
  refine (C1.out _ S.out.sm).mono ?_
  rintro e w3 ⟨rfl, hb⟩
  replace S := Bx.mk (S.out.call hb)
  clear hb
  clear c0_0 c0_1 c0_2 c0_3 c0_4 c0_5 z0
  obtain ⟨c0_0, c0_1, c0_2, c0_3, c0_4, c0_5, z0⟩ := S.out.six w2.heap.size 23 (.int .i64 (q 0)) (.int .i64 (q 1)) (.int .i64 (q 2)) (.int .i64 (q 3)) (.int .i64 (q 4)) (.int .i64 (q 5)) List.mem_cons_self
  go_wp2_with fail
  refine (C2.out _ S.out.sm).mono ?_
  rintro e w4 ⟨rfl, hb⟩
  replace S := Bx.mk (S.out.call hb)
  clear hb
  clear c0_0 c0_1 c0_2 c0_3 c0_4 c0_5 z0
  obtain ⟨c0_0, c0_1, c0_2, c0_3, c0_4, c0_5, z0⟩ := S.out.six w2.heap.size 23 (.int .i64 (q 0)) (.int .i64 (q 1)) (.int .i64 (q 2)) (.int .i64 (q 3)) (.int .i64 (q 4)) (.int .i64 (q 5)) List.mem_cons_self
  obtain ⟨c1_0, c1_1, c1_2, c1_3, c1_4, c1_5, z1⟩ := S.out.six w.heap.size 23 (.int .i64 (p 0)) (.int .i64 (p 1)) (.int .i64 (p 2)) (.int .i64 (p 3)) (.int .i64 (p 4)) (.int .i64 (p 5)) (List.mem_cons_of_mem _ List.mem_cons_self)
  obtain ⟨fz0_0, fz0_1, fz0_2, fz0_3, fz0_4, fz0_5⟩ := S.out.fz6 w2.heap.size 23 #[.int .i64 (q 0), .int .i64 (q 1), .int .i64 (q 2), .int .i64 (q 3), .int .i64 (q 4), .int .i64 (q 5)] List.mem_cons_self
  obtain ⟨fz1_0, fz1_1, fz1_2, fz1_3, fz1_4, fz1_5⟩ := S.out.fz6 w.heap.size 23 #[.int .i64 (p 0), .int .i64 (p 1), .int .i64 (p 2), .int .i64 (p 3), .int .i64 (p 4), .int .i64 (p 5)] (List.mem_cons_of_mem _ List.mem_cons_self)
  have eq := EQ.out
  have n1 : decide (b' < -20) = false := by simp; omega
  have n2 : decide (20 < b') = false := by simp; omega
  have S2 := S
  clear S
  go_wp2_with fail
  have S := Bx.mk (SS.put1 (L := [(w2.heap.size, 23, #[.int .i64 (q 0), .int .i64 (q 1), .int .i64 (q 2), .int .i64 (q 3), .int .i64 (q 4), .int .i64 (q 5)])]) (M := []) (b := w.heap.size) (t := 23) S2.out (.int .i64 (p 0 + 12 * b')))
  clear S2
  simp only [List.cons_append, List.nil_append] at S
  replace S := Bx.mk (S.out.push #[.int .i64 (q 0 + 12 * o), .int .i64 (q 1), .int .i64 (q 2), .int .i64 (q 3), .int .i64 (q 4), .int .i64 (q 5)] 23)
  simp only [World.size_setCell] at S
  refine (O2.out _ S.out.sm).mono ?_
  rintro e w5 ⟨rfl, hb⟩
  replace S := Bx.mk (S.out.call hb)
  clear hb
  clear c0_0 c0_1 c0_2 c0_3 c0_4 c0_5 z0 c1_0 c1_1 c1_2 c1_3 c1_4 c1_5 z1 fz0_0 fz0_1 fz0_2 fz0_3 fz0_4 fz0_5 fz1_0 fz1_1 fz1_2 fz1_3 fz1_4 fz1_5
  replace S := Bx.mk (S.out.push #[.int .i64 0, .int .i64 0, .int .i64 0, .int .i64 0, .int .i64 0, .int .i64 0] 23)
  obtain ⟨c3_0, c3_1, c3_2, c3_3, c3_4, c3_5, z3⟩ := S.out.six w.heap.size 23 (.int .i64 (p 0 + 12 * b')) (.int .i64 (p 1)) (.int .i64 (p 2)) (.int .i64 (p 3)) (.int .i64 (p 4)) (.int .i64 (p 5)) (List.mem_cons_of_mem _ (List.mem_cons_of_mem _ (List.mem_cons_of_mem _ List.mem_cons_self)))
  go_wp2_with fail
  refine (V1.out _).mono ?_
  rintro e w6 ⟨rfl, hb⟩
  replace S := Bx.mk (S.out.call hb)
  clear hb
  clear c3_0 c3_1 c3_2 c3_3 c3_4 c3_5 z3
  go_wp2_with fail
  go_ret
  exact ⟨rfl, S.out.bl⟩
theorem eqP_run (u v : Nat → Int) (h : ∀ i, i < 6 → u i = v i) : ∀ w, (Op.equalIn 10000 23 (PV u) (PV v)).run Tryd.prog w = .ok true w := eq6_is 23 und_pitch u v true ⟨fun _ => h, fun _ => rfl⟩
theorem oct_far {p q : Nat → Int} {o : Int} (hp : bdB p 576 = true) (h : Oct p q o) : -96 ≤ o ∧ o ≤ 96 := by
  have h0 := bdB_yes.1 hp 0 (by omega)
  have h1 := bdB_yes.1 h.val 0 (by omega)
  have h2 := h.eq 0 (by omega)
  simp only [oc, if_pos] at h2
  omega
set_option maxRecDepth 100000 in
theorem soctaves_all (p : Nat → Int) (b' : Int) (w : World) (hs : Sm w) :
    Calls Tryd.prog 3 #[PV p, .int .i64 b'] w fun e w' => e = .returned (.bool true) ∧ Below w.heap.size w w' := by
  obtain ⟨q, o, c, hr, hc⟩ := octave_any p
  cases hr with
  | none _ _ => exact soct_no p b' w hs ⟨hc⟩
  | bad hp => exact soct_bad p b' w hs ⟨hc⟩ ⟨fun w => pvalid_any p w false hp⟩
  | ok _ _ hp h =>
    have ho := oct_far hp h
    have b0 := bdB_yes.1 hp 0 (by omega)
    have b1 := bdB_yes.1 h.val 0 (by omega)
    have hka : 0 ≤ sg q := h.in1.lo
    have hkb : sg (subV q (oc 1)) = -1 := by have := sg_rng (subV q (oc 1)); have := h.in1.hi; omega
    have E := eqP_run (fun i => if i = 0 then q 0 + 12 * o else q i) p fun i hi => by
      rw [h.eq 0 (by omega)]
      by_cases e : i = 0
      · subst e; simp only [oc, if_pos]; omega
      · simp only [if_neg e]; rw [h.eq i hi]; simp only [oc, if_neg e]; omega
    have C1 := pcmp_any q (fun _ => 0) (sg q) 0 (by rw [cm_ok h.val u_val]; exact sg_congr fun i _ => by simp [subV]) (by simp [cmE, h.val, u_val])
    have C2 := pcmp_any q (oc 1) (-1) 0 (by rw [cm_ok h.val oc_val]; exact hkb) (by simp [cmE, h.val, oc_val])
    by_cases n1 : b' < -20
    · exact soct_lo p b' w hs n1 q o _ hka ho.1 ho.2 b1.1 b1.2 b0.1 b0.2 ⟨E⟩ ⟨hc⟩ ⟨fun w h => C1 w h.pm⟩ ⟨fun w h => C2 w h.pm⟩
    by_cases n2 : 20 < b'
    · exact soct_hi p b' w hs n1 n2 q o _ hka ho.1 ho.2 b1.1 b1.2 b0.1 b0.2 ⟨E⟩ ⟨hc⟩ ⟨fun w h => C1 w h.pm⟩ ⟨fun w h => C2 w h.pm⟩
    obtain ⟨p', hp'⟩ : ∃ p' : Nat → Int, p' = fun i => if i = 0 then p 0 + 12 * b' else p i := ⟨_, rfl⟩
    have H : bdB p' 576 = true → Oct p' q (o + b') := fun _ => ⟨h.val, h.in1, fun i hi => by
      rw [h.eq i hi, hp']
      by_cases e : i = 0
      · subst e; simp only [oc, if_pos]; omega
      · simp only [oc, if_neg e]⟩
    cases hv : bdB p' 576 with
    | true =>
      have O2 := oct_is hv (H hv)
      rw [hp'] at O2
      exact soct_in p b' w hs (by omega) (by omega) q o _ hka ho.1 ho.2 b1.1 b1.2 b0.1 b0.2 ⟨E⟩ ⟨hc⟩ ⟨fun w h => C1 w h.pm⟩ ⟨fun w h => C2 w h.pm⟩ ⟨eqP_run q q fun _ _ => rfl⟩ ⟨O2⟩
    | false =>
      have O2 := fun w => octave_bad p' hv w
      have V1 := fun w => pvalid_any p' w false hv
      rw [hp'] at O2 V1
      exact soct_out p b' w hs (by omega) (by omega) q o _ hka ho.1 ho.2 b1.1 b1.2 b0.1 b0.2 ⟨E⟩ ⟨hc⟩ ⟨fun w h => C1 w h.pm⟩ ⟨fun w h => C2 w h.pm⟩ ⟨fun w _ => O2 w⟩ ⟨V1⟩
end Go.Proofs.YtomgihlkbmaleaaDoor

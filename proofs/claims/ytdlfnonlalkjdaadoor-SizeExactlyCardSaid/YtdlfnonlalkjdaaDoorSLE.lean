/- SizeExactly, walked. -/
import Derived.Test.YtdlfnonlalkjdaaDoorSLNa
import Derived.Test.YtdlfnonlalkjdaaDoorP11
namespace Go.Proofs.YtdlfnonlalkjdaaDoor
open Go.RowKit M
set_option maxRecDepth 20000 in
set_option maxHeartbeats 8000000 in
theorem sex_p (p q : Nat → Int) (k : Int) (w : World) (hl : Lm w) (V1 : Hx (∀ w, Calls Tryd.prog 33 #[PV p] w fun e w' => e = .returned (.bool false) ∧ Below w.heap.size w w')) :
    Calls Tryd.prog 10 #[PV p, PV q, .int .i64 k] w fun e w' => e = .returned (.bool true) ∧ Below w.heap.size w w' := by
  have S : Bx (SS w w []) := ⟨SS.start w hl⟩
  replace S := Bx.mk (S.out.push #[.int .i64 (p 0), .int .i64 (p 1), .int .i64 (p 2), .int .i64 (p 3), .int .i64 (p 4), .int .i64 (p 5)] 25)
  replace S := Bx.mk (S.out.push #[.int .i64 (q 0), .int .i64 (q 1), .int .i64 (q 2), .int .i64 (q 3), .int .i64 (q 4), .int .i64 (q 5)] 25)
  simp only [World.size_alloc] at S
  go_enter Tryd.func10, Tryd.ntmps10
  go_wp2_with fail
  refine (shead_any _ S.out.lm).mono ?_
  rintro e w1 ⟨rfl, hb⟩
  replace S := Bx.mk (S.out.call hb)
  clear hb
  obtain ⟨c1_0, c1_1, c1_2, c1_3, c1_4, c1_5, z1⟩ := S.out.six w.heap.size 25 (.int .i64 (p 0)) (.int .i64 (p 1)) (.int .i64 (p 2)) (.int .i64 (p 3)) (.int .i64 (p 4)) (.int .i64 (p 5)) (List.mem_cons_of_mem _ List.mem_cons_self)
  go_wp2_with fail
  refine (V1.out _).mono ?_
  rintro e w2 ⟨rfl, hb⟩
  replace S := Bx.mk (S.out.call hb)
  clear hb
  clear c1_0 c1_1 c1_2 c1_3 c1_4 c1_5 z1
  go_wp2_with fail
  go_ret
  exact ⟨rfl, S.out.bl⟩
set_option maxRecDepth 20000 in
set_option maxHeartbeats 8000000 in
theorem sex_q (p q : Nat → Int) (k : Int) (w : World) (hl : Lm w) (V1 : Hx (∀ w, Calls Tryd.prog 33 #[PV p] w fun e w' => e = .returned (.bool true) ∧ Below w.heap.size w w')) (V2 : Hx (∀ w, Calls Tryd.prog 33 #[PV q] w fun e w' => e = .returned (.bool false) ∧ Below w.heap.size w w')) :
    Calls Tryd.prog 10 #[PV p, PV q, .int .i64 k] w fun e w' => e = .returned (.bool true) ∧ Below w.heap.size w w' := by
  have S : Bx (SS w w []) := ⟨SS.start w hl⟩
  replace S := Bx.mk (S.out.push #[.int .i64 (p 0), .int .i64 (p 1), .int .i64 (p 2), .int .i64 (p 3), .int .i64 (p 4), .int .i64 (p 5)] 25)
  replace S := Bx.mk (S.out.push #[.int .i64 (q 0), .int .i64 (q 1), .int .i64 (q 2), .int .i64 (q 3), .int .i64 (q 4), .int .i64 (q 5)] 25)
  simp only [World.size_alloc] at S
  go_enter Tryd.func10, Tryd.ntmps10
  go_wp2_with fail
  refine (shead_any _ S.out.lm).mono ?_
  rintro e w1 ⟨rfl, hb⟩
  replace S := Bx.mk (S.out.call hb)
  clear hb
  obtain ⟨c1_0, c1_1, c1_2, c1_3, c1_4, c1_5, z1⟩ := S.out.six w.heap.size 25 (.int .i64 (p 0)) (.int .i64 (p 1)) (.int .i64 (p 2)) (.int .i64 (p 3)) (.int .i64 (p 4)) (.int .i64 (p 5)) (List.mem_cons_of_mem _ List.mem_cons_self)
  go_wp2_with fail
  refine (V1.out _).mono ?_
  rintro e w2 ⟨rfl, hb⟩
  replace S := Bx.mk (S.out.call hb)
  clear hb
  clear c1_0 c1_1 c1_2 c1_3 c1_4 c1_5 z1
  obtain ⟨c0_0, c0_1, c0_2, c0_3, c0_4, c0_5, z0⟩ := S.out.six (w.heap.size + 1) 25 (.int .i64 (q 0)) (.int .i64 (q 1)) (.int .i64 (q 2)) (.int .i64 (q 3)) (.int .i64 (q 4)) (.int .i64 (q 5)) List.mem_cons_self
  go_wp2_with fail
  refine (V2.out _).mono ?_
  rintro e w3 ⟨rfl, hb⟩
  replace S := Bx.mk (S.out.call hb)
  clear hb
  clear c0_0 c0_1 c0_2 c0_3 c0_4 c0_5 z0
  go_wp2_with fail
  go_ret
  exact ⟨rfl, S.out.bl⟩
set_option maxRecDepth 20000 in
set_option maxHeartbeats 8000000 in
theorem sex_0 (p q : Nat → Int) (k : Int) (w : World) (hl : Lm w) (V1 : Hx (∀ w, Calls Tryd.prog 33 #[PV p] w fun e w' => e = .returned (.bool true) ∧ Below w.heap.size w w')) (V2 : Hx (∀ w, Calls Tryd.prog 33 #[PV q] w fun e w' => e = .returned (.bool true) ∧ Below w.heap.size w w')) (k0 : k < 0) :
    Calls Tryd.prog 10 #[PV p, PV q, .int .i64 k] w fun e w' => e = .returned (.bool true) ∧ Below w.heap.size w w' := by
  have S : Bx (SS w w []) := ⟨SS.start w hl⟩
  replace S := Bx.mk (S.out.push #[.int .i64 (p 0), .int .i64 (p 1), .int .i64 (p 2), .int .i64 (p 3), .int .i64 (p 4), .int .i64 (p 5)] 25)
  replace S := Bx.mk (S.out.push #[.int .i64 (q 0), .int .i64 (q 1), .int .i64 (q 2), .int .i64 (q 3), .int .i64 (q 4), .int .i64 (q 5)] 25)
  simp only [World.size_alloc] at S
  go_enter Tryd.func10, Tryd.ntmps10
  go_wp2_with fail
  refine (shead_any _ S.out.lm).mono ?_
  rintro e w1 ⟨rfl, hb⟩
  replace S := Bx.mk (S.out.call hb)
  clear hb
  obtain ⟨c1_0, c1_1, c1_2, c1_3, c1_4, c1_5, z1⟩ := S.out.six w.heap.size 25 (.int .i64 (p 0)) (.int .i64 (p 1)) (.int .i64 (p 2)) (.int .i64 (p 3)) (.int .i64 (p 4)) (.int .i64 (p 5)) (List.mem_cons_of_mem _ List.mem_cons_self)
  go_wp2_with fail
  refine (V1.out _).mono ?_
  rintro e w2 ⟨rfl, hb⟩
  replace S := Bx.mk (S.out.call hb)
  clear hb
  clear c1_0 c1_1 c1_2 c1_3 c1_4 c1_5 z1
  obtain ⟨c0_0, c0_1, c0_2, c0_3, c0_4, c0_5, z0⟩ := S.out.six (w.heap.size + 1) 25 (.int .i64 (q 0)) (.int .i64 (q 1)) (.int .i64 (q 2)) (.int .i64 (q 3)) (.int .i64 (q 4)) (.int .i64 (q 5)) List.mem_cons_self
  go_wp2_with fail
  refine (V2.out _).mono ?_
  rintro e w3 ⟨rfl, hb⟩
  replace S := Bx.mk (S.out.call hb)
  clear hb
  clear c0_0 c0_1 c0_2 c0_3 c0_4 c0_5 z0
  go_wp2_with fail
  go_ret
  exact ⟨rfl, S.out.bl⟩
set_option maxRecDepth 20000 in
set_option maxHeartbeats 8000000 in
theorem sex_1 (p q : Nat → Int) (k : Int) (w : World) (hl : Lm w) (V1 : Hx (∀ w, Calls Tryd.prog 33 #[PV p] w fun e w' => e = .returned (.bool true) ∧ Below w.heap.size w w')) (V2 : Hx (∀ w, Calls Tryd.prog 33 #[PV q] w fun e w' => e = .returned (.bool true) ∧ Below w.heap.size w w')) (k0 : ¬ k < 0) (k1 : 24 < k) :
    Calls Tryd.prog 10 #[PV p, PV q, .int .i64 k] w fun e w' => e = .returned (.bool true) ∧ Below w.heap.size w w' := by
  have S : Bx (SS w w []) := ⟨SS.start w hl⟩
  replace S := Bx.mk (S.out.push #[.int .i64 (p 0), .int .i64 (p 1), .int .i64 (p 2), .int .i64 (p 3), .int .i64 (p 4), .int .i64 (p 5)] 25)
  replace S := Bx.mk (S.out.push #[.int .i64 (q 0), .int .i64 (q 1), .int .i64 (q 2), .int .i64 (q 3), .int .i64 (q 4), .int .i64 (q 5)] 25)
  simp only [World.size_alloc] at S
  go_enter Tryd.func10, Tryd.ntmps10
  go_wp2_with fail
  refine (shead_any _ S.out.lm).mono ?_
  rintro e w1 ⟨rfl, hb⟩
  replace S := Bx.mk (S.out.call hb)
  clear hb
  obtain ⟨c1_0, c1_1, c1_2, c1_3, c1_4, c1_5, z1⟩ := S.out.six w.heap.size 25 (.int .i64 (p 0)) (.int .i64 (p 1)) (.int .i64 (p 2)) (.int .i64 (p 3)) (.int .i64 (p 4)) (.int .i64 (p 5)) (List.mem_cons_of_mem _ List.mem_cons_self)
  go_wp2_with fail
  refine (V1.out _).mono ?_
  rintro e w2 ⟨rfl, hb⟩
  replace S := Bx.mk (S.out.call hb)
  clear hb
  clear c1_0 c1_1 c1_2 c1_3 c1_4 c1_5 z1
  obtain ⟨c0_0, c0_1, c0_2, c0_3, c0_4, c0_5, z0⟩ := S.out.six (w.heap.size + 1) 25 (.int .i64 (q 0)) (.int .i64 (q 1)) (.int .i64 (q 2)) (.int .i64 (q 3)) (.int .i64 (q 4)) (.int .i64 (q 5)) List.mem_cons_self
  go_wp2_with fail
  refine (V2.out _).mono ?_
  rintro e w3 ⟨rfl, hb⟩
  replace S := Bx.mk (S.out.call hb)
  clear hb
  clear c0_0 c0_1 c0_2 c0_3 c0_4 c0_5 z0
  go_wp2_with fail
  go_ret
  exact ⟨rfl, S.out.bl⟩
set_option maxRecDepth 20000 in
set_option maxHeartbeats 8000000 in
theorem sex_f (p q : Nat → Int) (k : Int) (w : World) (hl : Lm w) (V1 : Hx (∀ w, Calls Tryd.prog 33 #[PV p] w fun e w' => e = .returned (.bool true) ∧ Below w.heap.size w w')) (V2 : Hx (∀ w, Calls Tryd.prog 33 #[PV q] w fun e w' => e = .returned (.bool true) ∧ Below w.heap.size w w')) (k0 : ¬ k < 0) (k1 : ¬ 24 < k) (x : Int) (N1 : Hx (∀ w, Lm w → Calls Tryd.prog 31 #[PV p, PV q, .int .i64 (100000 * k)] w (OutI w (x) (0)))) (r s : Nat → Int) (c d : Int) (hc : ¬ c = 0) (M1 : Hx (∀ w, Calls Tryd.prog 35 #[PV p, .agg #[.int .i64 k, .int .i64 0, .int .i64 0, .int .i64 0, .int .i64 0, .int .i64 0]] w (OutV w r (c)))) (M2 : Hx (∀ w, Calls Tryd.prog 35 #[PV q, .agg #[.int .i64 k, .int .i64 0, .int .i64 0, .int .i64 0, .int .i64 0, .int .i64 0]] w (OutV w s (d)))) :
    Calls Tryd.prog 10 #[PV p, PV q, .int .i64 k] w fun e w' => e = .returned (.bool true) ∧ Below w.heap.size w w' := by
  have S : Bx (SS w w []) := ⟨SS.start w hl⟩
  replace S := Bx.mk (S.out.push #[.int .i64 (p 0), .int .i64 (p 1), .int .i64 (p 2), .int .i64 (p 3), .int .i64 (p 4), .int .i64 (p 5)] 25)
  replace S := Bx.mk (S.out.push #[.int .i64 (q 0), .int .i64 (q 1), .int .i64 (q 2), .int .i64 (q 3), .int .i64 (q 4), .int .i64 (q 5)] 25)
  simp only [World.size_alloc] at S
  go_enter Tryd.func10, Tryd.ntmps10
  go_wp2_with fail
  refine (shead_any _ S.out.lm).mono ?_
  rintro e w1 ⟨rfl, hb⟩
  replace S := Bx.mk (S.out.call hb)
  clear hb
  obtain ⟨c1_0, c1_1, c1_2, c1_3, c1_4, c1_5, z1⟩ := S.out.six w.heap.size 25 (.int .i64 (p 0)) (.int .i64 (p 1)) (.int .i64 (p 2)) (.int .i64 (p 3)) (.int .i64 (p 4)) (.int .i64 (p 5)) (List.mem_cons_of_mem _ List.mem_cons_self)
  go_wp2_with fail
  refine (V1.out _).mono ?_
  rintro e w2 ⟨rfl, hb⟩
  replace S := Bx.mk (S.out.call hb)
  clear hb
  clear c1_0 c1_1 c1_2 c1_3 c1_4 c1_5 z1
  obtain ⟨c0_0, c0_1, c0_2, c0_3, c0_4, c0_5, z0⟩ := S.out.six (w.heap.size + 1) 25 (.int .i64 (q 0)) (.int .i64 (q 1)) (.int .i64 (q 2)) (.int .i64 (q 3)) (.int .i64 (q 4)) (.int .i64 (q 5)) List.mem_cons_self
  go_wp2_with fail
  refine (V2.out _).mono ?_
  rintro e w3 ⟨rfl, hb⟩
  replace S := Bx.mk (S.out.call hb)
  clear hb
  clear c0_0 c0_1 c0_2 c0_3 c0_4 c0_5 z0
  obtain ⟨c0_0, c0_1, c0_2, c0_3, c0_4, c0_5, z0⟩ := S.out.six (w.heap.size + 1) 25 (.int .i64 (q 0)) (.int .i64 (q 1)) (.int .i64 (q 2)) (.int .i64 (q 3)) (.int .i64 (q 4)) (.int .i64 (q 5)) List.mem_cons_self
  obtain ⟨c1_0, c1_1, c1_2, c1_3, c1_4, c1_5, z1⟩ := S.out.six w.heap.size 25 (.int .i64 (p 0)) (.int .i64 (p 1)) (.int .i64 (p 2)) (.int .i64 (p 3)) (.int .i64 (p 4)) (.int .i64 (p 5)) (List.mem_cons_of_mem _ List.mem_cons_self)
  go_wp2_with fail
  refine (N1.out _ S.out.lm).mono ?_
  rintro e w4 ⟨rfl, hb⟩
  replace S := Bx.mk (S.out.call hb)
  clear hb
  clear c0_0 c0_1 c0_2 c0_3 c0_4 c0_5 z0 c1_0 c1_1 c1_2 c1_3 c1_4 c1_5 z1
  obtain ⟨c1_0, c1_1, c1_2, c1_3, c1_4, c1_5, z1⟩ := S.out.six w.heap.size 25 (.int .i64 (p 0)) (.int .i64 (p 1)) (.int .i64 (p 2)) (.int .i64 (p 3)) (.int .i64 (p 4)) (.int .i64 (p 5)) (List.mem_cons_of_mem _ List.mem_cons_self)
  go_wp2_with fail
  refine (M1.out _).mono ?_
  rintro e w5 ⟨rfl, hb⟩
  replace S := Bx.mk (S.out.call hb)
  clear hb
  clear c1_0 c1_1 c1_2 c1_3 c1_4 c1_5 z1
  replace S := Bx.mk (S.out.push #[.int .i64 (r 0), .int .i64 (r 1), .int .i64 (r 2), .int .i64 (r 3), .int .i64 (r 4), .int .i64 (r 5)] 25)
  obtain ⟨c1_0, c1_1, c1_2, c1_3, c1_4, c1_5, z1⟩ := S.out.six (w.heap.size + 1) 25 (.int .i64 (q 0)) (.int .i64 (q 1)) (.int .i64 (q 2)) (.int .i64 (q 3)) (.int .i64 (q 4)) (.int .i64 (q 5)) (List.mem_cons_of_mem _ List.mem_cons_self)
  go_wp2_with fail
  refine (M2.out _).mono ?_
  rintro e w6 ⟨rfl, hb⟩
  replace S := Bx.mk (S.out.call hb)
  clear hb
  clear c1_0 c1_1 c1_2 c1_3 c1_4 c1_5 z1
  replace S := Bx.mk (S.out.push #[.int .i64 (s 0), .int .i64 (s 1), .int .i64 (s 2), .int .i64 (s 3), .int .i64 (s 4), .int .i64 (s 5)] 25)
  go_wp2_with fail
  go_ret
  exact ⟨rfl, S.out.bl⟩
set_option maxRecDepth 20000 in
set_option maxHeartbeats 8000000 in
theorem sex_g (p q : Nat → Int) (k : Int) (w : World) (hl : Lm w) (V1 : Hx (∀ w, Calls Tryd.prog 33 #[PV p] w fun e w' => e = .returned (.bool true) ∧ Below w.heap.size w w')) (V2 : Hx (∀ w, Calls Tryd.prog 33 #[PV q] w fun e w' => e = .returned (.bool true) ∧ Below w.heap.size w w')) (k0 : ¬ k < 0) (k1 : ¬ 24 < k) (x : Int) (N1 : Hx (∀ w, Lm w → Calls Tryd.prog 31 #[PV p, PV q, .int .i64 (100000 * k)] w (OutI w (x) (0)))) (r s : Nat → Int) (d : Int) (hd : ¬ d = 0) (M1 : Hx (∀ w, Calls Tryd.prog 35 #[PV p, .agg #[.int .i64 k, .int .i64 0, .int .i64 0, .int .i64 0, .int .i64 0, .int .i64 0]] w (OutV w r (0)))) (M2 : Hx (∀ w, Calls Tryd.prog 35 #[PV q, .agg #[.int .i64 k, .int .i64 0, .int .i64 0, .int .i64 0, .int .i64 0, .int .i64 0]] w (OutV w s (d)))) :
    Calls Tryd.prog 10 #[PV p, PV q, .int .i64 k] w fun e w' => e = .returned (.bool true) ∧ Below w.heap.size w w' := by
  have S : Bx (SS w w []) := ⟨SS.start w hl⟩
  replace S := Bx.mk (S.out.push #[.int .i64 (p 0), .int .i64 (p 1), .int .i64 (p 2), .int .i64 (p 3), .int .i64 (p 4), .int .i64 (p 5)] 25)
  replace S := Bx.mk (S.out.push #[.int .i64 (q 0), .int .i64 (q 1), .int .i64 (q 2), .int .i64 (q 3), .int .i64 (q 4), .int .i64 (q 5)] 25)
  simp only [World.size_alloc] at S
  go_enter Tryd.func10, Tryd.ntmps10
  go_wp2_with fail
  refine (shead_any _ S.out.lm).mono ?_
  rintro e w1 ⟨rfl, hb⟩
  replace S := Bx.mk (S.out.call hb)
  clear hb
  obtain ⟨c1_0, c1_1, c1_2, c1_3, c1_4, c1_5, z1⟩ := S.out.six w.heap.size 25 (.int .i64 (p 0)) (.int .i64 (p 1)) (.int .i64 (p 2)) (.int .i64 (p 3)) (.int .i64 (p 4)) (.int .i64 (p 5)) (List.mem_cons_of_mem _ List.mem_cons_self)
  go_wp2_with fail
  refine (V1.out _).mono ?_
  rintro e w2 ⟨rfl, hb⟩
  replace S := Bx.mk (S.out.call hb)
  clear hb
  clear c1_0 c1_1 c1_2 c1_3 c1_4 c1_5 z1
  obtain ⟨c0_0, c0_1, c0_2, c0_3, c0_4, c0_5, z0⟩ := S.out.six (w.heap.size + 1) 25 (.int .i64 (q 0)) (.int .i64 (q 1)) (.int .i64 (q 2)) (.int .i64 (q 3)) (.int .i64 (q 4)) (.int .i64 (q 5)) List.mem_cons_self
  go_wp2_with fail
  refine (V2.out _).mono ?_
  rintro e w3 ⟨rfl, hb⟩
  replace S := Bx.mk (S.out.call hb)
  clear hb
  clear c0_0 c0_1 c0_2 c0_3 c0_4 c0_5 z0
  obtain ⟨c0_0, c0_1, c0_2, c0_3, c0_4, c0_5, z0⟩ := S.out.six (w.heap.size + 1) 25 (.int .i64 (q 0)) (.int .i64 (q 1)) (.int .i64 (q 2)) (.int .i64 (q 3)) (.int .i64 (q 4)) (.int .i64 (q 5)) List.mem_cons_self
  obtain ⟨c1_0, c1_1, c1_2, c1_3, c1_4, c1_5, z1⟩ := S.out.six w.heap.size 25 (.int .i64 (p 0)) (.int .i64 (p 1)) (.int .i64 (p 2)) (.int .i64 (p 3)) (.int .i64 (p 4)) (.int .i64 (p 5)) (List.mem_cons_of_mem _ List.mem_cons_self)
  go_wp2_with fail
  refine (N1.out _ S.out.lm).mono ?_
  rintro e w4 ⟨rfl, hb⟩
  replace S := Bx.mk (S.out.call hb)
  clear hb
  clear c0_0 c0_1 c0_2 c0_3 c0_4 c0_5 z0 c1_0 c1_1 c1_2 c1_3 c1_4 c1_5 z1
  obtain ⟨c1_0, c1_1, c1_2, c1_3, c1_4, c1_5, z1⟩ := S.out.six w.heap.size 25 (.int .i64 (p 0)) (.int .i64 (p 1)) (.int .i64 (p 2)) (.int .i64 (p 3)) (.int .i64 (p 4)) (.int .i64 (p 5)) (List.mem_cons_of_mem _ List.mem_cons_self)
  go_wp2_with fail
  refine (M1.out _).mono ?_
  rintro e w5 ⟨rfl, hb⟩
  replace S := Bx.mk (S.out.call hb)
  clear hb
  clear c1_0 c1_1 c1_2 c1_3 c1_4 c1_5 z1
  replace S := Bx.mk (S.out.push #[.int .i64 (r 0), .int .i64 (r 1), .int .i64 (r 2), .int .i64 (r 3), .int .i64 (r 4), .int .i64 (r 5)] 25)
  obtain ⟨c1_0, c1_1, c1_2, c1_3, c1_4, c1_5, z1⟩ := S.out.six (w.heap.size + 1) 25 (.int .i64 (q 0)) (.int .i64 (q 1)) (.int .i64 (q 2)) (.int .i64 (q 3)) (.int .i64 (q 4)) (.int .i64 (q 5)) (List.mem_cons_of_mem _ List.mem_cons_self)
  go_wp2_with fail
  refine (M2.out _).mono ?_
  rintro e w6 ⟨rfl, hb⟩
  replace S := Bx.mk (S.out.call hb)
  clear hb
  clear c1_0 c1_1 c1_2 c1_3 c1_4 c1_5 z1
  replace S := Bx.mk (S.out.push #[.int .i64 (s 0), .int .i64 (s 1), .int .i64 (s 2), .int .i64 (s 3), .int .i64 (s 4), .int .i64 (s 5)] 25)
  go_wp2_with fail
  go_ret
  exact ⟨rfl, S.out.bl⟩
set_option maxRecDepth 20000 in
set_option maxHeartbeats 8000000 in
theorem sex_ok (p q : Nat → Int) (k : Int) (w : World) (hl : Lm w) (hp : Pm w) (V1 : Hx (∀ w, Calls Tryd.prog 33 #[PV p] w fun e w' => e = .returned (.bool true) ∧ Below w.heap.size w w')) (V2 : Hx (∀ w, Calls Tryd.prog 33 #[PV q] w fun e w' => e = .returned (.bool true) ∧ Below w.heap.size w w')) (k0 : ¬ k < 0) (k1 : ¬ 24 < k) (x : Int) (N1 : Hx (∀ w, Lm w → Calls Tryd.prog 31 #[PV p, PV q, .int .i64 (100000 * k)] w (OutI w (x) (0)))) (r s : Nat → Int) (y z : Int) (HX : Hx ((x = 1 ∧ y ≤ 0 ∧ z ≤ 0) ∨ (x = -1 ∧ y = 1) ∨ (x = -1 ∧ ¬ y = 1 ∧ z = 1) ∨ x = 0)) (M1 : Hx (∀ w, Calls Tryd.prog 35 #[PV p, .agg #[.int .i64 k, .int .i64 0, .int .i64 0, .int .i64 0, .int .i64 0, .int .i64 0]] w (OutV w r (0)))) (M2 : Hx (∀ w, Calls Tryd.prog 35 #[PV q, .agg #[.int .i64 k, .int .i64 0, .int .i64 0, .int .i64 0, .int .i64 0, .int .i64 0]] w (OutV w s (0)))) (C1 : Hx (∀ w, Pm w → Calls Tryd.prog 34 #[PV p, PV s] w fun e w' => e = .returned (.tuple #[.int .i64 y, .int .i64 0]) ∧ Below w.heap.size w w')) (C2 : Hx (∀ w, Pm w → Calls Tryd.prog 34 #[PV q, PV r] w fun e w' => e = .returned (.tuple #[.int .i64 z, .int .i64 0]) ∧ Below w.heap.size w w')) :
    Calls Tryd.prog 10 #[PV p, PV q, .int .i64 k] w fun e w' => e = .returned (.bool true) ∧ Below w.heap.size w w' := by
  have HP := Hx.mk hp
  clear hp
  have S : Bx (SS w w []) := ⟨SS.start w hl⟩
  replace S := Bx.mk (S.out.push #[.int .i64 (p 0), .int .i64 (p 1), .int .i64 (p 2), .int .i64 (p 3), .int .i64 (p 4), .int .i64 (p 5)] 25)
  replace S := Bx.mk (S.out.push #[.int .i64 (q 0), .int .i64 (q 1), .int .i64 (q 2), .int .i64 (q 3), .int .i64 (q 4), .int .i64 (q 5)] 25)
  simp only [World.size_alloc] at S
  go_enter Tryd.func10, Tryd.ntmps10
  go_wp2_with fail
  refine (shead_any _ S.out.lm).mono ?_
  rintro e w1 ⟨rfl, hb⟩
  replace S := Bx.mk (S.out.call hb)
  clear hb
  obtain ⟨c1_0, c1_1, c1_2, c1_3, c1_4, c1_5, z1⟩ := S.out.six w.heap.size 25 (.int .i64 (p 0)) (.int .i64 (p 1)) (.int .i64 (p 2)) (.int .i64 (p 3)) (.int .i64 (p 4)) (.int .i64 (p 5)) (List.mem_cons_of_mem _ List.mem_cons_self)
  go_wp2_with fail
  refine (V1.out _).mono ?_
  rintro e w2 ⟨rfl, hb⟩
  replace S := Bx.mk (S.out.call hb)
  clear hb
  clear c1_0 c1_1 c1_2 c1_3 c1_4 c1_5 z1
  obtain ⟨c0_0, c0_1, c0_2, c0_3, c0_4, c0_5, z0⟩ := S.out.six (w.heap.size + 1) 25 (.int .i64 (q 0)) (.int .i64 (q 1)) (.int .i64 (q 2)) (.int .i64 (q 3)) (.int .i64 (q 4)) (.int .i64 (q 5)) List.mem_cons_self
  go_wp2_with fail
  refine (V2.out _).mono ?_
  rintro e w3 ⟨rfl, hb⟩
  replace S := Bx.mk (S.out.call hb)
  clear hb
  clear c0_0 c0_1 c0_2 c0_3 c0_4 c0_5 z0
  obtain ⟨c0_0, c0_1, c0_2, c0_3, c0_4, c0_5, z0⟩ := S.out.six (w.heap.size + 1) 25 (.int .i64 (q 0)) (.int .i64 (q 1)) (.int .i64 (q 2)) (.int .i64 (q 3)) (.int .i64 (q 4)) (.int .i64 (q 5)) List.mem_cons_self
  obtain ⟨c1_0, c1_1, c1_2, c1_3, c1_4, c1_5, z1⟩ := S.out.six w.heap.size 25 (.int .i64 (p 0)) (.int .i64 (p 1)) (.int .i64 (p 2)) (.int .i64 (p 3)) (.int .i64 (p 4)) (.int .i64 (p 5)) (List.mem_cons_of_mem _ List.mem_cons_self)
  go_wp2_with fail
  refine (N1.out _ S.out.lm).mono ?_
  rintro e w4 ⟨rfl, hb⟩
  replace S := Bx.mk (S.out.call hb)
  clear hb
  clear c0_0 c0_1 c0_2 c0_3 c0_4 c0_5 z0 c1_0 c1_1 c1_2 c1_3 c1_4 c1_5 z1
  obtain ⟨c1_0, c1_1, c1_2, c1_3, c1_4, c1_5, z1⟩ := S.out.six w.heap.size 25 (.int .i64 (p 0)) (.int .i64 (p 1)) (.int .i64 (p 2)) (.int .i64 (p 3)) (.int .i64 (p 4)) (.int .i64 (p 5)) (List.mem_cons_of_mem _ List.mem_cons_self)
  go_wp2_with fail
  refine (M1.out _).mono ?_
  rintro e w5 ⟨rfl, hb⟩
  replace S := Bx.mk (S.out.call hb)
  clear hb
  clear c1_0 c1_1 c1_2 c1_3 c1_4 c1_5 z1
  replace S := Bx.mk (S.out.push #[.int .i64 (r 0), .int .i64 (r 1), .int .i64 (r 2), .int .i64 (r 3), .int .i64 (r 4), .int .i64 (r 5)] 25)
  obtain ⟨c1_0, c1_1, c1_2, c1_3, c1_4, c1_5, z1⟩ := S.out.six (w.heap.size + 1) 25 (.int .i64 (q 0)) (.int .i64 (q 1)) (.int .i64 (q 2)) (.int .i64 (q 3)) (.int .i64 (q 4)) (.int .i64 (q 5)) (List.mem_cons_of_mem _ List.mem_cons_self)
  go_wp2_with fail
  refine (M2.out _).mono ?_
  rintro e w6 ⟨rfl, hb⟩
  replace S := Bx.mk (S.out.call hb)
  clear hb
  clear c1_0 c1_1 c1_2 c1_3 c1_4 c1_5 z1
  replace S := Bx.mk (S.out.push #[.int .i64 (s 0), .int .i64 (s 1), .int .i64 (s 2), .int .i64 (s 3), .int .i64 (s 4), .int .i64 (s 5)] 25)
  obtain ⟨c0_0, c0_1, c0_2, c0_3, c0_4, c0_5, z0⟩ := S.out.six w6.heap.size 25 (.int .i64 (s 0)) (.int .i64 (s 1)) (.int .i64 (s 2)) (.int .i64 (s 3)) (.int .i64 (s 4)) (.int .i64 (s 5)) List.mem_cons_self
  obtain ⟨c3_0, c3_1, c3_2, c3_3, c3_4, c3_5, z3⟩ := S.out.six w.heap.size 25 (.int .i64 (p 0)) (.int .i64 (p 1)) (.int .i64 (p 2)) (.int .i64 (p 3)) (.int .i64 (p 4)) (.int .i64 (p 5)) (List.mem_cons_of_mem _ (List.mem_cons_of_mem _ (List.mem_cons_of_mem _ List.mem_cons_self)))
  go_wp2_with fail
  refine (C1.out _ (HP.out.keep S.out.bl)).mono ?_
  rintro e w7 ⟨rfl, hb⟩
  replace S := Bx.mk (S.out.call hb)
  clear hb
  clear c0_0 c0_1 c0_2 c0_3 c0_4 c0_5 z0 c3_0 c3_1 c3_2 c3_3 c3_4 c3_5 z3
  obtain ⟨c1_0, c1_1, c1_2, c1_3, c1_4, c1_5, z1⟩ := S.out.six w5.heap.size 25 (.int .i64 (r 0)) (.int .i64 (r 1)) (.int .i64 (r 2)) (.int .i64 (r 3)) (.int .i64 (r 4)) (.int .i64 (r 5)) (List.mem_cons_of_mem _ List.mem_cons_self)
  obtain ⟨c2_0, c2_1, c2_2, c2_3, c2_4, c2_5, z2⟩ := S.out.six (w.heap.size + 1) 25 (.int .i64 (q 0)) (.int .i64 (q 1)) (.int .i64 (q 2)) (.int .i64 (q 3)) (.int .i64 (q 4)) (.int .i64 (q 5)) (List.mem_cons_of_mem _ (List.mem_cons_of_mem _ List.mem_cons_self))
  go_wp2_with fail
  refine (C2.out _ (HP.out.keep S.out.bl)).mono ?_
  rintro e w8 ⟨rfl, hb⟩
  replace S := Bx.mk (S.out.call hb)
  clear hb
  clear c1_0 c1_1 c1_2 c1_3 c1_4 c1_5 z1 c2_0 c2_1 c2_2 c2_3 c2_4 c2_5 z2
  rcases HX.out with ⟨rfl, h1, h2⟩ | ⟨rfl, rfl⟩ | ⟨rfl, h1, rfl⟩ | rfl
  all_goals go_wp2_with fail
  all_goals (go_ret; exact ⟨rfl, S.out.bl⟩)
end Go.Proofs.YtdlfnonlalkjdaaDoor

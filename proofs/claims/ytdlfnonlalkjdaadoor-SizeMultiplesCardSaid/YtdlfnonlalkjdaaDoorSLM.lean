/- SizeMultiples, walked. -/
import Derived.Test.YtdlfnonlalkjdaaDoorSH
import Derived.Test.YtdlfnonlalkjdaaDoorSM
namespace Go.Proofs.YtdlfnonlalkjdaaDoor
open Go.RowKit M
set_option maxRecDepth 20000 in
set_option maxHeartbeats 4000000 in
theorem smult_v (a0 a1 m n : Int) (w : World) (hl : Lm w) (Z1 : Hx (∀ w, Calls Tryd.prog 13 #[SV a0 a1] w fun e w' => e = .returned (.bool false) ∧ Below w.heap.size w w')) :
    Calls Tryd.prog 6 #[SV a0 a1, .int .i64 m, .int .i64 n] w fun e w' => e = .returned (.bool true) ∧ Below w.heap.size w w' := by
  have S : Bx (SS w w []) := ⟨SS.start w hl⟩
  replace S := Bx.mk (S.out.push #[.int .i64 a0, .int .i64 a1] 23)
  go_enter Tryd.func6, Tryd.ntmps6
  go_wp2_with fail
  refine (shead_any _ S.out.lm).mono ?_
  rintro e w1 ⟨rfl, hb⟩
  replace S := Bx.mk (S.out.call hb)
  clear hb
  obtain ⟨c0_0, c0_1, f0_0, f0_1, z0⟩ := S.out.two w.heap.size 23 (.int .i64 a0) (.int .i64 a1) List.mem_cons_self
  go_wp2_with fail
  refine (Z1.out _).mono ?_
  rintro e w2 ⟨rfl, hb⟩
  replace S := Bx.mk (S.out.call hb)
  clear hb
  clear c0_0 c0_1 f0_0 f0_1 z0
  go_wp2_with fail
  go_ret
  exact ⟨rfl, S.out.bl⟩
set_option maxRecDepth 20000 in
set_option maxHeartbeats 4000000 in
theorem smult_m1 (a0 a1 m n : Int) (w : World) (hl : Lm w) (Z1 : Hx (∀ w, Calls Tryd.prog 13 #[SV a0 a1] w fun e w' => e = .returned (.bool true) ∧ Below w.heap.size w w')) (h1 : m < -1000000) :
    Calls Tryd.prog 6 #[SV a0 a1, .int .i64 m, .int .i64 n] w fun e w' => e = .returned (.bool true) ∧ Below w.heap.size w w' := by
  have S : Bx (SS w w []) := ⟨SS.start w hl⟩
  replace S := Bx.mk (S.out.push #[.int .i64 a0, .int .i64 a1] 23)
  go_enter Tryd.func6, Tryd.ntmps6
  go_wp2_with fail
  refine (shead_any _ S.out.lm).mono ?_
  rintro e w1 ⟨rfl, hb⟩
  replace S := Bx.mk (S.out.call hb)
  clear hb
  obtain ⟨c0_0, c0_1, f0_0, f0_1, z0⟩ := S.out.two w.heap.size 23 (.int .i64 a0) (.int .i64 a1) List.mem_cons_self
  go_wp2_with fail
  refine (Z1.out _).mono ?_
  rintro e w2 ⟨rfl, hb⟩
  replace S := Bx.mk (S.out.call hb)
  clear hb
  clear c0_0 c0_1 f0_0 f0_1 z0
  go_wp2_with fail
  go_ret
  exact ⟨rfl, S.out.bl⟩
set_option maxRecDepth 20000 in
set_option maxHeartbeats 4000000 in
theorem smult_m2 (a0 a1 m n : Int) (w : World) (hl : Lm w) (Z1 : Hx (∀ w, Calls Tryd.prog 13 #[SV a0 a1] w fun e w' => e = .returned (.bool true) ∧ Below w.heap.size w w')) (h1 : ¬ m < -1000000) (h2 : 1000000 < m) :
    Calls Tryd.prog 6 #[SV a0 a1, .int .i64 m, .int .i64 n] w fun e w' => e = .returned (.bool true) ∧ Below w.heap.size w w' := by
  have S : Bx (SS w w []) := ⟨SS.start w hl⟩
  replace S := Bx.mk (S.out.push #[.int .i64 a0, .int .i64 a1] 23)
  go_enter Tryd.func6, Tryd.ntmps6
  go_wp2_with fail
  refine (shead_any _ S.out.lm).mono ?_
  rintro e w1 ⟨rfl, hb⟩
  replace S := Bx.mk (S.out.call hb)
  clear hb
  obtain ⟨c0_0, c0_1, f0_0, f0_1, z0⟩ := S.out.two w.heap.size 23 (.int .i64 a0) (.int .i64 a1) List.mem_cons_self
  go_wp2_with fail
  refine (Z1.out _).mono ?_
  rintro e w2 ⟨rfl, hb⟩
  replace S := Bx.mk (S.out.call hb)
  clear hb
  clear c0_0 c0_1 f0_0 f0_1 z0
  go_wp2_with fail
  go_ret
  exact ⟨rfl, S.out.bl⟩
set_option maxRecDepth 20000 in
set_option maxHeartbeats 4000000 in
theorem smult_m3 (a0 a1 m n : Int) (w : World) (hl : Lm w) (Z1 : Hx (∀ w, Calls Tryd.prog 13 #[SV a0 a1] w fun e w' => e = .returned (.bool true) ∧ Below w.heap.size w w')) (h1 : ¬ m < -1000000) (h2 : ¬ 1000000 < m) (h3 : n < -1000000) :
    Calls Tryd.prog 6 #[SV a0 a1, .int .i64 m, .int .i64 n] w fun e w' => e = .returned (.bool true) ∧ Below w.heap.size w w' := by
  have S : Bx (SS w w []) := ⟨SS.start w hl⟩
  replace S := Bx.mk (S.out.push #[.int .i64 a0, .int .i64 a1] 23)
  go_enter Tryd.func6, Tryd.ntmps6
  go_wp2_with fail
  refine (shead_any _ S.out.lm).mono ?_
  rintro e w1 ⟨rfl, hb⟩
  replace S := Bx.mk (S.out.call hb)
  clear hb
  obtain ⟨c0_0, c0_1, f0_0, f0_1, z0⟩ := S.out.two w.heap.size 23 (.int .i64 a0) (.int .i64 a1) List.mem_cons_self
  go_wp2_with fail
  refine (Z1.out _).mono ?_
  rintro e w2 ⟨rfl, hb⟩
  replace S := Bx.mk (S.out.call hb)
  clear hb
  clear c0_0 c0_1 f0_0 f0_1 z0
  go_wp2_with fail
  go_ret
  exact ⟨rfl, S.out.bl⟩
set_option maxRecDepth 20000 in
set_option maxHeartbeats 4000000 in
theorem smult_m4 (a0 a1 m n : Int) (w : World) (hl : Lm w) (Z1 : Hx (∀ w, Calls Tryd.prog 13 #[SV a0 a1] w fun e w' => e = .returned (.bool true) ∧ Below w.heap.size w w')) (h1 : ¬ m < -1000000) (h2 : ¬ 1000000 < m) (h3 : ¬ n < -1000000) (h4 : 1000000 < n) :
    Calls Tryd.prog 6 #[SV a0 a1, .int .i64 m, .int .i64 n] w fun e w' => e = .returned (.bool true) ∧ Below w.heap.size w w' := by
  have S : Bx (SS w w []) := ⟨SS.start w hl⟩
  replace S := Bx.mk (S.out.push #[.int .i64 a0, .int .i64 a1] 23)
  go_enter Tryd.func6, Tryd.ntmps6
  go_wp2_with fail
  refine (shead_any _ S.out.lm).mono ?_
  rintro e w1 ⟨rfl, hb⟩
  replace S := Bx.mk (S.out.call hb)
  clear hb
  obtain ⟨c0_0, c0_1, f0_0, f0_1, z0⟩ := S.out.two w.heap.size 23 (.int .i64 a0) (.int .i64 a1) List.mem_cons_self
  go_wp2_with fail
  refine (Z1.out _).mono ?_
  rintro e w2 ⟨rfl, hb⟩
  replace S := Bx.mk (S.out.call hb)
  clear hb
  clear c0_0 c0_1 f0_0 f0_1 z0
  go_wp2_with fail
  go_ret
  exact ⟨rfl, S.out.bl⟩
set_option maxRecDepth 20000 in
set_option maxHeartbeats 4000000 in
theorem smult_in (a0 a1 m n : Int) (w : World) (hl : Lm w) (x0 x1 y0 y1 e f : Int) (ha0 : -100000000000000 ≤ a0) (ha1 : a1 ≤ 100000000000000) (ha : a0 ≤ a1) (h1 : ¬ m < -1000000) (h2 : ¬ 1000000 < m) (h3 : ¬ n < -1000000) (h4 : ¬ 1000000 < n) (Z1 : Hx (∀ w, Calls Tryd.prog 13 #[SV a0 a1] w fun e w' => e = .returned (.bool true) ∧ Below w.heap.size w w')) (T1 : Hx (∀ w, Calls Tryd.prog 23 #[SV a0 a1, .int .i64 (m)] w (OutZ w (x0) (x1) (0)))) (T2 : Hx (∀ w, Calls Tryd.prog 23 #[SV a0 a1, .int .i64 (n)] w (OutZ w (y0) (y1) (0)))) (hm : 0 ≤ m) (hn : 0 ≤ n) (s0 s1 gg : Int) (A1 : Hx (∀ w, Calls Tryd.prog 19 #[SV x0 x1, SV y0 y1] w (OutZ w (s0) (s1) (gg)))) (T3 : Hx (∀ w, Calls Tryd.prog 23 #[SV a0 a1, .int .i64 (m + n)] w (OutZ w (s0) (s1) (gg)))) (T4 : Hx (∀ w, Calls Tryd.prog 23 #[SV a0 a1, .int .i64 (-1)] w (OutZ w (-a1) (-a0) (0)))) (B1 : Hx (∀ w, Calls Tryd.prog 21 #[SV 0 0, SV a0 a1] w (OutZ w (-a1) (-a0) (0)))) (t0 t1 c : Int) (hp0 : -1000000000000 ≤ m * n) (hp1 : m * n ≤ 1000000000000) (T5 : Hx (∀ w, Calls Tryd.prog 23 #[SV x0 x1, .int .i64 (n)] w (OutZ w (t0) (t1) (c)))) (T6 : Hx (∀ w, Calls Tryd.prog 23 #[SV a0 a1, .int .i64 (m * n)] w (OutZ w (t0) (t1) (c)))) :
    Calls Tryd.prog 6 #[SV a0 a1, .int .i64 m, .int .i64 n] w fun e w' => e = .returned (.bool true) ∧ Below w.heap.size w w' := by
  have S : Bx (SS w w []) := ⟨SS.start w hl⟩
  replace S := Bx.mk (S.out.push #[.int .i64 a0, .int .i64 a1] 23)
  go_enter Tryd.func6, Tryd.ntmps6
  go_wp2_with fail
  refine (shead_any _ S.out.lm).mono ?_
  rintro e w1 ⟨rfl, hb⟩
  replace S := Bx.mk (S.out.call hb)
  clear hb
  obtain ⟨c0_0, c0_1, f0_0, f0_1, z0⟩ := S.out.two w.heap.size 23 (.int .i64 a0) (.int .i64 a1) List.mem_cons_self
  go_wp2_with fail
  refine (Z1.out _).mono ?_
  rintro e w2 ⟨rfl, hb⟩
  replace S := Bx.mk (S.out.call hb)
  clear hb
  clear c0_0 c0_1 f0_0 f0_1 z0
  obtain ⟨c0_0, c0_1, f0_0, f0_1, z0⟩ := S.out.two w.heap.size 23 (.int .i64 a0) (.int .i64 a1) List.mem_cons_self
  go_wp2_with fail
  refine (T1.out _).mono ?_
  rintro e w3 ⟨rfl, hb⟩
  replace S := Bx.mk (S.out.call hb)
  clear hb
  clear c0_0 c0_1 f0_0 f0_1 z0
  replace S := Bx.mk (S.out.push #[.int .i64 x0, .int .i64 x1] 23)
  obtain ⟨c1_0, c1_1, f1_0, f1_1, z1⟩ := S.out.two w.heap.size 23 (.int .i64 a0) (.int .i64 a1) (List.mem_cons_of_mem _ List.mem_cons_self)
  go_wp2_with fail
  refine (T2.out _).mono ?_
  rintro e w4 ⟨rfl, hb⟩
  replace S := Bx.mk (S.out.call hb)
  clear hb
  clear c1_0 c1_1 f1_0 f1_1 z1
  replace S := Bx.mk (S.out.push #[.int .i64 y0, .int .i64 y1] 23)
  obtain ⟨c0_0, c0_1, f0_0, f0_1, z0⟩ := S.out.two w4.heap.size 23 (.int .i64 y0) (.int .i64 y1) List.mem_cons_self
  obtain ⟨c1_0, c1_1, f1_0, f1_1, z1⟩ := S.out.two w3.heap.size 23 (.int .i64 x0) (.int .i64 x1) (List.mem_cons_of_mem _ List.mem_cons_self)
  go_wp2_with fail
  refine (A1.out _).mono ?_
  rintro e w5 ⟨rfl, hb⟩
  replace S := Bx.mk (S.out.call hb)
  clear hb
  clear c0_0 c0_1 f0_0 f0_1 z0 c1_0 c1_1 f1_0 f1_1 z1
  replace S := Bx.mk (S.out.push #[.int .i64 s0, .int .i64 s1] 23)
  obtain ⟨c3_0, c3_1, f3_0, f3_1, z3⟩ := S.out.two w.heap.size 23 (.int .i64 a0) (.int .i64 a1) (List.mem_cons_of_mem _ (List.mem_cons_of_mem _ (List.mem_cons_of_mem _ List.mem_cons_self)))
  go_wp2_with fail
  refine (T3.out _).mono ?_
  rintro e w6 ⟨rfl, hb⟩
  replace S := Bx.mk (S.out.call hb)
  clear hb
  clear c3_0 c3_1 f3_0 f3_1 z3
  replace S := Bx.mk (S.out.push #[.int .i64 s0, .int .i64 s1] 23)
  obtain ⟨c0_0, c0_1, f0_0, f0_1, z0⟩ := S.out.two w6.heap.size 23 (.int .i64 s0) (.int .i64 s1) List.mem_cons_self
  obtain ⟨c1_0, c1_1, f1_0, f1_1, z1⟩ := S.out.two w5.heap.size 23 (.int .i64 s0) (.int .i64 s1) (List.mem_cons_of_mem _ List.mem_cons_self)
  obtain ⟨c4_0, c4_1, f4_0, f4_1, z4⟩ := S.out.two w.heap.size 23 (.int .i64 a0) (.int .i64 a1) (List.mem_cons_of_mem _ (List.mem_cons_of_mem _ (List.mem_cons_of_mem _ (List.mem_cons_of_mem _ List.mem_cons_self))))
  go_wp2_with fail
  refine (T4.out _).mono ?_
  rintro e w7 ⟨rfl, hb⟩
  replace S := Bx.mk (S.out.call hb)
  clear hb
  clear c0_0 c0_1 f0_0 f0_1 z0 c1_0 c1_1 f1_0 f1_1 z1 c4_0 c4_1 f4_0 f4_1 z4
  replace S := Bx.mk (S.out.push #[.int .i64 (-a1), .int .i64 (-a0)] 23)
  obtain ⟨c5_0, c5_1, f5_0, f5_1, z5⟩ := S.out.two w.heap.size 23 (.int .i64 a0) (.int .i64 a1) (List.mem_cons_of_mem _ (List.mem_cons_of_mem _ (List.mem_cons_of_mem _ (List.mem_cons_of_mem _ (List.mem_cons_of_mem _ List.mem_cons_self)))))
  go_wp2_with fail
  refine (B1.out _).mono ?_
  rintro e w8 ⟨rfl, hb⟩
  replace S := Bx.mk (S.out.call hb)
  clear hb
  clear c5_0 c5_1 f5_0 f5_1 z5
  replace S := Bx.mk (S.out.push #[.int .i64 (-a1), .int .i64 (-a0)] 23)
  obtain ⟨c0_0, c0_1, f0_0, f0_1, z0⟩ := S.out.two w8.heap.size 23 (.int .i64 (-a1)) (.int .i64 (-a0)) List.mem_cons_self
  obtain ⟨c1_0, c1_1, f1_0, f1_1, z1⟩ := S.out.two w7.heap.size 23 (.int .i64 (-a1)) (.int .i64 (-a0)) (List.mem_cons_of_mem _ List.mem_cons_self)
  obtain ⟨c5_0, c5_1, f5_0, f5_1, z5⟩ := S.out.two w3.heap.size 23 (.int .i64 x0) (.int .i64 x1) (List.mem_cons_of_mem _ (List.mem_cons_of_mem _ (List.mem_cons_of_mem _ (List.mem_cons_of_mem _ (List.mem_cons_of_mem _ List.mem_cons_self)))))
  go_wp2_with fail
  refine (T5.out _).mono ?_
  rintro e w9 ⟨rfl, hb⟩
  replace S := Bx.mk (S.out.call hb)
  clear hb
  clear c0_0 c0_1 f0_0 f0_1 z0 c1_0 c1_1 f1_0 f1_1 z1 c5_0 c5_1 f5_0 f5_1 z5
  obtain ⟨c1_0, c1_1, f1_0, f1_1, z1⟩ := S.out.two w7.heap.size 23 (.int .i64 (-a1)) (.int .i64 (-a0)) (List.mem_cons_of_mem _ List.mem_cons_self)
  replace S := Bx.mk (SS.put2 (L := [(w8.heap.size, 23, #[.int .i64 (-a1), .int .i64 (-a0)])]) (M := [(w6.heap.size, 23, #[.int .i64 s0, .int .i64 s1]), (w5.heap.size, 23, #[.int .i64 s0, .int .i64 s1]), (w4.heap.size, 23, #[.int .i64 y0, .int .i64 y1]), (w3.heap.size, 23, #[.int .i64 x0, .int .i64 x1]), (w.heap.size, 23, #[.int .i64 a0, .int .i64 a1])]) (b := w7.heap.size) (t := 23) S.out (.int .i64 t0) (.int .i64 t1))
  simp only [List.cons_append, List.nil_append] at S
  obtain ⟨c6_0, c6_1, f6_0, f6_1, z6⟩ := S.out.two w.heap.size 23 (.int .i64 a0) (.int .i64 a1) (List.mem_cons_of_mem _ (List.mem_cons_of_mem _ (List.mem_cons_of_mem _ (List.mem_cons_of_mem _ (List.mem_cons_of_mem _ (List.mem_cons_of_mem _ List.mem_cons_self))))))
  go_wp2_with fail
  refine (T6.out _).mono ?_
  rintro e w10 ⟨rfl, hb⟩
  replace S := Bx.mk (S.out.call hb)
  clear hb
  clear c1_0 c1_1 f1_0 f1_1 z1 c6_0 c6_1 f6_0 f6_1 z6
  obtain ⟨c0_0, c0_1, f0_0, f0_1, z0⟩ := S.out.two w8.heap.size 23 (.int .i64 (-a1)) (.int .i64 (-a0)) List.mem_cons_self
  obtain ⟨c1_0, c1_1, f1_0, f1_1, z1⟩ := S.out.two w7.heap.size 23 (.int .i64 t0) (.int .i64 t1) (List.mem_cons_of_mem _ List.mem_cons_self)
  replace S := Bx.mk (SS.put2 (L := []) (M := [(w7.heap.size, 23, #[.int .i64 t0, .int .i64 t1]), (w6.heap.size, 23, #[.int .i64 s0, .int .i64 s1]), (w5.heap.size, 23, #[.int .i64 s0, .int .i64 s1]), (w4.heap.size, 23, #[.int .i64 y0, .int .i64 y1]), (w3.heap.size, 23, #[.int .i64 x0, .int .i64 x1]), (w.heap.size, 23, #[.int .i64 a0, .int .i64 a1])]) (b := w8.heap.size) (t := 23) S.out (.int .i64 t0) (.int .i64 t1))
  simp only [List.nil_append] at S
  obtain ⟨c0_0, c0_1, f0_0, f0_1, z0⟩ := S.out.two w8.heap.size 23 (.int .i64 t0) (.int .i64 t1) List.mem_cons_self
  obtain ⟨c1_0, c1_1, f1_0, f1_1, z1⟩ := S.out.two w7.heap.size 23 (.int .i64 t0) (.int .i64 t1) (List.mem_cons_of_mem _ List.mem_cons_self)
  go_wp2_with fail
  go_ret
  exact ⟨rfl, S.out.bl⟩
set_option maxRecDepth 20000 in
set_option maxHeartbeats 4000000 in
theorem smult_fe (a0 a1 m n : Int) (w : World) (hl : Lm w) (x0 x1 y0 y1 e f : Int) (ha0 : -100000000000000 ≤ a0) (ha1 : a1 ≤ 100000000000000) (ha : a0 ≤ a1) (h1 : ¬ m < -1000000) (h2 : ¬ 1000000 < m) (h3 : ¬ n < -1000000) (h4 : ¬ 1000000 < n) (Z1 : Hx (∀ w, Calls Tryd.prog 13 #[SV a0 a1] w fun e w' => e = .returned (.bool true) ∧ Below w.heap.size w w')) (T1 : Hx (∀ w, Calls Tryd.prog 23 #[SV a0 a1, .int .i64 (m)] w (OutZ w (x0) (x1) (0)))) (T2 : Hx (∀ w, Calls Tryd.prog 23 #[SV a0 a1, .int .i64 (n)] w (OutZ w (y0) (y1) (f)))) (hf : ¬ f = 0) (T4 : Hx (∀ w, Calls Tryd.prog 23 #[SV a0 a1, .int .i64 (-1)] w (OutZ w (-a1) (-a0) (0)))) (B1 : Hx (∀ w, Calls Tryd.prog 21 #[SV 0 0, SV a0 a1] w (OutZ w (-a1) (-a0) (0)))) (t0 t1 c : Int) (hp0 : -1000000000000 ≤ m * n) (hp1 : m * n ≤ 1000000000000) (T5 : Hx (∀ w, Calls Tryd.prog 23 #[SV x0 x1, .int .i64 (n)] w (OutZ w (t0) (t1) (c)))) (T6 : Hx (∀ w, Calls Tryd.prog 23 #[SV a0 a1, .int .i64 (m * n)] w (OutZ w (t0) (t1) (c)))) :
    Calls Tryd.prog 6 #[SV a0 a1, .int .i64 m, .int .i64 n] w fun e w' => e = .returned (.bool true) ∧ Below w.heap.size w w' := by
  have S : Bx (SS w w []) := ⟨SS.start w hl⟩
  replace S := Bx.mk (S.out.push #[.int .i64 a0, .int .i64 a1] 23)
  go_enter Tryd.func6, Tryd.ntmps6
  go_wp2_with fail
  refine (shead_any _ S.out.lm).mono ?_
  rintro e w1 ⟨rfl, hb⟩
  replace S := Bx.mk (S.out.call hb)
  clear hb
  obtain ⟨c0_0, c0_1, f0_0, f0_1, z0⟩ := S.out.two w.heap.size 23 (.int .i64 a0) (.int .i64 a1) List.mem_cons_self
  go_wp2_with fail
  refine (Z1.out _).mono ?_
  rintro e w2 ⟨rfl, hb⟩
  replace S := Bx.mk (S.out.call hb)
  clear hb
  clear c0_0 c0_1 f0_0 f0_1 z0
  obtain ⟨c0_0, c0_1, f0_0, f0_1, z0⟩ := S.out.two w.heap.size 23 (.int .i64 a0) (.int .i64 a1) List.mem_cons_self
  go_wp2_with fail
  refine (T1.out _).mono ?_
  rintro e w3 ⟨rfl, hb⟩
  replace S := Bx.mk (S.out.call hb)
  clear hb
  clear c0_0 c0_1 f0_0 f0_1 z0
  replace S := Bx.mk (S.out.push #[.int .i64 x0, .int .i64 x1] 23)
  obtain ⟨c1_0, c1_1, f1_0, f1_1, z1⟩ := S.out.two w.heap.size 23 (.int .i64 a0) (.int .i64 a1) (List.mem_cons_of_mem _ List.mem_cons_self)
  go_wp2_with fail
  refine (T2.out _).mono ?_
  rintro e w4 ⟨rfl, hb⟩
  replace S := Bx.mk (S.out.call hb)
  clear hb
  clear c1_0 c1_1 f1_0 f1_1 z1
  replace S := Bx.mk (S.out.push #[.int .i64 y0, .int .i64 y1] 23)
  obtain ⟨c2_0, c2_1, f2_0, f2_1, z2⟩ := S.out.two w.heap.size 23 (.int .i64 a0) (.int .i64 a1) (List.mem_cons_of_mem _ (List.mem_cons_of_mem _ List.mem_cons_self))
  go_wp2_with fail
  refine (T4.out _).mono ?_
  rintro e w5 ⟨rfl, hb⟩
  replace S := Bx.mk (S.out.call hb)
  clear hb
  clear c2_0 c2_1 f2_0 f2_1 z2
  replace S := Bx.mk (S.out.push #[.int .i64 (-a1), .int .i64 (-a0)] 23)
  obtain ⟨c3_0, c3_1, f3_0, f3_1, z3⟩ := S.out.two w.heap.size 23 (.int .i64 a0) (.int .i64 a1) (List.mem_cons_of_mem _ (List.mem_cons_of_mem _ (List.mem_cons_of_mem _ List.mem_cons_self)))
  go_wp2_with fail
  refine (B1.out _).mono ?_
  rintro e w6 ⟨rfl, hb⟩
  replace S := Bx.mk (S.out.call hb)
  clear hb
  clear c3_0 c3_1 f3_0 f3_1 z3
  replace S := Bx.mk (S.out.push #[.int .i64 (-a1), .int .i64 (-a0)] 23)
  obtain ⟨c0_0, c0_1, f0_0, f0_1, z0⟩ := S.out.two w6.heap.size 23 (.int .i64 (-a1)) (.int .i64 (-a0)) List.mem_cons_self
  obtain ⟨c1_0, c1_1, f1_0, f1_1, z1⟩ := S.out.two w5.heap.size 23 (.int .i64 (-a1)) (.int .i64 (-a0)) (List.mem_cons_of_mem _ List.mem_cons_self)
  obtain ⟨c3_0, c3_1, f3_0, f3_1, z3⟩ := S.out.two w3.heap.size 23 (.int .i64 x0) (.int .i64 x1) (List.mem_cons_of_mem _ (List.mem_cons_of_mem _ (List.mem_cons_of_mem _ List.mem_cons_self)))
  go_wp2_with fail
  refine (T5.out _).mono ?_
  rintro e w7 ⟨rfl, hb⟩
  replace S := Bx.mk (S.out.call hb)
  clear hb
  clear c0_0 c0_1 f0_0 f0_1 z0 c1_0 c1_1 f1_0 f1_1 z1 c3_0 c3_1 f3_0 f3_1 z3
  obtain ⟨c1_0, c1_1, f1_0, f1_1, z1⟩ := S.out.two w5.heap.size 23 (.int .i64 (-a1)) (.int .i64 (-a0)) (List.mem_cons_of_mem _ List.mem_cons_self)
  replace S := Bx.mk (SS.put2 (L := [(w6.heap.size, 23, #[.int .i64 (-a1), .int .i64 (-a0)])]) (M := [(w4.heap.size, 23, #[.int .i64 y0, .int .i64 y1]), (w3.heap.size, 23, #[.int .i64 x0, .int .i64 x1]), (w.heap.size, 23, #[.int .i64 a0, .int .i64 a1])]) (b := w5.heap.size) (t := 23) S.out (.int .i64 t0) (.int .i64 t1))
  simp only [List.cons_append, List.nil_append] at S
  obtain ⟨c4_0, c4_1, f4_0, f4_1, z4⟩ := S.out.two w.heap.size 23 (.int .i64 a0) (.int .i64 a1) (List.mem_cons_of_mem _ (List.mem_cons_of_mem _ (List.mem_cons_of_mem _ (List.mem_cons_of_mem _ List.mem_cons_self))))
  go_wp2_with fail
  refine (T6.out _).mono ?_
  rintro e w8 ⟨rfl, hb⟩
  replace S := Bx.mk (S.out.call hb)
  clear hb
  clear c1_0 c1_1 f1_0 f1_1 z1 c4_0 c4_1 f4_0 f4_1 z4
  obtain ⟨c0_0, c0_1, f0_0, f0_1, z0⟩ := S.out.two w6.heap.size 23 (.int .i64 (-a1)) (.int .i64 (-a0)) List.mem_cons_self
  obtain ⟨c1_0, c1_1, f1_0, f1_1, z1⟩ := S.out.two w5.heap.size 23 (.int .i64 t0) (.int .i64 t1) (List.mem_cons_of_mem _ List.mem_cons_self)
  replace S := Bx.mk (SS.put2 (L := []) (M := [(w5.heap.size, 23, #[.int .i64 t0, .int .i64 t1]), (w4.heap.size, 23, #[.int .i64 y0, .int .i64 y1]), (w3.heap.size, 23, #[.int .i64 x0, .int .i64 x1]), (w.heap.size, 23, #[.int .i64 a0, .int .i64 a1])]) (b := w6.heap.size) (t := 23) S.out (.int .i64 t0) (.int .i64 t1))
  simp only [List.nil_append] at S
  obtain ⟨c0_0, c0_1, f0_0, f0_1, z0⟩ := S.out.two w6.heap.size 23 (.int .i64 t0) (.int .i64 t1) List.mem_cons_self
  obtain ⟨c1_0, c1_1, f1_0, f1_1, z1⟩ := S.out.two w5.heap.size 23 (.int .i64 t0) (.int .i64 t1) (List.mem_cons_of_mem _ List.mem_cons_self)
  go_wp2_with fail
  go_ret
  exact ⟨rfl, S.out.bl⟩
set_option maxRecDepth 20000 in
set_option maxHeartbeats 4000000 in
theorem smult_mn (a0 a1 m n : Int) (w : World) (hl : Lm w) (x0 x1 y0 y1 e f : Int) (ha0 : -100000000000000 ≤ a0) (ha1 : a1 ≤ 100000000000000) (ha : a0 ≤ a1) (h1 : ¬ m < -1000000) (h2 : ¬ 1000000 < m) (h3 : ¬ n < -1000000) (h4 : ¬ 1000000 < n) (Z1 : Hx (∀ w, Calls Tryd.prog 13 #[SV a0 a1] w fun e w' => e = .returned (.bool true) ∧ Below w.heap.size w w')) (T1 : Hx (∀ w, Calls Tryd.prog 23 #[SV a0 a1, .int .i64 (m)] w (OutZ w (x0) (x1) (0)))) (T2 : Hx (∀ w, Calls Tryd.prog 23 #[SV a0 a1, .int .i64 (n)] w (OutZ w (y0) (y1) (0)))) (hm : m < 0) (T4 : Hx (∀ w, Calls Tryd.prog 23 #[SV a0 a1, .int .i64 (-1)] w (OutZ w (-a1) (-a0) (0)))) (B1 : Hx (∀ w, Calls Tryd.prog 21 #[SV 0 0, SV a0 a1] w (OutZ w (-a1) (-a0) (0)))) (t0 t1 c : Int) (hp0 : -1000000000000 ≤ m * n) (hp1 : m * n ≤ 1000000000000) (T5 : Hx (∀ w, Calls Tryd.prog 23 #[SV x0 x1, .int .i64 (n)] w (OutZ w (t0) (t1) (c)))) (T6 : Hx (∀ w, Calls Tryd.prog 23 #[SV a0 a1, .int .i64 (m * n)] w (OutZ w (t0) (t1) (c)))) :
    Calls Tryd.prog 6 #[SV a0 a1, .int .i64 m, .int .i64 n] w fun e w' => e = .returned (.bool true) ∧ Below w.heap.size w w' := by
  have S : Bx (SS w w []) := ⟨SS.start w hl⟩
  replace S := Bx.mk (S.out.push #[.int .i64 a0, .int .i64 a1] 23)
  go_enter Tryd.func6, Tryd.ntmps6
  go_wp2_with fail
  refine (shead_any _ S.out.lm).mono ?_
  rintro e w1 ⟨rfl, hb⟩
  replace S := Bx.mk (S.out.call hb)
  clear hb
  obtain ⟨c0_0, c0_1, f0_0, f0_1, z0⟩ := S.out.two w.heap.size 23 (.int .i64 a0) (.int .i64 a1) List.mem_cons_self
  go_wp2_with fail
  refine (Z1.out _).mono ?_
  rintro e w2 ⟨rfl, hb⟩
  replace S := Bx.mk (S.out.call hb)
  clear hb
  clear c0_0 c0_1 f0_0 f0_1 z0
  obtain ⟨c0_0, c0_1, f0_0, f0_1, z0⟩ := S.out.two w.heap.size 23 (.int .i64 a0) (.int .i64 a1) List.mem_cons_self
  go_wp2_with fail
  refine (T1.out _).mono ?_
  rintro e w3 ⟨rfl, hb⟩
  replace S := Bx.mk (S.out.call hb)
  clear hb
  clear c0_0 c0_1 f0_0 f0_1 z0
  replace S := Bx.mk (S.out.push #[.int .i64 x0, .int .i64 x1] 23)
  obtain ⟨c1_0, c1_1, f1_0, f1_1, z1⟩ := S.out.two w.heap.size 23 (.int .i64 a0) (.int .i64 a1) (List.mem_cons_of_mem _ List.mem_cons_self)
  go_wp2_with fail
  refine (T2.out _).mono ?_
  rintro e w4 ⟨rfl, hb⟩
  replace S := Bx.mk (S.out.call hb)
  clear hb
  clear c1_0 c1_1 f1_0 f1_1 z1
  replace S := Bx.mk (S.out.push #[.int .i64 y0, .int .i64 y1] 23)
  obtain ⟨c2_0, c2_1, f2_0, f2_1, z2⟩ := S.out.two w.heap.size 23 (.int .i64 a0) (.int .i64 a1) (List.mem_cons_of_mem _ (List.mem_cons_of_mem _ List.mem_cons_self))
  go_wp2_with fail
  refine (T4.out _).mono ?_
  rintro e w5 ⟨rfl, hb⟩
  replace S := Bx.mk (S.out.call hb)
  clear hb
  clear c2_0 c2_1 f2_0 f2_1 z2
  replace S := Bx.mk (S.out.push #[.int .i64 (-a1), .int .i64 (-a0)] 23)
  obtain ⟨c3_0, c3_1, f3_0, f3_1, z3⟩ := S.out.two w.heap.size 23 (.int .i64 a0) (.int .i64 a1) (List.mem_cons_of_mem _ (List.mem_cons_of_mem _ (List.mem_cons_of_mem _ List.mem_cons_self)))
  go_wp2_with fail
  refine (B1.out _).mono ?_
  rintro e w6 ⟨rfl, hb⟩
  replace S := Bx.mk (S.out.call hb)
  clear hb
  clear c3_0 c3_1 f3_0 f3_1 z3
  replace S := Bx.mk (S.out.push #[.int .i64 (-a1), .int .i64 (-a0)] 23)
  obtain ⟨c0_0, c0_1, f0_0, f0_1, z0⟩ := S.out.two w6.heap.size 23 (.int .i64 (-a1)) (.int .i64 (-a0)) List.mem_cons_self
  obtain ⟨c1_0, c1_1, f1_0, f1_1, z1⟩ := S.out.two w5.heap.size 23 (.int .i64 (-a1)) (.int .i64 (-a0)) (List.mem_cons_of_mem _ List.mem_cons_self)
  obtain ⟨c3_0, c3_1, f3_0, f3_1, z3⟩ := S.out.two w3.heap.size 23 (.int .i64 x0) (.int .i64 x1) (List.mem_cons_of_mem _ (List.mem_cons_of_mem _ (List.mem_cons_of_mem _ List.mem_cons_self)))
  go_wp2_with fail
  refine (T5.out _).mono ?_
  rintro e w7 ⟨rfl, hb⟩
  replace S := Bx.mk (S.out.call hb)
  clear hb
  clear c0_0 c0_1 f0_0 f0_1 z0 c1_0 c1_1 f1_0 f1_1 z1 c3_0 c3_1 f3_0 f3_1 z3
  obtain ⟨c1_0, c1_1, f1_0, f1_1, z1⟩ := S.out.two w5.heap.size 23 (.int .i64 (-a1)) (.int .i64 (-a0)) (List.mem_cons_of_mem _ List.mem_cons_self)
  replace S := Bx.mk (SS.put2 (L := [(w6.heap.size, 23, #[.int .i64 (-a1), .int .i64 (-a0)])]) (M := [(w4.heap.size, 23, #[.int .i64 y0, .int .i64 y1]), (w3.heap.size, 23, #[.int .i64 x0, .int .i64 x1]), (w.heap.size, 23, #[.int .i64 a0, .int .i64 a1])]) (b := w5.heap.size) (t := 23) S.out (.int .i64 t0) (.int .i64 t1))
  simp only [List.cons_append, List.nil_append] at S
  obtain ⟨c4_0, c4_1, f4_0, f4_1, z4⟩ := S.out.two w.heap.size 23 (.int .i64 a0) (.int .i64 a1) (List.mem_cons_of_mem _ (List.mem_cons_of_mem _ (List.mem_cons_of_mem _ (List.mem_cons_of_mem _ List.mem_cons_self))))
  go_wp2_with fail
  refine (T6.out _).mono ?_
  rintro e w8 ⟨rfl, hb⟩
  replace S := Bx.mk (S.out.call hb)
  clear hb
  clear c1_0 c1_1 f1_0 f1_1 z1 c4_0 c4_1 f4_0 f4_1 z4
  obtain ⟨c0_0, c0_1, f0_0, f0_1, z0⟩ := S.out.two w6.heap.size 23 (.int .i64 (-a1)) (.int .i64 (-a0)) List.mem_cons_self
  obtain ⟨c1_0, c1_1, f1_0, f1_1, z1⟩ := S.out.two w5.heap.size 23 (.int .i64 t0) (.int .i64 t1) (List.mem_cons_of_mem _ List.mem_cons_self)
  replace S := Bx.mk (SS.put2 (L := []) (M := [(w5.heap.size, 23, #[.int .i64 t0, .int .i64 t1]), (w4.heap.size, 23, #[.int .i64 y0, .int .i64 y1]), (w3.heap.size, 23, #[.int .i64 x0, .int .i64 x1]), (w.heap.size, 23, #[.int .i64 a0, .int .i64 a1])]) (b := w6.heap.size) (t := 23) S.out (.int .i64 t0) (.int .i64 t1))
  simp only [List.nil_append] at S
  obtain ⟨c0_0, c0_1, f0_0, f0_1, z0⟩ := S.out.two w6.heap.size 23 (.int .i64 t0) (.int .i64 t1) List.mem_cons_self
  obtain ⟨c1_0, c1_1, f1_0, f1_1, z1⟩ := S.out.two w5.heap.size 23 (.int .i64 t0) (.int .i64 t1) (List.mem_cons_of_mem _ List.mem_cons_self)
  go_wp2_with fail
  go_ret
  exact ⟨rfl, S.out.bl⟩
set_option maxRecDepth 20000 in
set_option maxHeartbeats 4000000 in
theorem smult_nn (a0 a1 m n : Int) (w : World) (hl : Lm w) (x0 x1 y0 y1 e f : Int) (ha0 : -100000000000000 ≤ a0) (ha1 : a1 ≤ 100000000000000) (ha : a0 ≤ a1) (h1 : ¬ m < -1000000) (h2 : ¬ 1000000 < m) (h3 : ¬ n < -1000000) (h4 : ¬ 1000000 < n) (Z1 : Hx (∀ w, Calls Tryd.prog 13 #[SV a0 a1] w fun e w' => e = .returned (.bool true) ∧ Below w.heap.size w w')) (T1 : Hx (∀ w, Calls Tryd.prog 23 #[SV a0 a1, .int .i64 (m)] w (OutZ w (x0) (x1) (0)))) (T2 : Hx (∀ w, Calls Tryd.prog 23 #[SV a0 a1, .int .i64 (n)] w (OutZ w (y0) (y1) (0)))) (hm : 0 ≤ m) (hn : n < 0) (T4 : Hx (∀ w, Calls Tryd.prog 23 #[SV a0 a1, .int .i64 (-1)] w (OutZ w (-a1) (-a0) (0)))) (B1 : Hx (∀ w, Calls Tryd.prog 21 #[SV 0 0, SV a0 a1] w (OutZ w (-a1) (-a0) (0)))) (t0 t1 c : Int) (hp0 : -1000000000000 ≤ m * n) (hp1 : m * n ≤ 1000000000000) (T5 : Hx (∀ w, Calls Tryd.prog 23 #[SV x0 x1, .int .i64 (n)] w (OutZ w (t0) (t1) (c)))) (T6 : Hx (∀ w, Calls Tryd.prog 23 #[SV a0 a1, .int .i64 (m * n)] w (OutZ w (t0) (t1) (c)))) :
    Calls Tryd.prog 6 #[SV a0 a1, .int .i64 m, .int .i64 n] w fun e w' => e = .returned (.bool true) ∧ Below w.heap.size w w' := by
  have S : Bx (SS w w []) := ⟨SS.start w hl⟩
  replace S := Bx.mk (S.out.push #[.int .i64 a0, .int .i64 a1] 23)
  go_enter Tryd.func6, Tryd.ntmps6
  go_wp2_with fail
  refine (shead_any _ S.out.lm).mono ?_
  rintro e w1 ⟨rfl, hb⟩
  replace S := Bx.mk (S.out.call hb)
  clear hb
  obtain ⟨c0_0, c0_1, f0_0, f0_1, z0⟩ := S.out.two w.heap.size 23 (.int .i64 a0) (.int .i64 a1) List.mem_cons_self
  go_wp2_with fail
  refine (Z1.out _).mono ?_
  rintro e w2 ⟨rfl, hb⟩
  replace S := Bx.mk (S.out.call hb)
  clear hb
  clear c0_0 c0_1 f0_0 f0_1 z0
  obtain ⟨c0_0, c0_1, f0_0, f0_1, z0⟩ := S.out.two w.heap.size 23 (.int .i64 a0) (.int .i64 a1) List.mem_cons_self
  go_wp2_with fail
  refine (T1.out _).mono ?_
  rintro e w3 ⟨rfl, hb⟩
  replace S := Bx.mk (S.out.call hb)
  clear hb
  clear c0_0 c0_1 f0_0 f0_1 z0
  replace S := Bx.mk (S.out.push #[.int .i64 x0, .int .i64 x1] 23)
  obtain ⟨c1_0, c1_1, f1_0, f1_1, z1⟩ := S.out.two w.heap.size 23 (.int .i64 a0) (.int .i64 a1) (List.mem_cons_of_mem _ List.mem_cons_self)
  go_wp2_with fail
  refine (T2.out _).mono ?_
  rintro e w4 ⟨rfl, hb⟩
  replace S := Bx.mk (S.out.call hb)
  clear hb
  clear c1_0 c1_1 f1_0 f1_1 z1
  replace S := Bx.mk (S.out.push #[.int .i64 y0, .int .i64 y1] 23)
  obtain ⟨c2_0, c2_1, f2_0, f2_1, z2⟩ := S.out.two w.heap.size 23 (.int .i64 a0) (.int .i64 a1) (List.mem_cons_of_mem _ (List.mem_cons_of_mem _ List.mem_cons_self))
  go_wp2_with fail
  refine (T4.out _).mono ?_
  rintro e w5 ⟨rfl, hb⟩
  replace S := Bx.mk (S.out.call hb)
  clear hb
  clear c2_0 c2_1 f2_0 f2_1 z2
  replace S := Bx.mk (S.out.push #[.int .i64 (-a1), .int .i64 (-a0)] 23)
  obtain ⟨c3_0, c3_1, f3_0, f3_1, z3⟩ := S.out.two w.heap.size 23 (.int .i64 a0) (.int .i64 a1) (List.mem_cons_of_mem _ (List.mem_cons_of_mem _ (List.mem_cons_of_mem _ List.mem_cons_self)))
  go_wp2_with fail
  refine (B1.out _).mono ?_
  rintro e w6 ⟨rfl, hb⟩
  replace S := Bx.mk (S.out.call hb)
  clear hb
  clear c3_0 c3_1 f3_0 f3_1 z3
  replace S := Bx.mk (S.out.push #[.int .i64 (-a1), .int .i64 (-a0)] 23)
  obtain ⟨c0_0, c0_1, f0_0, f0_1, z0⟩ := S.out.two w6.heap.size 23 (.int .i64 (-a1)) (.int .i64 (-a0)) List.mem_cons_self
  obtain ⟨c1_0, c1_1, f1_0, f1_1, z1⟩ := S.out.two w5.heap.size 23 (.int .i64 (-a1)) (.int .i64 (-a0)) (List.mem_cons_of_mem _ List.mem_cons_self)
  obtain ⟨c3_0, c3_1, f3_0, f3_1, z3⟩ := S.out.two w3.heap.size 23 (.int .i64 x0) (.int .i64 x1) (List.mem_cons_of_mem _ (List.mem_cons_of_mem _ (List.mem_cons_of_mem _ List.mem_cons_self)))
  go_wp2_with fail
  refine (T5.out _).mono ?_
  rintro e w7 ⟨rfl, hb⟩
  replace S := Bx.mk (S.out.call hb)
  clear hb
  clear c0_0 c0_1 f0_0 f0_1 z0 c1_0 c1_1 f1_0 f1_1 z1 c3_0 c3_1 f3_0 f3_1 z3
  obtain ⟨c1_0, c1_1, f1_0, f1_1, z1⟩ := S.out.two w5.heap.size 23 (.int .i64 (-a1)) (.int .i64 (-a0)) (List.mem_cons_of_mem _ List.mem_cons_self)
  replace S := Bx.mk (SS.put2 (L := [(w6.heap.size, 23, #[.int .i64 (-a1), .int .i64 (-a0)])]) (M := [(w4.heap.size, 23, #[.int .i64 y0, .int .i64 y1]), (w3.heap.size, 23, #[.int .i64 x0, .int .i64 x1]), (w.heap.size, 23, #[.int .i64 a0, .int .i64 a1])]) (b := w5.heap.size) (t := 23) S.out (.int .i64 t0) (.int .i64 t1))
  simp only [List.cons_append, List.nil_append] at S
  obtain ⟨c4_0, c4_1, f4_0, f4_1, z4⟩ := S.out.two w.heap.size 23 (.int .i64 a0) (.int .i64 a1) (List.mem_cons_of_mem _ (List.mem_cons_of_mem _ (List.mem_cons_of_mem _ (List.mem_cons_of_mem _ List.mem_cons_self))))
  go_wp2_with fail
  refine (T6.out _).mono ?_
  rintro e w8 ⟨rfl, hb⟩
  replace S := Bx.mk (S.out.call hb)
  clear hb
  clear c1_0 c1_1 f1_0 f1_1 z1 c4_0 c4_1 f4_0 f4_1 z4
  obtain ⟨c0_0, c0_1, f0_0, f0_1, z0⟩ := S.out.two w6.heap.size 23 (.int .i64 (-a1)) (.int .i64 (-a0)) List.mem_cons_self
  obtain ⟨c1_0, c1_1, f1_0, f1_1, z1⟩ := S.out.two w5.heap.size 23 (.int .i64 t0) (.int .i64 t1) (List.mem_cons_of_mem _ List.mem_cons_self)
  replace S := Bx.mk (SS.put2 (L := []) (M := [(w5.heap.size, 23, #[.int .i64 t0, .int .i64 t1]), (w4.heap.size, 23, #[.int .i64 y0, .int .i64 y1]), (w3.heap.size, 23, #[.int .i64 x0, .int .i64 x1]), (w.heap.size, 23, #[.int .i64 a0, .int .i64 a1])]) (b := w6.heap.size) (t := 23) S.out (.int .i64 t0) (.int .i64 t1))
  simp only [List.nil_append] at S
  obtain ⟨c0_0, c0_1, f0_0, f0_1, z0⟩ := S.out.two w6.heap.size 23 (.int .i64 t0) (.int .i64 t1) List.mem_cons_self
  obtain ⟨c1_0, c1_1, f1_0, f1_1, z1⟩ := S.out.two w5.heap.size 23 (.int .i64 t0) (.int .i64 t1) (List.mem_cons_of_mem _ List.mem_cons_self)
  go_wp2_with fail
  go_ret
  exact ⟨rfl, S.out.bl⟩
set_option maxRecDepth 20000 in
set_option maxHeartbeats 4000000 in
theorem smult_er (a0 a1 m n : Int) (w : World) (hl : Lm w) (x0 x1 y0 y1 e f : Int) (ha0 : -100000000000000 ≤ a0) (ha1 : a1 ≤ 100000000000000) (ha : a0 ≤ a1) (h1 : ¬ m < -1000000) (h2 : ¬ 1000000 < m) (h3 : ¬ n < -1000000) (h4 : ¬ 1000000 < n) (Z1 : Hx (∀ w, Calls Tryd.prog 13 #[SV a0 a1] w fun e w' => e = .returned (.bool true) ∧ Below w.heap.size w w')) (T1 : Hx (∀ w, Calls Tryd.prog 23 #[SV a0 a1, .int .i64 (m)] w (OutZ w (x0) (x1) (3)))) (T2 : Hx (∀ w, Calls Tryd.prog 23 #[SV a0 a1, .int .i64 (n)] w (OutZ w (y0) (y1) (f))))  (T4 : Hx (∀ w, Calls Tryd.prog 23 #[SV a0 a1, .int .i64 (-1)] w (OutZ w (-a1) (-a0) (0)))) (B1 : Hx (∀ w, Calls Tryd.prog 21 #[SV 0 0, SV a0 a1] w (OutZ w (-a1) (-a0) (0)))) :
    Calls Tryd.prog 6 #[SV a0 a1, .int .i64 m, .int .i64 n] w fun e w' => e = .returned (.bool true) ∧ Below w.heap.size w w' := by
  have S : Bx (SS w w []) := ⟨SS.start w hl⟩
  replace S := Bx.mk (S.out.push #[.int .i64 a0, .int .i64 a1] 23)
  go_enter Tryd.func6, Tryd.ntmps6
  go_wp2_with fail
  refine (shead_any _ S.out.lm).mono ?_
  rintro e w1 ⟨rfl, hb⟩
  replace S := Bx.mk (S.out.call hb)
  clear hb
  obtain ⟨c0_0, c0_1, f0_0, f0_1, z0⟩ := S.out.two w.heap.size 23 (.int .i64 a0) (.int .i64 a1) List.mem_cons_self
  go_wp2_with fail
  refine (Z1.out _).mono ?_
  rintro e w2 ⟨rfl, hb⟩
  replace S := Bx.mk (S.out.call hb)
  clear hb
  clear c0_0 c0_1 f0_0 f0_1 z0
  obtain ⟨c0_0, c0_1, f0_0, f0_1, z0⟩ := S.out.two w.heap.size 23 (.int .i64 a0) (.int .i64 a1) List.mem_cons_self
  go_wp2_with fail
  refine (T1.out _).mono ?_
  rintro e w3 ⟨rfl, hb⟩
  replace S := Bx.mk (S.out.call hb)
  clear hb
  clear c0_0 c0_1 f0_0 f0_1 z0
  replace S := Bx.mk (S.out.push #[.int .i64 x0, .int .i64 x1] 23)
  obtain ⟨c1_0, c1_1, f1_0, f1_1, z1⟩ := S.out.two w.heap.size 23 (.int .i64 a0) (.int .i64 a1) (List.mem_cons_of_mem _ List.mem_cons_self)
  go_wp2_with fail
  refine (T2.out _).mono ?_
  rintro e w4 ⟨rfl, hb⟩
  replace S := Bx.mk (S.out.call hb)
  clear hb
  clear c1_0 c1_1 f1_0 f1_1 z1
  replace S := Bx.mk (S.out.push #[.int .i64 y0, .int .i64 y1] 23)
  obtain ⟨c2_0, c2_1, f2_0, f2_1, z2⟩ := S.out.two w.heap.size 23 (.int .i64 a0) (.int .i64 a1) (List.mem_cons_of_mem _ (List.mem_cons_of_mem _ List.mem_cons_self))
  go_wp2_with fail
  refine (T4.out _).mono ?_
  rintro e w5 ⟨rfl, hb⟩
  replace S := Bx.mk (S.out.call hb)
  clear hb
  clear c2_0 c2_1 f2_0 f2_1 z2
  replace S := Bx.mk (S.out.push #[.int .i64 (-a1), .int .i64 (-a0)] 23)
  obtain ⟨c3_0, c3_1, f3_0, f3_1, z3⟩ := S.out.two w.heap.size 23 (.int .i64 a0) (.int .i64 a1) (List.mem_cons_of_mem _ (List.mem_cons_of_mem _ (List.mem_cons_of_mem _ List.mem_cons_self)))
  go_wp2_with fail
  refine (B1.out _).mono ?_
  rintro e w6 ⟨rfl, hb⟩
  replace S := Bx.mk (S.out.call hb)
  clear hb
  clear c3_0 c3_1 f3_0 f3_1 z3
  replace S := Bx.mk (S.out.push #[.int .i64 (-a1), .int .i64 (-a0)] 23)
  obtain ⟨c0_0, c0_1, f0_0, f0_1, z0⟩ := S.out.two w6.heap.size 23 (.int .i64 (-a1)) (.int .i64 (-a0)) List.mem_cons_self
  obtain ⟨c1_0, c1_1, f1_0, f1_1, z1⟩ := S.out.two w5.heap.size 23 (.int .i64 (-a1)) (.int .i64 (-a0)) (List.mem_cons_of_mem _ List.mem_cons_self)
  go_wp2_with fail
  go_ret
  exact ⟨rfl, S.out.bl⟩
end Go.Proofs.YtdlfnonlalkjdaaDoor

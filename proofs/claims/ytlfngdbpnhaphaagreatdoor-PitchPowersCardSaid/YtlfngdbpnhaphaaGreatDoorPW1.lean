/- PitchPowers, walked. -/
import Derived.Test.YtlfngdbpnhaphaaGreatDoorPW0
namespace Go.Proofs.YtlfngdbpnhaphaaGreatDoor
open Go.RowKit M
theorem powers_e (a b : Nat → Int) (n d : Int) (w : World) (hg : Gv w) (p q : Nat → Int) (e f : Int) (he : ¬ e = 0) (K1 : Hx (∀ w, Calls Tryz.prog 23 #[PV a, .int .i64 n, .int .i64 d] w (OutV w p e))) (K2 : Hx (∀ w, Calls Tryz.prog 23 #[PV b, .int .i64 n, .int .i64 d] w (OutV w q f))) :
    Calls Tryz.prog 7 #[PV a, PV b, .int .i64 n, .int .i64 d] w fun e w' => e = .returned (.bool true) ∧ Below w.heap.size w w' := by
  have S : Bx (LS w w [] []) := ⟨LS.start w hg⟩
  replace S := Bx.mk (S.out.push #[.int .i64 (a 0), .int .i64 (a 1), .int .i64 (a 2), .int .i64 (a 3), .int .i64 (a 4), .int .i64 (a 5)] 23)
  replace S := Bx.mk (S.out.push #[.int .i64 (b 0), .int .i64 (b 1), .int .i64 (b 2), .int .i64 (b 3), .int .i64 (b 4), .int .i64 (b 5)] 23)
  simp only [World.size_alloc] at S
  go_enter Tryz.func7, Tryz.ntmps7
  go_wp2_with fail
  refine (head_any _ S.out.gv).mono ?_
  rintro e w1 ⟨rfl, hb⟩
  replace S := Bx.mk (S.out.call hb)
  clear hb
  obtain ⟨c1_0, c1_1, c1_2, c1_3, c1_4, c1_5, z1⟩ := S.out.six w.heap.size 23 (.int .i64 (a 0)) (.int .i64 (a 1)) (.int .i64 (a 2)) (.int .i64 (a 3)) (.int .i64 (a 4)) (.int .i64 (a 5)) (List.mem_cons_of_mem _ List.mem_cons_self)
  go_wp2_with fail
  refine (K1.out _).mono ?_
  rintro e w2 ⟨rfl, hb⟩
  replace S := Bx.mk (S.out.call hb)
  clear hb
  clear c1_0 c1_1 c1_2 c1_3 c1_4 c1_5 z1
  replace S := Bx.mk (S.out.push #[.int .i64 (p 0), .int .i64 (p 1), .int .i64 (p 2), .int .i64 (p 3), .int .i64 (p 4), .int .i64 (p 5)] 23)
  obtain ⟨c1_0, c1_1, c1_2, c1_3, c1_4, c1_5, z1⟩ := S.out.six (w.heap.size + 1) 23 (.int .i64 (b 0)) (.int .i64 (b 1)) (.int .i64 (b 2)) (.int .i64 (b 3)) (.int .i64 (b 4)) (.int .i64 (b 5)) (List.mem_cons_of_mem _ List.mem_cons_self)
  go_wp2_with fail
  refine (K2.out _).mono ?_
  rintro e w3 ⟨rfl, hb⟩
  replace S := Bx.mk (S.out.call hb)
  clear hb
  clear c1_0 c1_1 c1_2 c1_3 c1_4 c1_5 z1
  replace S := Bx.mk (S.out.push #[.int .i64 (q 0), .int .i64 (q 1), .int .i64 (q 2), .int .i64 (q 3), .int .i64 (q 4), .int .i64 (q 5)] 23)
  go_wp2_with fail
  go_ret
  exact ⟨rfl, S.out.bl⟩
theorem powers_f (a b : Nat → Int) (n d : Int) (w : World) (hg : Gv w) (p q : Nat → Int) (e f : Int) (he : e = 0) (hf : ¬ f = 0) (K1 : Hx (∀ w, Calls Tryz.prog 23 #[PV a, .int .i64 n, .int .i64 d] w (OutV w p e))) (K2 : Hx (∀ w, Calls Tryz.prog 23 #[PV b, .int .i64 n, .int .i64 d] w (OutV w q f))) :
    Calls Tryz.prog 7 #[PV a, PV b, .int .i64 n, .int .i64 d] w fun e w' => e = .returned (.bool true) ∧ Below w.heap.size w w' := by
  have S : Bx (LS w w [] []) := ⟨LS.start w hg⟩
  replace S := Bx.mk (S.out.push #[.int .i64 (a 0), .int .i64 (a 1), .int .i64 (a 2), .int .i64 (a 3), .int .i64 (a 4), .int .i64 (a 5)] 23)
  replace S := Bx.mk (S.out.push #[.int .i64 (b 0), .int .i64 (b 1), .int .i64 (b 2), .int .i64 (b 3), .int .i64 (b 4), .int .i64 (b 5)] 23)
  simp only [World.size_alloc] at S
  go_enter Tryz.func7, Tryz.ntmps7
  go_wp2_with fail
  refine (head_any _ S.out.gv).mono ?_
  rintro e w1 ⟨rfl, hb⟩
  replace S := Bx.mk (S.out.call hb)
  clear hb
  obtain ⟨c1_0, c1_1, c1_2, c1_3, c1_4, c1_5, z1⟩ := S.out.six w.heap.size 23 (.int .i64 (a 0)) (.int .i64 (a 1)) (.int .i64 (a 2)) (.int .i64 (a 3)) (.int .i64 (a 4)) (.int .i64 (a 5)) (List.mem_cons_of_mem _ List.mem_cons_self)
  go_wp2_with fail
  refine (K1.out _).mono ?_
  rintro e w2 ⟨rfl, hb⟩
  replace S := Bx.mk (S.out.call hb)
  clear hb
  clear c1_0 c1_1 c1_2 c1_3 c1_4 c1_5 z1
  replace S := Bx.mk (S.out.push #[.int .i64 (p 0), .int .i64 (p 1), .int .i64 (p 2), .int .i64 (p 3), .int .i64 (p 4), .int .i64 (p 5)] 23)
  obtain ⟨c1_0, c1_1, c1_2, c1_3, c1_4, c1_5, z1⟩ := S.out.six (w.heap.size + 1) 23 (.int .i64 (b 0)) (.int .i64 (b 1)) (.int .i64 (b 2)) (.int .i64 (b 3)) (.int .i64 (b 4)) (.int .i64 (b 5)) (List.mem_cons_of_mem _ List.mem_cons_self)
  go_wp2_with fail
  refine (K2.out _).mono ?_
  rintro e w3 ⟨rfl, hb⟩
  replace S := Bx.mk (S.out.call hb)
  clear hb
  clear c1_0 c1_1 c1_2 c1_3 c1_4 c1_5 z1
  replace S := Bx.mk (S.out.push #[.int .i64 (q 0), .int .i64 (q 1), .int .i64 (q 2), .int .i64 (q 3), .int .i64 (q 4), .int .i64 (q 5)] 23)
  subst he
  go_wp2_with fail
  go_ret
  exact ⟨rfl, S.out.bl⟩
theorem powers_n (a b : Nat → Int) (n d : Int) (w : World) (hg : Gv w) (p q : Nat → Int) (e f : Int) (he : e = 0) (hf : f = 0) (hn : n < 1) (K1 : Hx (∀ w, Calls Tryz.prog 23 #[PV a, .int .i64 n, .int .i64 d] w (OutV w p e))) (K2 : Hx (∀ w, Calls Tryz.prog 23 #[PV b, .int .i64 n, .int .i64 d] w (OutV w q f))) :
    Calls Tryz.prog 7 #[PV a, PV b, .int .i64 n, .int .i64 d] w fun e w' => e = .returned (.bool true) ∧ Below w.heap.size w w' := by
  have S : Bx (LS w w [] []) := ⟨LS.start w hg⟩
  replace S := Bx.mk (S.out.push #[.int .i64 (a 0), .int .i64 (a 1), .int .i64 (a 2), .int .i64 (a 3), .int .i64 (a 4), .int .i64 (a 5)] 23)
  replace S := Bx.mk (S.out.push #[.int .i64 (b 0), .int .i64 (b 1), .int .i64 (b 2), .int .i64 (b 3), .int .i64 (b 4), .int .i64 (b 5)] 23)
  simp only [World.size_alloc] at S
  go_enter Tryz.func7, Tryz.ntmps7
  go_wp2_with fail
  refine (head_any _ S.out.gv).mono ?_
  rintro e w1 ⟨rfl, hb⟩
  replace S := Bx.mk (S.out.call hb)
  clear hb
  obtain ⟨c1_0, c1_1, c1_2, c1_3, c1_4, c1_5, z1⟩ := S.out.six w.heap.size 23 (.int .i64 (a 0)) (.int .i64 (a 1)) (.int .i64 (a 2)) (.int .i64 (a 3)) (.int .i64 (a 4)) (.int .i64 (a 5)) (List.mem_cons_of_mem _ List.mem_cons_self)
  go_wp2_with fail
  refine (K1.out _).mono ?_
  rintro e w2 ⟨rfl, hb⟩
  replace S := Bx.mk (S.out.call hb)
  clear hb
  clear c1_0 c1_1 c1_2 c1_3 c1_4 c1_5 z1
  replace S := Bx.mk (S.out.push #[.int .i64 (p 0), .int .i64 (p 1), .int .i64 (p 2), .int .i64 (p 3), .int .i64 (p 4), .int .i64 (p 5)] 23)
  obtain ⟨c1_0, c1_1, c1_2, c1_3, c1_4, c1_5, z1⟩ := S.out.six (w.heap.size + 1) 23 (.int .i64 (b 0)) (.int .i64 (b 1)) (.int .i64 (b 2)) (.int .i64 (b 3)) (.int .i64 (b 4)) (.int .i64 (b 5)) (List.mem_cons_of_mem _ List.mem_cons_self)
  go_wp2_with fail
  refine (K2.out _).mono ?_
  rintro e w3 ⟨rfl, hb⟩
  replace S := Bx.mk (S.out.call hb)
  clear hb
  clear c1_0 c1_1 c1_2 c1_3 c1_4 c1_5 z1
  replace S := Bx.mk (S.out.push #[.int .i64 (q 0), .int .i64 (q 1), .int .i64 (q 2), .int .i64 (q 3), .int .i64 (q 4), .int .i64 (q 5)] 23)
  subst he
  subst hf
  go_wp2_with fail
  go_ret
  exact ⟨rfl, S.out.bl⟩
theorem powers_y_big (a b : Nat → Int) (n d : Int) (w : World) (hg : Gv w) (hn0 : 1 ≤ n) (hn1 : 12 < n) (p q r : Nat → Int) (x : Int) (K1 : Hx (∀ w, Calls Tryz.prog 23 #[PV a, .int .i64 n, .int .i64 d] w (OutV w p 0))) (K2 : Hx (∀ w, Calls Tryz.prog 23 #[PV b, .int .i64 n, .int .i64 d] w (OutV w q 0))) (K3 : Hx (∀ w, Pm w → Calls Tryz.prog 25 #[PV a, PV b] w fun e w' => e = .returned (.tuple #[.int .i64 x, .int .i64 0]) ∧ Below w.heap.size w w')) (K4 : Hx (∀ w, Pm w → Calls Tryz.prog 25 #[PV p, PV q] w fun e w' => e = .returned (.tuple #[.int .i64 x, .int .i64 0]) ∧ Below w.heap.size w w')) (K5 : Hx (∀ w, Calls Tryz.prog 23 #[PV a, .int .i64 1, .int .i64 d] w (OutV w r 0))) (K6 : Hx (∀ w, Calls Tryz.prog 23 #[PV r, .int .i64 d, .int .i64 1] w (OutV w a 0))) (K7 : Hx (∀ w, Calls Tryz.prog 23 #[PV r, .int .i64 n, .int .i64 1] w (OutV w p 0))) :
    Calls Tryz.prog 7 #[PV a, PV b, .int .i64 n, .int .i64 d] w fun e w' => e = .returned (.bool true) ∧ Below w.heap.size w w' := by
  have S : Bx (LS w w [] []) := ⟨LS.start w hg⟩
  replace S := Bx.mk (S.out.push #[.int .i64 (a 0), .int .i64 (a 1), .int .i64 (a 2), .int .i64 (a 3), .int .i64 (a 4), .int .i64 (a 5)] 23)
  replace S := Bx.mk (S.out.push #[.int .i64 (b 0), .int .i64 (b 1), .int .i64 (b 2), .int .i64 (b 3), .int .i64 (b 4), .int .i64 (b 5)] 23)
  simp only [World.size_alloc] at S
  go_enter Tryz.func7, Tryz.ntmps7
  go_wp2_with fail
  refine (head_any _ S.out.gv).mono ?_
  rintro e w1 ⟨rfl, hb⟩
  replace S := Bx.mk (S.out.call hb)
  clear hb
  obtain ⟨c1_0, c1_1, c1_2, c1_3, c1_4, c1_5, z1⟩ := S.out.six w.heap.size 23 (.int .i64 (a 0)) (.int .i64 (a 1)) (.int .i64 (a 2)) (.int .i64 (a 3)) (.int .i64 (a 4)) (.int .i64 (a 5)) (List.mem_cons_of_mem _ List.mem_cons_self)
  go_wp2_with fail
  refine (K1.out _).mono ?_
  rintro e w2 ⟨rfl, hb⟩
  replace S := Bx.mk (S.out.call hb)
  clear hb
  clear c1_0 c1_1 c1_2 c1_3 c1_4 c1_5 z1
  replace S := Bx.mk (S.out.push #[.int .i64 (p 0), .int .i64 (p 1), .int .i64 (p 2), .int .i64 (p 3), .int .i64 (p 4), .int .i64 (p 5)] 23)
  obtain ⟨c1_0, c1_1, c1_2, c1_3, c1_4, c1_5, z1⟩ := S.out.six (w.heap.size + 1) 23 (.int .i64 (b 0)) (.int .i64 (b 1)) (.int .i64 (b 2)) (.int .i64 (b 3)) (.int .i64 (b 4)) (.int .i64 (b 5)) (List.mem_cons_of_mem _ List.mem_cons_self)
  go_wp2_with fail
  refine (K2.out _).mono ?_
  rintro e w3 ⟨rfl, hb⟩
  replace S := Bx.mk (S.out.call hb)
  clear hb
  clear c1_0 c1_1 c1_2 c1_3 c1_4 c1_5 z1
  replace S := Bx.mk (S.out.push #[.int .i64 (q 0), .int .i64 (q 1), .int .i64 (q 2), .int .i64 (q 3), .int .i64 (q 4), .int .i64 (q 5)] 23)
  obtain ⟨c2_0, c2_1, c2_2, c2_3, c2_4, c2_5, z2⟩ := S.out.six (w.heap.size + 1) 23 (.int .i64 (b 0)) (.int .i64 (b 1)) (.int .i64 (b 2)) (.int .i64 (b 3)) (.int .i64 (b 4)) (.int .i64 (b 5)) (List.mem_cons_of_mem _ (List.mem_cons_of_mem _ List.mem_cons_self))
  obtain ⟨c3_0, c3_1, c3_2, c3_3, c3_4, c3_5, z3⟩ := S.out.six w.heap.size 23 (.int .i64 (a 0)) (.int .i64 (a 1)) (.int .i64 (a 2)) (.int .i64 (a 3)) (.int .i64 (a 4)) (.int .i64 (a 5)) (List.mem_cons_of_mem _ (List.mem_cons_of_mem _ (List.mem_cons_of_mem _ List.mem_cons_self)))
  go_wp2_with fail
  refine (K3.out _ S.out.gv.pm).mono ?_
  rintro e w4 ⟨rfl, hb⟩
  replace S := Bx.mk (S.out.call hb)
  clear hb
  clear c2_0 c2_1 c2_2 c2_3 c2_4 c2_5 z2 c3_0 c3_1 c3_2 c3_3 c3_4 c3_5 z3
  obtain ⟨c0_0, c0_1, c0_2, c0_3, c0_4, c0_5, z0⟩ := S.out.six w3.heap.size 23 (.int .i64 (q 0)) (.int .i64 (q 1)) (.int .i64 (q 2)) (.int .i64 (q 3)) (.int .i64 (q 4)) (.int .i64 (q 5)) List.mem_cons_self
  obtain ⟨c1_0, c1_1, c1_2, c1_3, c1_4, c1_5, z1⟩ := S.out.six w2.heap.size 23 (.int .i64 (p 0)) (.int .i64 (p 1)) (.int .i64 (p 2)) (.int .i64 (p 3)) (.int .i64 (p 4)) (.int .i64 (p 5)) (List.mem_cons_of_mem _ List.mem_cons_self)
  go_wp2_with fail
  refine (K4.out _ S.out.gv.pm).mono ?_
  rintro e w5 ⟨rfl, hb⟩
  replace S := Bx.mk (S.out.call hb)
  clear hb
  clear c0_0 c0_1 c0_2 c0_3 c0_4 c0_5 z0 c1_0 c1_1 c1_2 c1_3 c1_4 c1_5 z1
  obtain ⟨c3_0, c3_1, c3_2, c3_3, c3_4, c3_5, z3⟩ := S.out.six w.heap.size 23 (.int .i64 (a 0)) (.int .i64 (a 1)) (.int .i64 (a 2)) (.int .i64 (a 3)) (.int .i64 (a 4)) (.int .i64 (a 5)) (List.mem_cons_of_mem _ (List.mem_cons_of_mem _ (List.mem_cons_of_mem _ List.mem_cons_self)))
  go_wp2_with fail
  refine (K5.out _).mono ?_
  rintro e w6 ⟨rfl, hb⟩
  replace S := Bx.mk (S.out.call hb)
  clear hb
  clear c3_0 c3_1 c3_2 c3_3 c3_4 c3_5 z3
  replace S := Bx.mk (S.out.push #[.int .i64 (r 0), .int .i64 (r 1), .int .i64 (r 2), .int .i64 (r 3), .int .i64 (r 4), .int .i64 (r 5)] 23)
  obtain ⟨c0_0, c0_1, c0_2, c0_3, c0_4, c0_5, z0⟩ := S.out.six w6.heap.size 23 (.int .i64 (r 0)) (.int .i64 (r 1)) (.int .i64 (r 2)) (.int .i64 (r 3)) (.int .i64 (r 4)) (.int .i64 (r 5)) List.mem_cons_self
  go_wp2_with fail
  refine (K6.out _).mono ?_
  rintro e w7 ⟨rfl, hb⟩
  replace S := Bx.mk (S.out.call hb)
  clear hb
  clear c0_0 c0_1 c0_2 c0_3 c0_4 c0_5 z0
  replace S := Bx.mk (S.out.push #[.int .i64 (a 0), .int .i64 (a 1), .int .i64 (a 2), .int .i64 (a 3), .int .i64 (a 4), .int .i64 (a 5)] 23)
  obtain ⟨c1_0, c1_1, c1_2, c1_3, c1_4, c1_5, z1⟩ := S.out.six w6.heap.size 23 (.int .i64 (r 0)) (.int .i64 (r 1)) (.int .i64 (r 2)) (.int .i64 (r 3)) (.int .i64 (r 4)) (.int .i64 (r 5)) (List.mem_cons_of_mem _ List.mem_cons_self)
  go_wp2_with fail
  refine (K7.out _).mono ?_
  rintro e w8 ⟨rfl, hb⟩
  replace S := Bx.mk (S.out.call hb)
  clear hb
  clear c1_0 c1_1 c1_2 c1_3 c1_4 c1_5 z1
  replace S := Bx.mk (S.out.push #[.int .i64 (p 0), .int .i64 (p 1), .int .i64 (p 2), .int .i64 (p 3), .int .i64 (p 4), .int .i64 (p 5)] 23)
  have q1 := eq6_same 23 (by kernel_rfl) a
  have q2 := eq6_same 23 (by kernel_rfl) p
  obtain ⟨c0_0, c0_1, c0_2, c0_3, c0_4, c0_5, z0⟩ := S.out.six w8.heap.size 23 (.int .i64 (p 0)) (.int .i64 (p 1)) (.int .i64 (p 2)) (.int .i64 (p 3)) (.int .i64 (p 4)) (.int .i64 (p 5)) List.mem_cons_self
  obtain ⟨c1_0, c1_1, c1_2, c1_3, c1_4, c1_5, z1⟩ := S.out.six w7.heap.size 23 (.int .i64 (a 0)) (.int .i64 (a 1)) (.int .i64 (a 2)) (.int .i64 (a 3)) (.int .i64 (a 4)) (.int .i64 (a 5)) (List.mem_cons_of_mem _ List.mem_cons_self)
  obtain ⟨c4_0, c4_1, c4_2, c4_3, c4_4, c4_5, z4⟩ := S.out.six w2.heap.size 23 (.int .i64 (p 0)) (.int .i64 (p 1)) (.int .i64 (p 2)) (.int .i64 (p 3)) (.int .i64 (p 4)) (.int .i64 (p 5)) (List.mem_cons_of_mem _ (List.mem_cons_of_mem _ (List.mem_cons_of_mem _ (List.mem_cons_of_mem _ List.mem_cons_self))))
  obtain ⟨c6_0, c6_1, c6_2, c6_3, c6_4, c6_5, z6⟩ := S.out.six w.heap.size 23 (.int .i64 (a 0)) (.int .i64 (a 1)) (.int .i64 (a 2)) (.int .i64 (a 3)) (.int .i64 (a 4)) (.int .i64 (a 5)) (List.mem_cons_of_mem _ (List.mem_cons_of_mem _ (List.mem_cons_of_mem _ (List.mem_cons_of_mem _ (List.mem_cons_of_mem _ (List.mem_cons_of_mem _ List.mem_cons_self))))))
  go_wp2_with fail
  go_ret
  exact ⟨rfl, S.out.bl⟩
theorem powers_y_div (a b : Nat → Int) (n d : Int) (w : World) (hg : Gv w) (hn0 : 1 ≤ n) (hn1 : n ≤ 12) (hd : ¬ d = 1) (p q r : Nat → Int) (x : Int) (K1 : Hx (∀ w, Calls Tryz.prog 23 #[PV a, .int .i64 n, .int .i64 d] w (OutV w p 0))) (K2 : Hx (∀ w, Calls Tryz.prog 23 #[PV b, .int .i64 n, .int .i64 d] w (OutV w q 0))) (K3 : Hx (∀ w, Pm w → Calls Tryz.prog 25 #[PV a, PV b] w fun e w' => e = .returned (.tuple #[.int .i64 x, .int .i64 0]) ∧ Below w.heap.size w w')) (K4 : Hx (∀ w, Pm w → Calls Tryz.prog 25 #[PV p, PV q] w fun e w' => e = .returned (.tuple #[.int .i64 x, .int .i64 0]) ∧ Below w.heap.size w w')) (K5 : Hx (∀ w, Calls Tryz.prog 23 #[PV a, .int .i64 1, .int .i64 d] w (OutV w r 0))) (K6 : Hx (∀ w, Calls Tryz.prog 23 #[PV r, .int .i64 d, .int .i64 1] w (OutV w a 0))) (K7 : Hx (∀ w, Calls Tryz.prog 23 #[PV r, .int .i64 n, .int .i64 1] w (OutV w p 0))) :
    Calls Tryz.prog 7 #[PV a, PV b, .int .i64 n, .int .i64 d] w fun e w' => e = .returned (.bool true) ∧ Below w.heap.size w w' := by
  have S : Bx (LS w w [] []) := ⟨LS.start w hg⟩
  replace S := Bx.mk (S.out.push #[.int .i64 (a 0), .int .i64 (a 1), .int .i64 (a 2), .int .i64 (a 3), .int .i64 (a 4), .int .i64 (a 5)] 23)
  replace S := Bx.mk (S.out.push #[.int .i64 (b 0), .int .i64 (b 1), .int .i64 (b 2), .int .i64 (b 3), .int .i64 (b 4), .int .i64 (b 5)] 23)
  simp only [World.size_alloc] at S
  go_enter Tryz.func7, Tryz.ntmps7
  go_wp2_with fail
  refine (head_any _ S.out.gv).mono ?_
  rintro e w1 ⟨rfl, hb⟩
  replace S := Bx.mk (S.out.call hb)
  clear hb
  obtain ⟨c1_0, c1_1, c1_2, c1_3, c1_4, c1_5, z1⟩ := S.out.six w.heap.size 23 (.int .i64 (a 0)) (.int .i64 (a 1)) (.int .i64 (a 2)) (.int .i64 (a 3)) (.int .i64 (a 4)) (.int .i64 (a 5)) (List.mem_cons_of_mem _ List.mem_cons_self)
  go_wp2_with fail
  refine (K1.out _).mono ?_
  rintro e w2 ⟨rfl, hb⟩
  replace S := Bx.mk (S.out.call hb)
  clear hb
  clear c1_0 c1_1 c1_2 c1_3 c1_4 c1_5 z1
  replace S := Bx.mk (S.out.push #[.int .i64 (p 0), .int .i64 (p 1), .int .i64 (p 2), .int .i64 (p 3), .int .i64 (p 4), .int .i64 (p 5)] 23)
  obtain ⟨c1_0, c1_1, c1_2, c1_3, c1_4, c1_5, z1⟩ := S.out.six (w.heap.size + 1) 23 (.int .i64 (b 0)) (.int .i64 (b 1)) (.int .i64 (b 2)) (.int .i64 (b 3)) (.int .i64 (b 4)) (.int .i64 (b 5)) (List.mem_cons_of_mem _ List.mem_cons_self)
  go_wp2_with fail
  refine (K2.out _).mono ?_
  rintro e w3 ⟨rfl, hb⟩
  replace S := Bx.mk (S.out.call hb)
  clear hb
  clear c1_0 c1_1 c1_2 c1_3 c1_4 c1_5 z1
  replace S := Bx.mk (S.out.push #[.int .i64 (q 0), .int .i64 (q 1), .int .i64 (q 2), .int .i64 (q 3), .int .i64 (q 4), .int .i64 (q 5)] 23)
  obtain ⟨c2_0, c2_1, c2_2, c2_3, c2_4, c2_5, z2⟩ := S.out.six (w.heap.size + 1) 23 (.int .i64 (b 0)) (.int .i64 (b 1)) (.int .i64 (b 2)) (.int .i64 (b 3)) (.int .i64 (b 4)) (.int .i64 (b 5)) (List.mem_cons_of_mem _ (List.mem_cons_of_mem _ List.mem_cons_self))
  obtain ⟨c3_0, c3_1, c3_2, c3_3, c3_4, c3_5, z3⟩ := S.out.six w.heap.size 23 (.int .i64 (a 0)) (.int .i64 (a 1)) (.int .i64 (a 2)) (.int .i64 (a 3)) (.int .i64 (a 4)) (.int .i64 (a 5)) (List.mem_cons_of_mem _ (List.mem_cons_of_mem _ (List.mem_cons_of_mem _ List.mem_cons_self)))
  go_wp2_with fail
  refine (K3.out _ S.out.gv.pm).mono ?_
  rintro e w4 ⟨rfl, hb⟩
  replace S := Bx.mk (S.out.call hb)
  clear hb
  clear c2_0 c2_1 c2_2 c2_3 c2_4 c2_5 z2 c3_0 c3_1 c3_2 c3_3 c3_4 c3_5 z3
  obtain ⟨c0_0, c0_1, c0_2, c0_3, c0_4, c0_5, z0⟩ := S.out.six w3.heap.size 23 (.int .i64 (q 0)) (.int .i64 (q 1)) (.int .i64 (q 2)) (.int .i64 (q 3)) (.int .i64 (q 4)) (.int .i64 (q 5)) List.mem_cons_self
  obtain ⟨c1_0, c1_1, c1_2, c1_3, c1_4, c1_5, z1⟩ := S.out.six w2.heap.size 23 (.int .i64 (p 0)) (.int .i64 (p 1)) (.int .i64 (p 2)) (.int .i64 (p 3)) (.int .i64 (p 4)) (.int .i64 (p 5)) (List.mem_cons_of_mem _ List.mem_cons_self)
  go_wp2_with fail
  refine (K4.out _ S.out.gv.pm).mono ?_
  rintro e w5 ⟨rfl, hb⟩
  replace S := Bx.mk (S.out.call hb)
  clear hb
  clear c0_0 c0_1 c0_2 c0_3 c0_4 c0_5 z0 c1_0 c1_1 c1_2 c1_3 c1_4 c1_5 z1
  obtain ⟨c3_0, c3_1, c3_2, c3_3, c3_4, c3_5, z3⟩ := S.out.six w.heap.size 23 (.int .i64 (a 0)) (.int .i64 (a 1)) (.int .i64 (a 2)) (.int .i64 (a 3)) (.int .i64 (a 4)) (.int .i64 (a 5)) (List.mem_cons_of_mem _ (List.mem_cons_of_mem _ (List.mem_cons_of_mem _ List.mem_cons_self)))
  go_wp2_with fail
  refine (K5.out _).mono ?_
  rintro e w6 ⟨rfl, hb⟩
  replace S := Bx.mk (S.out.call hb)
  clear hb
  clear c3_0 c3_1 c3_2 c3_3 c3_4 c3_5 z3
  replace S := Bx.mk (S.out.push #[.int .i64 (r 0), .int .i64 (r 1), .int .i64 (r 2), .int .i64 (r 3), .int .i64 (r 4), .int .i64 (r 5)] 23)
  obtain ⟨c0_0, c0_1, c0_2, c0_3, c0_4, c0_5, z0⟩ := S.out.six w6.heap.size 23 (.int .i64 (r 0)) (.int .i64 (r 1)) (.int .i64 (r 2)) (.int .i64 (r 3)) (.int .i64 (r 4)) (.int .i64 (r 5)) List.mem_cons_self
  go_wp2_with fail
  refine (K6.out _).mono ?_
  rintro e w7 ⟨rfl, hb⟩
  replace S := Bx.mk (S.out.call hb)
  clear hb
  clear c0_0 c0_1 c0_2 c0_3 c0_4 c0_5 z0
  replace S := Bx.mk (S.out.push #[.int .i64 (a 0), .int .i64 (a 1), .int .i64 (a 2), .int .i64 (a 3), .int .i64 (a 4), .int .i64 (a 5)] 23)
  obtain ⟨c1_0, c1_1, c1_2, c1_3, c1_4, c1_5, z1⟩ := S.out.six w6.heap.size 23 (.int .i64 (r 0)) (.int .i64 (r 1)) (.int .i64 (r 2)) (.int .i64 (r 3)) (.int .i64 (r 4)) (.int .i64 (r 5)) (List.mem_cons_of_mem _ List.mem_cons_self)
  go_wp2_with fail
  refine (K7.out _).mono ?_
  rintro e w8 ⟨rfl, hb⟩
  replace S := Bx.mk (S.out.call hb)
  clear hb
  clear c1_0 c1_1 c1_2 c1_3 c1_4 c1_5 z1
  replace S := Bx.mk (S.out.push #[.int .i64 (p 0), .int .i64 (p 1), .int .i64 (p 2), .int .i64 (p 3), .int .i64 (p 4), .int .i64 (p 5)] 23)
  have q1 := eq6_same 23 (by kernel_rfl) a
  have q2 := eq6_same 23 (by kernel_rfl) p
  have hd1 : (d == 1) = false := beq_eq_false_iff_ne.2 hd
  have hd2 : (d != 1) = true := by rw [bne_iff_ne]; exact hd
  clear hd
  obtain ⟨c0_0, c0_1, c0_2, c0_3, c0_4, c0_5, z0⟩ := S.out.six w8.heap.size 23 (.int .i64 (p 0)) (.int .i64 (p 1)) (.int .i64 (p 2)) (.int .i64 (p 3)) (.int .i64 (p 4)) (.int .i64 (p 5)) List.mem_cons_self
  obtain ⟨c1_0, c1_1, c1_2, c1_3, c1_4, c1_5, z1⟩ := S.out.six w7.heap.size 23 (.int .i64 (a 0)) (.int .i64 (a 1)) (.int .i64 (a 2)) (.int .i64 (a 3)) (.int .i64 (a 4)) (.int .i64 (a 5)) (List.mem_cons_of_mem _ List.mem_cons_self)
  obtain ⟨c4_0, c4_1, c4_2, c4_3, c4_4, c4_5, z4⟩ := S.out.six w2.heap.size 23 (.int .i64 (p 0)) (.int .i64 (p 1)) (.int .i64 (p 2)) (.int .i64 (p 3)) (.int .i64 (p 4)) (.int .i64 (p 5)) (List.mem_cons_of_mem _ (List.mem_cons_of_mem _ (List.mem_cons_of_mem _ (List.mem_cons_of_mem _ List.mem_cons_self))))
  obtain ⟨c6_0, c6_1, c6_2, c6_3, c6_4, c6_5, z6⟩ := S.out.six w.heap.size 23 (.int .i64 (a 0)) (.int .i64 (a 1)) (.int .i64 (a 2)) (.int .i64 (a 3)) (.int .i64 (a 4)) (.int .i64 (a 5)) (List.mem_cons_of_mem _ (List.mem_cons_of_mem _ (List.mem_cons_of_mem _ (List.mem_cons_of_mem _ (List.mem_cons_of_mem _ (List.mem_cons_of_mem _ List.mem_cons_self))))))
  go_wp2_with fail
  go_ret
  exact ⟨rfl, S.out.bl⟩
theorem powers_n_big (a b : Nat → Int) (n d : Int) (w : World) (hg : Gv w) (hn0 : 1 ≤ n) (hn1 : 12 < n) (p q r : Nat → Int) (x : Int) (K1 : Hx (∀ w, Calls Tryz.prog 23 #[PV a, .int .i64 n, .int .i64 d] w (OutV w p 0))) (K2 : Hx (∀ w, Calls Tryz.prog 23 #[PV b, .int .i64 n, .int .i64 d] w (OutV w q 0))) (K3 : Hx (∀ w, Pm w → Calls Tryz.prog 25 #[PV a, PV b] w fun e w' => e = .returned (.tuple #[.int .i64 x, .int .i64 0]) ∧ Below w.heap.size w w')) (K4 : Hx (∀ w, Pm w → Calls Tryz.prog 25 #[PV p, PV q] w fun e w' => e = .returned (.tuple #[.int .i64 x, .int .i64 0]) ∧ Below w.heap.size w w')) (g : Int) (hgz : ¬ g = 0) (K5 : Hx (∀ w, Calls Tryz.prog 23 #[PV a, .int .i64 1, .int .i64 d] w (OutV w r g))) :
    Calls Tryz.prog 7 #[PV a, PV b, .int .i64 n, .int .i64 d] w fun e w' => e = .returned (.bool true) ∧ Below w.heap.size w w' := by
  have S : Bx (LS w w [] []) := ⟨LS.start w hg⟩
  replace S := Bx.mk (S.out.push #[.int .i64 (a 0), .int .i64 (a 1), .int .i64 (a 2), .int .i64 (a 3), .int .i64 (a 4), .int .i64 (a 5)] 23)
  replace S := Bx.mk (S.out.push #[.int .i64 (b 0), .int .i64 (b 1), .int .i64 (b 2), .int .i64 (b 3), .int .i64 (b 4), .int .i64 (b 5)] 23)
  simp only [World.size_alloc] at S
  go_enter Tryz.func7, Tryz.ntmps7
  go_wp2_with fail
  refine (head_any _ S.out.gv).mono ?_
  rintro e w1 ⟨rfl, hb⟩
  replace S := Bx.mk (S.out.call hb)
  clear hb
  obtain ⟨c1_0, c1_1, c1_2, c1_3, c1_4, c1_5, z1⟩ := S.out.six w.heap.size 23 (.int .i64 (a 0)) (.int .i64 (a 1)) (.int .i64 (a 2)) (.int .i64 (a 3)) (.int .i64 (a 4)) (.int .i64 (a 5)) (List.mem_cons_of_mem _ List.mem_cons_self)
  go_wp2_with fail
  refine (K1.out _).mono ?_
  rintro e w2 ⟨rfl, hb⟩
  replace S := Bx.mk (S.out.call hb)
  clear hb
  clear c1_0 c1_1 c1_2 c1_3 c1_4 c1_5 z1
  replace S := Bx.mk (S.out.push #[.int .i64 (p 0), .int .i64 (p 1), .int .i64 (p 2), .int .i64 (p 3), .int .i64 (p 4), .int .i64 (p 5)] 23)
  obtain ⟨c1_0, c1_1, c1_2, c1_3, c1_4, c1_5, z1⟩ := S.out.six (w.heap.size + 1) 23 (.int .i64 (b 0)) (.int .i64 (b 1)) (.int .i64 (b 2)) (.int .i64 (b 3)) (.int .i64 (b 4)) (.int .i64 (b 5)) (List.mem_cons_of_mem _ List.mem_cons_self)
  go_wp2_with fail
  refine (K2.out _).mono ?_
  rintro e w3 ⟨rfl, hb⟩
  replace S := Bx.mk (S.out.call hb)
  clear hb
  clear c1_0 c1_1 c1_2 c1_3 c1_4 c1_5 z1
  replace S := Bx.mk (S.out.push #[.int .i64 (q 0), .int .i64 (q 1), .int .i64 (q 2), .int .i64 (q 3), .int .i64 (q 4), .int .i64 (q 5)] 23)
  obtain ⟨c2_0, c2_1, c2_2, c2_3, c2_4, c2_5, z2⟩ := S.out.six (w.heap.size + 1) 23 (.int .i64 (b 0)) (.int .i64 (b 1)) (.int .i64 (b 2)) (.int .i64 (b 3)) (.int .i64 (b 4)) (.int .i64 (b 5)) (List.mem_cons_of_mem _ (List.mem_cons_of_mem _ List.mem_cons_self))
  obtain ⟨c3_0, c3_1, c3_2, c3_3, c3_4, c3_5, z3⟩ := S.out.six w.heap.size 23 (.int .i64 (a 0)) (.int .i64 (a 1)) (.int .i64 (a 2)) (.int .i64 (a 3)) (.int .i64 (a 4)) (.int .i64 (a 5)) (List.mem_cons_of_mem _ (List.mem_cons_of_mem _ (List.mem_cons_of_mem _ List.mem_cons_self)))
  go_wp2_with fail
  refine (K3.out _ S.out.gv.pm).mono ?_
  rintro e w4 ⟨rfl, hb⟩
  replace S := Bx.mk (S.out.call hb)
  clear hb
  clear c2_0 c2_1 c2_2 c2_3 c2_4 c2_5 z2 c3_0 c3_1 c3_2 c3_3 c3_4 c3_5 z3
  obtain ⟨c0_0, c0_1, c0_2, c0_3, c0_4, c0_5, z0⟩ := S.out.six w3.heap.size 23 (.int .i64 (q 0)) (.int .i64 (q 1)) (.int .i64 (q 2)) (.int .i64 (q 3)) (.int .i64 (q 4)) (.int .i64 (q 5)) List.mem_cons_self
  obtain ⟨c1_0, c1_1, c1_2, c1_3, c1_4, c1_5, z1⟩ := S.out.six w2.heap.size 23 (.int .i64 (p 0)) (.int .i64 (p 1)) (.int .i64 (p 2)) (.int .i64 (p 3)) (.int .i64 (p 4)) (.int .i64 (p 5)) (List.mem_cons_of_mem _ List.mem_cons_self)
  go_wp2_with fail
  refine (K4.out _ S.out.gv.pm).mono ?_
  rintro e w5 ⟨rfl, hb⟩
  replace S := Bx.mk (S.out.call hb)
  clear hb
  clear c0_0 c0_1 c0_2 c0_3 c0_4 c0_5 z0 c1_0 c1_1 c1_2 c1_3 c1_4 c1_5 z1
  obtain ⟨c3_0, c3_1, c3_2, c3_3, c3_4, c3_5, z3⟩ := S.out.six w.heap.size 23 (.int .i64 (a 0)) (.int .i64 (a 1)) (.int .i64 (a 2)) (.int .i64 (a 3)) (.int .i64 (a 4)) (.int .i64 (a 5)) (List.mem_cons_of_mem _ (List.mem_cons_of_mem _ (List.mem_cons_of_mem _ List.mem_cons_self)))
  go_wp2_with fail
  refine (K5.out _).mono ?_
  rintro e w6 ⟨rfl, hb⟩
  replace S := Bx.mk (S.out.call hb)
  clear hb
  clear c3_0 c3_1 c3_2 c3_3 c3_4 c3_5 z3
  replace S := Bx.mk (S.out.push #[.int .i64 (r 0), .int .i64 (r 1), .int .i64 (r 2), .int .i64 (r 3), .int .i64 (r 4), .int .i64 (r 5)] 23)
  go_wp2_with fail
  go_ret
  exact ⟨rfl, S.out.bl⟩
theorem powers_n_div (a b : Nat → Int) (n d : Int) (w : World) (hg : Gv w) (hn0 : 1 ≤ n) (hn1 : n ≤ 12) (hd : ¬ d = 1) (p q r : Nat → Int) (x : Int) (K1 : Hx (∀ w, Calls Tryz.prog 23 #[PV a, .int .i64 n, .int .i64 d] w (OutV w p 0))) (K2 : Hx (∀ w, Calls Tryz.prog 23 #[PV b, .int .i64 n, .int .i64 d] w (OutV w q 0))) (K3 : Hx (∀ w, Pm w → Calls Tryz.prog 25 #[PV a, PV b] w fun e w' => e = .returned (.tuple #[.int .i64 x, .int .i64 0]) ∧ Below w.heap.size w w')) (K4 : Hx (∀ w, Pm w → Calls Tryz.prog 25 #[PV p, PV q] w fun e w' => e = .returned (.tuple #[.int .i64 x, .int .i64 0]) ∧ Below w.heap.size w w')) (g : Int) (hgz : ¬ g = 0) (K5 : Hx (∀ w, Calls Tryz.prog 23 #[PV a, .int .i64 1, .int .i64 d] w (OutV w r g))) :
    Calls Tryz.prog 7 #[PV a, PV b, .int .i64 n, .int .i64 d] w fun e w' => e = .returned (.bool true) ∧ Below w.heap.size w w' := by
  have S : Bx (LS w w [] []) := ⟨LS.start w hg⟩
  replace S := Bx.mk (S.out.push #[.int .i64 (a 0), .int .i64 (a 1), .int .i64 (a 2), .int .i64 (a 3), .int .i64 (a 4), .int .i64 (a 5)] 23)
  replace S := Bx.mk (S.out.push #[.int .i64 (b 0), .int .i64 (b 1), .int .i64 (b 2), .int .i64 (b 3), .int .i64 (b 4), .int .i64 (b 5)] 23)
  simp only [World.size_alloc] at S
  go_enter Tryz.func7, Tryz.ntmps7
  go_wp2_with fail
  refine (head_any _ S.out.gv).mono ?_
  rintro e w1 ⟨rfl, hb⟩
  replace S := Bx.mk (S.out.call hb)
  clear hb
  obtain ⟨c1_0, c1_1, c1_2, c1_3, c1_4, c1_5, z1⟩ := S.out.six w.heap.size 23 (.int .i64 (a 0)) (.int .i64 (a 1)) (.int .i64 (a 2)) (.int .i64 (a 3)) (.int .i64 (a 4)) (.int .i64 (a 5)) (List.mem_cons_of_mem _ List.mem_cons_self)
  go_wp2_with fail
  refine (K1.out _).mono ?_
  rintro e w2 ⟨rfl, hb⟩
  replace S := Bx.mk (S.out.call hb)
  clear hb
  clear c1_0 c1_1 c1_2 c1_3 c1_4 c1_5 z1
  replace S := Bx.mk (S.out.push #[.int .i64 (p 0), .int .i64 (p 1), .int .i64 (p 2), .int .i64 (p 3), .int .i64 (p 4), .int .i64 (p 5)] 23)
  obtain ⟨c1_0, c1_1, c1_2, c1_3, c1_4, c1_5, z1⟩ := S.out.six (w.heap.size + 1) 23 (.int .i64 (b 0)) (.int .i64 (b 1)) (.int .i64 (b 2)) (.int .i64 (b 3)) (.int .i64 (b 4)) (.int .i64 (b 5)) (List.mem_cons_of_mem _ List.mem_cons_self)
  go_wp2_with fail
  refine (K2.out _).mono ?_
  rintro e w3 ⟨rfl, hb⟩
  replace S := Bx.mk (S.out.call hb)
  clear hb
  clear c1_0 c1_1 c1_2 c1_3 c1_4 c1_5 z1
  replace S := Bx.mk (S.out.push #[.int .i64 (q 0), .int .i64 (q 1), .int .i64 (q 2), .int .i64 (q 3), .int .i64 (q 4), .int .i64 (q 5)] 23)
  obtain ⟨c2_0, c2_1, c2_2, c2_3, c2_4, c2_5, z2⟩ := S.out.six (w.heap.size + 1) 23 (.int .i64 (b 0)) (.int .i64 (b 1)) (.int .i64 (b 2)) (.int .i64 (b 3)) (.int .i64 (b 4)) (.int .i64 (b 5)) (List.mem_cons_of_mem _ (List.mem_cons_of_mem _ List.mem_cons_self))
  obtain ⟨c3_0, c3_1, c3_2, c3_3, c3_4, c3_5, z3⟩ := S.out.six w.heap.size 23 (.int .i64 (a 0)) (.int .i64 (a 1)) (.int .i64 (a 2)) (.int .i64 (a 3)) (.int .i64 (a 4)) (.int .i64 (a 5)) (List.mem_cons_of_mem _ (List.mem_cons_of_mem _ (List.mem_cons_of_mem _ List.mem_cons_self)))
  go_wp2_with fail
  refine (K3.out _ S.out.gv.pm).mono ?_
  rintro e w4 ⟨rfl, hb⟩
  replace S := Bx.mk (S.out.call hb)
  clear hb
  clear c2_0 c2_1 c2_2 c2_3 c2_4 c2_5 z2 c3_0 c3_1 c3_2 c3_3 c3_4 c3_5 z3
  obtain ⟨c0_0, c0_1, c0_2, c0_3, c0_4, c0_5, z0⟩ := S.out.six w3.heap.size 23 (.int .i64 (q 0)) (.int .i64 (q 1)) (.int .i64 (q 2)) (.int .i64 (q 3)) (.int .i64 (q 4)) (.int .i64 (q 5)) List.mem_cons_self
  obtain ⟨c1_0, c1_1, c1_2, c1_3, c1_4, c1_5, z1⟩ := S.out.six w2.heap.size 23 (.int .i64 (p 0)) (.int .i64 (p 1)) (.int .i64 (p 2)) (.int .i64 (p 3)) (.int .i64 (p 4)) (.int .i64 (p 5)) (List.mem_cons_of_mem _ List.mem_cons_self)
  go_wp2_with fail
  refine (K4.out _ S.out.gv.pm).mono ?_
  rintro e w5 ⟨rfl, hb⟩
  replace S := Bx.mk (S.out.call hb)
  clear hb
  clear c0_0 c0_1 c0_2 c0_3 c0_4 c0_5 z0 c1_0 c1_1 c1_2 c1_3 c1_4 c1_5 z1
  obtain ⟨c3_0, c3_1, c3_2, c3_3, c3_4, c3_5, z3⟩ := S.out.six w.heap.size 23 (.int .i64 (a 0)) (.int .i64 (a 1)) (.int .i64 (a 2)) (.int .i64 (a 3)) (.int .i64 (a 4)) (.int .i64 (a 5)) (List.mem_cons_of_mem _ (List.mem_cons_of_mem _ (List.mem_cons_of_mem _ List.mem_cons_self)))
  go_wp2_with fail
  refine (K5.out _).mono ?_
  rintro e w6 ⟨rfl, hb⟩
  replace S := Bx.mk (S.out.call hb)
  clear hb
  clear c3_0 c3_1 c3_2 c3_3 c3_4 c3_5 z3
  replace S := Bx.mk (S.out.push #[.int .i64 (r 0), .int .i64 (r 1), .int .i64 (r 2), .int .i64 (r 3), .int .i64 (r 4), .int .i64 (r 5)] 23)
  have hd1 : (d == 1) = false := beq_eq_false_iff_ne.2 hd
  have hd2 : (d != 1) = true := by rw [bne_iff_ne]; exact hd
  clear hd
  go_wp2_with fail
  go_ret
  exact ⟨rfl, S.out.bl⟩
end Go.Proofs.YtlfngdbpnhaphaaGreatDoor

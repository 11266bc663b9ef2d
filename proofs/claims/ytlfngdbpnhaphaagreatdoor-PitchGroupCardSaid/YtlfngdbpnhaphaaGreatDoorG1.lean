/- PitchGroup, walked. -/
import Derived.Test.YtlfngdbpnhaphaaGreatDoorHD
namespace Go.Proofs.YtlfngdbpnhaphaaGreatDoor
open Go.RowKit M
theorem group_e (a b c : Nat → Int) (w : World) (hg : Gv w) (x y : Nat → Int) (e k : Int) (he : ¬ e = 0) (K1 : Hx (∀ w, Calls Tryz.prog 19 #[PV a, PV b] w (OutV w x e))) (K2 : Hx (∀ w, Calls Tryz.prog 19 #[PV b, PV a] w (OutV w x e))) (K3 : Hx (∀ w, Calls Tryz.prog 19 #[PV b, PV c] w (OutV w y k))) :
    Calls Tryz.prog 4 #[PV a, PV b, PV c] w fun e w' => e = .returned (.bool true) ∧ Below w.heap.size w w' := by
  have S : Bx (LS w w [] []) := ⟨LS.start w hg⟩
  replace S := Bx.mk (S.out.push #[.int .i64 (a 0), .int .i64 (a 1), .int .i64 (a 2), .int .i64 (a 3), .int .i64 (a 4), .int .i64 (a 5)] 23)
  replace S := Bx.mk (S.out.push #[.int .i64 (b 0), .int .i64 (b 1), .int .i64 (b 2), .int .i64 (b 3), .int .i64 (b 4), .int .i64 (b 5)] 23)
  replace S := Bx.mk (S.out.push #[.int .i64 (c 0), .int .i64 (c 1), .int .i64 (c 2), .int .i64 (c 3), .int .i64 (c 4), .int .i64 (c 5)] 23)
  simp only [World.size_alloc] at S
  go_enter Tryz.func4, Tryz.ntmps4
  go_wp2_with fail
  refine (head_any _ S.out.gv).mono ?_
  rintro e w1 ⟨rfl, hb⟩
  replace S := Bx.mk (S.out.call hb)
  clear hb
  obtain ⟨c2_0, c2_1, c2_2, c2_3, c2_4, c2_5, z2⟩ := S.out.six w.heap.size 23 (.int .i64 (a 0)) (.int .i64 (a 1)) (.int .i64 (a 2)) (.int .i64 (a 3)) (.int .i64 (a 4)) (.int .i64 (a 5)) (List.mem_cons_of_mem _ (List.mem_cons_of_mem _ List.mem_cons_self))
  obtain ⟨c1_0, c1_1, c1_2, c1_3, c1_4, c1_5, z1⟩ := S.out.six (w.heap.size + 1) 23 (.int .i64 (b 0)) (.int .i64 (b 1)) (.int .i64 (b 2)) (.int .i64 (b 3)) (.int .i64 (b 4)) (.int .i64 (b 5)) (List.mem_cons_of_mem _ List.mem_cons_self)
  go_wp2_with fail
  refine (K1.out _).mono ?_
  rintro e w2 ⟨rfl, hb⟩
  replace S := Bx.mk (S.out.call hb)
  clear hb
  clear c2_0 c2_1 c2_2 c2_3 c2_4 c2_5 z2 c1_0 c1_1 c1_2 c1_3 c1_4 c1_5 z1
  replace S := Bx.mk (S.out.push #[.int .i64 (x 0), .int .i64 (x 1), .int .i64 (x 2), .int .i64 (x 3), .int .i64 (x 4), .int .i64 (x 5)] 23)
  obtain ⟨c3_0, c3_1, c3_2, c3_3, c3_4, c3_5, z3⟩ := S.out.six w.heap.size 23 (.int .i64 (a 0)) (.int .i64 (a 1)) (.int .i64 (a 2)) (.int .i64 (a 3)) (.int .i64 (a 4)) (.int .i64 (a 5)) (List.mem_cons_of_mem _ (List.mem_cons_of_mem _ (List.mem_cons_of_mem _ List.mem_cons_self)))
  obtain ⟨c2_0, c2_1, c2_2, c2_3, c2_4, c2_5, z2⟩ := S.out.six (w.heap.size + 1) 23 (.int .i64 (b 0)) (.int .i64 (b 1)) (.int .i64 (b 2)) (.int .i64 (b 3)) (.int .i64 (b 4)) (.int .i64 (b 5)) (List.mem_cons_of_mem _ (List.mem_cons_of_mem _ List.mem_cons_self))
  go_wp2_with fail
  refine (K2.out _).mono ?_
  rintro e w3 ⟨rfl, hb⟩
  replace S := Bx.mk (S.out.call hb)
  clear hb
  clear c3_0 c3_1 c3_2 c3_3 c3_4 c3_5 z3 c2_0 c2_1 c2_2 c2_3 c2_4 c2_5 z2
  replace S := Bx.mk (S.out.push #[.int .i64 (x 0), .int .i64 (x 1), .int .i64 (x 2), .int .i64 (x 3), .int .i64 (x 4), .int .i64 (x 5)] 23)
  obtain ⟨c3_0, c3_1, c3_2, c3_3, c3_4, c3_5, z3⟩ := S.out.six (w.heap.size + 1) 23 (.int .i64 (b 0)) (.int .i64 (b 1)) (.int .i64 (b 2)) (.int .i64 (b 3)) (.int .i64 (b 4)) (.int .i64 (b 5)) (List.mem_cons_of_mem _ (List.mem_cons_of_mem _ (List.mem_cons_of_mem _ List.mem_cons_self)))
  obtain ⟨c2_0, c2_1, c2_2, c2_3, c2_4, c2_5, z2⟩ := S.out.six (w.heap.size + 1 + 1) 23 (.int .i64 (c 0)) (.int .i64 (c 1)) (.int .i64 (c 2)) (.int .i64 (c 3)) (.int .i64 (c 4)) (.int .i64 (c 5)) (List.mem_cons_of_mem _ (List.mem_cons_of_mem _ List.mem_cons_self))
  go_wp2_with fail
  refine (K3.out _).mono ?_
  rintro e w4 ⟨rfl, hb⟩
  replace S := Bx.mk (S.out.call hb)
  clear hb
  clear c3_0 c3_1 c3_2 c3_3 c3_4 c3_5 z3 c2_0 c2_1 c2_2 c2_3 c2_4 c2_5 z2
  replace S := Bx.mk (S.out.push #[.int .i64 (y 0), .int .i64 (y 1), .int .i64 (y 2), .int .i64 (y 3), .int .i64 (y 4), .int .i64 (y 5)] 23)
  obtain ⟨c1_0, c1_1, c1_2, c1_3, c1_4, c1_5, z1⟩ := S.out.six w3.heap.size 23 (.int .i64 (x 0)) (.int .i64 (x 1)) (.int .i64 (x 2)) (.int .i64 (x 3)) (.int .i64 (x 4)) (.int .i64 (x 5)) (List.mem_cons_of_mem _ List.mem_cons_self)
  obtain ⟨c2_0, c2_1, c2_2, c2_3, c2_4, c2_5, z2⟩ := S.out.six w2.heap.size 23 (.int .i64 (x 0)) (.int .i64 (x 1)) (.int .i64 (x 2)) (.int .i64 (x 3)) (.int .i64 (x 4)) (.int .i64 (x 5)) (List.mem_cons_of_mem _ (List.mem_cons_of_mem _ List.mem_cons_self))
  have q1 := eq6_same 23 (by kernel_rfl) x
  clear c1_0 c1_1 c1_2 c1_3 c1_4 c1_5 z1 c2_0 c2_1 c2_2 c2_3 c2_4 c2_5 z2
  obtain ⟨c1_0, c1_1, c1_2, c1_3, c1_4, c1_5, z1⟩ := S.out.six w3.heap.size 23 (.int .i64 (x 0)) (.int .i64 (x 1)) (.int .i64 (x 2)) (.int .i64 (x 3)) (.int .i64 (x 4)) (.int .i64 (x 5)) (List.mem_cons_of_mem _ List.mem_cons_self)
  obtain ⟨c2_0, c2_1, c2_2, c2_3, c2_4, c2_5, z2⟩ := S.out.six w2.heap.size 23 (.int .i64 (x 0)) (.int .i64 (x 1)) (.int .i64 (x 2)) (.int .i64 (x 3)) (.int .i64 (x 4)) (.int .i64 (x 5)) (List.mem_cons_of_mem _ (List.mem_cons_of_mem _ List.mem_cons_self))
  go_wp2_with fail
  go_ret
  exact ⟨rfl, S.out.bl⟩
theorem group_g (a b c : Nat → Int) (w : World) (hg : Gv w) (x y : Nat → Int) (e k : Int) (he : e = 0) (hk : ¬ k = 0) (K1 : Hx (∀ w, Calls Tryz.prog 19 #[PV a, PV b] w (OutV w x e))) (K2 : Hx (∀ w, Calls Tryz.prog 19 #[PV b, PV a] w (OutV w x e))) (K3 : Hx (∀ w, Calls Tryz.prog 19 #[PV b, PV c] w (OutV w y k))) :
    Calls Tryz.prog 4 #[PV a, PV b, PV c] w fun e w' => e = .returned (.bool true) ∧ Below w.heap.size w w' := by
  have S : Bx (LS w w [] []) := ⟨LS.start w hg⟩
  replace S := Bx.mk (S.out.push #[.int .i64 (a 0), .int .i64 (a 1), .int .i64 (a 2), .int .i64 (a 3), .int .i64 (a 4), .int .i64 (a 5)] 23)
  replace S := Bx.mk (S.out.push #[.int .i64 (b 0), .int .i64 (b 1), .int .i64 (b 2), .int .i64 (b 3), .int .i64 (b 4), .int .i64 (b 5)] 23)
  replace S := Bx.mk (S.out.push #[.int .i64 (c 0), .int .i64 (c 1), .int .i64 (c 2), .int .i64 (c 3), .int .i64 (c 4), .int .i64 (c 5)] 23)
  simp only [World.size_alloc] at S
  go_enter Tryz.func4, Tryz.ntmps4
  go_wp2_with fail
  refine (head_any _ S.out.gv).mono ?_
  rintro e w1 ⟨rfl, hb⟩
  replace S := Bx.mk (S.out.call hb)
  clear hb
  obtain ⟨c2_0, c2_1, c2_2, c2_3, c2_4, c2_5, z2⟩ := S.out.six w.heap.size 23 (.int .i64 (a 0)) (.int .i64 (a 1)) (.int .i64 (a 2)) (.int .i64 (a 3)) (.int .i64 (a 4)) (.int .i64 (a 5)) (List.mem_cons_of_mem _ (List.mem_cons_of_mem _ List.mem_cons_self))
  obtain ⟨c1_0, c1_1, c1_2, c1_3, c1_4, c1_5, z1⟩ := S.out.six (w.heap.size + 1) 23 (.int .i64 (b 0)) (.int .i64 (b 1)) (.int .i64 (b 2)) (.int .i64 (b 3)) (.int .i64 (b 4)) (.int .i64 (b 5)) (List.mem_cons_of_mem _ List.mem_cons_self)
  go_wp2_with fail
  refine (K1.out _).mono ?_
  rintro e w2 ⟨rfl, hb⟩
  replace S := Bx.mk (S.out.call hb)
  clear hb
  clear c2_0 c2_1 c2_2 c2_3 c2_4 c2_5 z2 c1_0 c1_1 c1_2 c1_3 c1_4 c1_5 z1
  replace S := Bx.mk (S.out.push #[.int .i64 (x 0), .int .i64 (x 1), .int .i64 (x 2), .int .i64 (x 3), .int .i64 (x 4), .int .i64 (x 5)] 23)
  obtain ⟨c3_0, c3_1, c3_2, c3_3, c3_4, c3_5, z3⟩ := S.out.six w.heap.size 23 (.int .i64 (a 0)) (.int .i64 (a 1)) (.int .i64 (a 2)) (.int .i64 (a 3)) (.int .i64 (a 4)) (.int .i64 (a 5)) (List.mem_cons_of_mem _ (List.mem_cons_of_mem _ (List.mem_cons_of_mem _ List.mem_cons_self)))
  obtain ⟨c2_0, c2_1, c2_2, c2_3, c2_4, c2_5, z2⟩ := S.out.six (w.heap.size + 1) 23 (.int .i64 (b 0)) (.int .i64 (b 1)) (.int .i64 (b 2)) (.int .i64 (b 3)) (.int .i64 (b 4)) (.int .i64 (b 5)) (List.mem_cons_of_mem _ (List.mem_cons_of_mem _ List.mem_cons_self))
  go_wp2_with fail
  refine (K2.out _).mono ?_
  rintro e w3 ⟨rfl, hb⟩
  replace S := Bx.mk (S.out.call hb)
  clear hb
  clear c3_0 c3_1 c3_2 c3_3 c3_4 c3_5 z3 c2_0 c2_1 c2_2 c2_3 c2_4 c2_5 z2
  replace S := Bx.mk (S.out.push #[.int .i64 (x 0), .int .i64 (x 1), .int .i64 (x 2), .int .i64 (x 3), .int .i64 (x 4), .int .i64 (x 5)] 23)
  obtain ⟨c3_0, c3_1, c3_2, c3_3, c3_4, c3_5, z3⟩ := S.out.six (w.heap.size + 1) 23 (.int .i64 (b 0)) (.int .i64 (b 1)) (.int .i64 (b 2)) (.int .i64 (b 3)) (.int .i64 (b 4)) (.int .i64 (b 5)) (List.mem_cons_of_mem _ (List.mem_cons_of_mem _ (List.mem_cons_of_mem _ List.mem_cons_self)))
  obtain ⟨c2_0, c2_1, c2_2, c2_3, c2_4, c2_5, z2⟩ := S.out.six (w.heap.size + 1 + 1) 23 (.int .i64 (c 0)) (.int .i64 (c 1)) (.int .i64 (c 2)) (.int .i64 (c 3)) (.int .i64 (c 4)) (.int .i64 (c 5)) (List.mem_cons_of_mem _ (List.mem_cons_of_mem _ List.mem_cons_self))
  go_wp2_with fail
  refine (K3.out _).mono ?_
  rintro e w4 ⟨rfl, hb⟩
  replace S := Bx.mk (S.out.call hb)
  clear hb
  clear c3_0 c3_1 c3_2 c3_3 c3_4 c3_5 z3 c2_0 c2_1 c2_2 c2_3 c2_4 c2_5 z2
  replace S := Bx.mk (S.out.push #[.int .i64 (y 0), .int .i64 (y 1), .int .i64 (y 2), .int .i64 (y 3), .int .i64 (y 4), .int .i64 (y 5)] 23)
  obtain ⟨c1_0, c1_1, c1_2, c1_3, c1_4, c1_5, z1⟩ := S.out.six w3.heap.size 23 (.int .i64 (x 0)) (.int .i64 (x 1)) (.int .i64 (x 2)) (.int .i64 (x 3)) (.int .i64 (x 4)) (.int .i64 (x 5)) (List.mem_cons_of_mem _ List.mem_cons_self)
  obtain ⟨c2_0, c2_1, c2_2, c2_3, c2_4, c2_5, z2⟩ := S.out.six w2.heap.size 23 (.int .i64 (x 0)) (.int .i64 (x 1)) (.int .i64 (x 2)) (.int .i64 (x 3)) (.int .i64 (x 4)) (.int .i64 (x 5)) (List.mem_cons_of_mem _ (List.mem_cons_of_mem _ List.mem_cons_self))
  have q1 := eq6_same 23 (by kernel_rfl) x
  subst he
  clear c1_0 c1_1 c1_2 c1_3 c1_4 c1_5 z1 c2_0 c2_1 c2_2 c2_3 c2_4 c2_5 z2
  obtain ⟨c1_0, c1_1, c1_2, c1_3, c1_4, c1_5, z1⟩ := S.out.six w3.heap.size 23 (.int .i64 (x 0)) (.int .i64 (x 1)) (.int .i64 (x 2)) (.int .i64 (x 3)) (.int .i64 (x 4)) (.int .i64 (x 5)) (List.mem_cons_of_mem _ List.mem_cons_self)
  obtain ⟨c2_0, c2_1, c2_2, c2_3, c2_4, c2_5, z2⟩ := S.out.six w2.heap.size 23 (.int .i64 (x 0)) (.int .i64 (x 1)) (.int .i64 (x 2)) (.int .i64 (x 3)) (.int .i64 (x 4)) (.int .i64 (x 5)) (List.mem_cons_of_mem _ (List.mem_cons_of_mem _ List.mem_cons_self))
  go_wp2_with fail
  go_ret
  exact ⟨rfl, S.out.bl⟩
set_option maxHeartbeats 4000000 in
theorem group_ok (a b c : Nat → Int) (w : World) (hg : Gv w) (x y l : Nat → Int) (k : Int) (K1 : Hx (∀ w, Calls Tryz.prog 19 #[PV a, PV b] w (OutV w x 0))) (K2 : Hx (∀ w, Calls Tryz.prog 19 #[PV b, PV a] w (OutV w x 0))) (K3 : Hx (∀ w, Calls Tryz.prog 19 #[PV b, PV c] w (OutV w y 0))) (K4 : Hx (∀ w, Calls Tryz.prog 19 #[PV x, PV c] w (OutV w l k))) (K5 : Hx (∀ w, Calls Tryz.prog 19 #[PV a, PV y] w (OutV w l k)))
    (K6 : Hx (∀ w, Calls Tryz.prog 19 #[PV a, PV fun _ => 0] w (OutV w a 0))) (K7 : Hx (∀ w, Calls Tryz.prog 21 #[PV x, PV b] w (OutV w a 0))) (K8 : Hx (∀ w, Calls Tryz.prog 21 #[PV a, PV a] w (OutV w (fun _ => 0) 0))) :
    Calls Tryz.prog 4 #[PV a, PV b, PV c] w fun e w' => e = .returned (.bool true) ∧ Below w.heap.size w w' := by
  have S : Bx (LS w w [] []) := ⟨LS.start w hg⟩
  replace S := Bx.mk (S.out.push #[.int .i64 (a 0), .int .i64 (a 1), .int .i64 (a 2), .int .i64 (a 3), .int .i64 (a 4), .int .i64 (a 5)] 23)
  replace S := Bx.mk (S.out.push #[.int .i64 (b 0), .int .i64 (b 1), .int .i64 (b 2), .int .i64 (b 3), .int .i64 (b 4), .int .i64 (b 5)] 23)
  replace S := Bx.mk (S.out.push #[.int .i64 (c 0), .int .i64 (c 1), .int .i64 (c 2), .int .i64 (c 3), .int .i64 (c 4), .int .i64 (c 5)] 23)
  simp only [World.size_alloc] at S
  go_enter Tryz.func4, Tryz.ntmps4
  go_wp2_with fail
  refine (head_any _ S.out.gv).mono ?_
  rintro e w1 ⟨rfl, hb⟩
  replace S := Bx.mk (S.out.call hb)
  clear hb
  obtain ⟨c2_0, c2_1, c2_2, c2_3, c2_4, c2_5, z2⟩ := S.out.six w.heap.size 23 (.int .i64 (a 0)) (.int .i64 (a 1)) (.int .i64 (a 2)) (.int .i64 (a 3)) (.int .i64 (a 4)) (.int .i64 (a 5)) (List.mem_cons_of_mem _ (List.mem_cons_of_mem _ List.mem_cons_self))
  obtain ⟨c1_0, c1_1, c1_2, c1_3, c1_4, c1_5, z1⟩ := S.out.six (w.heap.size + 1) 23 (.int .i64 (b 0)) (.int .i64 (b 1)) (.int .i64 (b 2)) (.int .i64 (b 3)) (.int .i64 (b 4)) (.int .i64 (b 5)) (List.mem_cons_of_mem _ List.mem_cons_self)
  go_wp2_with fail
  refine (K1.out _).mono ?_
  rintro e w2 ⟨rfl, hb⟩
  replace S := Bx.mk (S.out.call hb)
  clear hb
  clear c2_0 c2_1 c2_2 c2_3 c2_4 c2_5 z2 c1_0 c1_1 c1_2 c1_3 c1_4 c1_5 z1
  replace S := Bx.mk (S.out.push #[.int .i64 (x 0), .int .i64 (x 1), .int .i64 (x 2), .int .i64 (x 3), .int .i64 (x 4), .int .i64 (x 5)] 23)
  obtain ⟨c3_0, c3_1, c3_2, c3_3, c3_4, c3_5, z3⟩ := S.out.six w.heap.size 23 (.int .i64 (a 0)) (.int .i64 (a 1)) (.int .i64 (a 2)) (.int .i64 (a 3)) (.int .i64 (a 4)) (.int .i64 (a 5)) (List.mem_cons_of_mem _ (List.mem_cons_of_mem _ (List.mem_cons_of_mem _ List.mem_cons_self)))
  obtain ⟨c2_0, c2_1, c2_2, c2_3, c2_4, c2_5, z2⟩ := S.out.six (w.heap.size + 1) 23 (.int .i64 (b 0)) (.int .i64 (b 1)) (.int .i64 (b 2)) (.int .i64 (b 3)) (.int .i64 (b 4)) (.int .i64 (b 5)) (List.mem_cons_of_mem _ (List.mem_cons_of_mem _ List.mem_cons_self))
  go_wp2_with fail
  refine (K2.out _).mono ?_
  rintro e w3 ⟨rfl, hb⟩
  replace S := Bx.mk (S.out.call hb)
  clear hb
  clear c3_0 c3_1 c3_2 c3_3 c3_4 c3_5 z3 c2_0 c2_1 c2_2 c2_3 c2_4 c2_5 z2
  replace S := Bx.mk (S.out.push #[.int .i64 (x 0), .int .i64 (x 1), .int .i64 (x 2), .int .i64 (x 3), .int .i64 (x 4), .int .i64 (x 5)] 23)
  obtain ⟨c3_0, c3_1, c3_2, c3_3, c3_4, c3_5, z3⟩ := S.out.six (w.heap.size + 1) 23 (.int .i64 (b 0)) (.int .i64 (b 1)) (.int .i64 (b 2)) (.int .i64 (b 3)) (.int .i64 (b 4)) (.int .i64 (b 5)) (List.mem_cons_of_mem _ (List.mem_cons_of_mem _ (List.mem_cons_of_mem _ List.mem_cons_self)))
  obtain ⟨c2_0, c2_1, c2_2, c2_3, c2_4, c2_5, z2⟩ := S.out.six (w.heap.size + 1 + 1) 23 (.int .i64 (c 0)) (.int .i64 (c 1)) (.int .i64 (c 2)) (.int .i64 (c 3)) (.int .i64 (c 4)) (.int .i64 (c 5)) (List.mem_cons_of_mem _ (List.mem_cons_of_mem _ List.mem_cons_self))
  go_wp2_with fail
  refine (K3.out _).mono ?_
  rintro e w4 ⟨rfl, hb⟩
  replace S := Bx.mk (S.out.call hb)
  clear hb
  clear c3_0 c3_1 c3_2 c3_3 c3_4 c3_5 z3 c2_0 c2_1 c2_2 c2_3 c2_4 c2_5 z2
  replace S := Bx.mk (S.out.push #[.int .i64 (y 0), .int .i64 (y 1), .int .i64 (y 2), .int .i64 (y 3), .int .i64 (y 4), .int .i64 (y 5)] 23)
  have q1 := eq6_same 23 (by kernel_rfl) x
  obtain ⟨c1_0, c1_1, c1_2, c1_3, c1_4, c1_5, z1⟩ := S.out.six w3.heap.size 23 (.int .i64 (x 0)) (.int .i64 (x 1)) (.int .i64 (x 2)) (.int .i64 (x 3)) (.int .i64 (x 4)) (.int .i64 (x 5)) (List.mem_cons_of_mem _ List.mem_cons_self)
  obtain ⟨c2_0, c2_1, c2_2, c2_3, c2_4, c2_5, z2⟩ := S.out.six w2.heap.size 23 (.int .i64 (x 0)) (.int .i64 (x 1)) (.int .i64 (x 2)) (.int .i64 (x 3)) (.int .i64 (x 4)) (.int .i64 (x 5)) (List.mem_cons_of_mem _ (List.mem_cons_of_mem _ List.mem_cons_self))
  clear c1_0 c1_1 c1_2 c1_3 c1_4 c1_5 z1 c2_0 c2_1 c2_2 c2_3 c2_4 c2_5 z2
  obtain ⟨c1_0, c1_1, c1_2, c1_3, c1_4, c1_5, z1⟩ := S.out.six w3.heap.size 23 (.int .i64 (x 0)) (.int .i64 (x 1)) (.int .i64 (x 2)) (.int .i64 (x 3)) (.int .i64 (x 4)) (.int .i64 (x 5)) (List.mem_cons_of_mem _ List.mem_cons_self)
  obtain ⟨c2_0, c2_1, c2_2, c2_3, c2_4, c2_5, z2⟩ := S.out.six w2.heap.size 23 (.int .i64 (x 0)) (.int .i64 (x 1)) (.int .i64 (x 2)) (.int .i64 (x 3)) (.int .i64 (x 4)) (.int .i64 (x 5)) (List.mem_cons_of_mem _ (List.mem_cons_of_mem _ List.mem_cons_self))
  obtain ⟨c3_0, c3_1, c3_2, c3_3, c3_4, c3_5, z3⟩ := S.out.six (w.heap.size + 1 + 1) 23 (.int .i64 (c 0)) (.int .i64 (c 1)) (.int .i64 (c 2)) (.int .i64 (c 3)) (.int .i64 (c 4)) (.int .i64 (c 5)) (List.mem_cons_of_mem _ (List.mem_cons_of_mem _ (List.mem_cons_of_mem _ List.mem_cons_self)))
  go_wp2_with fail
  refine (K4.out _).mono ?_
  rintro e w5 ⟨rfl, hb⟩
  replace S := Bx.mk (S.out.call hb)
  clear hb
  clear c1_0 c1_1 c1_2 c1_3 c1_4 c1_5 z1 c2_0 c2_1 c2_2 c2_3 c2_4 c2_5 z2 c3_0 c3_1 c3_2 c3_3 c3_4 c3_5 z3
  replace S := Bx.mk (S.out.push #[.int .i64 (l 0), .int .i64 (l 1), .int .i64 (l 2), .int .i64 (l 3), .int .i64 (l 4), .int .i64 (l 5)] 23)
  obtain ⟨c6_0, c6_1, c6_2, c6_3, c6_4, c6_5, z6⟩ := S.out.six w.heap.size 23 (.int .i64 (a 0)) (.int .i64 (a 1)) (.int .i64 (a 2)) (.int .i64 (a 3)) (.int .i64 (a 4)) (.int .i64 (a 5)) (List.mem_cons_of_mem _ (List.mem_cons_of_mem _ (List.mem_cons_of_mem _ (List.mem_cons_of_mem _ (List.mem_cons_of_mem _ (List.mem_cons_of_mem _ List.mem_cons_self))))))
  obtain ⟨c1_0, c1_1, c1_2, c1_3, c1_4, c1_5, z1⟩ := S.out.six w4.heap.size 23 (.int .i64 (y 0)) (.int .i64 (y 1)) (.int .i64 (y 2)) (.int .i64 (y 3)) (.int .i64 (y 4)) (.int .i64 (y 5)) (List.mem_cons_of_mem _ List.mem_cons_self)
  go_wp2_with fail
  refine (K5.out _).mono ?_
  rintro e w6 ⟨rfl, hb⟩
  replace S := Bx.mk (S.out.call hb)
  clear hb
  clear c6_0 c6_1 c6_2 c6_3 c6_4 c6_5 z6 c1_0 c1_1 c1_2 c1_3 c1_4 c1_5 z1
  replace S := Bx.mk (S.out.push #[.int .i64 (l 0), .int .i64 (l 1), .int .i64 (l 2), .int .i64 (l 3), .int .i64 (l 4), .int .i64 (l 5)] 23)
  obtain ⟨c7_0, c7_1, c7_2, c7_3, c7_4, c7_5, z7⟩ := S.out.six w.heap.size 23 (.int .i64 (a 0)) (.int .i64 (a 1)) (.int .i64 (a 2)) (.int .i64 (a 3)) (.int .i64 (a 4)) (.int .i64 (a 5)) (List.mem_cons_of_mem _ (List.mem_cons_of_mem _ (List.mem_cons_of_mem _ (List.mem_cons_of_mem _ (List.mem_cons_of_mem _ (List.mem_cons_of_mem _ (List.mem_cons_of_mem _ List.mem_cons_self)))))))
  go_wp2_with fail
  refine (K6.out _).mono ?_
  rintro e w7 ⟨rfl, hb⟩
  replace S := Bx.mk (S.out.call hb)
  clear hb
  clear c7_0 c7_1 c7_2 c7_3 c7_4 c7_5 z7
  replace S := Bx.mk (S.out.push #[.int .i64 (a 0), .int .i64 (a 1), .int .i64 (a 2), .int .i64 (a 3), .int .i64 (a 4), .int .i64 (a 5)] 23)
  obtain ⟨c5_0, c5_1, c5_2, c5_3, c5_4, c5_5, z5⟩ := S.out.six w2.heap.size 23 (.int .i64 (x 0)) (.int .i64 (x 1)) (.int .i64 (x 2)) (.int .i64 (x 3)) (.int .i64 (x 4)) (.int .i64 (x 5)) (List.mem_cons_of_mem _ (List.mem_cons_of_mem _ (List.mem_cons_of_mem _ (List.mem_cons_of_mem _ (List.mem_cons_of_mem _ List.mem_cons_self)))))
  obtain ⟨c7_0, c7_1, c7_2, c7_3, c7_4, c7_5, z7⟩ := S.out.six (w.heap.size + 1) 23 (.int .i64 (b 0)) (.int .i64 (b 1)) (.int .i64 (b 2)) (.int .i64 (b 3)) (.int .i64 (b 4)) (.int .i64 (b 5)) (List.mem_cons_of_mem _ (List.mem_cons_of_mem _ (List.mem_cons_of_mem _ (List.mem_cons_of_mem _ (List.mem_cons_of_mem _ (List.mem_cons_of_mem _ (List.mem_cons_of_mem _ List.mem_cons_self)))))))
  go_wp2_with fail
  refine (K7.out _).mono ?_
  rintro e w8 ⟨rfl, hb⟩
  replace S := Bx.mk (S.out.call hb)
  clear hb
  clear c5_0 c5_1 c5_2 c5_3 c5_4 c5_5 z5 c7_0 c7_1 c7_2 c7_3 c7_4 c7_5 z7
  replace S := Bx.mk (S.out.push #[.int .i64 (a 0), .int .i64 (a 1), .int .i64 (a 2), .int .i64 (a 3), .int .i64 (a 4), .int .i64 (a 5)] 23)
  obtain ⟨c9_0, c9_1, c9_2, c9_3, c9_4, c9_5, z9⟩ := S.out.six w.heap.size 23 (.int .i64 (a 0)) (.int .i64 (a 1)) (.int .i64 (a 2)) (.int .i64 (a 3)) (.int .i64 (a 4)) (.int .i64 (a 5)) (List.mem_cons_of_mem _ (List.mem_cons_of_mem _ (List.mem_cons_of_mem _ (List.mem_cons_of_mem _ (List.mem_cons_of_mem _ (List.mem_cons_of_mem _ (List.mem_cons_of_mem _ (List.mem_cons_of_mem _ (List.mem_cons_of_mem _ List.mem_cons_self)))))))))
  go_wp2_with fail
  refine (K8.out _).mono ?_
  rintro e w9 ⟨rfl, hb⟩
  replace S := Bx.mk (S.out.call hb)
  clear hb
  clear c9_0 c9_1 c9_2 c9_3 c9_4 c9_5 z9
  replace S := Bx.mk (S.out.push #[.int .i64 0, .int .i64 0, .int .i64 0, .int .i64 0, .int .i64 0, .int .i64 0] 23)
  have q2 := eq6_same 23 (by kernel_rfl) l
  have q3 := eq6_same 23 (by kernel_rfl) a
  have q4 := eq6_same 23 (by kernel_rfl) (fun _ => 0)
  obtain ⟨c0_0, c0_1, c0_2, c0_3, c0_4, c0_5, z0⟩ := S.out.six w9.heap.size 23 (.int .i64 0) (.int .i64 0) (.int .i64 0) (.int .i64 0) (.int .i64 0) (.int .i64 0) List.mem_cons_self
  obtain ⟨c1_0, c1_1, c1_2, c1_3, c1_4, c1_5, z1⟩ := S.out.six w8.heap.size 23 (.int .i64 (a 0)) (.int .i64 (a 1)) (.int .i64 (a 2)) (.int .i64 (a 3)) (.int .i64 (a 4)) (.int .i64 (a 5)) (List.mem_cons_of_mem _ List.mem_cons_self)
  obtain ⟨c2_0, c2_1, c2_2, c2_3, c2_4, c2_5, z2⟩ := S.out.six w7.heap.size 23 (.int .i64 (a 0)) (.int .i64 (a 1)) (.int .i64 (a 2)) (.int .i64 (a 3)) (.int .i64 (a 4)) (.int .i64 (a 5)) (List.mem_cons_of_mem _ (List.mem_cons_of_mem _ List.mem_cons_self))
  obtain ⟨c3_0, c3_1, c3_2, c3_3, c3_4, c3_5, z3⟩ := S.out.six w6.heap.size 23 (.int .i64 (l 0)) (.int .i64 (l 1)) (.int .i64 (l 2)) (.int .i64 (l 3)) (.int .i64 (l 4)) (.int .i64 (l 5)) (List.mem_cons_of_mem _ (List.mem_cons_of_mem _ (List.mem_cons_of_mem _ List.mem_cons_self)))
  obtain ⟨c4_0, c4_1, c4_2, c4_3, c4_4, c4_5, z4⟩ := S.out.six w5.heap.size 23 (.int .i64 (l 0)) (.int .i64 (l 1)) (.int .i64 (l 2)) (.int .i64 (l 3)) (.int .i64 (l 4)) (.int .i64 (l 5)) (List.mem_cons_of_mem _ (List.mem_cons_of_mem _ (List.mem_cons_of_mem _ (List.mem_cons_of_mem _ List.mem_cons_self))))
  obtain ⟨c10_0, c10_1, c10_2, c10_3, c10_4, c10_5, z10⟩ := S.out.six w.heap.size 23 (.int .i64 (a 0)) (.int .i64 (a 1)) (.int .i64 (a 2)) (.int .i64 (a 3)) (.int .i64 (a 4)) (.int .i64 (a 5)) (List.mem_cons_of_mem _ (List.mem_cons_of_mem _ (List.mem_cons_of_mem _ (List.mem_cons_of_mem _ (List.mem_cons_of_mem _ (List.mem_cons_of_mem _ (List.mem_cons_of_mem _ (List.mem_cons_of_mem _ (List.mem_cons_of_mem _ (List.mem_cons_of_mem _ List.mem_cons_self))))))))))
  go_wp2_with fail
  go_ret
  exact ⟨rfl, S.out.bl⟩
theorem group_all (a b c : Nat → Int) (w : World) (hg : Gv w) :
    Calls Tryz.prog 4 #[PV a, PV b, PV c] w fun e w' => e = .returned (.bool true) ∧ Below w.heap.size w w' := by
  obtain ⟨c1, c2⟩ := com_comm a b
  obtain ⟨x, hx⟩ : ∃ x, comV a b 1 = x := ⟨_, rfl⟩
  obtain ⟨e, he⟩ : ∃ e, comE a b 1 = e := ⟨_, rfl⟩
  obtain ⟨y, hy⟩ : ∃ y, comV b c 1 = y := ⟨_, rfl⟩
  obtain ⟨k, hk⟩ : ∃ k, comE b c 1 = k := ⟨_, rfl⟩
  have K1 := Hx.mk fun w => pmul_any a b x e w hx he
  have K2 := Hx.mk fun w => pmul_any b a x e w (c1.trans hx) (c2.trans he)
  have K3 := Hx.mk fun w => pmul_any b c y k w hy hk
  by_cases e0 : e = 0
  · by_cases k0 : k = 0
    · subst e0; subst k0
      obtain ⟨va, vb, vx, ex⟩ := com_ok he
      obtain ⟨_, vc, vy, ey⟩ := com_ok hk
      rw [ex] at hx
      rw [ey] at hy
      subst hx
      subst hy
      obtain ⟨l1, l2⟩ := com_chk (a := fun i => a i + 1 * b i) (b := c) (n := 1) (r := fun i => a i + b i + c i) vx vc fun i => by omega
      obtain ⟨r1, r2⟩ := com_chk (a := a) (b := fun i => b i + 1 * c i) (n := 1) (r := fun i => a i + b i + c i) va vy fun i => by omega
      obtain ⟨s1, s2⟩ := com_of (a := a) (b := fun _ => 0) (n := 1) (r := a) va (zero_ok 576 (by omega)) va fun i => by omega
      obtain ⟨t1, t2⟩ := com_of (a := fun i => a i + 1 * b i) (b := b) (n := -1) (r := a) vx vb va fun i => by omega
      obtain ⟨u1, u2⟩ := com_of (a := a) (b := a) (n := -1) (r := fun _ => 0) va va (zero_ok 576 (by omega)) fun i => by omega
      exact group_ok a b c w hg _ _ _ _ K1 K2 K3 ⟨fun w => pmul_any _ c _ _ w l1 l2⟩ ⟨fun w => pmul_any a _ _ _ w r1 r2⟩ ⟨fun w => pmul_any a _ _ _ w s1 s2⟩ ⟨fun w => pdiv_any _ b _ _ w t1 t2⟩ ⟨fun w => pdiv_any a a _ _ w u1 u2⟩
    · exact group_g a b c w hg x y e k e0 k0 K1 K2 K3
  · exact group_e a b c w hg x y e k e0 K1 K2 K3
end Go.Proofs.YtlfngdbpnhaphaaGreatDoor

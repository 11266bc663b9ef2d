/- PitchFractions, walked. -/
import Derived.Test.YtlfngdbpnhaphaaGreatDoorFCA
namespace Go.Proofs.YtlfngdbpnhaphaaGreatDoor
open Go.RowKit M
set_option maxHeartbeats 2000000 in
set_option maxRecDepth 20000 in
theorem fr_nyy (s t : Nat → Int) (w : World) (hg : Gv w) (n d : Int) (u : Nat → Int) (c : Int) (hc : ¬ c = 0) (K1 : Hx (∀ w, Pm w → Calls Tryz.prog 27 #[.int .i64 n, .int .i64 d] w (OutV w u c))) (A B C D : Nat) (x : Int) (p q : Nat → Int) (FC : Hx (Fits (A * D))) (FD : Hx (Fits (C * B))) (HX : Hx (cmpI ((A * D : Nat) : Int) ((C * B : Nat) : Int) = x)) (K3 : Hx (∀ w, Pm w → Calls Tryz.prog 29 #[PV s] w fun e w' => ∃ a b, e = .returned (.tuple #[a, b, .int .i64 0]) ∧ Nm w' a A ∧ Nm w' b B ∧ Below w.heap.size w w')) (K4 : Hx (∀ w, Pm w → Calls Tryz.prog 29 #[PV t] w fun e w' => ∃ a b, e = .returned (.tuple #[a, b, .int .i64 0]) ∧ Nm w' a C ∧ Nm w' b D ∧ Below w.heap.size w w')) (K5 : Hx (∀ w, Calls Tryz.prog 15 #[PV s] w (OutV w p 0))) (K6 : Hx (∀ w, Calls Tryz.prog 15 #[PV t] w (OutV w q 0))) (K7 : Hx (∀ w, Pm w → Calls Tryz.prog 25 #[PV p, PV q] w fun e w' => e = .returned (.tuple #[.int .i64 x, .int .i64 0]) ∧ Below w.heap.size w w')) :
    Calls Tryz.prog 8 #[PV s, PV t, .int .i64 n, .int .i64 d] w fun e w' => e = .returned (.bool true) ∧ Below w.heap.size w w' := by
  have S : Bx (LS w w [] []) := ⟨LS.start w hg⟩
  replace S := Bx.mk (S.out.push #[.int .i64 (s 0), .int .i64 (s 1), .int .i64 (s 2), .int .i64 (s 3), .int .i64 (s 4), .int .i64 (s 5)] 24)
  replace S := Bx.mk (S.out.push #[.int .i64 (t 0), .int .i64 (t 1), .int .i64 (t 2), .int .i64 (t 3), .int .i64 (t 4), .int .i64 (t 5)] 24)
  simp only [World.size_alloc] at S
  go_enter Tryz.func8, Tryz.ntmps8
  go_wp2_with fail
  refine (head_any _ S.out.gv).mono ?_
  rintro e w1 ⟨rfl, hb⟩
  replace S := Bx.mk (S.out.call hb)
  clear hb
  go_wp2_with fail
  refine (K1.out _ S.out.gv.pm).mono ?_
  rintro e w2 ⟨rfl, hb⟩
  replace S := Bx.mk (S.out.call hb)
  clear hb
  replace S := Bx.mk (S.out.push #[.int .i64 (u 0), .int .i64 (u 1), .int .i64 (u 2), .int .i64 (u 3), .int .i64 (u 4), .int .i64 (u 5)] 24)
  obtain ⟨c2_0, c2_1, c2_2, c2_3, c2_4, c2_5, z2⟩ := S.out.six w.heap.size 24 (.int .i64 (s 0)) (.int .i64 (s 1)) (.int .i64 (s 2)) (.int .i64 (s 3)) (.int .i64 (s 4)) (.int .i64 (s 5)) (List.mem_cons_of_mem _ (List.mem_cons_of_mem _ List.mem_cons_self))
  go_wp2_with fail
  refine (K3.out _ S.out.gv.pm).mono ?_
  rintro e w3 ⟨va, vb, rfl, na, nb, hb⟩
  replace S := Bx.mk (((S.out.call hb).num na).num nb)
  clear na nb hb
  clear c2_0 c2_1 c2_2 c2_3 c2_4 c2_5 z2
  obtain ⟨c1_0, c1_1, c1_2, c1_3, c1_4, c1_5, z1⟩ := S.out.six (w.heap.size + 1) 24 (.int .i64 (t 0)) (.int .i64 (t 1)) (.int .i64 (t 2)) (.int .i64 (t 3)) (.int .i64 (t 4)) (.int .i64 (t 5)) (List.mem_cons_of_mem _ List.mem_cons_self)
  go_wp2_with fail
  refine (K4.out _ S.out.gv.pm).mono ?_
  rintro e w4 ⟨vc, vk, rfl, na, nb, hb⟩
  replace S := Bx.mk (((S.out.call hb).num na).num nb)
  clear na nb hb
  clear c1_0 c1_1 c1_2 c1_3 c1_4 c1_5 z1
  go_wp2_with fail
  refine (mul_ok S.out.nm (List.mem_cons_of_mem _ (List.mem_cons_of_mem _ (List.mem_cons_of_mem _ List.mem_cons_self))) List.mem_cons_self FC.out).mono ?_
  rintro e w5 ⟨vx, rfl, hl, hb⟩
  replace S := Bx.mk (S.out.live hl hb)
  clear hl hb
  go_wp2_with fail
  refine (mul_ok S.out.nm (List.mem_cons_of_mem _ (List.mem_cons_of_mem _ List.mem_cons_self)) (List.mem_cons_of_mem _ (List.mem_cons_of_mem _ (List.mem_cons_of_mem _ List.mem_cons_self))) FD.out).mono ?_
  rintro e w6 ⟨vy, rfl, hl, hb⟩
  replace S := Bx.mk (S.out.live hl hb)
  clear hl hb
  go_wp2_with fail
  refine (cmp_is HX.out S.out.nm (List.mem_cons_of_mem _ List.mem_cons_self) List.mem_cons_self).mono ?_
  rintro e w7 ⟨rfl, hl, hb⟩
  replace S := Bx.mk (S.out.live hl hb)
  clear hl hb
  obtain ⟨c2_0, c2_1, c2_2, c2_3, c2_4, c2_5, z2⟩ := S.out.six w.heap.size 24 (.int .i64 (s 0)) (.int .i64 (s 1)) (.int .i64 (s 2)) (.int .i64 (s 3)) (.int .i64 (s 4)) (.int .i64 (s 5)) (List.mem_cons_of_mem _ (List.mem_cons_of_mem _ List.mem_cons_self))
  go_wp2_with fail
  refine (K5.out _).mono ?_
  rintro e w8 ⟨rfl, hb⟩
  replace S := Bx.mk (S.out.call hb)
  clear hb
  clear c2_0 c2_1 c2_2 c2_3 c2_4 c2_5 z2
  replace S := Bx.mk (S.out.push #[.int .i64 (p 0), .int .i64 (p 1), .int .i64 (p 2), .int .i64 (p 3), .int .i64 (p 4), .int .i64 (p 5)] 23)
  obtain ⟨c2_0, c2_1, c2_2, c2_3, c2_4, c2_5, z2⟩ := S.out.six (w.heap.size + 1) 24 (.int .i64 (t 0)) (.int .i64 (t 1)) (.int .i64 (t 2)) (.int .i64 (t 3)) (.int .i64 (t 4)) (.int .i64 (t 5)) (List.mem_cons_of_mem _ (List.mem_cons_of_mem _ List.mem_cons_self))
  go_wp2_with fail
  refine (K6.out _).mono ?_
  rintro e w9 ⟨rfl, hb⟩
  replace S := Bx.mk (S.out.call hb)
  clear hb
  clear c2_0 c2_1 c2_2 c2_3 c2_4 c2_5 z2
  replace S := Bx.mk (S.out.push #[.int .i64 (q 0), .int .i64 (q 1), .int .i64 (q 2), .int .i64 (q 3), .int .i64 (q 4), .int .i64 (q 5)] 23)
  obtain ⟨c0_0, c0_1, c0_2, c0_3, c0_4, c0_5, z0⟩ := S.out.six w9.heap.size 23 (.int .i64 (q 0)) (.int .i64 (q 1)) (.int .i64 (q 2)) (.int .i64 (q 3)) (.int .i64 (q 4)) (.int .i64 (q 5)) List.mem_cons_self
  obtain ⟨c1_0, c1_1, c1_2, c1_3, c1_4, c1_5, z1⟩ := S.out.six w8.heap.size 23 (.int .i64 (p 0)) (.int .i64 (p 1)) (.int .i64 (p 2)) (.int .i64 (p 3)) (.int .i64 (p 4)) (.int .i64 (p 5)) (List.mem_cons_of_mem _ List.mem_cons_self)
  go_wp2_with fail
  refine (K7.out _ S.out.gv.pm).mono ?_
  rintro e w10 ⟨rfl, hb⟩
  replace S := Bx.mk (S.out.call hb)
  clear hb
  clear c0_0 c0_1 c0_2 c0_3 c0_4 c0_5 z0 c1_0 c1_1 c1_2 c1_3 c1_4 c1_5 z1
  go_wp2_with fail
  go_ret
  exact ⟨rfl, S.out.bl⟩
set_option maxHeartbeats 2000000 in
set_option maxRecDepth 20000 in
theorem fr_nyn (s t : Nat → Int) (w : World) (hg : Gv w) (n d : Int) (u : Nat → Int) (c : Int) (hc : ¬ c = 0) (K1 : Hx (∀ w, Pm w → Calls Tryz.prog 27 #[.int .i64 n, .int .i64 d] w (OutV w u c))) (A B : Nat) (K3 : Hx (∀ w, Pm w → Calls Tryz.prog 29 #[PV s] w fun e w' => ∃ a b, e = .returned (.tuple #[a, b, .int .i64 0]) ∧ Nm w' a A ∧ Nm w' b B ∧ Below w.heap.size w w')) (K4 : Hx (∀ w, Calls Tryz.prog 29 #[PV t] w fun e w' => e = .returned (.tuple #[.slice none 0 0, .slice none 0 0, .int .i64 1]) ∧ Below w.heap.size w w')) (K5 : Hx (∀ w, Calls Tryz.prog 14 #[PV s] w fun e w' => e = .returned (.bool true) ∧ Below w.heap.size w w')) (K6 : Hx (∀ w, Calls Tryz.prog 14 #[PV t] w fun e w' => e = .returned (.bool false) ∧ Below w.heap.size w w')) :
    Calls Tryz.prog 8 #[PV s, PV t, .int .i64 n, .int .i64 d] w fun e w' => e = .returned (.bool true) ∧ Below w.heap.size w w' := by
  have S : Bx (LS w w [] []) := ⟨LS.start w hg⟩
  replace S := Bx.mk (S.out.push #[.int .i64 (s 0), .int .i64 (s 1), .int .i64 (s 2), .int .i64 (s 3), .int .i64 (s 4), .int .i64 (s 5)] 24)
  replace S := Bx.mk (S.out.push #[.int .i64 (t 0), .int .i64 (t 1), .int .i64 (t 2), .int .i64 (t 3), .int .i64 (t 4), .int .i64 (t 5)] 24)
  simp only [World.size_alloc] at S
  go_enter Tryz.func8, Tryz.ntmps8
  go_wp2_with fail
  refine (head_any _ S.out.gv).mono ?_
  rintro e w1 ⟨rfl, hb⟩
  replace S := Bx.mk (S.out.call hb)
  clear hb
  go_wp2_with fail
  refine (K1.out _ S.out.gv.pm).mono ?_
  rintro e w2 ⟨rfl, hb⟩
  replace S := Bx.mk (S.out.call hb)
  clear hb
  replace S := Bx.mk (S.out.push #[.int .i64 (u 0), .int .i64 (u 1), .int .i64 (u 2), .int .i64 (u 3), .int .i64 (u 4), .int .i64 (u 5)] 24)
  obtain ⟨c2_0, c2_1, c2_2, c2_3, c2_4, c2_5, z2⟩ := S.out.six w.heap.size 24 (.int .i64 (s 0)) (.int .i64 (s 1)) (.int .i64 (s 2)) (.int .i64 (s 3)) (.int .i64 (s 4)) (.int .i64 (s 5)) (List.mem_cons_of_mem _ (List.mem_cons_of_mem _ List.mem_cons_self))
  go_wp2_with fail
  refine (K3.out _ S.out.gv.pm).mono ?_
  rintro e w3 ⟨va, vb, rfl, na, nb, hb⟩
  replace S := Bx.mk (((S.out.call hb).num na).num nb)
  clear na nb hb
  clear c2_0 c2_1 c2_2 c2_3 c2_4 c2_5 z2
  obtain ⟨c1_0, c1_1, c1_2, c1_3, c1_4, c1_5, z1⟩ := S.out.six (w.heap.size + 1) 24 (.int .i64 (t 0)) (.int .i64 (t 1)) (.int .i64 (t 2)) (.int .i64 (t 3)) (.int .i64 (t 4)) (.int .i64 (t 5)) (List.mem_cons_of_mem _ List.mem_cons_self)
  go_wp2_with fail
  refine (K4.out _).mono ?_
  rintro e w4 ⟨rfl, hb⟩
  replace S := Bx.mk (S.out.call hb)
  clear hb
  clear c1_0 c1_1 c1_2 c1_3 c1_4 c1_5 z1
  obtain ⟨c2_0, c2_1, c2_2, c2_3, c2_4, c2_5, z2⟩ := S.out.six w.heap.size 24 (.int .i64 (s 0)) (.int .i64 (s 1)) (.int .i64 (s 2)) (.int .i64 (s 3)) (.int .i64 (s 4)) (.int .i64 (s 5)) (List.mem_cons_of_mem _ (List.mem_cons_of_mem _ List.mem_cons_self))
  go_wp2_with fail
  refine (K5.out _).mono ?_
  rintro e w5 ⟨rfl, hb⟩
  replace S := Bx.mk (S.out.call hb)
  clear hb
  clear c2_0 c2_1 c2_2 c2_3 c2_4 c2_5 z2
  obtain ⟨c1_0, c1_1, c1_2, c1_3, c1_4, c1_5, z1⟩ := S.out.six (w.heap.size + 1) 24 (.int .i64 (t 0)) (.int .i64 (t 1)) (.int .i64 (t 2)) (.int .i64 (t 3)) (.int .i64 (t 4)) (.int .i64 (t 5)) (List.mem_cons_of_mem _ List.mem_cons_self)
  go_wp2_with fail
  refine (K6.out _).mono ?_
  rintro e w6 ⟨rfl, hb⟩
  replace S := Bx.mk (S.out.call hb)
  clear hb
  clear c1_0 c1_1 c1_2 c1_3 c1_4 c1_5 z1
  go_wp2_with fail
  go_ret
  exact ⟨rfl, S.out.bl⟩
set_option maxHeartbeats 2000000 in
set_option maxRecDepth 20000 in
theorem fr_nny (s t : Nat → Int) (w : World) (hg : Gv w) (n d : Int) (u : Nat → Int) (c : Int) (hc : ¬ c = 0) (K1 : Hx (∀ w, Pm w → Calls Tryz.prog 27 #[.int .i64 n, .int .i64 d] w (OutV w u c))) (C D : Nat) (K3 : Hx (∀ w, Calls Tryz.prog 29 #[PV s] w fun e w' => e = .returned (.tuple #[.slice none 0 0, .slice none 0 0, .int .i64 1]) ∧ Below w.heap.size w w')) (K4 : Hx (∀ w, Pm w → Calls Tryz.prog 29 #[PV t] w fun e w' => ∃ a b, e = .returned (.tuple #[a, b, .int .i64 0]) ∧ Nm w' a C ∧ Nm w' b D ∧ Below w.heap.size w w')) (K5 : Hx (∀ w, Calls Tryz.prog 14 #[PV s] w fun e w' => e = .returned (.bool false) ∧ Below w.heap.size w w')) :
    Calls Tryz.prog 8 #[PV s, PV t, .int .i64 n, .int .i64 d] w fun e w' => e = .returned (.bool true) ∧ Below w.heap.size w w' := by
  have S : Bx (LS w w [] []) := ⟨LS.start w hg⟩
  replace S := Bx.mk (S.out.push #[.int .i64 (s 0), .int .i64 (s 1), .int .i64 (s 2), .int .i64 (s 3), .int .i64 (s 4), .int .i64 (s 5)] 24)
  replace S := Bx.mk (S.out.push #[.int .i64 (t 0), .int .i64 (t 1), .int .i64 (t 2), .int .i64 (t 3), .int .i64 (t 4), .int .i64 (t 5)] 24)
  simp only [World.size_alloc] at S
  go_enter Tryz.func8, Tryz.ntmps8
  go_wp2_with fail
  refine (head_any _ S.out.gv).mono ?_
  rintro e w1 ⟨rfl, hb⟩
  replace S := Bx.mk (S.out.call hb)
  clear hb
  go_wp2_with fail
  refine (K1.out _ S.out.gv.pm).mono ?_
  rintro e w2 ⟨rfl, hb⟩
  replace S := Bx.mk (S.out.call hb)
  clear hb
  replace S := Bx.mk (S.out.push #[.int .i64 (u 0), .int .i64 (u 1), .int .i64 (u 2), .int .i64 (u 3), .int .i64 (u 4), .int .i64 (u 5)] 24)
  obtain ⟨c2_0, c2_1, c2_2, c2_3, c2_4, c2_5, z2⟩ := S.out.six w.heap.size 24 (.int .i64 (s 0)) (.int .i64 (s 1)) (.int .i64 (s 2)) (.int .i64 (s 3)) (.int .i64 (s 4)) (.int .i64 (s 5)) (List.mem_cons_of_mem _ (List.mem_cons_of_mem _ List.mem_cons_self))
  go_wp2_with fail
  refine (K3.out _).mono ?_
  rintro e w3 ⟨rfl, hb⟩
  replace S := Bx.mk (S.out.call hb)
  clear hb
  clear c2_0 c2_1 c2_2 c2_3 c2_4 c2_5 z2
  obtain ⟨c1_0, c1_1, c1_2, c1_3, c1_4, c1_5, z1⟩ := S.out.six (w.heap.size + 1) 24 (.int .i64 (t 0)) (.int .i64 (t 1)) (.int .i64 (t 2)) (.int .i64 (t 3)) (.int .i64 (t 4)) (.int .i64 (t 5)) (List.mem_cons_of_mem _ List.mem_cons_self)
  go_wp2_with fail
  refine (K4.out _ S.out.gv.pm).mono ?_
  rintro e w4 ⟨vc, vk, rfl, na, nb, hb⟩
  replace S := Bx.mk (((S.out.call hb).num na).num nb)
  clear na nb hb
  clear c1_0 c1_1 c1_2 c1_3 c1_4 c1_5 z1
  obtain ⟨c2_0, c2_1, c2_2, c2_3, c2_4, c2_5, z2⟩ := S.out.six w.heap.size 24 (.int .i64 (s 0)) (.int .i64 (s 1)) (.int .i64 (s 2)) (.int .i64 (s 3)) (.int .i64 (s 4)) (.int .i64 (s 5)) (List.mem_cons_of_mem _ (List.mem_cons_of_mem _ List.mem_cons_self))
  go_wp2_with fail
  refine (K5.out _).mono ?_
  rintro e w5 ⟨rfl, hb⟩
  replace S := Bx.mk (S.out.call hb)
  clear hb
  clear c2_0 c2_1 c2_2 c2_3 c2_4 c2_5 z2
  go_wp2_with fail
  go_ret
  exact ⟨rfl, S.out.bl⟩
set_option maxHeartbeats 2000000 in
set_option maxRecDepth 20000 in
theorem fr_nnn (s t : Nat → Int) (w : World) (hg : Gv w) (n d : Int) (u : Nat → Int) (c : Int) (hc : ¬ c = 0) (K1 : Hx (∀ w, Pm w → Calls Tryz.prog 27 #[.int .i64 n, .int .i64 d] w (OutV w u c))) (K3 : Hx (∀ w, Calls Tryz.prog 29 #[PV s] w fun e w' => e = .returned (.tuple #[.slice none 0 0, .slice none 0 0, .int .i64 1]) ∧ Below w.heap.size w w')) (K4 : Hx (∀ w, Calls Tryz.prog 29 #[PV t] w fun e w' => e = .returned (.tuple #[.slice none 0 0, .slice none 0 0, .int .i64 1]) ∧ Below w.heap.size w w')) (K5 : Hx (∀ w, Calls Tryz.prog 14 #[PV s] w fun e w' => e = .returned (.bool false) ∧ Below w.heap.size w w')) :
    Calls Tryz.prog 8 #[PV s, PV t, .int .i64 n, .int .i64 d] w fun e w' => e = .returned (.bool true) ∧ Below w.heap.size w w' := by
  have S : Bx (LS w w [] []) := ⟨LS.start w hg⟩
  replace S := Bx.mk (S.out.push #[.int .i64 (s 0), .int .i64 (s 1), .int .i64 (s 2), .int .i64 (s 3), .int .i64 (s 4), .int .i64 (s 5)] 24)
  replace S := Bx.mk (S.out.push #[.int .i64 (t 0), .int .i64 (t 1), .int .i64 (t 2), .int .i64 (t 3), .int .i64 (t 4), .int .i64 (t 5)] 24)
  simp only [World.size_alloc] at S
  go_enter Tryz.func8, Tryz.ntmps8
  go_wp2_with fail
  refine (head_any _ S.out.gv).mono ?_
  rintro e w1 ⟨rfl, hb⟩
  replace S := Bx.mk (S.out.call hb)
  clear hb
  go_wp2_with fail
  refine (K1.out _ S.out.gv.pm).mono ?_
  rintro e w2 ⟨rfl, hb⟩
  replace S := Bx.mk (S.out.call hb)
  clear hb
  replace S := Bx.mk (S.out.push #[.int .i64 (u 0), .int .i64 (u 1), .int .i64 (u 2), .int .i64 (u 3), .int .i64 (u 4), .int .i64 (u 5)] 24)
  obtain ⟨c2_0, c2_1, c2_2, c2_3, c2_4, c2_5, z2⟩ := S.out.six w.heap.size 24 (.int .i64 (s 0)) (.int .i64 (s 1)) (.int .i64 (s 2)) (.int .i64 (s 3)) (.int .i64 (s 4)) (.int .i64 (s 5)) (List.mem_cons_of_mem _ (List.mem_cons_of_mem _ List.mem_cons_self))
  go_wp2_with fail
  refine (K3.out _).mono ?_
  rintro e w3 ⟨rfl, hb⟩
  replace S := Bx.mk (S.out.call hb)
  clear hb
  clear c2_0 c2_1 c2_2 c2_3 c2_4 c2_5 z2
  obtain ⟨c1_0, c1_1, c1_2, c1_3, c1_4, c1_5, z1⟩ := S.out.six (w.heap.size + 1) 24 (.int .i64 (t 0)) (.int .i64 (t 1)) (.int .i64 (t 2)) (.int .i64 (t 3)) (.int .i64 (t 4)) (.int .i64 (t 5)) (List.mem_cons_of_mem _ List.mem_cons_self)
  go_wp2_with fail
  refine (K4.out _).mono ?_
  rintro e w4 ⟨rfl, hb⟩
  replace S := Bx.mk (S.out.call hb)
  clear hb
  clear c1_0 c1_1 c1_2 c1_3 c1_4 c1_5 z1
  obtain ⟨c2_0, c2_1, c2_2, c2_3, c2_4, c2_5, z2⟩ := S.out.six w.heap.size 24 (.int .i64 (s 0)) (.int .i64 (s 1)) (.int .i64 (s 2)) (.int .i64 (s 3)) (.int .i64 (s 4)) (.int .i64 (s 5)) (List.mem_cons_of_mem _ (List.mem_cons_of_mem _ List.mem_cons_self))
  go_wp2_with fail
  refine (K5.out _).mono ?_
  rintro e w5 ⟨rfl, hb⟩
  replace S := Bx.mk (S.out.call hb)
  clear hb
  clear c2_0 c2_1 c2_2 c2_3 c2_4 c2_5 z2
  go_wp2_with fail
  go_ret
  exact ⟨rfl, S.out.bl⟩
end Go.Proofs.YtlfngdbpnhaphaaGreatDoor

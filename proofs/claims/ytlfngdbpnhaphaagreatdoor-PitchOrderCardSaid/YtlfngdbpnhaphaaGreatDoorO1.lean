/- PitchOrder, walked. -/
import Derived.Test.YtlfngdbpnhaphaaGreatDoorHD
namespace Go.Proofs.YtlfngdbpnhaphaaGreatDoor
open Go.RowKit M
theorem order_a (a b c : Nat → Int) (w : World) (hg : Gv w) (ha : bdB a 576 = false) :
    Calls Tryz.prog 5 #[PV a, PV b, PV c] w fun e w' => e = .returned (.bool true) ∧ Below w.heap.size w w' := by
  have Ha := Hx.mk (fun w => refValid_any a w false ha)
  clear ha
  have S : Bx (LS w w [] []) := ⟨LS.start w hg⟩
  replace S := Bx.mk (S.out.push #[.int .i64 (a 0), .int .i64 (a 1), .int .i64 (a 2), .int .i64 (a 3), .int .i64 (a 4), .int .i64 (a 5)] 23)
  replace S := Bx.mk (S.out.push #[.int .i64 (b 0), .int .i64 (b 1), .int .i64 (b 2), .int .i64 (b 3), .int .i64 (b 4), .int .i64 (b 5)] 23)
  replace S := Bx.mk (S.out.push #[.int .i64 (c 0), .int .i64 (c 1), .int .i64 (c 2), .int .i64 (c 3), .int .i64 (c 4), .int .i64 (c 5)] 23)
  simp only [World.size_alloc] at S
  go_enter Tryz.func5, Tryz.ntmps5
  go_wp2_with fail
  refine (head_any _ S.out.gv).mono ?_
  rintro e w1 ⟨rfl, hb⟩
  replace S := Bx.mk (S.out.call hb)
  clear hb
  obtain ⟨c2_0, c2_1, c2_2, c2_3, c2_4, c2_5, z2⟩ := S.out.six w.heap.size 23 (.int .i64 (a 0)) (.int .i64 (a 1)) (.int .i64 (a 2)) (.int .i64 (a 3)) (.int .i64 (a 4)) (.int .i64 (a 5)) (List.mem_cons_of_mem _ (List.mem_cons_of_mem _ List.mem_cons_self))
  go_wp2_with fail
  refine (Ha.out _).mono ?_
  rintro e w2 ⟨rfl, hb⟩
  replace S := Bx.mk (S.out.call hb)
  clear hb
  clear c2_0 c2_1 c2_2 c2_3 c2_4 c2_5 z2
  go_wp2_with fail
  go_ret
  exact ⟨rfl, S.out.bl⟩
theorem order_b (a b c : Nat → Int) (w : World) (hg : Gv w) (ha : bdB a 576 = true) (hb0 : bdB b 576 = false) :
    Calls Tryz.prog 5 #[PV a, PV b, PV c] w fun e w' => e = .returned (.bool true) ∧ Below w.heap.size w w' := by
  have Ha := Hx.mk (fun w => refValid_any a w true ha)
  have Hb := Hx.mk (fun w => refValid_any b w false hb0)
  clear ha hb0
  have S : Bx (LS w w [] []) := ⟨LS.start w hg⟩
  replace S := Bx.mk (S.out.push #[.int .i64 (a 0), .int .i64 (a 1), .int .i64 (a 2), .int .i64 (a 3), .int .i64 (a 4), .int .i64 (a 5)] 23)
  replace S := Bx.mk (S.out.push #[.int .i64 (b 0), .int .i64 (b 1), .int .i64 (b 2), .int .i64 (b 3), .int .i64 (b 4), .int .i64 (b 5)] 23)
  replace S := Bx.mk (S.out.push #[.int .i64 (c 0), .int .i64 (c 1), .int .i64 (c 2), .int .i64 (c 3), .int .i64 (c 4), .int .i64 (c 5)] 23)
  simp only [World.size_alloc] at S
  go_enter Tryz.func5, Tryz.ntmps5
  go_wp2_with fail
  refine (head_any _ S.out.gv).mono ?_
  rintro e w1 ⟨rfl, hb⟩
  replace S := Bx.mk (S.out.call hb)
  clear hb
  obtain ⟨c2_0, c2_1, c2_2, c2_3, c2_4, c2_5, z2⟩ := S.out.six w.heap.size 23 (.int .i64 (a 0)) (.int .i64 (a 1)) (.int .i64 (a 2)) (.int .i64 (a 3)) (.int .i64 (a 4)) (.int .i64 (a 5)) (List.mem_cons_of_mem _ (List.mem_cons_of_mem _ List.mem_cons_self))
  go_wp2_with fail
  refine (Ha.out _).mono ?_
  rintro e w2 ⟨rfl, hb⟩
  replace S := Bx.mk (S.out.call hb)
  clear hb
  clear c2_0 c2_1 c2_2 c2_3 c2_4 c2_5 z2
  obtain ⟨c1_0, c1_1, c1_2, c1_3, c1_4, c1_5, z1⟩ := S.out.six (w.heap.size + 1) 23 (.int .i64 (b 0)) (.int .i64 (b 1)) (.int .i64 (b 2)) (.int .i64 (b 3)) (.int .i64 (b 4)) (.int .i64 (b 5)) (List.mem_cons_of_mem _ List.mem_cons_self)
  go_wp2_with fail
  refine (Hb.out _).mono ?_
  rintro e w3 ⟨rfl, hb⟩
  replace S := Bx.mk (S.out.call hb)
  clear hb
  clear c1_0 c1_1 c1_2 c1_3 c1_4 c1_5 z1
  go_wp2_with fail
  go_ret
  exact ⟨rfl, S.out.bl⟩
theorem order_c (a b c : Nat → Int) (w : World) (hg : Gv w) (ha : bdB a 576 = true) (hb0 : bdB b 576 = true) (hc0 : bdB c 576 = false) :
    Calls Tryz.prog 5 #[PV a, PV b, PV c] w fun e w' => e = .returned (.bool true) ∧ Below w.heap.size w w' := by
  have Ha := Hx.mk (fun w => refValid_any a w true ha)
  have Hb := Hx.mk (fun w => refValid_any b w true hb0)
  have Hc := Hx.mk (fun w => refValid_any c w false hc0)
  clear ha hb0 hc0
  have S : Bx (LS w w [] []) := ⟨LS.start w hg⟩
  replace S := Bx.mk (S.out.push #[.int .i64 (a 0), .int .i64 (a 1), .int .i64 (a 2), .int .i64 (a 3), .int .i64 (a 4), .int .i64 (a 5)] 23)
  replace S := Bx.mk (S.out.push #[.int .i64 (b 0), .int .i64 (b 1), .int .i64 (b 2), .int .i64 (b 3), .int .i64 (b 4), .int .i64 (b 5)] 23)
  replace S := Bx.mk (S.out.push #[.int .i64 (c 0), .int .i64 (c 1), .int .i64 (c 2), .int .i64 (c 3), .int .i64 (c 4), .int .i64 (c 5)] 23)
  simp only [World.size_alloc] at S
  go_enter Tryz.func5, Tryz.ntmps5
  go_wp2_with fail
  refine (head_any _ S.out.gv).mono ?_
  rintro e w1 ⟨rfl, hb⟩
  replace S := Bx.mk (S.out.call hb)
  clear hb
  obtain ⟨c2_0, c2_1, c2_2, c2_3, c2_4, c2_5, z2⟩ := S.out.six w.heap.size 23 (.int .i64 (a 0)) (.int .i64 (a 1)) (.int .i64 (a 2)) (.int .i64 (a 3)) (.int .i64 (a 4)) (.int .i64 (a 5)) (List.mem_cons_of_mem _ (List.mem_cons_of_mem _ List.mem_cons_self))
  go_wp2_with fail
  refine (Ha.out _).mono ?_
  rintro e w2 ⟨rfl, hb⟩
  replace S := Bx.mk (S.out.call hb)
  clear hb
  clear c2_0 c2_1 c2_2 c2_3 c2_4 c2_5 z2
  obtain ⟨c1_0, c1_1, c1_2, c1_3, c1_4, c1_5, z1⟩ := S.out.six (w.heap.size + 1) 23 (.int .i64 (b 0)) (.int .i64 (b 1)) (.int .i64 (b 2)) (.int .i64 (b 3)) (.int .i64 (b 4)) (.int .i64 (b 5)) (List.mem_cons_of_mem _ List.mem_cons_self)
  go_wp2_with fail
  refine (Hb.out _).mono ?_
  rintro e w3 ⟨rfl, hb⟩
  replace S := Bx.mk (S.out.call hb)
  clear hb
  clear c1_0 c1_1 c1_2 c1_3 c1_4 c1_5 z1
  obtain ⟨c0_0, c0_1, c0_2, c0_3, c0_4, c0_5, z0⟩ := S.out.six (w.heap.size + 1 + 1) 23 (.int .i64 (c 0)) (.int .i64 (c 1)) (.int .i64 (c 2)) (.int .i64 (c 3)) (.int .i64 (c 4)) (.int .i64 (c 5)) List.mem_cons_self
  go_wp2_with fail
  refine (Hc.out _).mono ?_
  rintro e w4 ⟨rfl, hb⟩
  replace S := Bx.mk (S.out.call hb)
  clear hb
  clear c0_0 c0_1 c0_2 c0_3 c0_4 c0_5 z0
  go_wp2_with fail
  go_ret
  exact ⟨rfl, S.out.bl⟩
end Go.Proofs.YtlfngdbpnhaphaaGreatDoor

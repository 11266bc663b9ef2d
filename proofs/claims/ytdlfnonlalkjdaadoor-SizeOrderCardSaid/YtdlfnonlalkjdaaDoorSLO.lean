/- SizeOrder, walked. -/
import Derived.Test.YtdlfnonlalkjdaaDoorSH
import Derived.Test.YtdlfnonlalkjdaaDoorSM
import Derived.Test.YtdlfnonlalkjdaaDoorP11
namespace Go.Proofs.YtdlfnonlalkjdaaDoor
open Go.RowKit M
theorem sorder_p (p q : Nat → Int) (w : World) (hl : Lm w) (V1 : Hx (∀ w, Calls Tryd.prog 33 #[PV p] w fun e w' => e = .returned (.bool false) ∧ Below w.heap.size w w')) :
    Calls Tryd.prog 4 #[PV p, PV q] w fun e w' => e = .returned (.bool true) ∧ Below w.heap.size w w' := by
  have S : Bx (SS w w []) := ⟨SS.start w hl⟩
  replace S := Bx.mk (S.out.push #[.int .i64 (p 0), .int .i64 (p 1), .int .i64 (p 2), .int .i64 (p 3), .int .i64 (p 4), .int .i64 (p 5)] 25)
  replace S := Bx.mk (S.out.push #[.int .i64 (q 0), .int .i64 (q 1), .int .i64 (q 2), .int .i64 (q 3), .int .i64 (q 4), .int .i64 (q 5)] 25)
  simp only [World.size_alloc] at S
  go_enter Tryd.func4, Tryd.ntmps4
  go_wp2_with fail
  refine (shead_any _ S.out.lm).mono ?_
  rintro e w1 ⟨rfl, hb⟩
  replace S := Bx.mk (S.out.call hb)
  clear hb
  obtain ⟨c1_0, c1_1, c1_2, c1_3, c1_4, c1_5, z1⟩ := S.out.six w.heap.size 25 (.int .i64 (p 0)) (.int .i64 (p 1)) (.int .i64 (p 2)) (.int .i64 (p 3)) (.int .i64 (p 4)) (.int .i64 (p 5)) (List.mem_cons_of_mem _ List.mem_cons_self)
  go_wp2_with fail
  refine (V1.out _).mono ?_
  rintro e w2 ⟨rfl, hb⟩
  replace S := Bx.mk (S.out.call hb)
  clear hb
  clear c1_0 c1_1 c1_2 c1_3 c1_4 c1_5 z1
  go_wp2_with fail
  go_ret
  exact ⟨rfl, S.out.bl⟩
theorem sorder_q (p q : Nat → Int) (w : World) (hl : Lm w) (V1 : Hx (∀ w, Calls Tryd.prog 33 #[PV p] w fun e w' => e = .returned (.bool true) ∧ Below w.heap.size w w')) (V2 : Hx (∀ w, Calls Tryd.prog 33 #[PV q] w fun e w' => e = .returned (.bool false) ∧ Below w.heap.size w w')) :
    Calls Tryd.prog 4 #[PV p, PV q] w fun e w' => e = .returned (.bool true) ∧ Below w.heap.size w w' := by
  have S : Bx (SS w w []) := ⟨SS.start w hl⟩
  replace S := Bx.mk (S.out.push #[.int .i64 (p 0), .int .i64 (p 1), .int .i64 (p 2), .int .i64 (p 3), .int .i64 (p 4), .int .i64 (p 5)] 25)
  replace S := Bx.mk (S.out.push #[.int .i64 (q 0), .int .i64 (q 1), .int .i64 (q 2), .int .i64 (q 3), .int .i64 (q 4), .int .i64 (q 5)] 25)
  simp only [World.size_alloc] at S
  go_enter Tryd.func4, Tryd.ntmps4
  go_wp2_with fail
  refine (shead_any _ S.out.lm).mono ?_
  rintro e w1 ⟨rfl, hb⟩
  replace S := Bx.mk (S.out.call hb)
  clear hb
  obtain ⟨c1_0, c1_1, c1_2, c1_3, c1_4, c1_5, z1⟩ := S.out.six w.heap.size 25 (.int .i64 (p 0)) (.int .i64 (p 1)) (.int .i64 (p 2)) (.int .i64 (p 3)) (.int .i64 (p 4)) (.int .i64 (p 5)) (List.mem_cons_of_mem _ List.mem_cons_self)
  go_wp2_with fail
  refine (V1.out _).mono ?_
  rintro e w2 ⟨rfl, hb⟩
  replace S := Bx.mk (S.out.call hb)
  clear hb
  clear c1_0 c1_1 c1_2 c1_3 c1_4 c1_5 z1
  obtain ⟨c0_0, c0_1, c0_2, c0_3, c0_4, c0_5, z0⟩ := S.out.six (w.heap.size + 1) 25 (.int .i64 (q 0)) (.int .i64 (q 1)) (.int .i64 (q 2)) (.int .i64 (q 3)) (.int .i64 (q 4)) (.int .i64 (q 5)) List.mem_cons_self
  go_wp2_with fail
  refine (V2.out _).mono ?_
  rintro e w3 ⟨rfl, hb⟩
  replace S := Bx.mk (S.out.call hb)
  clear hb
  clear c0_0 c0_1 c0_2 c0_3 c0_4 c0_5 z0
  go_wp2_with fail
  go_ret
  exact ⟨rfl, S.out.bl⟩
set_option maxHeartbeats 2000000 in
theorem sorder_ok (p q : Nat → Int) (w : World) (hp : Pm w) (hl : Lm w) (x1 y1 x2 y2 x y : Int) (Hc : Hx (x = 0 ∨ x = y)) (V1 : Hx (∀ w, Calls Tryd.prog 33 #[PV p] w fun e w' => e = .returned (.bool true) ∧ Below w.heap.size w w')) (V2 : Hx (∀ w, Calls Tryd.prog 33 #[PV q] w fun e w' => e = .returned (.bool true) ∧ Below w.heap.size w w')) (O1 : Hx (∀ w, Lm w → Calls Tryd.prog 15 #[PV p] w (OutZ w x1 y1 0))) (O2 : Hx (∀ w, Lm w → Calls Tryd.prog 15 #[PV q] w (OutZ w x2 y2 0)))
    (C1 : Hx (∀ w, Calls Tryd.prog 27 #[SV x1 y1, SV x2 y2] w (OutI w x 0))) (C2 : Hx (∀ w, Pm w → Calls Tryd.prog 34 #[PV p, PV q] w fun e w' => e = .returned (.tuple #[.int .i64 y, .int .i64 0]) ∧ Below w.heap.size w w')) :
    Calls Tryd.prog 4 #[PV p, PV q] w fun e w' => e = .returned (.bool true) ∧ Below w.heap.size w w' := by
  have HP := Hx.mk hp
  clear hp
  have S : Bx (SS w w []) := ⟨SS.start w hl⟩
  replace S := Bx.mk (S.out.push #[.int .i64 (p 0), .int .i64 (p 1), .int .i64 (p 2), .int .i64 (p 3), .int .i64 (p 4), .int .i64 (p 5)] 25)
  replace S := Bx.mk (S.out.push #[.int .i64 (q 0), .int .i64 (q 1), .int .i64 (q 2), .int .i64 (q 3), .int .i64 (q 4), .int .i64 (q 5)] 25)
  simp only [World.size_alloc] at S
  go_enter Tryd.func4, Tryd.ntmps4
  go_wp2_with fail
  refine (shead_any _ S.out.lm).mono ?_
  rintro e w1 ⟨rfl, hb⟩
  replace S := Bx.mk (S.out.call hb)
  clear hb
  obtain ⟨c1_0, c1_1, c1_2, c1_3, c1_4, c1_5, z1⟩ := S.out.six w.heap.size 25 (.int .i64 (p 0)) (.int .i64 (p 1)) (.int .i64 (p 2)) (.int .i64 (p 3)) (.int .i64 (p 4)) (.int .i64 (p 5)) (List.mem_cons_of_mem _ List.mem_cons_self)
  go_wp2_with fail
  refine (V1.out _).mono ?_
  rintro e w2 ⟨rfl, hb⟩
  replace S := Bx.mk (S.out.call hb)
  clear hb
  clear c1_0 c1_1 c1_2 c1_3 c1_4 c1_5 z1
  obtain ⟨c0_0, c0_1, c0_2, c0_3, c0_4, c0_5, z0⟩ := S.out.six (w.heap.size + 1) 25 (.int .i64 (q 0)) (.int .i64 (q 1)) (.int .i64 (q 2)) (.int .i64 (q 3)) (.int .i64 (q 4)) (.int .i64 (q 5)) List.mem_cons_self
  go_wp2_with fail
  refine (V2.out _).mono ?_
  rintro e w3 ⟨rfl, hb⟩
  replace S := Bx.mk (S.out.call hb)
  clear hb
  clear c0_0 c0_1 c0_2 c0_3 c0_4 c0_5 z0
  obtain ⟨c1_0, c1_1, c1_2, c1_3, c1_4, c1_5, z1⟩ := S.out.six w.heap.size 25 (.int .i64 (p 0)) (.int .i64 (p 1)) (.int .i64 (p 2)) (.int .i64 (p 3)) (.int .i64 (p 4)) (.int .i64 (p 5)) (List.mem_cons_of_mem _ List.mem_cons_self)
  go_wp2_with fail
  refine (O1.out _ S.out.lm).mono ?_
  rintro e w4 ⟨rfl, hb⟩
  replace S := Bx.mk (S.out.call hb)
  clear hb
  clear c1_0 c1_1 c1_2 c1_3 c1_4 c1_5 z1
  replace S := Bx.mk (S.out.push #[.int .i64 x1, .int .i64 y1] 23)
  obtain ⟨c1_0, c1_1, c1_2, c1_3, c1_4, c1_5, z1⟩ := S.out.six (w.heap.size + 1) 25 (.int .i64 (q 0)) (.int .i64 (q 1)) (.int .i64 (q 2)) (.int .i64 (q 3)) (.int .i64 (q 4)) (.int .i64 (q 5)) (List.mem_cons_of_mem _ List.mem_cons_self)
  go_wp2_with fail
  refine (O2.out _ S.out.lm).mono ?_
  rintro e w5 ⟨rfl, hb⟩
  replace S := Bx.mk (S.out.call hb)
  clear hb
  clear c1_0 c1_1 c1_2 c1_3 c1_4 c1_5 z1
  replace S := Bx.mk (S.out.push #[.int .i64 x2, .int .i64 y2] 23)
  obtain ⟨c0_0, c0_1, f0_0, f0_1, z0⟩ := S.out.two w5.heap.size 23 (.int .i64 x2) (.int .i64 y2) List.mem_cons_self
  obtain ⟨c1_0, c1_1, f1_0, f1_1, z1⟩ := S.out.two w4.heap.size 23 (.int .i64 x1) (.int .i64 y1) (List.mem_cons_of_mem _ List.mem_cons_self)
  go_wp2_with fail
  refine (C1.out _).mono ?_
  rintro e w6 ⟨rfl, hb⟩
  replace S := Bx.mk (S.out.call hb)
  clear hb
  clear c0_0 c0_1 f0_0 f0_1 z0 c1_0 c1_1 f1_0 f1_1 z1
  obtain ⟨c2_0, c2_1, c2_2, c2_3, c2_4, c2_5, z2⟩ := S.out.six (w.heap.size + 1) 25 (.int .i64 (q 0)) (.int .i64 (q 1)) (.int .i64 (q 2)) (.int .i64 (q 3)) (.int .i64 (q 4)) (.int .i64 (q 5)) (List.mem_cons_of_mem _ (List.mem_cons_of_mem _ List.mem_cons_self))
  obtain ⟨c3_0, c3_1, c3_2, c3_3, c3_4, c3_5, z3⟩ := S.out.six w.heap.size 25 (.int .i64 (p 0)) (.int .i64 (p 1)) (.int .i64 (p 2)) (.int .i64 (p 3)) (.int .i64 (p 4)) (.int .i64 (p 5)) (List.mem_cons_of_mem _ (List.mem_cons_of_mem _ (List.mem_cons_of_mem _ List.mem_cons_self)))
  go_wp2_with fail
  refine (C2.out _ (HP.out.keep S.out.bl)).mono ?_
  rintro e w7 ⟨rfl, hb⟩
  replace S := Bx.mk (S.out.call hb)
  clear hb
  clear c2_0 c2_1 c2_2 c2_3 c2_4 c2_5 z2 c3_0 c3_1 c3_2 c3_3 c3_4 c3_5 z3
  rcases Hc.out with rfl | rfl
  all_goals go_wp2_with fail
  all_goals (go_ret; exact ⟨rfl, S.out.bl⟩)
theorem cm_ok {a b c d : Int} (ha : szB a b = true) (hc : szB c d = true) : cmR a b c d = (if b < c then -1 else if a > d then 1 else 0, 0) := by unfold cmR; rw [ha, hc]; rfl
theorem sorder_all (p q : Nat → Int) (w : World) (hp : Pm w) (hl : Lm w) :
    Calls Tryd.prog 4 #[PV p, PV q] w fun e w' => e = .returned (.bool true) ∧ Below w.heap.size w w' := by
  cases hvp : bdB p 576
  · exact sorder_p p q w hl ⟨fun w => pvalid_any p w false hvp⟩
  · cases hvq : bdB q 576
    · exact sorder_q p q w hl ⟨fun w => pvalid_any p w true hvp⟩ ⟨fun w => pvalid_any q w false hvq⟩
    · refine sorder_ok p q w hp hl (mLo p) (mHi p) (mLo q) (mHi q) _ _ ⟨?_⟩ ⟨fun w => pvalid_any p w true hvp⟩ ⟨fun w => pvalid_any q w true hvq⟩ ⟨fun w hL => sof_any p _ _ _ (of_ok hvp) w hL⟩ ⟨fun w hL => sof_any q _ _ _ (of_ok hvq) w hL⟩ ⟨scmp_any _ _ _ _ _ _ (cm_ok (of_valid hvp) (of_valid hvq))⟩ ⟨fun w hP => pcmp_ok p q w hP hvp hvq⟩
      by_cases h1 : mHi p < mLo q
      · right; rw [if_pos h1]
        have := mHi_sub p q
        exact (sg_of_hi' (by omega)).symm
      · rw [if_neg h1]
        by_cases h2 : mLo p > mHi q
        · right; rw [if_pos h2]
          have := mLo_sub p q
          exact (sg_of_lo' (by omega)).symm
        · left; rw [if_neg h2]
end Go.Proofs.YtdlfnonlalkjdaaDoor

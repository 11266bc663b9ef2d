/- SizeWidth, walked. -/
import Derived.Test.YtdlfnonlalkjdaaDoorSH
import Derived.Test.YtdlfnonlalkjdaaDoorSM
import Derived.LoopN
namespace Go.Proofs.YtdlfnonlalkjdaaDoor
open Go.RowKit M
theorem swidth_p (p : Nat → Int) (w : World) (hl : Lm w) (V1 : Hx (∀ w, Calls Tryd.prog 33 #[PV p] w fun e w' => e = .returned (.bool false) ∧ Below w.heap.size w w')) :
    Calls Tryd.prog 11 #[PV p] w fun e w' => e = .returned (.bool true) ∧ Below w.heap.size w w' := by
  have S : Bx (SS w w []) := ⟨SS.start w hl⟩
  replace S := Bx.mk (S.out.push #[.int .i64 (p 0), .int .i64 (p 1), .int .i64 (p 2), .int .i64 (p 3), .int .i64 (p 4), .int .i64 (p 5)] 25)
  go_enter Tryd.func11, Tryd.ntmps11
  go_wp2_with fail
  refine (shead_any _ S.out.lm).mono ?_
  rintro e w1 ⟨rfl, hb⟩
  replace S := Bx.mk (S.out.call hb)
  clear hb
  obtain ⟨c0_0, c0_1, c0_2, c0_3, c0_4, c0_5, z0⟩ := S.out.six w.heap.size 25 (.int .i64 (p 0)) (.int .i64 (p 1)) (.int .i64 (p 2)) (.int .i64 (p 3)) (.int .i64 (p 4)) (.int .i64 (p 5)) List.mem_cons_self
  go_wp2_with fail
  refine (V1.out _).mono ?_
  rintro e w2 ⟨rfl, hb⟩
  replace S := Bx.mk (S.out.call hb)
  clear hb
  clear c0_0 c0_1 c0_2 c0_3 c0_4 c0_5 z0
  go_wp2_with fail
  go_ret
  exact ⟨rfl, S.out.bl⟩
set_option maxHeartbeats 4000000 in
theorem swidth_f (p : Nat → Int) (w : World) (hl : Lm w) (x1 y1 t1 t2 t3 t4 t5 : Int) (m1 : max (p 1) (-p 1) = t1) (b1 : -576 ≤ p 1) (d1 : p 1 ≤ 576) (e1 : 0 ≤ t1) (f1 : t1 ≤ 576) (m2 : max (p 2) (-p 2) = t2) (b2 : -576 ≤ p 2) (d2 : p 2 ≤ 576) (e2 : 0 ≤ t2) (f2 : t2 ≤ 576) (m3 : max (p 3) (-p 3) = t3) (b3 : -576 ≤ p 3) (d3 : p 3 ≤ 576) (e3 : 0 ≤ t3) (f3 : t3 ≤ 576) (m4 : max (p 4) (-p 4) = t4) (b4 : -576 ≤ p 4) (d4 : p 4 ≤ 576) (e4 : 0 ≤ t4) (f4 : t4 ≤ 576) (m5 : max (p 5) (-p 5) = t5) (b5 : -576 ≤ p 5) (d5 : p 5 ≤ 576) (e5 : 0 ≤ t5) (f5 : t5 ≤ 576) (hw : y1 - x1 = t1 + t2 + t3 + t4 + t5) (hx1 : -30000000000000 ≤ x1) (hy1 : y1 ≤ 30000000000000) (V1 : Hx (∀ w, Calls Tryd.prog 33 #[PV p] w fun e w' => e = .returned (.bool true) ∧ Below w.heap.size w w')) (O1 : Hx (∀ w, Lm w → Calls Tryd.prog 15 #[PV p] w (OutZ w (x1) (y1) 0))) (Z1 : Hx (∀ w, Calls Tryd.prog 13 #[SV x1 y1] w fun e w' => e = .returned (.bool true) ∧ Below w.heap.size w w')) (q : Nat → Int) (c : Int) (hc : ¬ c = 0) (M1 : Hx (∀ w, Calls Tryd.prog 35 #[PV p, .agg #[.int .i64 12, .int .i64 0, .int .i64 0, .int .i64 0, .int .i64 0, .int .i64 0]] w (OutV w q c))) :
    Calls Tryd.prog 11 #[PV p] w fun e w' => e = .returned (.bool true) ∧ Below w.heap.size w w' := by
  have S : Bx (SS w w []) := ⟨SS.start w hl⟩
  replace S := Bx.mk (S.out.push #[.int .i64 (p 0), .int .i64 (p 1), .int .i64 (p 2), .int .i64 (p 3), .int .i64 (p 4), .int .i64 (p 5)] 25)
  go_enter Tryd.func11, Tryd.ntmps11
  go_wp2_with fail
  refine (shead_any _ S.out.lm).mono ?_
  rintro e w1 ⟨rfl, hb⟩
  replace S := Bx.mk (S.out.call hb)
  clear hb
  obtain ⟨c0_0, c0_1, c0_2, c0_3, c0_4, c0_5, z0⟩ := S.out.six w.heap.size 25 (.int .i64 (p 0)) (.int .i64 (p 1)) (.int .i64 (p 2)) (.int .i64 (p 3)) (.int .i64 (p 4)) (.int .i64 (p 5)) List.mem_cons_self
  go_wp2_with fail
  refine (V1.out _).mono ?_
  rintro e w2 ⟨rfl, hb⟩
  replace S := Bx.mk (S.out.call hb)
  clear hb
  clear c0_0 c0_1 c0_2 c0_3 c0_4 c0_5 z0
  obtain ⟨c0_0, c0_1, c0_2, c0_3, c0_4, c0_5, z0⟩ := S.out.six w.heap.size 25 (.int .i64 (p 0)) (.int .i64 (p 1)) (.int .i64 (p 2)) (.int .i64 (p 3)) (.int .i64 (p 4)) (.int .i64 (p 5)) List.mem_cons_self
  go_wp2_with fail
  refine (O1.out _ S.out.lm).mono ?_
  rintro e w3 ⟨rfl, hb⟩
  replace S := Bx.mk (S.out.call hb)
  clear hb
  clear c0_0 c0_1 c0_2 c0_3 c0_4 c0_5 z0
  replace S := Bx.mk (S.out.push #[.int .i64 x1, .int .i64 y1] 23)
  obtain ⟨c0_0, c0_1, f0_0, f0_1, z0⟩ := S.out.two w3.heap.size 23 (.int .i64 x1) (.int .i64 y1) List.mem_cons_self
  go_wp2_with fail
  refine (Z1.out _).mono ?_
  rintro e w4 ⟨rfl, hb⟩
  replace S := Bx.mk (S.out.call hb)
  clear hb
  clear c0_0 c0_1 f0_0 f0_1 z0
  obtain ⟨c1_0, c1_1, c1_2, c1_3, c1_4, c1_5, z1⟩ := S.out.six w.heap.size 25 (.int .i64 (p 0)) (.int .i64 (p 1)) (.int .i64 (p 2)) (.int .i64 (p 3)) (.int .i64 (p 4)) (.int .i64 (p 5)) (List.mem_cons_of_mem _ List.mem_cons_self)
  have i0 := apt0 p
  have i1 := apt1 p
  have i2 := apt2 p
  have i3 := apt3 p
  have i4 := apt4 p
  have i5 := apt5 p
  go_wp2_with fail
  refine wp_loop_rounds 6 ?_
  rw [rounds_succ]
  go_wp2_with fail
  go_quiet (fail)
  go_wp2_with fail
  rw [rounds_succ]
  go_wp2_with fail
  go_quiet (fail)
  go_wp2_with fail
  rw [rounds_succ]
  go_wp2_with fail
  go_quiet (fail)
  go_wp2_with fail
  rw [rounds_succ]
  go_wp2_with fail
  go_quiet (fail)
  go_wp2_with fail
  rw [rounds_succ]
  go_wp2_with fail
  go_quiet (fail)
  go_wp2_with fail
  rw [rounds_succ]
  go_wp2_with fail
  refine (M1.out _).mono ?_
  rintro e w5 ⟨rfl, hb⟩
  replace S := Bx.mk ((S.out.drewN _).call hb)
  clear hb
  clear c1_0 c1_1 c1_2 c1_3 c1_4 c1_5 z1
  replace S := Bx.mk (S.out.push #[.int .i64 (q 0), .int .i64 (q 1), .int .i64 (q 2), .int .i64 (q 3), .int .i64 (q 4), .int .i64 (q 5)] 25)
  obtain ⟨c1_0, c1_1, f1_0, f1_1, z1⟩ := S.out.two w3.heap.size 23 (.int .i64 x1) (.int .i64 y1) (List.mem_cons_of_mem _ List.mem_cons_self)
  go_wp2_with fail
  go_ret
  exact ⟨rfl, S.out.bl⟩
set_option maxHeartbeats 4000000 in
theorem swidth_ok (p : Nat → Int) (w : World) (hl : Lm w) (x1 y1 t1 t2 t3 t4 t5 : Int) (m1 : max (p 1) (-p 1) = t1) (b1 : -576 ≤ p 1) (d1 : p 1 ≤ 576) (e1 : 0 ≤ t1) (f1 : t1 ≤ 576) (m2 : max (p 2) (-p 2) = t2) (b2 : -576 ≤ p 2) (d2 : p 2 ≤ 576) (e2 : 0 ≤ t2) (f2 : t2 ≤ 576) (m3 : max (p 3) (-p 3) = t3) (b3 : -576 ≤ p 3) (d3 : p 3 ≤ 576) (e3 : 0 ≤ t3) (f3 : t3 ≤ 576) (m4 : max (p 4) (-p 4) = t4) (b4 : -576 ≤ p 4) (d4 : p 4 ≤ 576) (e4 : 0 ≤ t4) (f4 : t4 ≤ 576) (m5 : max (p 5) (-p 5) = t5) (b5 : -576 ≤ p 5) (d5 : p 5 ≤ 576) (e5 : 0 ≤ t5) (f5 : t5 ≤ 576) (hw : y1 - x1 = t1 + t2 + t3 + t4 + t5) (hx1 : -30000000000000 ≤ x1) (hy1 : y1 ≤ 30000000000000) (V1 : Hx (∀ w, Calls Tryd.prog 33 #[PV p] w fun e w' => e = .returned (.bool true) ∧ Below w.heap.size w w')) (O1 : Hx (∀ w, Lm w → Calls Tryd.prog 15 #[PV p] w (OutZ w (x1) (y1) 0))) (Z1 : Hx (∀ w, Calls Tryd.prog 13 #[SV x1 y1] w fun e w' => e = .returned (.bool true) ∧ Below w.heap.size w w')) (q : Nat → Int) (M1 : Hx (∀ w, Calls Tryd.prog 35 #[PV p, .agg #[.int .i64 12, .int .i64 0, .int .i64 0, .int .i64 0, .int .i64 0, .int .i64 0]] w (OutV w q 0))) (O2 : Hx (∀ w, Lm w → Calls Tryd.prog 15 #[PV q] w (OutZ w (x1 + 12000000000) (y1 + 12000000000) 0))) :
    Calls Tryd.prog 11 #[PV p] w fun e w' => e = .returned (.bool true) ∧ Below w.heap.size w w' := by
  have S : Bx (SS w w []) := ⟨SS.start w hl⟩
  replace S := Bx.mk (S.out.push #[.int .i64 (p 0), .int .i64 (p 1), .int .i64 (p 2), .int .i64 (p 3), .int .i64 (p 4), .int .i64 (p 5)] 25)
  go_enter Tryd.func11, Tryd.ntmps11
  go_wp2_with fail
  refine (shead_any _ S.out.lm).mono ?_
  rintro e w1 ⟨rfl, hb⟩
  replace S := Bx.mk (S.out.call hb)
  clear hb
  obtain ⟨c0_0, c0_1, c0_2, c0_3, c0_4, c0_5, z0⟩ := S.out.six w.heap.size 25 (.int .i64 (p 0)) (.int .i64 (p 1)) (.int .i64 (p 2)) (.int .i64 (p 3)) (.int .i64 (p 4)) (.int .i64 (p 5)) List.mem_cons_self
  go_wp2_with fail
  refine (V1.out _).mono ?_
  rintro e w2 ⟨rfl, hb⟩
  replace S := Bx.mk (S.out.call hb)
  clear hb
  clear c0_0 c0_1 c0_2 c0_3 c0_4 c0_5 z0
  obtain ⟨c0_0, c0_1, c0_2, c0_3, c0_4, c0_5, z0⟩ := S.out.six w.heap.size 25 (.int .i64 (p 0)) (.int .i64 (p 1)) (.int .i64 (p 2)) (.int .i64 (p 3)) (.int .i64 (p 4)) (.int .i64 (p 5)) List.mem_cons_self
  go_wp2_with fail
  refine (O1.out _ S.out.lm).mono ?_
  rintro e w3 ⟨rfl, hb⟩
  replace S := Bx.mk (S.out.call hb)
  clear hb
  clear c0_0 c0_1 c0_2 c0_3 c0_4 c0_5 z0
  replace S := Bx.mk (S.out.push #[.int .i64 x1, .int .i64 y1] 23)
  obtain ⟨c0_0, c0_1, f0_0, f0_1, z0⟩ := S.out.two w3.heap.size 23 (.int .i64 x1) (.int .i64 y1) List.mem_cons_self
  go_wp2_with fail
  refine (Z1.out _).mono ?_
  rintro e w4 ⟨rfl, hb⟩
  replace S := Bx.mk (S.out.call hb)
  clear hb
  clear c0_0 c0_1 f0_0 f0_1 z0
  obtain ⟨c1_0, c1_1, c1_2, c1_3, c1_4, c1_5, z1⟩ := S.out.six w.heap.size 25 (.int .i64 (p 0)) (.int .i64 (p 1)) (.int .i64 (p 2)) (.int .i64 (p 3)) (.int .i64 (p 4)) (.int .i64 (p 5)) (List.mem_cons_of_mem _ List.mem_cons_self)
  have i0 := apt0 p
  have i1 := apt1 p
  have i2 := apt2 p
  have i3 := apt3 p
  have i4 := apt4 p
  have i5 := apt5 p
  go_wp2_with fail
  refine wp_loop_rounds 6 ?_
  rw [rounds_succ]
  go_wp2_with fail
  go_quiet (fail)
  go_wp2_with fail
  rw [rounds_succ]
  go_wp2_with fail
  go_quiet (fail)
  go_wp2_with fail
  rw [rounds_succ]
  go_wp2_with fail
  go_quiet (fail)
  go_wp2_with fail
  rw [rounds_succ]
  go_wp2_with fail
  go_quiet (fail)
  go_wp2_with fail
  rw [rounds_succ]
  go_wp2_with fail
  go_quiet (fail)
  go_wp2_with fail
  rw [rounds_succ]
  go_wp2_with fail
  refine (M1.out _).mono ?_
  rintro e w5 ⟨rfl, hb⟩
  replace S := Bx.mk ((S.out.drewN _).call hb)
  clear hb
  clear c1_0 c1_1 c1_2 c1_3 c1_4 c1_5 z1
  replace S := Bx.mk (S.out.push #[.int .i64 (q 0), .int .i64 (q 1), .int .i64 (q 2), .int .i64 (q 3), .int .i64 (q 4), .int .i64 (q 5)] 25)
  obtain ⟨c0_0, c0_1, c0_2, c0_3, c0_4, c0_5, z0⟩ := S.out.six w5.heap.size 25 (.int .i64 (q 0)) (.int .i64 (q 1)) (.int .i64 (q 2)) (.int .i64 (q 3)) (.int .i64 (q 4)) (.int .i64 (q 5)) List.mem_cons_self
  go_wp2_with fail
  refine (O2.out _ S.out.lm).mono ?_
  rintro e w6 ⟨rfl, hb⟩
  replace S := Bx.mk (S.out.call hb)
  clear hb
  clear c0_0 c0_1 c0_2 c0_3 c0_4 c0_5 z0
  replace S := Bx.mk (S.out.push #[.int .i64 (x1 + 12000000000), .int .i64 (y1 + 12000000000)] 23)
  obtain ⟨c0_0, c0_1, f0_0, f0_1, z0⟩ := S.out.two w6.heap.size 23 (.int .i64 (x1 + 12000000000)) (.int .i64 (y1 + 12000000000)) List.mem_cons_self
  obtain ⟨c2_0, c2_1, f2_0, f2_1, z2⟩ := S.out.two w3.heap.size 23 (.int .i64 x1) (.int .i64 y1) (List.mem_cons_of_mem _ (List.mem_cons_of_mem _ List.mem_cons_self))
  go_wp2_with fail
  go_ret
  exact ⟨rfl, S.out.bl⟩
theorem max_bd {x : Int} (h1 : -576 ≤ x) (h2 : x ≤ 576) : 0 ≤ max x (-x) ∧ max x (-x) ≤ 576 := by omega
theorem swidth_all (p : Nat → Int) (w : World) (hl : Lm w) :
    Calls Tryd.prog 11 #[PV p] w fun e w' => e = .returned (.bool true) ∧ Below w.heap.size w w' := by
  cases hv : bdB p 576
  · exact swidth_p p w hl ⟨fun w => pvalid_any p w false hv⟩
  · have hb := bdB_yes.1 hv
    have hm := m_bd (bd_1152 hv)
    have hw := m_wide p
    rw [Int.zero_add] at hw
    have b1 := hb 1 (by omega); have b2 := hb 2 (by omega); have b3 := hb 3 (by omega); have b4 := hb 4 (by omega); have b5 := hb 5 (by omega)
    obtain ⟨q, hq⟩ : ∃ q, comV p (vec6 12 0 0 0 0 0) 1 = q := ⟨_, rfl⟩
    obtain ⟨c, hc⟩ : ∃ c, comE p (vec6 12 0 0 0 0 0) 1 = c := ⟨_, rfl⟩
    have M1 : Hx (∀ w, Calls Tryd.prog 35 #[PV p, .agg #[.int .i64 12, .int .i64 0, .int .i64 0, .int .i64 0, .int .i64 0, .int .i64 0]] w (OutV w q c)) := ⟨fun w => pmul_any p (vec6 12 0 0 0 0 0) q c w hq hc⟩
    by_cases c0 : c = 0
    · subst c0
      obtain ⟨_, _, hqv, heq⟩ := com_ok hc
      rw [heq] at hq
      have hqv' : bdB q 576 = true := by rw [← hq]; exact hqv
      obtain ⟨o1, o2⟩ := m_oct hq
      have ho : ofR q = (mLo p + 12000000000, mHi p + 12000000000, 0) := by rw [of_ok hqv', o1, o2]; rfl
      refine swidth_ok p w hl (mLo p) (mHi p) _ _ _ _ _ rfl b1.1 b1.2 (max_bd b1.1 b1.2).1 (max_bd b1.1 b1.2).2 rfl b2.1 b2.2 (max_bd b2.1 b2.2).1 (max_bd b2.1 b2.2).2 rfl b3.1 b3.2 (max_bd b3.1 b3.2).1 (max_bd b3.1 b3.2).2 rfl b4.1 b4.2 (max_bd b4.1 b4.2).1 (max_bd b4.1 b4.2).2 rfl b5.1 b5.2 (max_bd b5.1 b5.2).1 (max_bd b5.1 b5.2).2 hw hm.1 hm.2 ⟨fun w => pvalid_any p w true hv⟩ ⟨fun w hL => sof_any p _ _ _ (of_ok hv) w hL⟩ ⟨fun w => svalid_any _ _ w true (of_valid hv)⟩ q M1 ⟨fun w hL => sof_any q _ _ _ ho w hL⟩
    · refine swidth_f p w hl (mLo p) (mHi p) _ _ _ _ _ rfl b1.1 b1.2 (max_bd b1.1 b1.2).1 (max_bd b1.1 b1.2).2 rfl b2.1 b2.2 (max_bd b2.1 b2.2).1 (max_bd b2.1 b2.2).2 rfl b3.1 b3.2 (max_bd b3.1 b3.2).1 (max_bd b3.1 b3.2).2 rfl b4.1 b4.2 (max_bd b4.1 b4.2).1 (max_bd b4.1 b4.2).2 rfl b5.1 b5.2 (max_bd b5.1 b5.2).1 (max_bd b5.1 b5.2).2 hw hm.1 hm.2 ⟨fun w => pvalid_any p w true hv⟩ ⟨fun w hL => sof_any p _ _ _ (of_ok hv) w hL⟩ ⟨fun w => svalid_any _ _ w true (of_valid hv)⟩ q c c0 M1
end Go.Proofs.YtdlfnonlalkjdaaDoor

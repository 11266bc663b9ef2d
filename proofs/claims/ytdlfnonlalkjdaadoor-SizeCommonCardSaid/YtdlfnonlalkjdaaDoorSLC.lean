/- SizeCommon, walked. -/
import Derived.Test.YtdlfnonlalkjdaaDoorSH
import Derived.Test.YtdlfnonlalkjdaaDoorSM
namespace Go.Proofs.YtdlfnonlalkjdaaDoor
open Go.RowKit M
theorem both_a (a b c d : Int) (ha : szB a b = false) (w : World) : Calls Tryd.prog 38 #[SV a b, SV c d] w fun e w' => e = .returned (.bool false) ∧ Below w.heap.size w w' := by
  have H1 := Hx.mk (fun w => svalid_any a b w false ha)
  clear ha
  go_enter Tryd.func38, Tryd.ntmps38
  go_wp2_with fail
  refine (H1.out _).mono ?_
  rintro e w1 ⟨rfl, hb⟩
  obtain ⟨hc1, hf1⟩ := bcell hb
  have hz1 := hb.size
  (try simp at hz1)
  have hB : Hx (Below w.heap.size w w1) := ⟨Below.trans (by repeat (first | with_reducible exact hB.out | with_reducible exact Below.refl _ _ | (with_reducible refine Below.setCell ?_ ?side _; case side => (first | omega | (simp <;> omega))) | (with_reducible refine Below.alloc ?_ ?side _; case side => (first | omega | (simp <;> omega))) | with_reducible apply below_drewN)) (hb.mono (by first | omega | (simp <;> omega)))⟩
  clear hb
  have hy1_0 : w.heap.size < w1.heap.size := by omega
  have hy1_1 : w.heap.size + 1 < w1.heap.size := by omega
  go_wp2_with fail
  go_ret
  exact ⟨rfl, (by repeat (first | with_reducible exact hB.out | with_reducible exact Below.refl _ _ | (with_reducible refine Below.setCell ?_ ?side _; case side => (first | omega | (simp <;> omega))) | (with_reducible refine Below.alloc ?_ ?side _; case side => (first | omega | (simp <;> omega))) | with_reducible apply below_drewN))⟩
theorem both_b (a b c d : Int) (ha : szB a b = true) (hc : szB c d = false) (w : World) : Calls Tryd.prog 38 #[SV a b, SV c d] w fun e w' => e = .returned (.bool false) ∧ Below w.heap.size w w' := by
  have H1 := Hx.mk (fun w => svalid_any a b w true ha)
  have H2 := Hx.mk (fun w => svalid_any c d w false hc)
  clear ha hc
  go_enter Tryd.func38, Tryd.ntmps38
  go_wp2_with fail
  refine (H1.out _).mono ?_
  rintro e w1 ⟨rfl, hb⟩
  obtain ⟨hc1, hf1⟩ := bcell hb
  have hz1 := hb.size
  (try simp at hz1)
  have hB : Hx (Below w.heap.size w w1) := ⟨Below.trans (by repeat (first | with_reducible exact hB.out | with_reducible exact Below.refl _ _ | (with_reducible refine Below.setCell ?_ ?side _; case side => (first | omega | (simp <;> omega))) | (with_reducible refine Below.alloc ?_ ?side _; case side => (first | omega | (simp <;> omega))) | with_reducible apply below_drewN)) (hb.mono (by first | omega | (simp <;> omega)))⟩
  clear hb
  have hy1_0 : w.heap.size < w1.heap.size := by omega
  have hy1_1 : w.heap.size + 1 < w1.heap.size := by omega
  go_wp2_with fail
  refine (H2.out _).mono ?_
  rintro e w2 ⟨rfl, hb⟩
  obtain ⟨hc2, hf2⟩ := bcell hb
  have hz2 := hb.size
  (try simp at hz2)
  have hB : Hx (Below w.heap.size w w2) := ⟨Below.trans (by repeat (first | with_reducible exact hB.out | with_reducible exact Below.refl _ _ | (with_reducible refine Below.setCell ?_ ?side _; case side => (first | omega | (simp <;> omega))) | (with_reducible refine Below.alloc ?_ ?side _; case side => (first | omega | (simp <;> omega))) | with_reducible apply below_drewN)) (hb.mono (by first | omega | (simp <;> omega)))⟩
  clear hb
  have hy2_0 : w.heap.size < w2.heap.size := by omega
  have hy2_1 : w.heap.size + 1 < w2.heap.size := by omega
  go_wp2_with fail
  go_ret
  exact ⟨rfl, (by repeat (first | with_reducible exact hB.out | with_reducible exact Below.refl _ _ | (with_reducible refine Below.setCell ?_ ?side _; case side => (first | omega | (simp <;> omega))) | (with_reducible refine Below.alloc ?_ ?side _; case side => (first | omega | (simp <;> omega))) | with_reducible apply below_drewN))⟩
theorem both_yes (a b c d : Int) (ha : szB a b = true) (hc : szB c d = true) (w : World) : Calls Tryd.prog 38 #[SV a b, SV c d] w fun e w' => e = .returned (.bool true) ∧ Below w.heap.size w w' := by
  have H1 := Hx.mk (fun w => svalid_any a b w true ha)
  have H2 := Hx.mk (fun w => svalid_any c d w true hc)
  clear ha hc
  go_enter Tryd.func38, Tryd.ntmps38
  go_wp2_with fail
  refine (H1.out _).mono ?_
  rintro e w1 ⟨rfl, hb⟩
  obtain ⟨hc1, hf1⟩ := bcell hb
  have hz1 := hb.size
  (try simp at hz1)
  have hB : Hx (Below w.heap.size w w1) := ⟨Below.trans (by repeat (first | with_reducible exact hB.out | with_reducible exact Below.refl _ _ | (with_reducible refine Below.setCell ?_ ?side _; case side => (first | omega | (simp <;> omega))) | (with_reducible refine Below.alloc ?_ ?side _; case side => (first | omega | (simp <;> omega))) | with_reducible apply below_drewN)) (hb.mono (by first | omega | (simp <;> omega)))⟩
  clear hb
  have hy1_0 : w.heap.size < w1.heap.size := by omega
  have hy1_1 : w.heap.size + 1 < w1.heap.size := by omega
  go_wp2_with fail
  refine (H2.out _).mono ?_
  rintro e w2 ⟨rfl, hb⟩
  obtain ⟨hc2, hf2⟩ := bcell hb
  have hz2 := hb.size
  (try simp at hz2)
  have hB : Hx (Below w.heap.size w w2) := ⟨Below.trans (by repeat (first | with_reducible exact hB.out | with_reducible exact Below.refl _ _ | (with_reducible refine Below.setCell ?_ ?side _; case side => (first | omega | (simp <;> omega))) | (with_reducible refine Below.alloc ?_ ?side _; case side => (first | omega | (simp <;> omega))) | with_reducible apply below_drewN)) (hb.mono (by first | omega | (simp <;> omega)))⟩
  clear hb
  have hy2_0 : w.heap.size < w2.heap.size := by omega
  have hy2_1 : w.heap.size + 1 < w2.heap.size := by omega
  go_wp2_with fail
  go_ret
  exact ⟨rfl, (by repeat (first | with_reducible exact hB.out | with_reducible exact Below.refl _ _ | (with_reducible refine Below.setCell ?_ ?side _; case side => (first | omega | (simp <;> omega))) | (with_reducible refine Below.alloc ?_ ?side _; case side => (first | omega | (simp <;> omega))) | with_reducible apply below_drewN))⟩
set_option maxRecDepth 20000 in
set_option maxHeartbeats 8000000 in
theorem scom_b (a0 a1 b0 b1 c0 c1 n : Int) (w : World) (hl : Lm w) (B1 : Hx (∀ w, Calls Tryd.prog 38 #[SV a0 a1, SV b0 b1] w fun e w' => e = .returned (.bool false) ∧ Below w.heap.size w w')) :
    Calls Tryd.prog 7 #[SV a0 a1, SV b0 b1, SV c0 c1, .int .i64 n] w fun e w' => e = .returned (.bool true) ∧ Below w.heap.size w w' := by
  have S : Bx (SS w w []) := ⟨SS.start w hl⟩
  replace S := Bx.mk (S.out.push #[.int .i64 a0, .int .i64 a1] 23)
  replace S := Bx.mk (S.out.push #[.int .i64 b0, .int .i64 b1] 23)
  replace S := Bx.mk (S.out.push #[.int .i64 c0, .int .i64 c1] 23)
  simp only [World.size_alloc] at S
  go_enter Tryd.func7, Tryd.ntmps7
  go_wp2_with fail
  refine (shead_any _ S.out.lm).mono ?_
  rintro e w1 ⟨rfl, hb⟩
  replace S := Bx.mk (S.out.call hb)
  clear hb
  obtain ⟨c1_0, c1_1, f1_0, f1_1, z1⟩ := S.out.two (w.heap.size + 1) 23 (.int .i64 b0) (.int .i64 b1) (List.mem_cons_of_mem _ List.mem_cons_self)
  obtain ⟨c2_0, c2_1, f2_0, f2_1, z2⟩ := S.out.two w.heap.size 23 (.int .i64 a0) (.int .i64 a1) (List.mem_cons_of_mem _ (List.mem_cons_of_mem _ List.mem_cons_self))
  go_wp2_with fail
  refine (B1.out _).mono ?_
  rintro e w2 ⟨rfl, hb⟩
  replace S := Bx.mk (S.out.call hb)
  clear hb
  clear c1_0 c1_1 f1_0 f1_1 z1 c2_0 c2_1 f2_0 f2_1 z2
  go_wp2_with fail
  go_ret
  exact ⟨rfl, S.out.bl⟩
set_option maxRecDepth 20000 in
set_option maxHeartbeats 8000000 in
theorem scom_c (a0 a1 b0 b1 c0 c1 n : Int) (w : World) (hl : Lm w) (B1 : Hx (∀ w, Calls Tryd.prog 38 #[SV a0 a1, SV b0 b1] w fun e w' => e = .returned (.bool true) ∧ Below w.heap.size w w')) (V1 : Hx (∀ w, Calls Tryd.prog 13 #[SV c0 c1] w fun e w' => e = .returned (.bool false) ∧ Below w.heap.size w w')) :
    Calls Tryd.prog 7 #[SV a0 a1, SV b0 b1, SV c0 c1, .int .i64 n] w fun e w' => e = .returned (.bool true) ∧ Below w.heap.size w w' := by
  have S : Bx (SS w w []) := ⟨SS.start w hl⟩
  replace S := Bx.mk (S.out.push #[.int .i64 a0, .int .i64 a1] 23)
  replace S := Bx.mk (S.out.push #[.int .i64 b0, .int .i64 b1] 23)
  replace S := Bx.mk (S.out.push #[.int .i64 c0, .int .i64 c1] 23)
  simp only [World.size_alloc] at S
  go_enter Tryd.func7, Tryd.ntmps7
  go_wp2_with fail
  refine (shead_any _ S.out.lm).mono ?_
  rintro e w1 ⟨rfl, hb⟩
  replace S := Bx.mk (S.out.call hb)
  clear hb
  obtain ⟨c1_0, c1_1, f1_0, f1_1, z1⟩ := S.out.two (w.heap.size + 1) 23 (.int .i64 b0) (.int .i64 b1) (List.mem_cons_of_mem _ List.mem_cons_self)
  obtain ⟨c2_0, c2_1, f2_0, f2_1, z2⟩ := S.out.two w.heap.size 23 (.int .i64 a0) (.int .i64 a1) (List.mem_cons_of_mem _ (List.mem_cons_of_mem _ List.mem_cons_self))
  go_wp2_with fail
  refine (B1.out _).mono ?_
  rintro e w2 ⟨rfl, hb⟩
  replace S := Bx.mk (S.out.call hb)
  clear hb
  clear c1_0 c1_1 f1_0 f1_1 z1 c2_0 c2_1 f2_0 f2_1 z2
  obtain ⟨c0_0, c0_1, f0_0, f0_1, z0⟩ := S.out.two (w.heap.size + 1 + 1) 23 (.int .i64 c0) (.int .i64 c1) List.mem_cons_self
  go_wp2_with fail
  refine (V1.out _).mono ?_
  rintro e w3 ⟨rfl, hb⟩
  replace S := Bx.mk (S.out.call hb)
  clear hb
  clear c0_0 c0_1 f0_0 f0_1 z0
  go_wp2_with fail
  go_ret
  exact ⟨rfl, S.out.bl⟩
set_option maxRecDepth 20000 in
set_option maxHeartbeats 8000000 in
theorem scom_1 (a0 a1 b0 b1 c0 c1 n : Int) (w : World) (hl : Lm w) (ha : a0 ≤ a1) (hb0 : b0 ≤ b1) (hd : a1 < b0) (B1 : Hx (∀ w, Calls Tryd.prog 38 #[SV a0 a1, SV b0 b1] w fun e w' => e = .returned (.bool true) ∧ Below w.heap.size w w')) (V1 : Hx (∀ w, Calls Tryd.prog 13 #[SV c0 c1] w fun e w' => e = .returned (.bool true) ∧ Below w.heap.size w w')) (u v : Int) (C1 : Hx (∀ w, Calls Tryd.prog 27 #[SV a0 a1, SV b0 b1] w (OutI w (-1) (0)))) (C2 : Hx (∀ w, Calls Tryd.prog 27 #[SV b0 b1, SV a0 a1] w (OutI w (1) (0)))) (C3 : Hx (∀ w, Calls Tryd.prog 27 #[SV b0 b1, SV c0 c1] w (OutI w (-1) (0)))) (C4 : Hx (∀ w, Calls Tryd.prog 27 #[SV a0 a1, SV c0 c1] w (OutI w (-1) (0)))) (M1 : Hx (∀ w, Calls Tryd.prog 25 #[SV a0 a1, SV b0 b1] w (OutZ w (0) (0) (4)))) (M2 : Hx (∀ w, Calls Tryd.prog 25 #[SV b0 b1, SV a0 a1] w (OutZ w (0) (0) (4)))) :
    Calls Tryd.prog 7 #[SV a0 a1, SV b0 b1, SV c0 c1, .int .i64 n] w fun e w' => e = .returned (.bool true) ∧ Below w.heap.size w w' := by
  have S : Bx (SS w w []) := ⟨SS.start w hl⟩
  replace S := Bx.mk (S.out.push #[.int .i64 a0, .int .i64 a1] 23)
  replace S := Bx.mk (S.out.push #[.int .i64 b0, .int .i64 b1] 23)
  replace S := Bx.mk (S.out.push #[.int .i64 c0, .int .i64 c1] 23)
  simp only [World.size_alloc] at S
  go_enter Tryd.func7, Tryd.ntmps7
  go_wp2_with fail
  refine (shead_any _ S.out.lm).mono ?_
  rintro e w1 ⟨rfl, hb⟩
  replace S := Bx.mk (S.out.call hb)
  clear hb
  obtain ⟨c1_0, c1_1, f1_0, f1_1, z1⟩ := S.out.two (w.heap.size + 1) 23 (.int .i64 b0) (.int .i64 b1) (List.mem_cons_of_mem _ List.mem_cons_self)
  obtain ⟨c2_0, c2_1, f2_0, f2_1, z2⟩ := S.out.two w.heap.size 23 (.int .i64 a0) (.int .i64 a1) (List.mem_cons_of_mem _ (List.mem_cons_of_mem _ List.mem_cons_self))
  go_wp2_with fail
  refine (B1.out _).mono ?_
  rintro e w2 ⟨rfl, hb⟩
  replace S := Bx.mk (S.out.call hb)
  clear hb
  clear c1_0 c1_1 f1_0 f1_1 z1 c2_0 c2_1 f2_0 f2_1 z2
  obtain ⟨c0_0, c0_1, f0_0, f0_1, z0⟩ := S.out.two (w.heap.size + 1 + 1) 23 (.int .i64 c0) (.int .i64 c1) List.mem_cons_self
  go_wp2_with fail
  refine (V1.out _).mono ?_
  rintro e w3 ⟨rfl, hb⟩
  replace S := Bx.mk (S.out.call hb)
  clear hb
  clear c0_0 c0_1 f0_0 f0_1 z0
  obtain ⟨c1_0, c1_1, f1_0, f1_1, z1⟩ := S.out.two (w.heap.size + 1) 23 (.int .i64 b0) (.int .i64 b1) (List.mem_cons_of_mem _ List.mem_cons_self)
  obtain ⟨c2_0, c2_1, f2_0, f2_1, z2⟩ := S.out.two w.heap.size 23 (.int .i64 a0) (.int .i64 a1) (List.mem_cons_of_mem _ (List.mem_cons_of_mem _ List.mem_cons_self))
  go_wp2_with fail
  refine (C1.out _).mono ?_
  rintro e w4 ⟨rfl, hb⟩
  replace S := Bx.mk (S.out.call hb)
  clear hb
  clear c1_0 c1_1 f1_0 f1_1 z1 c2_0 c2_1 f2_0 f2_1 z2
  obtain ⟨c1_0, c1_1, f1_0, f1_1, z1⟩ := S.out.two (w.heap.size + 1) 23 (.int .i64 b0) (.int .i64 b1) (List.mem_cons_of_mem _ List.mem_cons_self)
  obtain ⟨c2_0, c2_1, f2_0, f2_1, z2⟩ := S.out.two w.heap.size 23 (.int .i64 a0) (.int .i64 a1) (List.mem_cons_of_mem _ (List.mem_cons_of_mem _ List.mem_cons_self))
  go_wp2_with fail
  refine (C2.out _).mono ?_
  rintro e w5 ⟨rfl, hb⟩
  replace S := Bx.mk (S.out.call hb)
  clear hb
  clear c1_0 c1_1 f1_0 f1_1 z1 c2_0 c2_1 f2_0 f2_1 z2
  obtain ⟨c0_0, c0_1, f0_0, f0_1, z0⟩ := S.out.two (w.heap.size + 1 + 1) 23 (.int .i64 c0) (.int .i64 c1) List.mem_cons_self
  obtain ⟨c1_0, c1_1, f1_0, f1_1, z1⟩ := S.out.two (w.heap.size + 1) 23 (.int .i64 b0) (.int .i64 b1) (List.mem_cons_of_mem _ List.mem_cons_self)
  go_wp2_with fail
  refine (C3.out _).mono ?_
  rintro e w6 ⟨rfl, hb⟩
  replace S := Bx.mk (S.out.call hb)
  clear hb
  clear c0_0 c0_1 f0_0 f0_1 z0 c1_0 c1_1 f1_0 f1_1 z1
  obtain ⟨c0_0, c0_1, f0_0, f0_1, z0⟩ := S.out.two (w.heap.size + 1 + 1) 23 (.int .i64 c0) (.int .i64 c1) List.mem_cons_self
  obtain ⟨c2_0, c2_1, f2_0, f2_1, z2⟩ := S.out.two w.heap.size 23 (.int .i64 a0) (.int .i64 a1) (List.mem_cons_of_mem _ (List.mem_cons_of_mem _ List.mem_cons_self))
  go_wp2_with fail
  refine (C4.out _).mono ?_
  rintro e w7 ⟨rfl, hb⟩
  replace S := Bx.mk (S.out.call hb)
  clear hb
  clear c0_0 c0_1 f0_0 f0_1 z0 c2_0 c2_1 f2_0 f2_1 z2
  obtain ⟨c1_0, c1_1, f1_0, f1_1, z1⟩ := S.out.two (w.heap.size + 1) 23 (.int .i64 b0) (.int .i64 b1) (List.mem_cons_of_mem _ List.mem_cons_self)
  obtain ⟨c2_0, c2_1, f2_0, f2_1, z2⟩ := S.out.two w.heap.size 23 (.int .i64 a0) (.int .i64 a1) (List.mem_cons_of_mem _ (List.mem_cons_of_mem _ List.mem_cons_self))
  go_wp2_with fail
  refine (M1.out _).mono ?_
  rintro e w8 ⟨rfl, hb⟩
  replace S := Bx.mk (S.out.call hb)
  clear hb
  clear c1_0 c1_1 f1_0 f1_1 z1 c2_0 c2_1 f2_0 f2_1 z2
  replace S := Bx.mk (S.out.push #[.int .i64 0, .int .i64 0] 23)
  obtain ⟨c2_0, c2_1, f2_0, f2_1, z2⟩ := S.out.two (w.heap.size + 1) 23 (.int .i64 b0) (.int .i64 b1) (List.mem_cons_of_mem _ (List.mem_cons_of_mem _ List.mem_cons_self))
  obtain ⟨c3_0, c3_1, f3_0, f3_1, z3⟩ := S.out.two w.heap.size 23 (.int .i64 a0) (.int .i64 a1) (List.mem_cons_of_mem _ (List.mem_cons_of_mem _ (List.mem_cons_of_mem _ List.mem_cons_self)))
  go_wp2_with fail
  refine (M2.out _).mono ?_
  rintro e w9 ⟨rfl, hb⟩
  replace S := Bx.mk (S.out.call hb)
  clear hb
  clear c2_0 c2_1 f2_0 f2_1 z2 c3_0 c3_1 f3_0 f3_1 z3
  replace S := Bx.mk (S.out.push #[.int .i64 0, .int .i64 0] 23)
  obtain ⟨c0_0, c0_1, f0_0, f0_1, z0⟩ := S.out.two w9.heap.size 23 (.int .i64 0) (.int .i64 0) List.mem_cons_self
  obtain ⟨c1_0, c1_1, f1_0, f1_1, z1⟩ := S.out.two w8.heap.size 23 (.int .i64 0) (.int .i64 0) (List.mem_cons_of_mem _ List.mem_cons_self)
  obtain ⟨c3_0, c3_1, f3_0, f3_1, z3⟩ := S.out.two (w.heap.size + 1) 23 (.int .i64 b0) (.int .i64 b1) (List.mem_cons_of_mem _ (List.mem_cons_of_mem _ (List.mem_cons_of_mem _ List.mem_cons_self)))
  obtain ⟨c4_0, c4_1, f4_0, f4_1, z4⟩ := S.out.two w.heap.size 23 (.int .i64 a0) (.int .i64 a1) (List.mem_cons_of_mem _ (List.mem_cons_of_mem _ (List.mem_cons_of_mem _ (List.mem_cons_of_mem _ List.mem_cons_self))))
  by_cases q1 : a0 ≤ n <;> by_cases q2 : n ≤ a1 <;> by_cases q3 : b0 ≤ n <;> by_cases q4 : n ≤ b1
  all_goals first
    | (exfalso; omega)
    | (go_wp2_with fail; go_ret; refine ⟨?_, S.out.bl⟩; first | rfl | (show Ending.returned (Value.bool _) = _; simp [q4]))
set_option maxRecDepth 20000 in
set_option maxHeartbeats 8000000 in
theorem scom_2 (a0 a1 b0 b1 c0 c1 n : Int) (w : World) (hl : Lm w) (ha : a0 ≤ a1) (hb0 : b0 ≤ b1) (hd : a1 < b0) (B1 : Hx (∀ w, Calls Tryd.prog 38 #[SV a0 a1, SV b0 b1] w fun e w' => e = .returned (.bool true) ∧ Below w.heap.size w w')) (V1 : Hx (∀ w, Calls Tryd.prog 13 #[SV c0 c1] w fun e w' => e = .returned (.bool true) ∧ Below w.heap.size w w')) (u v : Int) (hu : ¬ u = -1) (C1 : Hx (∀ w, Calls Tryd.prog 27 #[SV a0 a1, SV b0 b1] w (OutI w (-1) (0)))) (C2 : Hx (∀ w, Calls Tryd.prog 27 #[SV b0 b1, SV a0 a1] w (OutI w (1) (0)))) (C3 : Hx (∀ w, Calls Tryd.prog 27 #[SV b0 b1, SV c0 c1] w (OutI w (u) (0)))) (C4 : Hx (∀ w, Calls Tryd.prog 27 #[SV a0 a1, SV c0 c1] w (OutI w (v) (0)))) (M1 : Hx (∀ w, Calls Tryd.prog 25 #[SV a0 a1, SV b0 b1] w (OutZ w (0) (0) (4)))) (M2 : Hx (∀ w, Calls Tryd.prog 25 #[SV b0 b1, SV a0 a1] w (OutZ w (0) (0) (4)))) :
    Calls Tryd.prog 7 #[SV a0 a1, SV b0 b1, SV c0 c1, .int .i64 n] w fun e w' => e = .returned (.bool true) ∧ Below w.heap.size w w' := by
  have S : Bx (SS w w []) := ⟨SS.start w hl⟩
  replace S := Bx.mk (S.out.push #[.int .i64 a0, .int .i64 a1] 23)
  replace S := Bx.mk (S.out.push #[.int .i64 b0, .int .i64 b1] 23)
  replace S := Bx.mk (S.out.push #[.int .i64 c0, .int .i64 c1] 23)
  simp only [World.size_alloc] at S
  go_enter Tryd.func7, Tryd.ntmps7
  go_wp2_with fail
  refine (shead_any _ S.out.lm).mono ?_
  rintro e w1 ⟨rfl, hb⟩
  replace S := Bx.mk (S.out.call hb)
  clear hb
  obtain ⟨c1_0, c1_1, f1_0, f1_1, z1⟩ := S.out.two (w.heap.size + 1) 23 (.int .i64 b0) (.int .i64 b1) (List.mem_cons_of_mem _ List.mem_cons_self)
  obtain ⟨c2_0, c2_1, f2_0, f2_1, z2⟩ := S.out.two w.heap.size 23 (.int .i64 a0) (.int .i64 a1) (List.mem_cons_of_mem _ (List.mem_cons_of_mem _ List.mem_cons_self))
  go_wp2_with fail
  refine (B1.out _).mono ?_
  rintro e w2 ⟨rfl, hb⟩
  replace S := Bx.mk (S.out.call hb)
  clear hb
  clear c1_0 c1_1 f1_0 f1_1 z1 c2_0 c2_1 f2_0 f2_1 z2
  obtain ⟨c0_0, c0_1, f0_0, f0_1, z0⟩ := S.out.two (w.heap.size + 1 + 1) 23 (.int .i64 c0) (.int .i64 c1) List.mem_cons_self
  go_wp2_with fail
  refine (V1.out _).mono ?_
  rintro e w3 ⟨rfl, hb⟩
  replace S := Bx.mk (S.out.call hb)
  clear hb
  clear c0_0 c0_1 f0_0 f0_1 z0
  obtain ⟨c1_0, c1_1, f1_0, f1_1, z1⟩ := S.out.two (w.heap.size + 1) 23 (.int .i64 b0) (.int .i64 b1) (List.mem_cons_of_mem _ List.mem_cons_self)
  obtain ⟨c2_0, c2_1, f2_0, f2_1, z2⟩ := S.out.two w.heap.size 23 (.int .i64 a0) (.int .i64 a1) (List.mem_cons_of_mem _ (List.mem_cons_of_mem _ List.mem_cons_self))
  go_wp2_with fail
  refine (C1.out _).mono ?_
  rintro e w4 ⟨rfl, hb⟩
  replace S := Bx.mk (S.out.call hb)
  clear hb
  clear c1_0 c1_1 f1_0 f1_1 z1 c2_0 c2_1 f2_0 f2_1 z2
  obtain ⟨c1_0, c1_1, f1_0, f1_1, z1⟩ := S.out.two (w.heap.size + 1) 23 (.int .i64 b0) (.int .i64 b1) (List.mem_cons_of_mem _ List.mem_cons_self)
  obtain ⟨c2_0, c2_1, f2_0, f2_1, z2⟩ := S.out.two w.heap.size 23 (.int .i64 a0) (.int .i64 a1) (List.mem_cons_of_mem _ (List.mem_cons_of_mem _ List.mem_cons_self))
  go_wp2_with fail
  refine (C2.out _).mono ?_
  rintro e w5 ⟨rfl, hb⟩
  replace S := Bx.mk (S.out.call hb)
  clear hb
  clear c1_0 c1_1 f1_0 f1_1 z1 c2_0 c2_1 f2_0 f2_1 z2
  obtain ⟨c0_0, c0_1, f0_0, f0_1, z0⟩ := S.out.two (w.heap.size + 1 + 1) 23 (.int .i64 c0) (.int .i64 c1) List.mem_cons_self
  obtain ⟨c1_0, c1_1, f1_0, f1_1, z1⟩ := S.out.two (w.heap.size + 1) 23 (.int .i64 b0) (.int .i64 b1) (List.mem_cons_of_mem _ List.mem_cons_self)
  go_wp2_with fail
  refine (C3.out _).mono ?_
  rintro e w6 ⟨rfl, hb⟩
  replace S := Bx.mk (S.out.call hb)
  clear hb
  clear c0_0 c0_1 f0_0 f0_1 z0 c1_0 c1_1 f1_0 f1_1 z1
  obtain ⟨c0_0, c0_1, f0_0, f0_1, z0⟩ := S.out.two (w.heap.size + 1 + 1) 23 (.int .i64 c0) (.int .i64 c1) List.mem_cons_self
  obtain ⟨c2_0, c2_1, f2_0, f2_1, z2⟩ := S.out.two w.heap.size 23 (.int .i64 a0) (.int .i64 a1) (List.mem_cons_of_mem _ (List.mem_cons_of_mem _ List.mem_cons_self))
  go_wp2_with fail
  refine (C4.out _).mono ?_
  rintro e w7 ⟨rfl, hb⟩
  replace S := Bx.mk (S.out.call hb)
  clear hb
  clear c0_0 c0_1 f0_0 f0_1 z0 c2_0 c2_1 f2_0 f2_1 z2
  obtain ⟨c1_0, c1_1, f1_0, f1_1, z1⟩ := S.out.two (w.heap.size + 1) 23 (.int .i64 b0) (.int .i64 b1) (List.mem_cons_of_mem _ List.mem_cons_self)
  obtain ⟨c2_0, c2_1, f2_0, f2_1, z2⟩ := S.out.two w.heap.size 23 (.int .i64 a0) (.int .i64 a1) (List.mem_cons_of_mem _ (List.mem_cons_of_mem _ List.mem_cons_self))
  go_wp2_with fail
  refine (M1.out _).mono ?_
  rintro e w8 ⟨rfl, hb⟩
  replace S := Bx.mk (S.out.call hb)
  clear hb
  clear c1_0 c1_1 f1_0 f1_1 z1 c2_0 c2_1 f2_0 f2_1 z2
  replace S := Bx.mk (S.out.push #[.int .i64 0, .int .i64 0] 23)
  obtain ⟨c2_0, c2_1, f2_0, f2_1, z2⟩ := S.out.two (w.heap.size + 1) 23 (.int .i64 b0) (.int .i64 b1) (List.mem_cons_of_mem _ (List.mem_cons_of_mem _ List.mem_cons_self))
  obtain ⟨c3_0, c3_1, f3_0, f3_1, z3⟩ := S.out.two w.heap.size 23 (.int .i64 a0) (.int .i64 a1) (List.mem_cons_of_mem _ (List.mem_cons_of_mem _ (List.mem_cons_of_mem _ List.mem_cons_self)))
  go_wp2_with fail
  refine (M2.out _).mono ?_
  rintro e w9 ⟨rfl, hb⟩
  replace S := Bx.mk (S.out.call hb)
  clear hb
  clear c2_0 c2_1 f2_0 f2_1 z2 c3_0 c3_1 f3_0 f3_1 z3
  replace S := Bx.mk (S.out.push #[.int .i64 0, .int .i64 0] 23)
  obtain ⟨c0_0, c0_1, f0_0, f0_1, z0⟩ := S.out.two w9.heap.size 23 (.int .i64 0) (.int .i64 0) List.mem_cons_self
  obtain ⟨c1_0, c1_1, f1_0, f1_1, z1⟩ := S.out.two w8.heap.size 23 (.int .i64 0) (.int .i64 0) (List.mem_cons_of_mem _ List.mem_cons_self)
  obtain ⟨c3_0, c3_1, f3_0, f3_1, z3⟩ := S.out.two (w.heap.size + 1) 23 (.int .i64 b0) (.int .i64 b1) (List.mem_cons_of_mem _ (List.mem_cons_of_mem _ (List.mem_cons_of_mem _ List.mem_cons_self)))
  obtain ⟨c4_0, c4_1, f4_0, f4_1, z4⟩ := S.out.two w.heap.size 23 (.int .i64 a0) (.int .i64 a1) (List.mem_cons_of_mem _ (List.mem_cons_of_mem _ (List.mem_cons_of_mem _ (List.mem_cons_of_mem _ List.mem_cons_self))))
  by_cases q1 : a0 ≤ n <;> by_cases q2 : n ≤ a1 <;> by_cases q3 : b0 ≤ n <;> by_cases q4 : n ≤ b1
  all_goals first
    | (exfalso; omega)
    | (go_wp2_with fail; go_ret; refine ⟨?_, S.out.bl⟩; first | rfl | (show Ending.returned (Value.bool _) = _; simp [q4]))
set_option maxRecDepth 20000 in
set_option maxHeartbeats 8000000 in
theorem scom_3 (a0 a1 b0 b1 c0 c1 n : Int) (w : World) (hl : Lm w) (ha : a0 ≤ a1) (hb0 : b0 ≤ b1) (hd : b1 < a0) (B1 : Hx (∀ w, Calls Tryd.prog 38 #[SV a0 a1, SV b0 b1] w fun e w' => e = .returned (.bool true) ∧ Below w.heap.size w w')) (V1 : Hx (∀ w, Calls Tryd.prog 13 #[SV c0 c1] w fun e w' => e = .returned (.bool true) ∧ Below w.heap.size w w')) (u v : Int) (C1 : Hx (∀ w, Calls Tryd.prog 27 #[SV a0 a1, SV b0 b1] w (OutI w (1) (0)))) (C2 : Hx (∀ w, Calls Tryd.prog 27 #[SV b0 b1, SV a0 a1] w (OutI w (-1) (0)))) (C3 : Hx (∀ w, Calls Tryd.prog 27 #[SV b0 b1, SV c0 c1] w (OutI w (u) (0)))) (C4 : Hx (∀ w, Calls Tryd.prog 27 #[SV a0 a1, SV c0 c1] w (OutI w (v) (0)))) (M1 : Hx (∀ w, Calls Tryd.prog 25 #[SV a0 a1, SV b0 b1] w (OutZ w (0) (0) (4)))) (M2 : Hx (∀ w, Calls Tryd.prog 25 #[SV b0 b1, SV a0 a1] w (OutZ w (0) (0) (4)))) :
    Calls Tryd.prog 7 #[SV a0 a1, SV b0 b1, SV c0 c1, .int .i64 n] w fun e w' => e = .returned (.bool true) ∧ Below w.heap.size w w' := by
  have S : Bx (SS w w []) := ⟨SS.start w hl⟩
  replace S := Bx.mk (S.out.push #[.int .i64 a0, .int .i64 a1] 23)
  replace S := Bx.mk (S.out.push #[.int .i64 b0, .int .i64 b1] 23)
  replace S := Bx.mk (S.out.push #[.int .i64 c0, .int .i64 c1] 23)
  simp only [World.size_alloc] at S
  go_enter Tryd.func7, Tryd.ntmps7
  go_wp2_with fail
  refine (shead_any _ S.out.lm).mono ?_
  rintro e w1 ⟨rfl, hb⟩
  replace S := Bx.mk (S.out.call hb)
  clear hb
  obtain ⟨c1_0, c1_1, f1_0, f1_1, z1⟩ := S.out.two (w.heap.size + 1) 23 (.int .i64 b0) (.int .i64 b1) (List.mem_cons_of_mem _ List.mem_cons_self)
  obtain ⟨c2_0, c2_1, f2_0, f2_1, z2⟩ := S.out.two w.heap.size 23 (.int .i64 a0) (.int .i64 a1) (List.mem_cons_of_mem _ (List.mem_cons_of_mem _ List.mem_cons_self))
  go_wp2_with fail
  refine (B1.out _).mono ?_
  rintro e w2 ⟨rfl, hb⟩
  replace S := Bx.mk (S.out.call hb)
  clear hb
  clear c1_0 c1_1 f1_0 f1_1 z1 c2_0 c2_1 f2_0 f2_1 z2
  obtain ⟨c0_0, c0_1, f0_0, f0_1, z0⟩ := S.out.two (w.heap.size + 1 + 1) 23 (.int .i64 c0) (.int .i64 c1) List.mem_cons_self
  go_wp2_with fail
  refine (V1.out _).mono ?_
  rintro e w3 ⟨rfl, hb⟩
  replace S := Bx.mk (S.out.call hb)
  clear hb
  clear c0_0 c0_1 f0_0 f0_1 z0
  obtain ⟨c1_0, c1_1, f1_0, f1_1, z1⟩ := S.out.two (w.heap.size + 1) 23 (.int .i64 b0) (.int .i64 b1) (List.mem_cons_of_mem _ List.mem_cons_self)
  obtain ⟨c2_0, c2_1, f2_0, f2_1, z2⟩ := S.out.two w.heap.size 23 (.int .i64 a0) (.int .i64 a1) (List.mem_cons_of_mem _ (List.mem_cons_of_mem _ List.mem_cons_self))
  go_wp2_with fail
  refine (C1.out _).mono ?_
  rintro e w4 ⟨rfl, hb⟩
  replace S := Bx.mk (S.out.call hb)
  clear hb
  clear c1_0 c1_1 f1_0 f1_1 z1 c2_0 c2_1 f2_0 f2_1 z2
  obtain ⟨c1_0, c1_1, f1_0, f1_1, z1⟩ := S.out.two (w.heap.size + 1) 23 (.int .i64 b0) (.int .i64 b1) (List.mem_cons_of_mem _ List.mem_cons_self)
  obtain ⟨c2_0, c2_1, f2_0, f2_1, z2⟩ := S.out.two w.heap.size 23 (.int .i64 a0) (.int .i64 a1) (List.mem_cons_of_mem _ (List.mem_cons_of_mem _ List.mem_cons_self))
  go_wp2_with fail
  refine (C2.out _).mono ?_
  rintro e w5 ⟨rfl, hb⟩
  replace S := Bx.mk (S.out.call hb)
  clear hb
  clear c1_0 c1_1 f1_0 f1_1 z1 c2_0 c2_1 f2_0 f2_1 z2
  obtain ⟨c0_0, c0_1, f0_0, f0_1, z0⟩ := S.out.two (w.heap.size + 1 + 1) 23 (.int .i64 c0) (.int .i64 c1) List.mem_cons_self
  obtain ⟨c1_0, c1_1, f1_0, f1_1, z1⟩ := S.out.two (w.heap.size + 1) 23 (.int .i64 b0) (.int .i64 b1) (List.mem_cons_of_mem _ List.mem_cons_self)
  go_wp2_with fail
  refine (C3.out _).mono ?_
  rintro e w6 ⟨rfl, hb⟩
  replace S := Bx.mk (S.out.call hb)
  clear hb
  clear c0_0 c0_1 f0_0 f0_1 z0 c1_0 c1_1 f1_0 f1_1 z1
  obtain ⟨c0_0, c0_1, f0_0, f0_1, z0⟩ := S.out.two (w.heap.size + 1 + 1) 23 (.int .i64 c0) (.int .i64 c1) List.mem_cons_self
  obtain ⟨c2_0, c2_1, f2_0, f2_1, z2⟩ := S.out.two w.heap.size 23 (.int .i64 a0) (.int .i64 a1) (List.mem_cons_of_mem _ (List.mem_cons_of_mem _ List.mem_cons_self))
  go_wp2_with fail
  refine (C4.out _).mono ?_
  rintro e w7 ⟨rfl, hb⟩
  replace S := Bx.mk (S.out.call hb)
  clear hb
  clear c0_0 c0_1 f0_0 f0_1 z0 c2_0 c2_1 f2_0 f2_1 z2
  obtain ⟨c1_0, c1_1, f1_0, f1_1, z1⟩ := S.out.two (w.heap.size + 1) 23 (.int .i64 b0) (.int .i64 b1) (List.mem_cons_of_mem _ List.mem_cons_self)
  obtain ⟨c2_0, c2_1, f2_0, f2_1, z2⟩ := S.out.two w.heap.size 23 (.int .i64 a0) (.int .i64 a1) (List.mem_cons_of_mem _ (List.mem_cons_of_mem _ List.mem_cons_self))
  go_wp2_with fail
  refine (M1.out _).mono ?_
  rintro e w8 ⟨rfl, hb⟩
  replace S := Bx.mk (S.out.call hb)
  clear hb
  clear c1_0 c1_1 f1_0 f1_1 z1 c2_0 c2_1 f2_0 f2_1 z2
  replace S := Bx.mk (S.out.push #[.int .i64 0, .int .i64 0] 23)
  obtain ⟨c2_0, c2_1, f2_0, f2_1, z2⟩ := S.out.two (w.heap.size + 1) 23 (.int .i64 b0) (.int .i64 b1) (List.mem_cons_of_mem _ (List.mem_cons_of_mem _ List.mem_cons_self))
  obtain ⟨c3_0, c3_1, f3_0, f3_1, z3⟩ := S.out.two w.heap.size 23 (.int .i64 a0) (.int .i64 a1) (List.mem_cons_of_mem _ (List.mem_cons_of_mem _ (List.mem_cons_of_mem _ List.mem_cons_self)))
  go_wp2_with fail
  refine (M2.out _).mono ?_
  rintro e w9 ⟨rfl, hb⟩
  replace S := Bx.mk (S.out.call hb)
  clear hb
  clear c2_0 c2_1 f2_0 f2_1 z2 c3_0 c3_1 f3_0 f3_1 z3
  replace S := Bx.mk (S.out.push #[.int .i64 0, .int .i64 0] 23)
  obtain ⟨c0_0, c0_1, f0_0, f0_1, z0⟩ := S.out.two w9.heap.size 23 (.int .i64 0) (.int .i64 0) List.mem_cons_self
  obtain ⟨c1_0, c1_1, f1_0, f1_1, z1⟩ := S.out.two w8.heap.size 23 (.int .i64 0) (.int .i64 0) (List.mem_cons_of_mem _ List.mem_cons_self)
  obtain ⟨c3_0, c3_1, f3_0, f3_1, z3⟩ := S.out.two (w.heap.size + 1) 23 (.int .i64 b0) (.int .i64 b1) (List.mem_cons_of_mem _ (List.mem_cons_of_mem _ (List.mem_cons_of_mem _ List.mem_cons_self)))
  obtain ⟨c4_0, c4_1, f4_0, f4_1, z4⟩ := S.out.two w.heap.size 23 (.int .i64 a0) (.int .i64 a1) (List.mem_cons_of_mem _ (List.mem_cons_of_mem _ (List.mem_cons_of_mem _ (List.mem_cons_of_mem _ List.mem_cons_self))))
  by_cases q1 : a0 ≤ n <;> by_cases q2 : n ≤ a1 <;> by_cases q3 : b0 ≤ n <;> by_cases q4 : n ≤ b1
  all_goals first
    | (exfalso; omega)
    | (go_wp2_with fail; go_ret; refine ⟨?_, S.out.bl⟩; first | rfl | (show Ending.returned (Value.bool _) = _; simp [q4]))
set_option maxRecDepth 20000 in
set_option maxHeartbeats 8000000 in
theorem scom_4 (a0 a1 b0 b1 c0 c1 n : Int) (w : World) (hl : Lm w) (ha : a0 ≤ a1) (hb0 : b0 ≤ b1)  (B1 : Hx (∀ w, Calls Tryd.prog 38 #[SV a0 a1, SV b0 b1] w fun e w' => e = .returned (.bool true) ∧ Below w.heap.size w w')) (V1 : Hx (∀ w, Calls Tryd.prog 13 #[SV c0 c1] w fun e w' => e = .returned (.bool true) ∧ Below w.heap.size w w')) (u v : Int) (C1 : Hx (∀ w, Calls Tryd.prog 27 #[SV a0 a1, SV b0 b1] w (OutI w (0) (0)))) (C2 : Hx (∀ w, Calls Tryd.prog 27 #[SV b0 b1, SV a0 a1] w (OutI w (0) (0)))) (C3 : Hx (∀ w, Calls Tryd.prog 27 #[SV b0 b1, SV c0 c1] w (OutI w (u) (0)))) (C4 : Hx (∀ w, Calls Tryd.prog 27 #[SV a0 a1, SV c0 c1] w (OutI w (v) (0)))) (l h : Int) (hl1 : a0 ≤ l) (hl2 : b0 ≤ l) (hl3 : l = a0 ∨ l = b0) (hh1 : h ≤ a1) (hh2 : h ≤ b1) (hh3 : h = a1 ∨ h = b1) (V2 : Hx (∀ w, Calls Tryd.prog 13 #[SV l h] w fun e w' => e = .returned (.bool true) ∧ Below w.heap.size w w')) (M1 : Hx (∀ w, Calls Tryd.prog 25 #[SV a0 a1, SV b0 b1] w (OutZ w (l) (h) (0)))) (M2 : Hx (∀ w, Calls Tryd.prog 25 #[SV b0 b1, SV a0 a1] w (OutZ w (l) (h) (0)))) :
    Calls Tryd.prog 7 #[SV a0 a1, SV b0 b1, SV c0 c1, .int .i64 n] w fun e w' => e = .returned (.bool true) ∧ Below w.heap.size w w' := by
  have S : Bx (SS w w []) := ⟨SS.start w hl⟩
  replace S := Bx.mk (S.out.push #[.int .i64 a0, .int .i64 a1] 23)
  replace S := Bx.mk (S.out.push #[.int .i64 b0, .int .i64 b1] 23)
  replace S := Bx.mk (S.out.push #[.int .i64 c0, .int .i64 c1] 23)
  simp only [World.size_alloc] at S
  go_enter Tryd.func7, Tryd.ntmps7
  go_wp2_with fail
  refine (shead_any _ S.out.lm).mono ?_
  rintro e w1 ⟨rfl, hb⟩
  replace S := Bx.mk (S.out.call hb)
  clear hb
  obtain ⟨c1_0, c1_1, f1_0, f1_1, z1⟩ := S.out.two (w.heap.size + 1) 23 (.int .i64 b0) (.int .i64 b1) (List.mem_cons_of_mem _ List.mem_cons_self)
  obtain ⟨c2_0, c2_1, f2_0, f2_1, z2⟩ := S.out.two w.heap.size 23 (.int .i64 a0) (.int .i64 a1) (List.mem_cons_of_mem _ (List.mem_cons_of_mem _ List.mem_cons_self))
  go_wp2_with fail
  refine (B1.out _).mono ?_
  rintro e w2 ⟨rfl, hb⟩
  replace S := Bx.mk (S.out.call hb)
  clear hb
  clear c1_0 c1_1 f1_0 f1_1 z1 c2_0 c2_1 f2_0 f2_1 z2
  obtain ⟨c0_0, c0_1, f0_0, f0_1, z0⟩ := S.out.two (w.heap.size + 1 + 1) 23 (.int .i64 c0) (.int .i64 c1) List.mem_cons_self
  go_wp2_with fail
  refine (V1.out _).mono ?_
  rintro e w3 ⟨rfl, hb⟩
  replace S := Bx.mk (S.out.call hb)
  clear hb
  clear c0_0 c0_1 f0_0 f0_1 z0
  obtain ⟨c1_0, c1_1, f1_0, f1_1, z1⟩ := S.out.two (w.heap.size + 1) 23 (.int .i64 b0) (.int .i64 b1) (List.mem_cons_of_mem _ List.mem_cons_self)
  obtain ⟨c2_0, c2_1, f2_0, f2_1, z2⟩ := S.out.two w.heap.size 23 (.int .i64 a0) (.int .i64 a1) (List.mem_cons_of_mem _ (List.mem_cons_of_mem _ List.mem_cons_self))
  go_wp2_with fail
  refine (C1.out _).mono ?_
  rintro e w4 ⟨rfl, hb⟩
  replace S := Bx.mk (S.out.call hb)
  clear hb
  clear c1_0 c1_1 f1_0 f1_1 z1 c2_0 c2_1 f2_0 f2_1 z2
  obtain ⟨c1_0, c1_1, f1_0, f1_1, z1⟩ := S.out.two (w.heap.size + 1) 23 (.int .i64 b0) (.int .i64 b1) (List.mem_cons_of_mem _ List.mem_cons_self)
  obtain ⟨c2_0, c2_1, f2_0, f2_1, z2⟩ := S.out.two w.heap.size 23 (.int .i64 a0) (.int .i64 a1) (List.mem_cons_of_mem _ (List.mem_cons_of_mem _ List.mem_cons_self))
  go_wp2_with fail
  refine (C2.out _).mono ?_
  rintro e w5 ⟨rfl, hb⟩
  replace S := Bx.mk (S.out.call hb)
  clear hb
  clear c1_0 c1_1 f1_0 f1_1 z1 c2_0 c2_1 f2_0 f2_1 z2
  obtain ⟨c0_0, c0_1, f0_0, f0_1, z0⟩ := S.out.two (w.heap.size + 1 + 1) 23 (.int .i64 c0) (.int .i64 c1) List.mem_cons_self
  obtain ⟨c1_0, c1_1, f1_0, f1_1, z1⟩ := S.out.two (w.heap.size + 1) 23 (.int .i64 b0) (.int .i64 b1) (List.mem_cons_of_mem _ List.mem_cons_self)
  go_wp2_with fail
  refine (C3.out _).mono ?_
  rintro e w6 ⟨rfl, hb⟩
  replace S := Bx.mk (S.out.call hb)
  clear hb
  clear c0_0 c0_1 f0_0 f0_1 z0 c1_0 c1_1 f1_0 f1_1 z1
  obtain ⟨c0_0, c0_1, f0_0, f0_1, z0⟩ := S.out.two (w.heap.size + 1 + 1) 23 (.int .i64 c0) (.int .i64 c1) List.mem_cons_self
  obtain ⟨c2_0, c2_1, f2_0, f2_1, z2⟩ := S.out.two w.heap.size 23 (.int .i64 a0) (.int .i64 a1) (List.mem_cons_of_mem _ (List.mem_cons_of_mem _ List.mem_cons_self))
  go_wp2_with fail
  refine (C4.out _).mono ?_
  rintro e w7 ⟨rfl, hb⟩
  replace S := Bx.mk (S.out.call hb)
  clear hb
  clear c0_0 c0_1 f0_0 f0_1 z0 c2_0 c2_1 f2_0 f2_1 z2
  obtain ⟨c1_0, c1_1, f1_0, f1_1, z1⟩ := S.out.two (w.heap.size + 1) 23 (.int .i64 b0) (.int .i64 b1) (List.mem_cons_of_mem _ List.mem_cons_self)
  obtain ⟨c2_0, c2_1, f2_0, f2_1, z2⟩ := S.out.two w.heap.size 23 (.int .i64 a0) (.int .i64 a1) (List.mem_cons_of_mem _ (List.mem_cons_of_mem _ List.mem_cons_self))
  go_wp2_with fail
  refine (M1.out _).mono ?_
  rintro e w8 ⟨rfl, hb⟩
  replace S := Bx.mk (S.out.call hb)
  clear hb
  clear c1_0 c1_1 f1_0 f1_1 z1 c2_0 c2_1 f2_0 f2_1 z2
  replace S := Bx.mk (S.out.push #[.int .i64 l, .int .i64 h] 23)
  obtain ⟨c2_0, c2_1, f2_0, f2_1, z2⟩ := S.out.two (w.heap.size + 1) 23 (.int .i64 b0) (.int .i64 b1) (List.mem_cons_of_mem _ (List.mem_cons_of_mem _ List.mem_cons_self))
  obtain ⟨c3_0, c3_1, f3_0, f3_1, z3⟩ := S.out.two w.heap.size 23 (.int .i64 a0) (.int .i64 a1) (List.mem_cons_of_mem _ (List.mem_cons_of_mem _ (List.mem_cons_of_mem _ List.mem_cons_self)))
  go_wp2_with fail
  refine (M2.out _).mono ?_
  rintro e w9 ⟨rfl, hb⟩
  replace S := Bx.mk (S.out.call hb)
  clear hb
  clear c2_0 c2_1 f2_0 f2_1 z2 c3_0 c3_1 f3_0 f3_1 z3
  replace S := Bx.mk (S.out.push #[.int .i64 l, .int .i64 h] 23)
  obtain ⟨c0_0, c0_1, f0_0, f0_1, z0⟩ := S.out.two w9.heap.size 23 (.int .i64 l) (.int .i64 h) List.mem_cons_self
  obtain ⟨c1_0, c1_1, f1_0, f1_1, z1⟩ := S.out.two w8.heap.size 23 (.int .i64 l) (.int .i64 h) (List.mem_cons_of_mem _ List.mem_cons_self)
  obtain ⟨c3_0, c3_1, f3_0, f3_1, z3⟩ := S.out.two (w.heap.size + 1) 23 (.int .i64 b0) (.int .i64 b1) (List.mem_cons_of_mem _ (List.mem_cons_of_mem _ (List.mem_cons_of_mem _ List.mem_cons_self)))
  obtain ⟨c4_0, c4_1, f4_0, f4_1, z4⟩ := S.out.two w.heap.size 23 (.int .i64 a0) (.int .i64 a1) (List.mem_cons_of_mem _ (List.mem_cons_of_mem _ (List.mem_cons_of_mem _ (List.mem_cons_of_mem _ List.mem_cons_self))))
  by_cases q1 : a0 ≤ n <;> by_cases q2 : n ≤ a1 <;> by_cases q3 : b0 ≤ n <;> by_cases q4 : n ≤ b1 <;> by_cases r1 : l ≤ n <;> by_cases r2 : n ≤ h
  all_goals first
    | (exfalso; omega)
    | skip
  all_goals
    go_wp2_with fail
    refine (V2.out _).mono ?_
    rintro e w10 ⟨rfl, hb⟩
    replace S := Bx.mk (S.out.call hb)
    clear hb
    clear c0_0 c0_1 f0_0 f0_1 z0 c1_0 c1_1 f1_0 f1_1 z1 c3_0 c3_1 f3_0 f3_1 z3 c4_0 c4_1 f4_0 f4_1 z4
    obtain ⟨c1_0, c1_1, f1_0, f1_1, z1⟩ := S.out.two w8.heap.size 23 (.int .i64 l) (.int .i64 h) (List.mem_cons_of_mem _ List.mem_cons_self)
    go_wp2_with fail
    go_ret
    refine ⟨?_, S.out.bl⟩
    first | rfl | (have e4 : decide (n ≤ b1) = decide (n ≤ h) := (by rw [decide_eq_decide]; omega); show Ending.returned (Value.bool _) = _; simp [e4]; done) | (have e5 : decide (n ≤ h) = false := decide_eq_false (by omega); show Ending.returned (Value.bool _) = _; simp [e5]; done) | (have e6 : decide (n ≤ h) = true := decide_eq_true (by omega); have e7 : decide (n ≤ b1) = true := decide_eq_true (by omega); show Ending.returned (Value.bool _) = _; simp [e6, e7]; done)
end Go.Proofs.YtdlfnonlalkjdaaDoor

/- SizeSurely, walked. -/
import Derived.Test.YtdlfnonlalkjdaaDoorSLC
import Derived.Test.YtdlfnonlalkjdaaDoorSLP
namespace Go.Proofs.YtdlfnonlalkjdaaDoor
open Go.RowKit M
theorem in_no (a b c d : Int) (h1 : ¬ (c ≤ a ∧ b ≤ d)) (w : World) : Calls Tryd.prog 36 #[SV a b, SV c d] w fun e w' => e = .returned (.bool false) ∧ Below w.heap.size w w' := by
  by_cases h2 : c ≤ a
  · have h3 : ¬ b ≤ d := fun k => h1 ⟨h2, k⟩
    clear h1
    go_enter Tryd.func36, Tryd.ntmps36
    go_wp2_with fail
    go_ret
    exact ⟨rfl, (by repeat (first | with_reducible exact Below.refl _ _ | (with_reducible refine Below.setCell ?_ ?side _; case side => (first | omega | (simp <;> omega))) | (with_reducible refine Below.alloc ?_ ?side _; case side => (first | omega | (simp <;> omega))) | with_reducible apply below_drewN))⟩
  · clear h1
    go_enter Tryd.func36, Tryd.ntmps36
    go_wp2_with fail
    go_ret
    exact ⟨rfl, (by repeat (first | with_reducible exact Below.refl _ _ | (with_reducible refine Below.setCell ?_ ?side _; case side => (first | omega | (simp <;> omega))) | (with_reducible refine Below.alloc ?_ ?side _; case side => (first | omega | (simp <;> omega))) | with_reducible apply below_drewN))⟩
set_option maxRecDepth 20000 in
set_option maxHeartbeats 8000000 in
theorem ssur_b (a0 a1 b0 b1 l h l2 h2 : Int) (w : World) (hl : Lm w) (B1 : Hx (∀ w, Calls Tryd.prog 38 #[SV a0 a1, SV b0 b1] w fun e w' => e = .returned (.bool false) ∧ Below w.heap.size w w')) :
    Calls Tryd.prog 8 #[SV a0 a1, SV b0 b1, .int .i64 l, .int .i64 h, .int .i64 l2, .int .i64 h2] w fun e w' => e = .returned (.bool true) ∧ Below w.heap.size w w' := by
  have S : Bx (SS w w []) := ⟨SS.start w hl⟩
  replace S := Bx.mk (S.out.push #[.int .i64 a0, .int .i64 a1] 23)
  replace S := Bx.mk (S.out.push #[.int .i64 b0, .int .i64 b1] 23)
  simp only [World.size_alloc] at S
  go_enter Tryd.func8, Tryd.ntmps8
  go_wp2_with fail
  refine (shead_any _ S.out.lm).mono ?_
  rintro e w1 ⟨rfl, hb⟩
  replace S := Bx.mk (S.out.call hb)
  clear hb
  obtain ⟨c0_0, c0_1, f0_0, f0_1, z0⟩ := S.out.two (w.heap.size + 1) 23 (.int .i64 b0) (.int .i64 b1) List.mem_cons_self
  obtain ⟨c1_0, c1_1, f1_0, f1_1, z1⟩ := S.out.two w.heap.size 23 (.int .i64 a0) (.int .i64 a1) (List.mem_cons_of_mem _ List.mem_cons_self)
  go_wp2_with fail
  refine (B1.out _).mono ?_
  rintro e w2 ⟨rfl, hb⟩
  replace S := Bx.mk (S.out.call hb)
  clear hb
  clear c0_0 c0_1 f0_0 f0_1 z0 c1_0 c1_1 f1_0 f1_1 z1
  go_wp2_with fail
  go_ret
  exact ⟨rfl, S.out.bl⟩
set_option maxRecDepth 20000 in
set_option maxHeartbeats 8000000 in
theorem ssur_0 (a0 a1 b0 b1 l h l2 h2 : Int) (w : World) (hl : Lm w) (B1 : Hx (∀ w, Calls Tryd.prog 38 #[SV a0 a1, SV b0 b1] w fun e w' => e = .returned (.bool true) ∧ Below w.heap.size w w'))  (k0 : l < -1000000000000000) :
    Calls Tryd.prog 8 #[SV a0 a1, SV b0 b1, .int .i64 l, .int .i64 h, .int .i64 l2, .int .i64 h2] w fun e w' => e = .returned (.bool true) ∧ Below w.heap.size w w' := by
  have S : Bx (SS w w []) := ⟨SS.start w hl⟩
  replace S := Bx.mk (S.out.push #[.int .i64 a0, .int .i64 a1] 23)
  replace S := Bx.mk (S.out.push #[.int .i64 b0, .int .i64 b1] 23)
  simp only [World.size_alloc] at S
  go_enter Tryd.func8, Tryd.ntmps8
  go_wp2_with fail
  refine (shead_any _ S.out.lm).mono ?_
  rintro e w1 ⟨rfl, hb⟩
  replace S := Bx.mk (S.out.call hb)
  clear hb
  obtain ⟨c0_0, c0_1, f0_0, f0_1, z0⟩ := S.out.two (w.heap.size + 1) 23 (.int .i64 b0) (.int .i64 b1) List.mem_cons_self
  obtain ⟨c1_0, c1_1, f1_0, f1_1, z1⟩ := S.out.two w.heap.size 23 (.int .i64 a0) (.int .i64 a1) (List.mem_cons_of_mem _ List.mem_cons_self)
  go_wp2_with fail
  refine (B1.out _).mono ?_
  rintro e w2 ⟨rfl, hb⟩
  replace S := Bx.mk (S.out.call hb)
  clear hb
  clear c0_0 c0_1 f0_0 f0_1 z0 c1_0 c1_1 f1_0 f1_1 z1
  go_wp2_with fail
  go_ret
  exact ⟨rfl, S.out.bl⟩
set_option maxRecDepth 20000 in
set_option maxHeartbeats 8000000 in
theorem ssur_1 (a0 a1 b0 b1 l h l2 h2 : Int) (w : World) (hl : Lm w) (B1 : Hx (∀ w, Calls Tryd.prog 38 #[SV a0 a1, SV b0 b1] w fun e w' => e = .returned (.bool true) ∧ Below w.heap.size w w')) (k0 : ¬ l < -1000000000000000) (k1 : 1000000000000000 < h) :
    Calls Tryd.prog 8 #[SV a0 a1, SV b0 b1, .int .i64 l, .int .i64 h, .int .i64 l2, .int .i64 h2] w fun e w' => e = .returned (.bool true) ∧ Below w.heap.size w w' := by
  have S : Bx (SS w w []) := ⟨SS.start w hl⟩
  replace S := Bx.mk (S.out.push #[.int .i64 a0, .int .i64 a1] 23)
  replace S := Bx.mk (S.out.push #[.int .i64 b0, .int .i64 b1] 23)
  simp only [World.size_alloc] at S
  go_enter Tryd.func8, Tryd.ntmps8
  go_wp2_with fail
  refine (shead_any _ S.out.lm).mono ?_
  rintro e w1 ⟨rfl, hb⟩
  replace S := Bx.mk (S.out.call hb)
  clear hb
  obtain ⟨c0_0, c0_1, f0_0, f0_1, z0⟩ := S.out.two (w.heap.size + 1) 23 (.int .i64 b0) (.int .i64 b1) List.mem_cons_self
  obtain ⟨c1_0, c1_1, f1_0, f1_1, z1⟩ := S.out.two w.heap.size 23 (.int .i64 a0) (.int .i64 a1) (List.mem_cons_of_mem _ List.mem_cons_self)
  go_wp2_with fail
  refine (B1.out _).mono ?_
  rintro e w2 ⟨rfl, hb⟩
  replace S := Bx.mk (S.out.call hb)
  clear hb
  clear c0_0 c0_1 f0_0 f0_1 z0 c1_0 c1_1 f1_0 f1_1 z1
  go_wp2_with fail
  go_ret
  exact ⟨rfl, S.out.bl⟩
set_option maxRecDepth 20000 in
set_option maxHeartbeats 8000000 in
theorem ssur_2 (a0 a1 b0 b1 l h l2 h2 : Int) (w : World) (hl : Lm w) (B1 : Hx (∀ w, Calls Tryd.prog 38 #[SV a0 a1, SV b0 b1] w fun e w' => e = .returned (.bool true) ∧ Below w.heap.size w w')) (k0 : ¬ l < -1000000000000000) (k1 : ¬ 1000000000000000 < h) (k2 : l2 < -1000000000000000) :
    Calls Tryd.prog 8 #[SV a0 a1, SV b0 b1, .int .i64 l, .int .i64 h, .int .i64 l2, .int .i64 h2] w fun e w' => e = .returned (.bool true) ∧ Below w.heap.size w w' := by
  have S : Bx (SS w w []) := ⟨SS.start w hl⟩
  replace S := Bx.mk (S.out.push #[.int .i64 a0, .int .i64 a1] 23)
  replace S := Bx.mk (S.out.push #[.int .i64 b0, .int .i64 b1] 23)
  simp only [World.size_alloc] at S
  go_enter Tryd.func8, Tryd.ntmps8
  go_wp2_with fail
  refine (shead_any _ S.out.lm).mono ?_
  rintro e w1 ⟨rfl, hb⟩
  replace S := Bx.mk (S.out.call hb)
  clear hb
  obtain ⟨c0_0, c0_1, f0_0, f0_1, z0⟩ := S.out.two (w.heap.size + 1) 23 (.int .i64 b0) (.int .i64 b1) List.mem_cons_self
  obtain ⟨c1_0, c1_1, f1_0, f1_1, z1⟩ := S.out.two w.heap.size 23 (.int .i64 a0) (.int .i64 a1) (List.mem_cons_of_mem _ List.mem_cons_self)
  go_wp2_with fail
  refine (B1.out _).mono ?_
  rintro e w2 ⟨rfl, hb⟩
  replace S := Bx.mk (S.out.call hb)
  clear hb
  clear c0_0 c0_1 f0_0 f0_1 z0 c1_0 c1_1 f1_0 f1_1 z1
  go_wp2_with fail
  go_ret
  exact ⟨rfl, S.out.bl⟩
set_option maxRecDepth 20000 in
set_option maxHeartbeats 8000000 in
theorem ssur_3 (a0 a1 b0 b1 l h l2 h2 : Int) (w : World) (hl : Lm w) (B1 : Hx (∀ w, Calls Tryd.prog 38 #[SV a0 a1, SV b0 b1] w fun e w' => e = .returned (.bool true) ∧ Below w.heap.size w w')) (k0 : ¬ l < -1000000000000000) (k1 : ¬ 1000000000000000 < h) (k2 : ¬ l2 < -1000000000000000) (k3 : 1000000000000000 < h2) :
    Calls Tryd.prog 8 #[SV a0 a1, SV b0 b1, .int .i64 l, .int .i64 h, .int .i64 l2, .int .i64 h2] w fun e w' => e = .returned (.bool true) ∧ Below w.heap.size w w' := by
  have S : Bx (SS w w []) := ⟨SS.start w hl⟩
  replace S := Bx.mk (S.out.push #[.int .i64 a0, .int .i64 a1] 23)
  replace S := Bx.mk (S.out.push #[.int .i64 b0, .int .i64 b1] 23)
  simp only [World.size_alloc] at S
  go_enter Tryd.func8, Tryd.ntmps8
  go_wp2_with fail
  refine (shead_any _ S.out.lm).mono ?_
  rintro e w1 ⟨rfl, hb⟩
  replace S := Bx.mk (S.out.call hb)
  clear hb
  obtain ⟨c0_0, c0_1, f0_0, f0_1, z0⟩ := S.out.two (w.heap.size + 1) 23 (.int .i64 b0) (.int .i64 b1) List.mem_cons_self
  obtain ⟨c1_0, c1_1, f1_0, f1_1, z1⟩ := S.out.two w.heap.size 23 (.int .i64 a0) (.int .i64 a1) (List.mem_cons_of_mem _ List.mem_cons_self)
  go_wp2_with fail
  refine (B1.out _).mono ?_
  rintro e w2 ⟨rfl, hb⟩
  replace S := Bx.mk (S.out.call hb)
  clear hb
  clear c0_0 c0_1 f0_0 f0_1 z0 c1_0 c1_1 f1_0 f1_1 z1
  go_wp2_with fail
  go_ret
  exact ⟨rfl, S.out.bl⟩
set_option maxRecDepth 20000 in
set_option maxHeartbeats 8000000 in
theorem ssur_4 (a0 a1 b0 b1 l h l2 h2 : Int) (w : World) (hl : Lm w) (B1 : Hx (∀ w, Calls Tryd.prog 38 #[SV a0 a1, SV b0 b1] w fun e w' => e = .returned (.bool true) ∧ Below w.heap.size w w')) (k0 : ¬ l < -1000000000000000) (k1 : ¬ 1000000000000000 < h) (k2 : ¬ l2 < -1000000000000000) (k3 : ¬ 1000000000000000 < h2) (k4 : h < l) :
    Calls Tryd.prog 8 #[SV a0 a1, SV b0 b1, .int .i64 l, .int .i64 h, .int .i64 l2, .int .i64 h2] w fun e w' => e = .returned (.bool true) ∧ Below w.heap.size w w' := by
  have S : Bx (SS w w []) := ⟨SS.start w hl⟩
  replace S := Bx.mk (S.out.push #[.int .i64 a0, .int .i64 a1] 23)
  replace S := Bx.mk (S.out.push #[.int .i64 b0, .int .i64 b1] 23)
  simp only [World.size_alloc] at S
  go_enter Tryd.func8, Tryd.ntmps8
  go_wp2_with fail
  refine (shead_any _ S.out.lm).mono ?_
  rintro e w1 ⟨rfl, hb⟩
  replace S := Bx.mk (S.out.call hb)
  clear hb
  obtain ⟨c0_0, c0_1, f0_0, f0_1, z0⟩ := S.out.two (w.heap.size + 1) 23 (.int .i64 b0) (.int .i64 b1) List.mem_cons_self
  obtain ⟨c1_0, c1_1, f1_0, f1_1, z1⟩ := S.out.two w.heap.size 23 (.int .i64 a0) (.int .i64 a1) (List.mem_cons_of_mem _ List.mem_cons_self)
  go_wp2_with fail
  refine (B1.out _).mono ?_
  rintro e w2 ⟨rfl, hb⟩
  replace S := Bx.mk (S.out.call hb)
  clear hb
  clear c0_0 c0_1 f0_0 f0_1 z0 c1_0 c1_1 f1_0 f1_1 z1
  go_wp2_with fail
  go_ret
  exact ⟨rfl, S.out.bl⟩
set_option maxRecDepth 20000 in
set_option maxHeartbeats 8000000 in
theorem ssur_5 (a0 a1 b0 b1 l h l2 h2 : Int) (w : World) (hl : Lm w) (B1 : Hx (∀ w, Calls Tryd.prog 38 #[SV a0 a1, SV b0 b1] w fun e w' => e = .returned (.bool true) ∧ Below w.heap.size w w')) (k0 : ¬ l < -1000000000000000) (k1 : ¬ 1000000000000000 < h) (k2 : ¬ l2 < -1000000000000000) (k3 : ¬ 1000000000000000 < h2) (k4 : ¬ h < l) (k5 : h2 < l2) :
    Calls Tryd.prog 8 #[SV a0 a1, SV b0 b1, .int .i64 l, .int .i64 h, .int .i64 l2, .int .i64 h2] w fun e w' => e = .returned (.bool true) ∧ Below w.heap.size w w' := by
  have S : Bx (SS w w []) := ⟨SS.start w hl⟩
  replace S := Bx.mk (S.out.push #[.int .i64 a0, .int .i64 a1] 23)
  replace S := Bx.mk (S.out.push #[.int .i64 b0, .int .i64 b1] 23)
  simp only [World.size_alloc] at S
  go_enter Tryd.func8, Tryd.ntmps8
  go_wp2_with fail
  refine (shead_any _ S.out.lm).mono ?_
  rintro e w1 ⟨rfl, hb⟩
  replace S := Bx.mk (S.out.call hb)
  clear hb
  obtain ⟨c0_0, c0_1, f0_0, f0_1, z0⟩ := S.out.two (w.heap.size + 1) 23 (.int .i64 b0) (.int .i64 b1) List.mem_cons_self
  obtain ⟨c1_0, c1_1, f1_0, f1_1, z1⟩ := S.out.two w.heap.size 23 (.int .i64 a0) (.int .i64 a1) (List.mem_cons_of_mem _ List.mem_cons_self)
  go_wp2_with fail
  refine (B1.out _).mono ?_
  rintro e w2 ⟨rfl, hb⟩
  replace S := Bx.mk (S.out.call hb)
  clear hb
  clear c0_0 c0_1 f0_0 f0_1 z0 c1_0 c1_1 f1_0 f1_1 z1
  go_wp2_with fail
  go_ret
  exact ⟨rfl, S.out.bl⟩
set_option maxRecDepth 20000 in
set_option maxHeartbeats 8000000 in
theorem ssur_f_h (a0 a1 b0 b1 l h l2 h2 : Int) (w : World) (hl : Lm w) (B1 : Hx (∀ w, Calls Tryd.prog 38 #[SV a0 a1, SV b0 b1] w fun e w' => e = .returned (.bool true) ∧ Below w.heap.size w w')) (k0 : ¬ l < -1000000000000000) (k1 : ¬ 1000000000000000 < h) (k2 : ¬ l2 < -1000000000000000) (k3 : ¬ 1000000000000000 < h2) (k4 : ¬ h < l) (k5 : ¬ h2 < l2) (x y z s0 s1 hc : Int) (x0 : -1 ≤ x) (x1 : x ≤ 1) (W1 : Hx (∀ w, Calls Tryd.prog 29 #[SV a0 a1, .int .i64 l, .int .i64 h] w (OutI w (x) (0)))) (W2 : Hx (∀ w, Calls Tryd.prog 29 #[SV b0 b1, .int .i64 l, .int .i64 h] w (OutI w (y) (0)))) (W3 : Hx (∀ w, Calls Tryd.prog 29 #[SV b0 b1, .int .i64 l2, .int .i64 h2] w (OutI w (z) (0)))) (I1 : Hx (∀ w, Calls Tryd.prog 36 #[SV b0 b1, SV a0 a1] w fun e w' => e = .returned (.bool false) ∧ Below w.heap.size w w')) (A1 : Hx (∀ w, Calls Tryd.prog 19 #[SV a0 a1, SV b0 b1] w (OutZ w (s0) (s1) (hc)))) (hn : ¬ hc = 0) :
    Calls Tryd.prog 8 #[SV a0 a1, SV b0 b1, .int .i64 l, .int .i64 h, .int .i64 l2, .int .i64 h2] w fun e w' => e = .returned (.bool true) ∧ Below w.heap.size w w' := by
  have S : Bx (SS w w []) := ⟨SS.start w hl⟩
  replace S := Bx.mk (S.out.push #[.int .i64 a0, .int .i64 a1] 23)
  replace S := Bx.mk (S.out.push #[.int .i64 b0, .int .i64 b1] 23)
  simp only [World.size_alloc] at S
  go_enter Tryd.func8, Tryd.ntmps8
  go_wp2_with fail
  refine (shead_any _ S.out.lm).mono ?_
  rintro e w1 ⟨rfl, hb⟩
  replace S := Bx.mk (S.out.call hb)
  clear hb
  obtain ⟨c0_0, c0_1, f0_0, f0_1, z0⟩ := S.out.two (w.heap.size + 1) 23 (.int .i64 b0) (.int .i64 b1) List.mem_cons_self
  obtain ⟨c1_0, c1_1, f1_0, f1_1, z1⟩ := S.out.two w.heap.size 23 (.int .i64 a0) (.int .i64 a1) (List.mem_cons_of_mem _ List.mem_cons_self)
  go_wp2_with fail
  refine (B1.out _).mono ?_
  rintro e w2 ⟨rfl, hb⟩
  replace S := Bx.mk (S.out.call hb)
  clear hb
  clear c0_0 c0_1 f0_0 f0_1 z0 c1_0 c1_1 f1_0 f1_1 z1
  obtain ⟨c1_0, c1_1, f1_0, f1_1, z1⟩ := S.out.two w.heap.size 23 (.int .i64 a0) (.int .i64 a1) (List.mem_cons_of_mem _ List.mem_cons_self)
  go_wp2_with fail
  refine (W1.out _).mono ?_
  rintro e w3 ⟨rfl, hb⟩
  replace S := Bx.mk (S.out.call hb)
  clear hb
  clear c1_0 c1_1 f1_0 f1_1 z1
  obtain ⟨c0_0, c0_1, f0_0, f0_1, z0⟩ := S.out.two (w.heap.size + 1) 23 (.int .i64 b0) (.int .i64 b1) List.mem_cons_self
  go_wp2_with fail
  refine (W2.out _).mono ?_
  rintro e w4 ⟨rfl, hb⟩
  replace S := Bx.mk (S.out.call hb)
  clear hb
  clear c0_0 c0_1 f0_0 f0_1 z0
  obtain ⟨c0_0, c0_1, f0_0, f0_1, z0⟩ := S.out.two (w.heap.size + 1) 23 (.int .i64 b0) (.int .i64 b1) List.mem_cons_self
  go_wp2_with fail
  refine (W3.out _).mono ?_
  rintro e w5 ⟨rfl, hb⟩
  replace S := Bx.mk (S.out.call hb)
  clear hb
  clear c0_0 c0_1 f0_0 f0_1 z0
  obtain ⟨c0_0, c0_1, f0_0, f0_1, z0⟩ := S.out.two (w.heap.size + 1) 23 (.int .i64 b0) (.int .i64 b1) List.mem_cons_self
  obtain ⟨c1_0, c1_1, f1_0, f1_1, z1⟩ := S.out.two w.heap.size 23 (.int .i64 a0) (.int .i64 a1) (List.mem_cons_of_mem _ List.mem_cons_self)
  go_wp2_with fail
  refine (I1.out _).mono ?_
  rintro e w6 ⟨rfl, hb⟩
  replace S := Bx.mk (S.out.call hb)
  clear hb
  clear c0_0 c0_1 f0_0 f0_1 z0 c1_0 c1_1 f1_0 f1_1 z1
  obtain ⟨c0_0, c0_1, f0_0, f0_1, z0⟩ := S.out.two (w.heap.size + 1) 23 (.int .i64 b0) (.int .i64 b1) List.mem_cons_self
  obtain ⟨c1_0, c1_1, f1_0, f1_1, z1⟩ := S.out.two w.heap.size 23 (.int .i64 a0) (.int .i64 a1) (List.mem_cons_of_mem _ List.mem_cons_self)
  go_wp2_with fail
  refine (A1.out _).mono ?_
  rintro e w7 ⟨rfl, hb⟩
  replace S := Bx.mk (S.out.call hb)
  clear hb
  clear c0_0 c0_1 f0_0 f0_1 z0 c1_0 c1_1 f1_0 f1_1 z1
  replace S := Bx.mk (S.out.push #[.int .i64 s0, .int .i64 s1] 23)
  go_wp2_with fail
  go_ret
  exact ⟨rfl, S.out.bl⟩
set_option maxRecDepth 20000 in
set_option maxHeartbeats 8000000 in
theorem ssur_t0_h (a0 a1 b0 b1 l h l2 h2 : Int) (w : World) (hl : Lm w) (B1 : Hx (∀ w, Calls Tryd.prog 38 #[SV a0 a1, SV b0 b1] w fun e w' => e = .returned (.bool true) ∧ Below w.heap.size w w')) (k0 : ¬ l < -1000000000000000) (k1 : ¬ 1000000000000000 < h) (k2 : ¬ l2 < -1000000000000000) (k3 : ¬ 1000000000000000 < h2) (k4 : ¬ h < l) (k5 : ¬ h2 < l2) (x y z s0 s1 hc : Int) (x0 : -1 ≤ x) (x1 : x ≤ 1) (W1 : Hx (∀ w, Calls Tryd.prog 29 #[SV a0 a1, .int .i64 l, .int .i64 h] w (OutI w (0) (0)))) (W2 : Hx (∀ w, Calls Tryd.prog 29 #[SV b0 b1, .int .i64 l, .int .i64 h] w (OutI w (y) (0)))) (W3 : Hx (∀ w, Calls Tryd.prog 29 #[SV b0 b1, .int .i64 l2, .int .i64 h2] w (OutI w (z) (0)))) (I1 : Hx (∀ w, Calls Tryd.prog 36 #[SV b0 b1, SV a0 a1] w fun e w' => e = .returned (.bool true) ∧ Below w.heap.size w w')) (A1 : Hx (∀ w, Calls Tryd.prog 19 #[SV a0 a1, SV b0 b1] w (OutZ w (s0) (s1) (hc)))) (hn : ¬ hc = 0) :
    Calls Tryd.prog 8 #[SV a0 a1, SV b0 b1, .int .i64 l, .int .i64 h, .int .i64 l2, .int .i64 h2] w fun e w' => e = .returned (.bool true) ∧ Below w.heap.size w w' := by
  have S : Bx (SS w w []) := ⟨SS.start w hl⟩
  replace S := Bx.mk (S.out.push #[.int .i64 a0, .int .i64 a1] 23)
  replace S := Bx.mk (S.out.push #[.int .i64 b0, .int .i64 b1] 23)
  simp only [World.size_alloc] at S
  go_enter Tryd.func8, Tryd.ntmps8
  go_wp2_with fail
  refine (shead_any _ S.out.lm).mono ?_
  rintro e w1 ⟨rfl, hb⟩
  replace S := Bx.mk (S.out.call hb)
  clear hb
  obtain ⟨c0_0, c0_1, f0_0, f0_1, z0⟩ := S.out.two (w.heap.size + 1) 23 (.int .i64 b0) (.int .i64 b1) List.mem_cons_self
  obtain ⟨c1_0, c1_1, f1_0, f1_1, z1⟩ := S.out.two w.heap.size 23 (.int .i64 a0) (.int .i64 a1) (List.mem_cons_of_mem _ List.mem_cons_self)
  go_wp2_with fail
  refine (B1.out _).mono ?_
  rintro e w2 ⟨rfl, hb⟩
  replace S := Bx.mk (S.out.call hb)
  clear hb
  clear c0_0 c0_1 f0_0 f0_1 z0 c1_0 c1_1 f1_0 f1_1 z1
  obtain ⟨c1_0, c1_1, f1_0, f1_1, z1⟩ := S.out.two w.heap.size 23 (.int .i64 a0) (.int .i64 a1) (List.mem_cons_of_mem _ List.mem_cons_self)
  go_wp2_with fail
  refine (W1.out _).mono ?_
  rintro e w3 ⟨rfl, hb⟩
  replace S := Bx.mk (S.out.call hb)
  clear hb
  clear c1_0 c1_1 f1_0 f1_1 z1
  obtain ⟨c0_0, c0_1, f0_0, f0_1, z0⟩ := S.out.two (w.heap.size + 1) 23 (.int .i64 b0) (.int .i64 b1) List.mem_cons_self
  go_wp2_with fail
  refine (W2.out _).mono ?_
  rintro e w4 ⟨rfl, hb⟩
  replace S := Bx.mk (S.out.call hb)
  clear hb
  clear c0_0 c0_1 f0_0 f0_1 z0
  obtain ⟨c0_0, c0_1, f0_0, f0_1, z0⟩ := S.out.two (w.heap.size + 1) 23 (.int .i64 b0) (.int .i64 b1) List.mem_cons_self
  go_wp2_with fail
  refine (W3.out _).mono ?_
  rintro e w5 ⟨rfl, hb⟩
  replace S := Bx.mk (S.out.call hb)
  clear hb
  clear c0_0 c0_1 f0_0 f0_1 z0
  obtain ⟨c0_0, c0_1, f0_0, f0_1, z0⟩ := S.out.two (w.heap.size + 1) 23 (.int .i64 b0) (.int .i64 b1) List.mem_cons_self
  obtain ⟨c1_0, c1_1, f1_0, f1_1, z1⟩ := S.out.two w.heap.size 23 (.int .i64 a0) (.int .i64 a1) (List.mem_cons_of_mem _ List.mem_cons_self)
  go_wp2_with fail
  refine (I1.out _).mono ?_
  rintro e w6 ⟨rfl, hb⟩
  replace S := Bx.mk (S.out.call hb)
  clear hb
  clear c0_0 c0_1 f0_0 f0_1 z0 c1_0 c1_1 f1_0 f1_1 z1
  obtain ⟨c0_0, c0_1, f0_0, f0_1, z0⟩ := S.out.two (w.heap.size + 1) 23 (.int .i64 b0) (.int .i64 b1) List.mem_cons_self
  obtain ⟨c1_0, c1_1, f1_0, f1_1, z1⟩ := S.out.two w.heap.size 23 (.int .i64 a0) (.int .i64 a1) (List.mem_cons_of_mem _ List.mem_cons_self)
  go_wp2_with fail
  refine (A1.out _).mono ?_
  rintro e w7 ⟨rfl, hb⟩
  replace S := Bx.mk (S.out.call hb)
  clear hb
  clear c0_0 c0_1 f0_0 f0_1 z0 c1_0 c1_1 f1_0 f1_1 z1
  replace S := Bx.mk (S.out.push #[.int .i64 s0, .int .i64 s1] 23)
  go_wp2_with fail
  go_ret
  exact ⟨rfl, S.out.bl⟩
set_option maxRecDepth 20000 in
set_option maxHeartbeats 8000000 in
theorem ssur_ty_h (a0 a1 b0 b1 l h l2 h2 : Int) (w : World) (hl : Lm w) (B1 : Hx (∀ w, Calls Tryd.prog 38 #[SV a0 a1, SV b0 b1] w fun e w' => e = .returned (.bool true) ∧ Below w.heap.size w w')) (k0 : ¬ l < -1000000000000000) (k1 : ¬ 1000000000000000 < h) (k2 : ¬ l2 < -1000000000000000) (k3 : ¬ 1000000000000000 < h2) (k4 : ¬ h < l) (k5 : ¬ h2 < l2) (x y z s0 s1 hc : Int) (x0 : -1 ≤ x) (x1 : x ≤ 1) (W1 : Hx (∀ w, Calls Tryd.prog 29 #[SV a0 a1, .int .i64 l, .int .i64 h] w (OutI w (x) (0)))) (W2 : Hx (∀ w, Calls Tryd.prog 29 #[SV b0 b1, .int .i64 l, .int .i64 h] w (OutI w (x) (0)))) (W3 : Hx (∀ w, Calls Tryd.prog 29 #[SV b0 b1, .int .i64 l2, .int .i64 h2] w (OutI w (z) (0)))) (I1 : Hx (∀ w, Calls Tryd.prog 36 #[SV b0 b1, SV a0 a1] w fun e w' => e = .returned (.bool true) ∧ Below w.heap.size w w')) (A1 : Hx (∀ w, Calls Tryd.prog 19 #[SV a0 a1, SV b0 b1] w (OutZ w (s0) (s1) (hc)))) (xn : ¬ x = 0) (hn : ¬ hc = 0) :
    Calls Tryd.prog 8 #[SV a0 a1, SV b0 b1, .int .i64 l, .int .i64 h, .int .i64 l2, .int .i64 h2] w fun e w' => e = .returned (.bool true) ∧ Below w.heap.size w w' := by
  have S : Bx (SS w w []) := ⟨SS.start w hl⟩
  replace S := Bx.mk (S.out.push #[.int .i64 a0, .int .i64 a1] 23)
  replace S := Bx.mk (S.out.push #[.int .i64 b0, .int .i64 b1] 23)
  simp only [World.size_alloc] at S
  go_enter Tryd.func8, Tryd.ntmps8
  go_wp2_with fail
  refine (shead_any _ S.out.lm).mono ?_
  rintro e w1 ⟨rfl, hb⟩
  replace S := Bx.mk (S.out.call hb)
  clear hb
  obtain ⟨c0_0, c0_1, f0_0, f0_1, z0⟩ := S.out.two (w.heap.size + 1) 23 (.int .i64 b0) (.int .i64 b1) List.mem_cons_self
  obtain ⟨c1_0, c1_1, f1_0, f1_1, z1⟩ := S.out.two w.heap.size 23 (.int .i64 a0) (.int .i64 a1) (List.mem_cons_of_mem _ List.mem_cons_self)
  go_wp2_with fail
  refine (B1.out _).mono ?_
  rintro e w2 ⟨rfl, hb⟩
  replace S := Bx.mk (S.out.call hb)
  clear hb
  clear c0_0 c0_1 f0_0 f0_1 z0 c1_0 c1_1 f1_0 f1_1 z1
  obtain ⟨c1_0, c1_1, f1_0, f1_1, z1⟩ := S.out.two w.heap.size 23 (.int .i64 a0) (.int .i64 a1) (List.mem_cons_of_mem _ List.mem_cons_self)
  go_wp2_with fail
  refine (W1.out _).mono ?_
  rintro e w3 ⟨rfl, hb⟩
  replace S := Bx.mk (S.out.call hb)
  clear hb
  clear c1_0 c1_1 f1_0 f1_1 z1
  obtain ⟨c0_0, c0_1, f0_0, f0_1, z0⟩ := S.out.two (w.heap.size + 1) 23 (.int .i64 b0) (.int .i64 b1) List.mem_cons_self
  go_wp2_with fail
  refine (W2.out _).mono ?_
  rintro e w4 ⟨rfl, hb⟩
  replace S := Bx.mk (S.out.call hb)
  clear hb
  clear c0_0 c0_1 f0_0 f0_1 z0
  obtain ⟨c0_0, c0_1, f0_0, f0_1, z0⟩ := S.out.two (w.heap.size + 1) 23 (.int .i64 b0) (.int .i64 b1) List.mem_cons_self
  go_wp2_with fail
  refine (W3.out _).mono ?_
  rintro e w5 ⟨rfl, hb⟩
  replace S := Bx.mk (S.out.call hb)
  clear hb
  clear c0_0 c0_1 f0_0 f0_1 z0
  obtain ⟨c0_0, c0_1, f0_0, f0_1, z0⟩ := S.out.two (w.heap.size + 1) 23 (.int .i64 b0) (.int .i64 b1) List.mem_cons_self
  obtain ⟨c1_0, c1_1, f1_0, f1_1, z1⟩ := S.out.two w.heap.size 23 (.int .i64 a0) (.int .i64 a1) (List.mem_cons_of_mem _ List.mem_cons_self)
  go_wp2_with fail
  refine (I1.out _).mono ?_
  rintro e w6 ⟨rfl, hb⟩
  replace S := Bx.mk (S.out.call hb)
  clear hb
  clear c0_0 c0_1 f0_0 f0_1 z0 c1_0 c1_1 f1_0 f1_1 z1
  obtain ⟨c0_0, c0_1, f0_0, f0_1, z0⟩ := S.out.two (w.heap.size + 1) 23 (.int .i64 b0) (.int .i64 b1) List.mem_cons_self
  obtain ⟨c1_0, c1_1, f1_0, f1_1, z1⟩ := S.out.two w.heap.size 23 (.int .i64 a0) (.int .i64 a1) (List.mem_cons_of_mem _ List.mem_cons_self)
  go_wp2_with fail
  refine (A1.out _).mono ?_
  rintro e w7 ⟨rfl, hb⟩
  replace S := Bx.mk (S.out.call hb)
  clear hb
  clear c0_0 c0_1 f0_0 f0_1 z0 c1_0 c1_1 f1_0 f1_1 z1
  replace S := Bx.mk (S.out.push #[.int .i64 s0, .int .i64 s1] 23)
  go_wp2_with fail
  go_ret
  exact ⟨rfl, S.out.bl⟩
set_option maxRecDepth 20000 in
set_option maxHeartbeats 8000000 in
theorem ssur_f_x (a0 a1 b0 b1 l h l2 h2 : Int) (w : World) (hl : Lm w) (B1 : Hx (∀ w, Calls Tryd.prog 38 #[SV a0 a1, SV b0 b1] w fun e w' => e = .returned (.bool true) ∧ Below w.heap.size w w')) (k0 : ¬ l < -1000000000000000) (k1 : ¬ 1000000000000000 < h) (k2 : ¬ l2 < -1000000000000000) (k3 : ¬ 1000000000000000 < h2) (k4 : ¬ h < l) (k5 : ¬ h2 < l2) (x y z s0 s1 hc : Int) (x0 : -1 ≤ x) (x1 : x ≤ 1) (W1 : Hx (∀ w, Calls Tryd.prog 29 #[SV a0 a1, .int .i64 l, .int .i64 h] w (OutI w (x) (0)))) (W2 : Hx (∀ w, Calls Tryd.prog 29 #[SV b0 b1, .int .i64 l, .int .i64 h] w (OutI w (y) (0)))) (W3 : Hx (∀ w, Calls Tryd.prog 29 #[SV b0 b1, .int .i64 l2, .int .i64 h2] w (OutI w (z) (0)))) (I1 : Hx (∀ w, Calls Tryd.prog 36 #[SV b0 b1, SV a0 a1] w fun e w' => e = .returned (.bool false) ∧ Below w.heap.size w w')) (A1 : Hx (∀ w, Calls Tryd.prog 19 #[SV a0 a1, SV b0 b1] w (OutZ w (s0) (s1) (0)))) (x2 : ¬ x = 1) :
    Calls Tryd.prog 8 #[SV a0 a1, SV b0 b1, .int .i64 l, .int .i64 h, .int .i64 l2, .int .i64 h2] w fun e w' => e = .returned (.bool true) ∧ Below w.heap.size w w' := by
  have S : Bx (SS w w []) := ⟨SS.start w hl⟩
  replace S := Bx.mk (S.out.push #[.int .i64 a0, .int .i64 a1] 23)
  replace S := Bx.mk (S.out.push #[.int .i64 b0, .int .i64 b1] 23)
  simp only [World.size_alloc] at S
  go_enter Tryd.func8, Tryd.ntmps8
  go_wp2_with fail
  refine (shead_any _ S.out.lm).mono ?_
  rintro e w1 ⟨rfl, hb⟩
  replace S := Bx.mk (S.out.call hb)
  clear hb
  obtain ⟨c0_0, c0_1, f0_0, f0_1, z0⟩ := S.out.two (w.heap.size + 1) 23 (.int .i64 b0) (.int .i64 b1) List.mem_cons_self
  obtain ⟨c1_0, c1_1, f1_0, f1_1, z1⟩ := S.out.two w.heap.size 23 (.int .i64 a0) (.int .i64 a1) (List.mem_cons_of_mem _ List.mem_cons_self)
  go_wp2_with fail
  refine (B1.out _).mono ?_
  rintro e w2 ⟨rfl, hb⟩
  replace S := Bx.mk (S.out.call hb)
  clear hb
  clear c0_0 c0_1 f0_0 f0_1 z0 c1_0 c1_1 f1_0 f1_1 z1
  obtain ⟨c1_0, c1_1, f1_0, f1_1, z1⟩ := S.out.two w.heap.size 23 (.int .i64 a0) (.int .i64 a1) (List.mem_cons_of_mem _ List.mem_cons_self)
  go_wp2_with fail
  refine (W1.out _).mono ?_
  rintro e w3 ⟨rfl, hb⟩
  replace S := Bx.mk (S.out.call hb)
  clear hb
  clear c1_0 c1_1 f1_0 f1_1 z1
  obtain ⟨c0_0, c0_1, f0_0, f0_1, z0⟩ := S.out.two (w.heap.size + 1) 23 (.int .i64 b0) (.int .i64 b1) List.mem_cons_self
  go_wp2_with fail
  refine (W2.out _).mono ?_
  rintro e w4 ⟨rfl, hb⟩
  replace S := Bx.mk (S.out.call hb)
  clear hb
  clear c0_0 c0_1 f0_0 f0_1 z0
  obtain ⟨c0_0, c0_1, f0_0, f0_1, z0⟩ := S.out.two (w.heap.size + 1) 23 (.int .i64 b0) (.int .i64 b1) List.mem_cons_self
  go_wp2_with fail
  refine (W3.out _).mono ?_
  rintro e w5 ⟨rfl, hb⟩
  replace S := Bx.mk (S.out.call hb)
  clear hb
  clear c0_0 c0_1 f0_0 f0_1 z0
  obtain ⟨c0_0, c0_1, f0_0, f0_1, z0⟩ := S.out.two (w.heap.size + 1) 23 (.int .i64 b0) (.int .i64 b1) List.mem_cons_self
  obtain ⟨c1_0, c1_1, f1_0, f1_1, z1⟩ := S.out.two w.heap.size 23 (.int .i64 a0) (.int .i64 a1) (List.mem_cons_of_mem _ List.mem_cons_self)
  go_wp2_with fail
  refine (I1.out _).mono ?_
  rintro e w6 ⟨rfl, hb⟩
  replace S := Bx.mk (S.out.call hb)
  clear hb
  clear c0_0 c0_1 f0_0 f0_1 z0 c1_0 c1_1 f1_0 f1_1 z1
  obtain ⟨c0_0, c0_1, f0_0, f0_1, z0⟩ := S.out.two (w.heap.size + 1) 23 (.int .i64 b0) (.int .i64 b1) List.mem_cons_self
  obtain ⟨c1_0, c1_1, f1_0, f1_1, z1⟩ := S.out.two w.heap.size 23 (.int .i64 a0) (.int .i64 a1) (List.mem_cons_of_mem _ List.mem_cons_self)
  go_wp2_with fail
  refine (A1.out _).mono ?_
  rintro e w7 ⟨rfl, hb⟩
  replace S := Bx.mk (S.out.call hb)
  clear hb
  clear c0_0 c0_1 f0_0 f0_1 z0 c1_0 c1_1 f1_0 f1_1 z1
  replace S := Bx.mk (S.out.push #[.int .i64 s0, .int .i64 s1] 23)
  go_wp2_with fail
  go_ret
  exact ⟨rfl, S.out.bl⟩
set_option maxRecDepth 20000 in
set_option maxHeartbeats 8000000 in
theorem ssur_t0_x (a0 a1 b0 b1 l h l2 h2 : Int) (w : World) (hl : Lm w) (B1 : Hx (∀ w, Calls Tryd.prog 38 #[SV a0 a1, SV b0 b1] w fun e w' => e = .returned (.bool true) ∧ Below w.heap.size w w')) (k0 : ¬ l < -1000000000000000) (k1 : ¬ 1000000000000000 < h) (k2 : ¬ l2 < -1000000000000000) (k3 : ¬ 1000000000000000 < h2) (k4 : ¬ h < l) (k5 : ¬ h2 < l2) (x y z s0 s1 hc : Int) (x0 : -1 ≤ x) (x1 : x ≤ 1) (W1 : Hx (∀ w, Calls Tryd.prog 29 #[SV a0 a1, .int .i64 l, .int .i64 h] w (OutI w (0) (0)))) (W2 : Hx (∀ w, Calls Tryd.prog 29 #[SV b0 b1, .int .i64 l, .int .i64 h] w (OutI w (y) (0)))) (W3 : Hx (∀ w, Calls Tryd.prog 29 #[SV b0 b1, .int .i64 l2, .int .i64 h2] w (OutI w (z) (0)))) (I1 : Hx (∀ w, Calls Tryd.prog 36 #[SV b0 b1, SV a0 a1] w fun e w' => e = .returned (.bool true) ∧ Below w.heap.size w w')) (A1 : Hx (∀ w, Calls Tryd.prog 19 #[SV a0 a1, SV b0 b1] w (OutZ w (s0) (s1) (0)))) :
    Calls Tryd.prog 8 #[SV a0 a1, SV b0 b1, .int .i64 l, .int .i64 h, .int .i64 l2, .int .i64 h2] w fun e w' => e = .returned (.bool true) ∧ Below w.heap.size w w' := by
  have S : Bx (SS w w []) := ⟨SS.start w hl⟩
  replace S := Bx.mk (S.out.push #[.int .i64 a0, .int .i64 a1] 23)
  replace S := Bx.mk (S.out.push #[.int .i64 b0, .int .i64 b1] 23)
  simp only [World.size_alloc] at S
  go_enter Tryd.func8, Tryd.ntmps8
  go_wp2_with fail
  refine (shead_any _ S.out.lm).mono ?_
  rintro e w1 ⟨rfl, hb⟩
  replace S := Bx.mk (S.out.call hb)
  clear hb
  obtain ⟨c0_0, c0_1, f0_0, f0_1, z0⟩ := S.out.two (w.heap.size + 1) 23 (.int .i64 b0) (.int .i64 b1) List.mem_cons_self
  obtain ⟨c1_0, c1_1, f1_0, f1_1, z1⟩ := S.out.two w.heap.size 23 (.int .i64 a0) (.int .i64 a1) (List.mem_cons_of_mem _ List.mem_cons_self)
  go_wp2_with fail
  refine (B1.out _).mono ?_
  rintro e w2 ⟨rfl, hb⟩
  replace S := Bx.mk (S.out.call hb)
  clear hb
  clear c0_0 c0_1 f0_0 f0_1 z0 c1_0 c1_1 f1_0 f1_1 z1
  obtain ⟨c1_0, c1_1, f1_0, f1_1, z1⟩ := S.out.two w.heap.size 23 (.int .i64 a0) (.int .i64 a1) (List.mem_cons_of_mem _ List.mem_cons_self)
  go_wp2_with fail
  refine (W1.out _).mono ?_
  rintro e w3 ⟨rfl, hb⟩
  replace S := Bx.mk (S.out.call hb)
  clear hb
  clear c1_0 c1_1 f1_0 f1_1 z1
  obtain ⟨c0_0, c0_1, f0_0, f0_1, z0⟩ := S.out.two (w.heap.size + 1) 23 (.int .i64 b0) (.int .i64 b1) List.mem_cons_self
  go_wp2_with fail
  refine (W2.out _).mono ?_
  rintro e w4 ⟨rfl, hb⟩
  replace S := Bx.mk (S.out.call hb)
  clear hb
  clear c0_0 c0_1 f0_0 f0_1 z0
  obtain ⟨c0_0, c0_1, f0_0, f0_1, z0⟩ := S.out.two (w.heap.size + 1) 23 (.int .i64 b0) (.int .i64 b1) List.mem_cons_self
  go_wp2_with fail
  refine (W3.out _).mono ?_
  rintro e w5 ⟨rfl, hb⟩
  replace S := Bx.mk (S.out.call hb)
  clear hb
  clear c0_0 c0_1 f0_0 f0_1 z0
  obtain ⟨c0_0, c0_1, f0_0, f0_1, z0⟩ := S.out.two (w.heap.size + 1) 23 (.int .i64 b0) (.int .i64 b1) List.mem_cons_self
  obtain ⟨c1_0, c1_1, f1_0, f1_1, z1⟩ := S.out.two w.heap.size 23 (.int .i64 a0) (.int .i64 a1) (List.mem_cons_of_mem _ List.mem_cons_self)
  go_wp2_with fail
  refine (I1.out _).mono ?_
  rintro e w6 ⟨rfl, hb⟩
  replace S := Bx.mk (S.out.call hb)
  clear hb
  clear c0_0 c0_1 f0_0 f0_1 z0 c1_0 c1_1 f1_0 f1_1 z1
  obtain ⟨c0_0, c0_1, f0_0, f0_1, z0⟩ := S.out.two (w.heap.size + 1) 23 (.int .i64 b0) (.int .i64 b1) List.mem_cons_self
  obtain ⟨c1_0, c1_1, f1_0, f1_1, z1⟩ := S.out.two w.heap.size 23 (.int .i64 a0) (.int .i64 a1) (List.mem_cons_of_mem _ List.mem_cons_self)
  go_wp2_with fail
  refine (A1.out _).mono ?_
  rintro e w7 ⟨rfl, hb⟩
  replace S := Bx.mk (S.out.call hb)
  clear hb
  clear c0_0 c0_1 f0_0 f0_1 z0 c1_0 c1_1 f1_0 f1_1 z1
  replace S := Bx.mk (S.out.push #[.int .i64 s0, .int .i64 s1] 23)
  go_wp2_with fail
  go_ret
  exact ⟨rfl, S.out.bl⟩
set_option maxRecDepth 20000 in
set_option maxHeartbeats 8000000 in
theorem ssur_ty_x (a0 a1 b0 b1 l h l2 h2 : Int) (w : World) (hl : Lm w) (B1 : Hx (∀ w, Calls Tryd.prog 38 #[SV a0 a1, SV b0 b1] w fun e w' => e = .returned (.bool true) ∧ Below w.heap.size w w')) (k0 : ¬ l < -1000000000000000) (k1 : ¬ 1000000000000000 < h) (k2 : ¬ l2 < -1000000000000000) (k3 : ¬ 1000000000000000 < h2) (k4 : ¬ h < l) (k5 : ¬ h2 < l2) (x y z s0 s1 hc : Int) (x0 : -1 ≤ x) (x1 : x ≤ 1) (W1 : Hx (∀ w, Calls Tryd.prog 29 #[SV a0 a1, .int .i64 l, .int .i64 h] w (OutI w (x) (0)))) (W2 : Hx (∀ w, Calls Tryd.prog 29 #[SV b0 b1, .int .i64 l, .int .i64 h] w (OutI w (x) (0)))) (W3 : Hx (∀ w, Calls Tryd.prog 29 #[SV b0 b1, .int .i64 l2, .int .i64 h2] w (OutI w (z) (0)))) (I1 : Hx (∀ w, Calls Tryd.prog 36 #[SV b0 b1, SV a0 a1] w fun e w' => e = .returned (.bool true) ∧ Below w.heap.size w w')) (A1 : Hx (∀ w, Calls Tryd.prog 19 #[SV a0 a1, SV b0 b1] w (OutZ w (s0) (s1) (0)))) (xn : ¬ x = 0) (x2 : ¬ x = 1) :
    Calls Tryd.prog 8 #[SV a0 a1, SV b0 b1, .int .i64 l, .int .i64 h, .int .i64 l2, .int .i64 h2] w fun e w' => e = .returned (.bool true) ∧ Below w.heap.size w w' := by
  have S : Bx (SS w w []) := ⟨SS.start w hl⟩
  replace S := Bx.mk (S.out.push #[.int .i64 a0, .int .i64 a1] 23)
  replace S := Bx.mk (S.out.push #[.int .i64 b0, .int .i64 b1] 23)
  simp only [World.size_alloc] at S
  go_enter Tryd.func8, Tryd.ntmps8
  go_wp2_with fail
  refine (shead_any _ S.out.lm).mono ?_
  rintro e w1 ⟨rfl, hb⟩
  replace S := Bx.mk (S.out.call hb)
  clear hb
  obtain ⟨c0_0, c0_1, f0_0, f0_1, z0⟩ := S.out.two (w.heap.size + 1) 23 (.int .i64 b0) (.int .i64 b1) List.mem_cons_self
  obtain ⟨c1_0, c1_1, f1_0, f1_1, z1⟩ := S.out.two w.heap.size 23 (.int .i64 a0) (.int .i64 a1) (List.mem_cons_of_mem _ List.mem_cons_self)
  go_wp2_with fail
  refine (B1.out _).mono ?_
  rintro e w2 ⟨rfl, hb⟩
  replace S := Bx.mk (S.out.call hb)
  clear hb
  clear c0_0 c0_1 f0_0 f0_1 z0 c1_0 c1_1 f1_0 f1_1 z1
  obtain ⟨c1_0, c1_1, f1_0, f1_1, z1⟩ := S.out.two w.heap.size 23 (.int .i64 a0) (.int .i64 a1) (List.mem_cons_of_mem _ List.mem_cons_self)
  go_wp2_with fail
  refine (W1.out _).mono ?_
  rintro e w3 ⟨rfl, hb⟩
  replace S := Bx.mk (S.out.call hb)
  clear hb
  clear c1_0 c1_1 f1_0 f1_1 z1
  obtain ⟨c0_0, c0_1, f0_0, f0_1, z0⟩ := S.out.two (w.heap.size + 1) 23 (.int .i64 b0) (.int .i64 b1) List.mem_cons_self
  go_wp2_with fail
  refine (W2.out _).mono ?_
  rintro e w4 ⟨rfl, hb⟩
  replace S := Bx.mk (S.out.call hb)
  clear hb
  clear c0_0 c0_1 f0_0 f0_1 z0
  obtain ⟨c0_0, c0_1, f0_0, f0_1, z0⟩ := S.out.two (w.heap.size + 1) 23 (.int .i64 b0) (.int .i64 b1) List.mem_cons_self
  go_wp2_with fail
  refine (W3.out _).mono ?_
  rintro e w5 ⟨rfl, hb⟩
  replace S := Bx.mk (S.out.call hb)
  clear hb
  clear c0_0 c0_1 f0_0 f0_1 z0
  obtain ⟨c0_0, c0_1, f0_0, f0_1, z0⟩ := S.out.two (w.heap.size + 1) 23 (.int .i64 b0) (.int .i64 b1) List.mem_cons_self
  obtain ⟨c1_0, c1_1, f1_0, f1_1, z1⟩ := S.out.two w.heap.size 23 (.int .i64 a0) (.int .i64 a1) (List.mem_cons_of_mem _ List.mem_cons_self)
  go_wp2_with fail
  refine (I1.out _).mono ?_
  rintro e w6 ⟨rfl, hb⟩
  replace S := Bx.mk (S.out.call hb)
  clear hb
  clear c0_0 c0_1 f0_0 f0_1 z0 c1_0 c1_1 f1_0 f1_1 z1
  obtain ⟨c0_0, c0_1, f0_0, f0_1, z0⟩ := S.out.two (w.heap.size + 1) 23 (.int .i64 b0) (.int .i64 b1) List.mem_cons_self
  obtain ⟨c1_0, c1_1, f1_0, f1_1, z1⟩ := S.out.two w.heap.size 23 (.int .i64 a0) (.int .i64 a1) (List.mem_cons_of_mem _ List.mem_cons_self)
  go_wp2_with fail
  refine (A1.out _).mono ?_
  rintro e w7 ⟨rfl, hb⟩
  replace S := Bx.mk (S.out.call hb)
  clear hb
  clear c0_0 c0_1 f0_0 f0_1 z0 c1_0 c1_1 f1_0 f1_1 z1
  replace S := Bx.mk (S.out.push #[.int .i64 s0, .int .i64 s1] 23)
  go_wp2_with fail
  go_ret
  exact ⟨rfl, S.out.bl⟩
set_option maxRecDepth 20000 in
set_option maxHeartbeats 8000000 in
theorem ssur_f_z (a0 a1 b0 b1 l h l2 h2 : Int) (w : World) (hl : Lm w) (B1 : Hx (∀ w, Calls Tryd.prog 38 #[SV a0 a1, SV b0 b1] w fun e w' => e = .returned (.bool true) ∧ Below w.heap.size w w')) (k0 : ¬ l < -1000000000000000) (k1 : ¬ 1000000000000000 < h) (k2 : ¬ l2 < -1000000000000000) (k3 : ¬ 1000000000000000 < h2) (k4 : ¬ h < l) (k5 : ¬ h2 < l2) (x y z s0 s1 hc : Int) (x0 : -1 ≤ x) (x1 : x ≤ 1) (W1 : Hx (∀ w, Calls Tryd.prog 29 #[SV a0 a1, .int .i64 l, .int .i64 h] w (OutI w (1) (0)))) (W2 : Hx (∀ w, Calls Tryd.prog 29 #[SV b0 b1, .int .i64 l, .int .i64 h] w (OutI w (y) (0)))) (W3 : Hx (∀ w, Calls Tryd.prog 29 #[SV b0 b1, .int .i64 l2, .int .i64 h2] w (OutI w (z) (0)))) (I1 : Hx (∀ w, Calls Tryd.prog 36 #[SV b0 b1, SV a0 a1] w fun e w' => e = .returned (.bool false) ∧ Below w.heap.size w w')) (A1 : Hx (∀ w, Calls Tryd.prog 19 #[SV a0 a1, SV b0 b1] w (OutZ w (s0) (s1) (0)))) (z2 : ¬ z = 1) :
    Calls Tryd.prog 8 #[SV a0 a1, SV b0 b1, .int .i64 l, .int .i64 h, .int .i64 l2, .int .i64 h2] w fun e w' => e = .returned (.bool true) ∧ Below w.heap.size w w' := by
  have S : Bx (SS w w []) := ⟨SS.start w hl⟩
  replace S := Bx.mk (S.out.push #[.int .i64 a0, .int .i64 a1] 23)
  replace S := Bx.mk (S.out.push #[.int .i64 b0, .int .i64 b1] 23)
  simp only [World.size_alloc] at S
  go_enter Tryd.func8, Tryd.ntmps8
  go_wp2_with fail
  refine (shead_any _ S.out.lm).mono ?_
  rintro e w1 ⟨rfl, hb⟩
  replace S := Bx.mk (S.out.call hb)
  clear hb
  obtain ⟨c0_0, c0_1, f0_0, f0_1, z0⟩ := S.out.two (w.heap.size + 1) 23 (.int .i64 b0) (.int .i64 b1) List.mem_cons_self
  obtain ⟨c1_0, c1_1, f1_0, f1_1, z1⟩ := S.out.two w.heap.size 23 (.int .i64 a0) (.int .i64 a1) (List.mem_cons_of_mem _ List.mem_cons_self)
  go_wp2_with fail
  refine (B1.out _).mono ?_
  rintro e w2 ⟨rfl, hb⟩
  replace S := Bx.mk (S.out.call hb)
  clear hb
  clear c0_0 c0_1 f0_0 f0_1 z0 c1_0 c1_1 f1_0 f1_1 z1
  obtain ⟨c1_0, c1_1, f1_0, f1_1, z1⟩ := S.out.two w.heap.size 23 (.int .i64 a0) (.int .i64 a1) (List.mem_cons_of_mem _ List.mem_cons_self)
  go_wp2_with fail
  refine (W1.out _).mono ?_
  rintro e w3 ⟨rfl, hb⟩
  replace S := Bx.mk (S.out.call hb)
  clear hb
  clear c1_0 c1_1 f1_0 f1_1 z1
  obtain ⟨c0_0, c0_1, f0_0, f0_1, z0⟩ := S.out.two (w.heap.size + 1) 23 (.int .i64 b0) (.int .i64 b1) List.mem_cons_self
  go_wp2_with fail
  refine (W2.out _).mono ?_
  rintro e w4 ⟨rfl, hb⟩
  replace S := Bx.mk (S.out.call hb)
  clear hb
  clear c0_0 c0_1 f0_0 f0_1 z0
  obtain ⟨c0_0, c0_1, f0_0, f0_1, z0⟩ := S.out.two (w.heap.size + 1) 23 (.int .i64 b0) (.int .i64 b1) List.mem_cons_self
  go_wp2_with fail
  refine (W3.out _).mono ?_
  rintro e w5 ⟨rfl, hb⟩
  replace S := Bx.mk (S.out.call hb)
  clear hb
  clear c0_0 c0_1 f0_0 f0_1 z0
  obtain ⟨c0_0, c0_1, f0_0, f0_1, z0⟩ := S.out.two (w.heap.size + 1) 23 (.int .i64 b0) (.int .i64 b1) List.mem_cons_self
  obtain ⟨c1_0, c1_1, f1_0, f1_1, z1⟩ := S.out.two w.heap.size 23 (.int .i64 a0) (.int .i64 a1) (List.mem_cons_of_mem _ List.mem_cons_self)
  go_wp2_with fail
  refine (I1.out _).mono ?_
  rintro e w6 ⟨rfl, hb⟩
  replace S := Bx.mk (S.out.call hb)
  clear hb
  clear c0_0 c0_1 f0_0 f0_1 z0 c1_0 c1_1 f1_0 f1_1 z1
  obtain ⟨c0_0, c0_1, f0_0, f0_1, z0⟩ := S.out.two (w.heap.size + 1) 23 (.int .i64 b0) (.int .i64 b1) List.mem_cons_self
  obtain ⟨c1_0, c1_1, f1_0, f1_1, z1⟩ := S.out.two w.heap.size 23 (.int .i64 a0) (.int .i64 a1) (List.mem_cons_of_mem _ List.mem_cons_self)
  go_wp2_with fail
  refine (A1.out _).mono ?_
  rintro e w7 ⟨rfl, hb⟩
  replace S := Bx.mk (S.out.call hb)
  clear hb
  clear c0_0 c0_1 f0_0 f0_1 z0 c1_0 c1_1 f1_0 f1_1 z1
  replace S := Bx.mk (S.out.push #[.int .i64 s0, .int .i64 s1] 23)
  go_wp2_with fail
  go_ret
  exact ⟨rfl, S.out.bl⟩
set_option maxRecDepth 20000 in
set_option maxHeartbeats 8000000 in
theorem ssur_ty_z (a0 a1 b0 b1 l h l2 h2 : Int) (w : World) (hl : Lm w) (B1 : Hx (∀ w, Calls Tryd.prog 38 #[SV a0 a1, SV b0 b1] w fun e w' => e = .returned (.bool true) ∧ Below w.heap.size w w')) (k0 : ¬ l < -1000000000000000) (k1 : ¬ 1000000000000000 < h) (k2 : ¬ l2 < -1000000000000000) (k3 : ¬ 1000000000000000 < h2) (k4 : ¬ h < l) (k5 : ¬ h2 < l2) (x y z s0 s1 hc : Int) (x0 : -1 ≤ x) (x1 : x ≤ 1) (W1 : Hx (∀ w, Calls Tryd.prog 29 #[SV a0 a1, .int .i64 l, .int .i64 h] w (OutI w (1) (0)))) (W2 : Hx (∀ w, Calls Tryd.prog 29 #[SV b0 b1, .int .i64 l, .int .i64 h] w (OutI w (1) (0)))) (W3 : Hx (∀ w, Calls Tryd.prog 29 #[SV b0 b1, .int .i64 l2, .int .i64 h2] w (OutI w (z) (0)))) (I1 : Hx (∀ w, Calls Tryd.prog 36 #[SV b0 b1, SV a0 a1] w fun e w' => e = .returned (.bool true) ∧ Below w.heap.size w w')) (A1 : Hx (∀ w, Calls Tryd.prog 19 #[SV a0 a1, SV b0 b1] w (OutZ w (s0) (s1) (0)))) (z2 : ¬ z = 1) :
    Calls Tryd.prog 8 #[SV a0 a1, SV b0 b1, .int .i64 l, .int .i64 h, .int .i64 l2, .int .i64 h2] w fun e w' => e = .returned (.bool true) ∧ Below w.heap.size w w' := by
  have S : Bx (SS w w []) := ⟨SS.start w hl⟩
  replace S := Bx.mk (S.out.push #[.int .i64 a0, .int .i64 a1] 23)
  replace S := Bx.mk (S.out.push #[.int .i64 b0, .int .i64 b1] 23)
  simp only [World.size_alloc] at S
  go_enter Tryd.func8, Tryd.ntmps8
  go_wp2_with fail
  refine (shead_any _ S.out.lm).mono ?_
  rintro e w1 ⟨rfl, hb⟩
  replace S := Bx.mk (S.out.call hb)
  clear hb
  obtain ⟨c0_0, c0_1, f0_0, f0_1, z0⟩ := S.out.two (w.heap.size + 1) 23 (.int .i64 b0) (.int .i64 b1) List.mem_cons_self
  obtain ⟨c1_0, c1_1, f1_0, f1_1, z1⟩ := S.out.two w.heap.size 23 (.int .i64 a0) (.int .i64 a1) (List.mem_cons_of_mem _ List.mem_cons_self)
  go_wp2_with fail
  refine (B1.out _).mono ?_
  rintro e w2 ⟨rfl, hb⟩
  replace S := Bx.mk (S.out.call hb)
  clear hb
  clear c0_0 c0_1 f0_0 f0_1 z0 c1_0 c1_1 f1_0 f1_1 z1
  obtain ⟨c1_0, c1_1, f1_0, f1_1, z1⟩ := S.out.two w.heap.size 23 (.int .i64 a0) (.int .i64 a1) (List.mem_cons_of_mem _ List.mem_cons_self)
  go_wp2_with fail
  refine (W1.out _).mono ?_
  rintro e w3 ⟨rfl, hb⟩
  replace S := Bx.mk (S.out.call hb)
  clear hb
  clear c1_0 c1_1 f1_0 f1_1 z1
  obtain ⟨c0_0, c0_1, f0_0, f0_1, z0⟩ := S.out.two (w.heap.size + 1) 23 (.int .i64 b0) (.int .i64 b1) List.mem_cons_self
  go_wp2_with fail
  refine (W2.out _).mono ?_
  rintro e w4 ⟨rfl, hb⟩
  replace S := Bx.mk (S.out.call hb)
  clear hb
  clear c0_0 c0_1 f0_0 f0_1 z0
  obtain ⟨c0_0, c0_1, f0_0, f0_1, z0⟩ := S.out.two (w.heap.size + 1) 23 (.int .i64 b0) (.int .i64 b1) List.mem_cons_self
  go_wp2_with fail
  refine (W3.out _).mono ?_
  rintro e w5 ⟨rfl, hb⟩
  replace S := Bx.mk (S.out.call hb)
  clear hb
  clear c0_0 c0_1 f0_0 f0_1 z0
  obtain ⟨c0_0, c0_1, f0_0, f0_1, z0⟩ := S.out.two (w.heap.size + 1) 23 (.int .i64 b0) (.int .i64 b1) List.mem_cons_self
  obtain ⟨c1_0, c1_1, f1_0, f1_1, z1⟩ := S.out.two w.heap.size 23 (.int .i64 a0) (.int .i64 a1) (List.mem_cons_of_mem _ List.mem_cons_self)
  go_wp2_with fail
  refine (I1.out _).mono ?_
  rintro e w6 ⟨rfl, hb⟩
  replace S := Bx.mk (S.out.call hb)
  clear hb
  clear c0_0 c0_1 f0_0 f0_1 z0 c1_0 c1_1 f1_0 f1_1 z1
  obtain ⟨c0_0, c0_1, f0_0, f0_1, z0⟩ := S.out.two (w.heap.size + 1) 23 (.int .i64 b0) (.int .i64 b1) List.mem_cons_self
  obtain ⟨c1_0, c1_1, f1_0, f1_1, z1⟩ := S.out.two w.heap.size 23 (.int .i64 a0) (.int .i64 a1) (List.mem_cons_of_mem _ List.mem_cons_self)
  go_wp2_with fail
  refine (A1.out _).mono ?_
  rintro e w7 ⟨rfl, hb⟩
  replace S := Bx.mk (S.out.call hb)
  clear hb
  clear c0_0 c0_1 f0_0 f0_1 z0 c1_0 c1_1 f1_0 f1_1 z1
  replace S := Bx.mk (S.out.push #[.int .i64 s0, .int .i64 s1] 23)
  go_wp2_with fail
  go_ret
  exact ⟨rfl, S.out.bl⟩
set_option maxRecDepth 20000 in
set_option maxHeartbeats 8000000 in
theorem ssur_f_ok (a0 a1 b0 b1 l h l2 h2 : Int) (w : World) (hl : Lm w) (B1 : Hx (∀ w, Calls Tryd.prog 38 #[SV a0 a1, SV b0 b1] w fun e w' => e = .returned (.bool true) ∧ Below w.heap.size w w')) (k0 : ¬ l < -1000000000000000) (k1 : ¬ 1000000000000000 < h) (k2 : ¬ l2 < -1000000000000000) (k3 : ¬ 1000000000000000 < h2) (k4 : ¬ h < l) (k5 : ¬ h2 < l2) (x y z s0 s1 hc : Int) (x0 : -1 ≤ x) (x1 : x ≤ 1) (W1 : Hx (∀ w, Calls Tryd.prog 29 #[SV a0 a1, .int .i64 l, .int .i64 h] w (OutI w (1) (0)))) (W2 : Hx (∀ w, Calls Tryd.prog 29 #[SV b0 b1, .int .i64 l, .int .i64 h] w (OutI w (y) (0)))) (W3 : Hx (∀ w, Calls Tryd.prog 29 #[SV b0 b1, .int .i64 l2, .int .i64 h2] w (OutI w (1) (0)))) (I1 : Hx (∀ w, Calls Tryd.prog 36 #[SV b0 b1, SV a0 a1] w fun e w' => e = .returned (.bool false) ∧ Below w.heap.size w w')) (A1 : Hx (∀ w, Calls Tryd.prog 19 #[SV a0 a1, SV b0 b1] w (OutZ w (s0) (s1) (0)))) (W4 : Hx (∀ w, Calls Tryd.prog 29 #[SV s0 s1, .int .i64 (l + l2), .int .i64 (h + h2)] w (OutI w (1) (0)))) :
    Calls Tryd.prog 8 #[SV a0 a1, SV b0 b1, .int .i64 l, .int .i64 h, .int .i64 l2, .int .i64 h2] w fun e w' => e = .returned (.bool true) ∧ Below w.heap.size w w' := by
  have S : Bx (SS w w []) := ⟨SS.start w hl⟩
  replace S := Bx.mk (S.out.push #[.int .i64 a0, .int .i64 a1] 23)
  replace S := Bx.mk (S.out.push #[.int .i64 b0, .int .i64 b1] 23)
  simp only [World.size_alloc] at S
  go_enter Tryd.func8, Tryd.ntmps8
  go_wp2_with fail
  refine (shead_any _ S.out.lm).mono ?_
  rintro e w1 ⟨rfl, hb⟩
  replace S := Bx.mk (S.out.call hb)
  clear hb
  obtain ⟨c0_0, c0_1, f0_0, f0_1, z0⟩ := S.out.two (w.heap.size + 1) 23 (.int .i64 b0) (.int .i64 b1) List.mem_cons_self
  obtain ⟨c1_0, c1_1, f1_0, f1_1, z1⟩ := S.out.two w.heap.size 23 (.int .i64 a0) (.int .i64 a1) (List.mem_cons_of_mem _ List.mem_cons_self)
  go_wp2_with fail
  refine (B1.out _).mono ?_
  rintro e w2 ⟨rfl, hb⟩
  replace S := Bx.mk (S.out.call hb)
  clear hb
  clear c0_0 c0_1 f0_0 f0_1 z0 c1_0 c1_1 f1_0 f1_1 z1
  obtain ⟨c1_0, c1_1, f1_0, f1_1, z1⟩ := S.out.two w.heap.size 23 (.int .i64 a0) (.int .i64 a1) (List.mem_cons_of_mem _ List.mem_cons_self)
  go_wp2_with fail
  refine (W1.out _).mono ?_
  rintro e w3 ⟨rfl, hb⟩
  replace S := Bx.mk (S.out.call hb)
  clear hb
  clear c1_0 c1_1 f1_0 f1_1 z1
  obtain ⟨c0_0, c0_1, f0_0, f0_1, z0⟩ := S.out.two (w.heap.size + 1) 23 (.int .i64 b0) (.int .i64 b1) List.mem_cons_self
  go_wp2_with fail
  refine (W2.out _).mono ?_
  rintro e w4 ⟨rfl, hb⟩
  replace S := Bx.mk (S.out.call hb)
  clear hb
  clear c0_0 c0_1 f0_0 f0_1 z0
  obtain ⟨c0_0, c0_1, f0_0, f0_1, z0⟩ := S.out.two (w.heap.size + 1) 23 (.int .i64 b0) (.int .i64 b1) List.mem_cons_self
  go_wp2_with fail
  refine (W3.out _).mono ?_
  rintro e w5 ⟨rfl, hb⟩
  replace S := Bx.mk (S.out.call hb)
  clear hb
  clear c0_0 c0_1 f0_0 f0_1 z0
  obtain ⟨c0_0, c0_1, f0_0, f0_1, z0⟩ := S.out.two (w.heap.size + 1) 23 (.int .i64 b0) (.int .i64 b1) List.mem_cons_self
  obtain ⟨c1_0, c1_1, f1_0, f1_1, z1⟩ := S.out.two w.heap.size 23 (.int .i64 a0) (.int .i64 a1) (List.mem_cons_of_mem _ List.mem_cons_self)
  go_wp2_with fail
  refine (I1.out _).mono ?_
  rintro e w6 ⟨rfl, hb⟩
  replace S := Bx.mk (S.out.call hb)
  clear hb
  clear c0_0 c0_1 f0_0 f0_1 z0 c1_0 c1_1 f1_0 f1_1 z1
  obtain ⟨c0_0, c0_1, f0_0, f0_1, z0⟩ := S.out.two (w.heap.size + 1) 23 (.int .i64 b0) (.int .i64 b1) List.mem_cons_self
  obtain ⟨c1_0, c1_1, f1_0, f1_1, z1⟩ := S.out.two w.heap.size 23 (.int .i64 a0) (.int .i64 a1) (List.mem_cons_of_mem _ List.mem_cons_self)
  go_wp2_with fail
  refine (A1.out _).mono ?_
  rintro e w7 ⟨rfl, hb⟩
  replace S := Bx.mk (S.out.call hb)
  clear hb
  clear c0_0 c0_1 f0_0 f0_1 z0 c1_0 c1_1 f1_0 f1_1 z1
  replace S := Bx.mk (S.out.push #[.int .i64 s0, .int .i64 s1] 23)
  obtain ⟨c0_0, c0_1, f0_0, f0_1, z0⟩ := S.out.two w7.heap.size 23 (.int .i64 s0) (.int .i64 s1) List.mem_cons_self
  go_wp2_with fail
  refine (W4.out _).mono ?_
  rintro e w8 ⟨rfl, hb⟩
  replace S := Bx.mk (S.out.call hb)
  clear hb
  clear c0_0 c0_1 f0_0 f0_1 z0
  go_wp2_with fail
  go_ret
  exact ⟨rfl, S.out.bl⟩
set_option maxRecDepth 20000 in
set_option maxHeartbeats 8000000 in
theorem ssur_ty_ok (a0 a1 b0 b1 l h l2 h2 : Int) (w : World) (hl : Lm w) (B1 : Hx (∀ w, Calls Tryd.prog 38 #[SV a0 a1, SV b0 b1] w fun e w' => e = .returned (.bool true) ∧ Below w.heap.size w w')) (k0 : ¬ l < -1000000000000000) (k1 : ¬ 1000000000000000 < h) (k2 : ¬ l2 < -1000000000000000) (k3 : ¬ 1000000000000000 < h2) (k4 : ¬ h < l) (k5 : ¬ h2 < l2) (x y z s0 s1 hc : Int) (x0 : -1 ≤ x) (x1 : x ≤ 1) (W1 : Hx (∀ w, Calls Tryd.prog 29 #[SV a0 a1, .int .i64 l, .int .i64 h] w (OutI w (1) (0)))) (W2 : Hx (∀ w, Calls Tryd.prog 29 #[SV b0 b1, .int .i64 l, .int .i64 h] w (OutI w (1) (0)))) (W3 : Hx (∀ w, Calls Tryd.prog 29 #[SV b0 b1, .int .i64 l2, .int .i64 h2] w (OutI w (1) (0)))) (I1 : Hx (∀ w, Calls Tryd.prog 36 #[SV b0 b1, SV a0 a1] w fun e w' => e = .returned (.bool true) ∧ Below w.heap.size w w')) (A1 : Hx (∀ w, Calls Tryd.prog 19 #[SV a0 a1, SV b0 b1] w (OutZ w (s0) (s1) (0)))) (W4 : Hx (∀ w, Calls Tryd.prog 29 #[SV s0 s1, .int .i64 (l + l2), .int .i64 (h + h2)] w (OutI w (1) (0)))) :
    Calls Tryd.prog 8 #[SV a0 a1, SV b0 b1, .int .i64 l, .int .i64 h, .int .i64 l2, .int .i64 h2] w fun e w' => e = .returned (.bool true) ∧ Below w.heap.size w w' := by
  have S : Bx (SS w w []) := ⟨SS.start w hl⟩
  replace S := Bx.mk (S.out.push #[.int .i64 a0, .int .i64 a1] 23)
  replace S := Bx.mk (S.out.push #[.int .i64 b0, .int .i64 b1] 23)
  simp only [World.size_alloc] at S
  go_enter Tryd.func8, Tryd.ntmps8
  go_wp2_with fail
  refine (shead_any _ S.out.lm).mono ?_
  rintro e w1 ⟨rfl, hb⟩
  replace S := Bx.mk (S.out.call hb)
  clear hb
  obtain ⟨c0_0, c0_1, f0_0, f0_1, z0⟩ := S.out.two (w.heap.size + 1) 23 (.int .i64 b0) (.int .i64 b1) List.mem_cons_self
  obtain ⟨c1_0, c1_1, f1_0, f1_1, z1⟩ := S.out.two w.heap.size 23 (.int .i64 a0) (.int .i64 a1) (List.mem_cons_of_mem _ List.mem_cons_self)
  go_wp2_with fail
  refine (B1.out _).mono ?_
  rintro e w2 ⟨rfl, hb⟩
  replace S := Bx.mk (S.out.call hb)
  clear hb
  clear c0_0 c0_1 f0_0 f0_1 z0 c1_0 c1_1 f1_0 f1_1 z1
  obtain ⟨c1_0, c1_1, f1_0, f1_1, z1⟩ := S.out.two w.heap.size 23 (.int .i64 a0) (.int .i64 a1) (List.mem_cons_of_mem _ List.mem_cons_self)
  go_wp2_with fail
  refine (W1.out _).mono ?_
  rintro e w3 ⟨rfl, hb⟩
  replace S := Bx.mk (S.out.call hb)
  clear hb
  clear c1_0 c1_1 f1_0 f1_1 z1
  obtain ⟨c0_0, c0_1, f0_0, f0_1, z0⟩ := S.out.two (w.heap.size + 1) 23 (.int .i64 b0) (.int .i64 b1) List.mem_cons_self
  go_wp2_with fail
  refine (W2.out _).mono ?_
  rintro e w4 ⟨rfl, hb⟩
  replace S := Bx.mk (S.out.call hb)
  clear hb
  clear c0_0 c0_1 f0_0 f0_1 z0
  obtain ⟨c0_0, c0_1, f0_0, f0_1, z0⟩ := S.out.two (w.heap.size + 1) 23 (.int .i64 b0) (.int .i64 b1) List.mem_cons_self
  go_wp2_with fail
  refine (W3.out _).mono ?_
  rintro e w5 ⟨rfl, hb⟩
  replace S := Bx.mk (S.out.call hb)
  clear hb
  clear c0_0 c0_1 f0_0 f0_1 z0
  obtain ⟨c0_0, c0_1, f0_0, f0_1, z0⟩ := S.out.two (w.heap.size + 1) 23 (.int .i64 b0) (.int .i64 b1) List.mem_cons_self
  obtain ⟨c1_0, c1_1, f1_0, f1_1, z1⟩ := S.out.two w.heap.size 23 (.int .i64 a0) (.int .i64 a1) (List.mem_cons_of_mem _ List.mem_cons_self)
  go_wp2_with fail
  refine (I1.out _).mono ?_
  rintro e w6 ⟨rfl, hb⟩
  replace S := Bx.mk (S.out.call hb)
  clear hb
  clear c0_0 c0_1 f0_0 f0_1 z0 c1_0 c1_1 f1_0 f1_1 z1
  obtain ⟨c0_0, c0_1, f0_0, f0_1, z0⟩ := S.out.two (w.heap.size + 1) 23 (.int .i64 b0) (.int .i64 b1) List.mem_cons_self
  obtain ⟨c1_0, c1_1, f1_0, f1_1, z1⟩ := S.out.two w.heap.size 23 (.int .i64 a0) (.int .i64 a1) (List.mem_cons_of_mem _ List.mem_cons_self)
  go_wp2_with fail
  refine (A1.out _).mono ?_
  rintro e w7 ⟨rfl, hb⟩
  replace S := Bx.mk (S.out.call hb)
  clear hb
  clear c0_0 c0_1 f0_0 f0_1 z0 c1_0 c1_1 f1_0 f1_1 z1
  replace S := Bx.mk (S.out.push #[.int .i64 s0, .int .i64 s1] 23)
  obtain ⟨c0_0, c0_1, f0_0, f0_1, z0⟩ := S.out.two w7.heap.size 23 (.int .i64 s0) (.int .i64 s1) List.mem_cons_self
  go_wp2_with fail
  refine (W4.out _).mono ?_
  rintro e w8 ⟨rfl, hb⟩
  replace S := Bx.mk (S.out.call hb)
  clear hb
  clear c0_0 c0_1 f0_0 f0_1 z0
  go_wp2_with fail
  go_ret
  exact ⟨rfl, S.out.bl⟩
end Go.Proofs.YtdlfnonlalkjdaaDoor

/- SizeProducts, walked. -/
import Derived.Test.YtdlfnonlalkjdaaDoorSH
import Derived.Test.YtdlfnonlalkjdaaDoorSM
import Derived.LoopN
namespace Go.Proofs.YtdlfnonlalkjdaaDoor
open Go.RowKit M
theorem in_yes (a b c d : Int) (h1 : c ≤ a) (h2 : b ≤ d) (w : World) : Calls Tryd.prog 36 #[SV a b, SV c d] w fun e w' => e = .returned (.bool true) ∧ Below w.heap.size w w' := by
  go_enter Tryd.func36, Tryd.ntmps36
  go_wp2_with fail
  go_ret
  exact ⟨rfl, (by repeat (first | with_reducible exact Below.refl _ _ | (with_reducible refine Below.setCell ?_ ?side _; case side => (first | omega | (simp <;> omega))) | (with_reducible refine Below.alloc ?_ ?side _; case side => (first | omega | (simp <;> omega))) | with_reducible apply below_drewN))⟩
set_option maxRecDepth 20000 in
set_option maxHeartbeats 8000000 in
theorem sproducts_p (p q : Nat → Int) (w : World) (hl : Lm w) (V1 : Hx (∀ w, Calls Tryd.prog 33 #[PV p] w fun e w' => e = .returned (.bool false) ∧ Below w.heap.size w w')) :
    Calls Tryd.prog 5 #[PV p, PV q] w fun e w' => e = .returned (.bool true) ∧ Below w.heap.size w w' := by
  have S : Bx (SS w w []) := ⟨SS.start w hl⟩
  replace S := Bx.mk (S.out.push #[.int .i64 (p 0), .int .i64 (p 1), .int .i64 (p 2), .int .i64 (p 3), .int .i64 (p 4), .int .i64 (p 5)] 25)
  replace S := Bx.mk (S.out.push #[.int .i64 (q 0), .int .i64 (q 1), .int .i64 (q 2), .int .i64 (q 3), .int .i64 (q 4), .int .i64 (q 5)] 25)
  simp only [World.size_alloc] at S
  go_enter Tryd.func5, Tryd.ntmps5
  go_wp2_with fail
  refine (shead_any _ S.out.lm).mono ?_
  rintro e w1 ⟨rfl, hb⟩
  replace S := Bx.mk (S.out.call hb)
  clear hb
  obtain ⟨c1_0, c1_1, c1_2, c1_3, c1_4, c1_5, z1⟩ := S.out.six w.heap.size 25 (.int .i64 (p 0)) (.int .i64 (p 1)) (.int .i64 (p 2)) (.int .i64 (p 3)) (.int .i64 (p 4)) (.int .i64 (p 5)) (List.mem_cons_of_mem _ List.mem_cons_self)
  go_wp2_with fail
  refine (V1.out _).mono ?_
  rintro e w2 ⟨rfl, hb⟩
  replace S := Bx.mk (S.out.call hb)
  clear hb
  clear c1_0 c1_1 c1_2 c1_3 c1_4 c1_5 z1
  go_wp2_with fail
  go_ret
  exact ⟨rfl, S.out.bl⟩
set_option maxRecDepth 20000 in
set_option maxHeartbeats 8000000 in
theorem sproducts_q (p q : Nat → Int) (w : World) (hl : Lm w) (V1 : Hx (∀ w, Calls Tryd.prog 33 #[PV p] w fun e w' => e = .returned (.bool true) ∧ Below w.heap.size w w')) (V2 : Hx (∀ w, Calls Tryd.prog 33 #[PV q] w fun e w' => e = .returned (.bool false) ∧ Below w.heap.size w w')) :
    Calls Tryd.prog 5 #[PV p, PV q] w fun e w' => e = .returned (.bool true) ∧ Below w.heap.size w w' := by
  have S : Bx (SS w w []) := ⟨SS.start w hl⟩
  replace S := Bx.mk (S.out.push #[.int .i64 (p 0), .int .i64 (p 1), .int .i64 (p 2), .int .i64 (p 3), .int .i64 (p 4), .int .i64 (p 5)] 25)
  replace S := Bx.mk (S.out.push #[.int .i64 (q 0), .int .i64 (q 1), .int .i64 (q 2), .int .i64 (q 3), .int .i64 (q 4), .int .i64 (q 5)] 25)
  simp only [World.size_alloc] at S
  go_enter Tryd.func5, Tryd.ntmps5
  go_wp2_with fail
  refine (shead_any _ S.out.lm).mono ?_
  rintro e w1 ⟨rfl, hb⟩
  replace S := Bx.mk (S.out.call hb)
  clear hb
  obtain ⟨c1_0, c1_1, c1_2, c1_3, c1_4, c1_5, z1⟩ := S.out.six w.heap.size 25 (.int .i64 (p 0)) (.int .i64 (p 1)) (.int .i64 (p 2)) (.int .i64 (p 3)) (.int .i64 (p 4)) (.int .i64 (p 5)) (List.mem_cons_of_mem _ List.mem_cons_self)
  go_wp2_with fail
  refine (V1.out _).mono ?_
  rintro e w2 ⟨rfl, hb⟩
  replace S := Bx.mk (S.out.call hb)
  clear hb
  clear c1_0 c1_1 c1_2 c1_3 c1_4 c1_5 z1
  obtain ⟨c0_0, c0_1, c0_2, c0_3, c0_4, c0_5, z0⟩ := S.out.six (w.heap.size + 1) 25 (.int .i64 (q 0)) (.int .i64 (q 1)) (.int .i64 (q 2)) (.int .i64 (q 3)) (.int .i64 (q 4)) (.int .i64 (q 5)) List.mem_cons_self
  go_wp2_with fail
  refine (V2.out _).mono ?_
  rintro e w3 ⟨rfl, hb⟩
  replace S := Bx.mk (S.out.call hb)
  clear hb
  clear c0_0 c0_1 c0_2 c0_3 c0_4 c0_5 z0
  go_wp2_with fail
  go_ret
  exact ⟨rfl, S.out.bl⟩
set_option maxRecDepth 20000 in
set_option maxHeartbeats 8000000 in
theorem sproducts_ok (p q : Nat → Int) (w : World) (hl : Lm w) (a0 a1 b0 b1 s0 s1 d0 d1 g0 g1 c0 c1 mc dc : Int) (r r2 : Nat → Int) (hg0 : -30000000000000 ≤ g0) (hg1 : g1 ≤ 30000000000000) (hg2 : g0 ≤ g1) (V1 : Hx (∀ w, Calls Tryd.prog 33 #[PV p] w fun e w' => e = .returned (.bool true) ∧ Below w.heap.size w w')) (V2 : Hx (∀ w, Calls Tryd.prog 33 #[PV q] w fun e w' => e = .returned (.bool true) ∧ Below w.heap.size w w')) (O1 : Hx (∀ w, Lm w → Calls Tryd.prog 15 #[PV p] w (OutZ w (a0) (a1) 0))) (O2 : Hx (∀ w, Lm w → Calls Tryd.prog 15 #[PV q] w (OutZ w (b0) (b1) 0))) (A1 : Hx (∀ w, Calls Tryd.prog 19 #[SV a0 a1, SV b0 b1] w (OutZ w (s0) (s1) (0)))) (D1 : Hx (∀ w, Calls Tryd.prog 21 #[SV a0 a1, SV b0 b1] w (OutZ w (d0) (d1) (0)))) (G1 : Hx (∀ w, Lm w → Calls Tryd.prog 17 #[PV p, PV q] w (OutZ w (g0) (g1) (0)))) (G2 : Hx (∀ w, Lm w → Calls Tryd.prog 17 #[PV q, PV p] w (OutZ w (-g1) (-g0) (0)))) (G3 : Hx (∀ w, Lm w → Calls Tryd.prog 17 #[PV p, PV p] w (OutZ w (0) (0) (0)))) (M1 : Hx (∀ w, Calls Tryd.prog 35 #[PV p, PV q] w (OutV w r (mc)))) (HM : Hx (mc = 0 → Hx (∀ w, Lm w → Calls Tryd.prog 15 #[PV r] w (OutZ w c0 c1 0)) ∧ s0 ≤ c0 ∧ c1 ≤ s1 ∧ ((∀ i, i < 6 → ¬ (p i < 0 ∧ 0 < q i) ∧ ¬ (0 < p i ∧ q i < 0)) → c0 = s0 ∧ c1 = s1))) (E1 : Hx (∀ w, Calls Tryd.prog 37 #[PV p, PV q] w (OutV w r2 (dc)))) (HD : Hx (dc = 0 → Hx (∀ w, Lm w → Calls Tryd.prog 15 #[PV r2] w (OutZ w g0 g1 0)) ∧ d0 ≤ g0 ∧ g1 ≤ d1)) :
    Calls Tryd.prog 5 #[PV p, PV q] w fun e w' => e = .returned (.bool true) ∧ Below w.heap.size w w' := by
  have S : Bx (SS w w []) := ⟨SS.start w hl⟩
  replace S := Bx.mk (S.out.push #[.int .i64 (p 0), .int .i64 (p 1), .int .i64 (p 2), .int .i64 (p 3), .int .i64 (p 4), .int .i64 (p 5)] 25)
  replace S := Bx.mk (S.out.push #[.int .i64 (q 0), .int .i64 (q 1), .int .i64 (q 2), .int .i64 (q 3), .int .i64 (q 4), .int .i64 (q 5)] 25)
  simp only [World.size_alloc] at S
  go_enter Tryd.func5, Tryd.ntmps5
  go_wp2_with fail
  refine (shead_any _ S.out.lm).mono ?_
  rintro e w1 ⟨rfl, hb⟩
  replace S := Bx.mk (S.out.call hb)
  clear hb
  obtain ⟨c1_0, c1_1, c1_2, c1_3, c1_4, c1_5, z1⟩ := S.out.six w.heap.size 25 (.int .i64 (p 0)) (.int .i64 (p 1)) (.int .i64 (p 2)) (.int .i64 (p 3)) (.int .i64 (p 4)) (.int .i64 (p 5)) (List.mem_cons_of_mem _ List.mem_cons_self)
  go_wp2_with fail
  refine (V1.out _).mono ?_
  rintro e w2 ⟨rfl, hb⟩
  replace S := Bx.mk (S.out.call hb)
  clear hb
  clear c1_0 c1_1 c1_2 c1_3 c1_4 c1_5 z1
  obtain ⟨c0_0, c0_1, c0_2, c0_3, c0_4, c0_5, z0⟩ := S.out.six (w.heap.size + 1) 25 (.int .i64 (q 0)) (.int .i64 (q 1)) (.int .i64 (q 2)) (.int .i64 (q 3)) (.int .i64 (q 4)) (.int .i64 (q 5)) List.mem_cons_self
  go_wp2_with fail
  refine (V2.out _).mono ?_
  rintro e w3 ⟨rfl, hb⟩
  replace S := Bx.mk (S.out.call hb)
  clear hb
  clear c0_0 c0_1 c0_2 c0_3 c0_4 c0_5 z0
  obtain ⟨c1_0, c1_1, c1_2, c1_3, c1_4, c1_5, z1⟩ := S.out.six w.heap.size 25 (.int .i64 (p 0)) (.int .i64 (p 1)) (.int .i64 (p 2)) (.int .i64 (p 3)) (.int .i64 (p 4)) (.int .i64 (p 5)) (List.mem_cons_of_mem _ List.mem_cons_self)
  go_wp2_with fail
  refine (O1.out _ S.out.lm).mono ?_
  rintro e w4 ⟨rfl, hb⟩
  replace S := Bx.mk (S.out.call hb)
  clear hb
  clear c1_0 c1_1 c1_2 c1_3 c1_4 c1_5 z1
  replace S := Bx.mk (S.out.push #[.int .i64 a0, .int .i64 a1] 23)
  obtain ⟨c1_0, c1_1, c1_2, c1_3, c1_4, c1_5, z1⟩ := S.out.six (w.heap.size + 1) 25 (.int .i64 (q 0)) (.int .i64 (q 1)) (.int .i64 (q 2)) (.int .i64 (q 3)) (.int .i64 (q 4)) (.int .i64 (q 5)) (List.mem_cons_of_mem _ List.mem_cons_self)
  go_wp2_with fail
  refine (O2.out _ S.out.lm).mono ?_
  rintro e w5 ⟨rfl, hb⟩
  replace S := Bx.mk (S.out.call hb)
  clear hb
  clear c1_0 c1_1 c1_2 c1_3 c1_4 c1_5 z1
  replace S := Bx.mk (S.out.push #[.int .i64 b0, .int .i64 b1] 23)
  obtain ⟨c0_0, c0_1, f0_0, f0_1, z0⟩ := S.out.two w5.heap.size 23 (.int .i64 b0) (.int .i64 b1) List.mem_cons_self
  obtain ⟨c1_0, c1_1, f1_0, f1_1, z1⟩ := S.out.two w4.heap.size 23 (.int .i64 a0) (.int .i64 a1) (List.mem_cons_of_mem _ List.mem_cons_self)
  go_wp2_with fail
  refine (A1.out _).mono ?_
  rintro e w6 ⟨rfl, hb⟩
  replace S := Bx.mk (S.out.call hb)
  clear hb
  clear c0_0 c0_1 f0_0 f0_1 z0 c1_0 c1_1 f1_0 f1_1 z1
  replace S := Bx.mk (S.out.push #[.int .i64 s0, .int .i64 s1] 23)
  obtain ⟨c1_0, c1_1, f1_0, f1_1, z1⟩ := S.out.two w5.heap.size 23 (.int .i64 b0) (.int .i64 b1) (List.mem_cons_of_mem _ List.mem_cons_self)
  obtain ⟨c2_0, c2_1, f2_0, f2_1, z2⟩ := S.out.two w4.heap.size 23 (.int .i64 a0) (.int .i64 a1) (List.mem_cons_of_mem _ (List.mem_cons_of_mem _ List.mem_cons_self))
  go_wp2_with fail
  refine (D1.out _).mono ?_
  rintro e w7 ⟨rfl, hb⟩
  replace S := Bx.mk (S.out.call hb)
  clear hb
  clear c1_0 c1_1 f1_0 f1_1 z1 c2_0 c2_1 f2_0 f2_1 z2
  replace S := Bx.mk (S.out.push #[.int .i64 d0, .int .i64 d1] 23)
  obtain ⟨c4_0, c4_1, c4_2, c4_3, c4_4, c4_5, z4⟩ := S.out.six (w.heap.size + 1) 25 (.int .i64 (q 0)) (.int .i64 (q 1)) (.int .i64 (q 2)) (.int .i64 (q 3)) (.int .i64 (q 4)) (.int .i64 (q 5)) (List.mem_cons_of_mem _ (List.mem_cons_of_mem _ (List.mem_cons_of_mem _ (List.mem_cons_of_mem _ List.mem_cons_self))))
  obtain ⟨c5_0, c5_1, c5_2, c5_3, c5_4, c5_5, z5⟩ := S.out.six w.heap.size 25 (.int .i64 (p 0)) (.int .i64 (p 1)) (.int .i64 (p 2)) (.int .i64 (p 3)) (.int .i64 (p 4)) (.int .i64 (p 5)) (List.mem_cons_of_mem _ (List.mem_cons_of_mem _ (List.mem_cons_of_mem _ (List.mem_cons_of_mem _ (List.mem_cons_of_mem _ List.mem_cons_self)))))
  go_wp2_with fail
  go_loop [14, 15] (fun ov iv => ∃ (k : Nat) (o : Bool), k ≤ 6 ∧ ov = .bool o ∧ iv = .int .i64 (k : Int) ∧ Hx (o = false → ∀ i, i < k → ¬ (p i < 0 ∧ 0 < q i) ∧ ¬ (0 < p i ∧ q i < 0))) (fun ov iv => 6 - (intOf iv).toNat)
  case atStart => exact ⟨0, false, by omega, rfl, rfl, ⟨fun _ i hi => by omega⟩⟩
  case round =>
    obtain ⟨k, o, hk, rfl, rfl, HO⟩ := hrel
    have : k = 0 ∨ k = 1 ∨ k = 2 ∨ k = 3 ∨ k = 4 ∨ k = 5 ∨ k = 6 := by omega
    rcases this with rfl | rfl | rfl | rfl | rfl | rfl | rfl
    · cases o
      · by_cases h1 : p 0 < 0
        · by_cases h2 : 0 < q 0
          · skip
            go_wp2
            go_round
            case rel => exact ⟨1, true, by omega, rfl, rfl, ⟨fun h => by cases h⟩⟩
            case measure => simp [intOf]
          · have h3 : ¬ 0 < p 0 := by omega
            go_wp2
            go_round
            case rel => exact ⟨1, false, by omega, rfl, rfl, ⟨fun _ i hi => by
                by_cases e : i = 0
                · subst e; exact ⟨by omega, by omega⟩
                · exact HO.out rfl i (by omega)⟩⟩
            case measure => simp [intOf]
        · by_cases h3 : 0 < p 0
          · by_cases h4 : q 0 < 0
            · skip
              go_wp2
              go_round
              case rel => exact ⟨1, true, by omega, rfl, rfl, ⟨fun h => by cases h⟩⟩
              case measure => simp [intOf]
            · skip
              go_wp2
              go_round
              case rel => exact ⟨1, false, by omega, rfl, rfl, ⟨fun _ i hi => by
                by_cases e : i = 0
                · subst e; exact ⟨by omega, by omega⟩
                · exact HO.out rfl i (by omega)⟩⟩
              case measure => simp [intOf]
          · skip
            go_wp2
            go_round
            case rel => exact ⟨1, false, by omega, rfl, rfl, ⟨fun _ i hi => by
                by_cases e : i = 0
                · subst e; exact ⟨by omega, by omega⟩
                · exact HO.out rfl i (by omega)⟩⟩
            case measure => simp [intOf]
      · skip
        go_wp2
        go_round
        case rel => exact ⟨1, true, by omega, rfl, rfl, ⟨fun h => by cases h⟩⟩
        case measure => simp [intOf]
    · cases o
      · by_cases h1 : p 1 < 0
        · by_cases h2 : 0 < q 1
          · skip
            go_wp2
            go_round
            case rel => exact ⟨2, true, by omega, rfl, rfl, ⟨fun h => by cases h⟩⟩
            case measure => simp [intOf]
          · have h3 : ¬ 0 < p 1 := by omega
            go_wp2
            go_round
            case rel => exact ⟨2, false, by omega, rfl, rfl, ⟨fun _ i hi => by
                by_cases e : i = 1
                · subst e; exact ⟨by omega, by omega⟩
                · exact HO.out rfl i (by omega)⟩⟩
            case measure => simp [intOf]
        · by_cases h3 : 0 < p 1
          · by_cases h4 : q 1 < 0
            · skip
              go_wp2
              go_round
              case rel => exact ⟨2, true, by omega, rfl, rfl, ⟨fun h => by cases h⟩⟩
              case measure => simp [intOf]
            · skip
              go_wp2
              go_round
              case rel => exact ⟨2, false, by omega, rfl, rfl, ⟨fun _ i hi => by
                by_cases e : i = 1
                · subst e; exact ⟨by omega, by omega⟩
                · exact HO.out rfl i (by omega)⟩⟩
              case measure => simp [intOf]
          · skip
            go_wp2
            go_round
            case rel => exact ⟨2, false, by omega, rfl, rfl, ⟨fun _ i hi => by
                by_cases e : i = 1
                · subst e; exact ⟨by omega, by omega⟩
                · exact HO.out rfl i (by omega)⟩⟩
            case measure => simp [intOf]
      · skip
        go_wp2
        go_round
        case rel => exact ⟨2, true, by omega, rfl, rfl, ⟨fun h => by cases h⟩⟩
        case measure => simp [intOf]
    · cases o
      · by_cases h1 : p 2 < 0
        · by_cases h2 : 0 < q 2
          · skip
            go_wp2
            go_round
            case rel => exact ⟨3, true, by omega, rfl, rfl, ⟨fun h => by cases h⟩⟩
            case measure => simp [intOf]
          · have h3 : ¬ 0 < p 2 := by omega
            go_wp2
            go_round
            case rel => exact ⟨3, false, by omega, rfl, rfl, ⟨fun _ i hi => by
                by_cases e : i = 2
                · subst e; exact ⟨by omega, by omega⟩
                · exact HO.out rfl i (by omega)⟩⟩
            case measure => simp [intOf]
        · by_cases h3 : 0 < p 2
          · by_cases h4 : q 2 < 0
            · skip
              go_wp2
              go_round
              case rel => exact ⟨3, true, by omega, rfl, rfl, ⟨fun h => by cases h⟩⟩
              case measure => simp [intOf]
            · skip
              go_wp2
              go_round
              case rel => exact ⟨3, false, by omega, rfl, rfl, ⟨fun _ i hi => by
                by_cases e : i = 2
                · subst e; exact ⟨by omega, by omega⟩
                · exact HO.out rfl i (by omega)⟩⟩
              case measure => simp [intOf]
          · skip
            go_wp2
            go_round
            case rel => exact ⟨3, false, by omega, rfl, rfl, ⟨fun _ i hi => by
                by_cases e : i = 2
                · subst e; exact ⟨by omega, by omega⟩
                · exact HO.out rfl i (by omega)⟩⟩
            case measure => simp [intOf]
      · skip
        go_wp2
        go_round
        case rel => exact ⟨3, true, by omega, rfl, rfl, ⟨fun h => by cases h⟩⟩
        case measure => simp [intOf]
    · cases o
      · by_cases h1 : p 3 < 0
        · by_cases h2 : 0 < q 3
          · skip
            go_wp2
            go_round
            case rel => exact ⟨4, true, by omega, rfl, rfl, ⟨fun h => by cases h⟩⟩
            case measure => simp [intOf]
          · have h3 : ¬ 0 < p 3 := by omega
            go_wp2
            go_round
            case rel => exact ⟨4, false, by omega, rfl, rfl, ⟨fun _ i hi => by
                by_cases e : i = 3
                · subst e; exact ⟨by omega, by omega⟩
                · exact HO.out rfl i (by omega)⟩⟩
            case measure => simp [intOf]
        · by_cases h3 : 0 < p 3
          · by_cases h4 : q 3 < 0
            · skip
              go_wp2
              go_round
              case rel => exact ⟨4, true, by omega, rfl, rfl, ⟨fun h => by cases h⟩⟩
              case measure => simp [intOf]
            · skip
              go_wp2
              go_round
              case rel => exact ⟨4, false, by omega, rfl, rfl, ⟨fun _ i hi => by
                by_cases e : i = 3
                · subst e; exact ⟨by omega, by omega⟩
                · exact HO.out rfl i (by omega)⟩⟩
              case measure => simp [intOf]
          · skip
            go_wp2
            go_round
            case rel => exact ⟨4, false, by omega, rfl, rfl, ⟨fun _ i hi => by
                by_cases e : i = 3
                · subst e; exact ⟨by omega, by omega⟩
                · exact HO.out rfl i (by omega)⟩⟩
            case measure => simp [intOf]
      · skip
        go_wp2
        go_round
        case rel => exact ⟨4, true, by omega, rfl, rfl, ⟨fun h => by cases h⟩⟩
        case measure => simp [intOf]
    · cases o
      · by_cases h1 : p 4 < 0
        · by_cases h2 : 0 < q 4
          · skip
            go_wp2
            go_round
            case rel => exact ⟨5, true, by omega, rfl, rfl, ⟨fun h => by cases h⟩⟩
            case measure => simp [intOf]
          · have h3 : ¬ 0 < p 4 := by omega
            go_wp2
            go_round
            case rel => exact ⟨5, false, by omega, rfl, rfl, ⟨fun _ i hi => by
                by_cases e : i = 4
                · subst e; exact ⟨by omega, by omega⟩
                · exact HO.out rfl i (by omega)⟩⟩
            case measure => simp [intOf]
        · by_cases h3 : 0 < p 4
          · by_cases h4 : q 4 < 0
            · skip
              go_wp2
              go_round
              case rel => exact ⟨5, true, by omega, rfl, rfl, ⟨fun h => by cases h⟩⟩
              case measure => simp [intOf]
            · skip
              go_wp2
              go_round
              case rel => exact ⟨5, false, by omega, rfl, rfl, ⟨fun _ i hi => by
                by_cases e : i = 4
                · subst e; exact ⟨by omega, by omega⟩
                · exact HO.out rfl i (by omega)⟩⟩
              case measure => simp [intOf]
          · skip
            go_wp2
            go_round
            case rel => exact ⟨5, false, by omega, rfl, rfl, ⟨fun _ i hi => by
                by_cases e : i = 4
                · subst e; exact ⟨by omega, by omega⟩
                · exact HO.out rfl i (by omega)⟩⟩
            case measure => simp [intOf]
      · skip
        go_wp2
        go_round
        case rel => exact ⟨5, true, by omega, rfl, rfl, ⟨fun h => by cases h⟩⟩
        case measure => simp [intOf]
    · cases o
      · by_cases h1 : p 5 < 0
        · by_cases h2 : 0 < q 5
          · skip
            go_wp2
            go_round
            case rel => exact ⟨6, true, by omega, rfl, rfl, ⟨fun h => by cases h⟩⟩
            case measure => simp [intOf]
          · have h3 : ¬ 0 < p 5 := by omega
            go_wp2
            go_round
            case rel => exact ⟨6, false, by omega, rfl, rfl, ⟨fun _ i hi => by
                by_cases e : i = 5
                · subst e; exact ⟨by omega, by omega⟩
                · exact HO.out rfl i (by omega)⟩⟩
            case measure => simp [intOf]
        · by_cases h3 : 0 < p 5
          · by_cases h4 : q 5 < 0
            · skip
              go_wp2
              go_round
              case rel => exact ⟨6, true, by omega, rfl, rfl, ⟨fun h => by cases h⟩⟩
              case measure => simp [intOf]
            · skip
              go_wp2
              go_round
              case rel => exact ⟨6, false, by omega, rfl, rfl, ⟨fun _ i hi => by
                by_cases e : i = 5
                · subst e; exact ⟨by omega, by omega⟩
                · exact HO.out rfl i (by omega)⟩⟩
              case measure => simp [intOf]
          · skip
            go_wp2
            go_round
            case rel => exact ⟨6, false, by omega, rfl, rfl, ⟨fun _ i hi => by
                by_cases e : i = 5
                · subst e; exact ⟨by omega, by omega⟩
                · exact HO.out rfl i (by omega)⟩⟩
            case measure => simp [intOf]
      · skip
        go_wp2
        go_round
        case rel => exact ⟨6, true, by omega, rfl, rfl, ⟨fun h => by cases h⟩⟩
        case measure => simp [intOf]
    · by_cases hm : mc = 0
      · obtain ⟨O3, hc0, hc1, HC⟩ := HM.out hm
        have I1 := Hx.mk (in_yes c0 c1 s0 s1 hc0 hc1)
        subst hm
        cases o
        · obtain ⟨ec0, ec1⟩ := HC (HO.out rfl)
          subst ec0; subst ec1
          clear c4_0 c4_1 c4_2 c4_3 c4_4 c4_5 z4 c5_0 c5_1 c5_2 c5_3 c5_4 c5_5 z5
          obtain ⟨c4_0, c4_1, c4_2, c4_3, c4_4, c4_5, z4⟩ := S.out.six (w.heap.size + 1) 25 (.int .i64 (q 0)) (.int .i64 (q 1)) (.int .i64 (q 2)) (.int .i64 (q 3)) (.int .i64 (q 4)) (.int .i64 (q 5)) (List.mem_cons_of_mem _ (List.mem_cons_of_mem _ (List.mem_cons_of_mem _ (List.mem_cons_of_mem _ List.mem_cons_self))))
          obtain ⟨c5_0, c5_1, c5_2, c5_3, c5_4, c5_5, z5⟩ := S.out.six w.heap.size 25 (.int .i64 (p 0)) (.int .i64 (p 1)) (.int .i64 (p 2)) (.int .i64 (p 3)) (.int .i64 (p 4)) (.int .i64 (p 5)) (List.mem_cons_of_mem _ (List.mem_cons_of_mem _ (List.mem_cons_of_mem _ (List.mem_cons_of_mem _ (List.mem_cons_of_mem _ List.mem_cons_self)))))
          go_wp2_with fail
          refine (M1.out _).mono ?_
          rintro e w8 ⟨rfl, hb⟩
          replace S := Bx.mk (S.out.call hb)
          clear hb
          clear c4_0 c4_1 c4_2 c4_3 c4_4 c4_5 z4 c5_0 c5_1 c5_2 c5_3 c5_4 c5_5 z5
          replace S := Bx.mk (S.out.push #[.int .i64 (r 0), .int .i64 (r 1), .int .i64 (r 2), .int .i64 (r 3), .int .i64 (r 4), .int .i64 (r 5)] 25)
          obtain ⟨c0_0, c0_1, c0_2, c0_3, c0_4, c0_5, z0⟩ := S.out.six w8.heap.size 25 (.int .i64 (r 0)) (.int .i64 (r 1)) (.int .i64 (r 2)) (.int .i64 (r 3)) (.int .i64 (r 4)) (.int .i64 (r 5)) List.mem_cons_self
          go_wp2_with fail
          refine (O3.out _ S.out.lm).mono ?_
          rintro e w9 ⟨rfl, hb⟩
          replace S := Bx.mk (S.out.call hb)
          clear hb
          clear c0_0 c0_1 c0_2 c0_3 c0_4 c0_5 z0
          replace S := Bx.mk (S.out.push #[.int .i64 c0, .int .i64 c1] 23)
          obtain ⟨c0_0, c0_1, f0_0, f0_1, z0⟩ := S.out.two w9.heap.size 23 (.int .i64 c0) (.int .i64 c1) List.mem_cons_self
          obtain ⟨c3_0, c3_1, f3_0, f3_1, z3⟩ := S.out.two w6.heap.size 23 (.int .i64 c0) (.int .i64 c1) (List.mem_cons_of_mem _ (List.mem_cons_of_mem _ (List.mem_cons_of_mem _ List.mem_cons_self)))
          go_wp2_with fail
          refine (I1.out _).mono ?_
          rintro e w10 ⟨rfl, hb⟩
          replace S := Bx.mk (S.out.call hb)
          clear hb
          clear c0_0 c0_1 f0_0 f0_1 z0 c3_0 c3_1 f3_0 f3_1 z3
          obtain ⟨c6_0, c6_1, c6_2, c6_3, c6_4, c6_5, z6⟩ := S.out.six (w.heap.size + 1) 25 (.int .i64 (q 0)) (.int .i64 (q 1)) (.int .i64 (q 2)) (.int .i64 (q 3)) (.int .i64 (q 4)) (.int .i64 (q 5)) (List.mem_cons_of_mem _ (List.mem_cons_of_mem _ (List.mem_cons_of_mem _ (List.mem_cons_of_mem _ (List.mem_cons_of_mem _ (List.mem_cons_of_mem _ List.mem_cons_self))))))
          obtain ⟨c7_0, c7_1, c7_2, c7_3, c7_4, c7_5, z7⟩ := S.out.six w.heap.size 25 (.int .i64 (p 0)) (.int .i64 (p 1)) (.int .i64 (p 2)) (.int .i64 (p 3)) (.int .i64 (p 4)) (.int .i64 (p 5)) (List.mem_cons_of_mem _ (List.mem_cons_of_mem _ (List.mem_cons_of_mem _ (List.mem_cons_of_mem _ (List.mem_cons_of_mem _ (List.mem_cons_of_mem _ (List.mem_cons_of_mem _ List.mem_cons_self)))))))
          obtain ⟨c0_0, c0_1, f0_0, f0_1, z0⟩ := S.out.two w9.heap.size 23 (.int .i64 c0) (.int .i64 c1) List.mem_cons_self
          obtain ⟨c3_0, c3_1, f3_0, f3_1, z3⟩ := S.out.two w6.heap.size 23 (.int .i64 c0) (.int .i64 c1) (List.mem_cons_of_mem _ (List.mem_cons_of_mem _ (List.mem_cons_of_mem _ List.mem_cons_self)))
          go_wp2_with fail
          refine (G1.out _ S.out.lm).mono ?_
          rintro e w11 ⟨rfl, hb⟩
          replace S := Bx.mk (S.out.call hb)
          clear hb
          clear c6_0 c6_1 c6_2 c6_3 c6_4 c6_5 z6 c7_0 c7_1 c7_2 c7_3 c7_4 c7_5 z7 c0_0 c0_1 f0_0 f0_1 z0 c3_0 c3_1 f3_0 f3_1 z3
          replace S := Bx.mk (S.out.push #[.int .i64 g0, .int .i64 g1] 23)
          obtain ⟨c7_0, c7_1, c7_2, c7_3, c7_4, c7_5, z7⟩ := S.out.six (w.heap.size + 1) 25 (.int .i64 (q 0)) (.int .i64 (q 1)) (.int .i64 (q 2)) (.int .i64 (q 3)) (.int .i64 (q 4)) (.int .i64 (q 5)) (List.mem_cons_of_mem _ (List.mem_cons_of_mem _ (List.mem_cons_of_mem _ (List.mem_cons_of_mem _ (List.mem_cons_of_mem _ (List.mem_cons_of_mem _ (List.mem_cons_of_mem _ List.mem_cons_self)))))))
          obtain ⟨c8_0, c8_1, c8_2, c8_3, c8_4, c8_5, z8⟩ := S.out.six w.heap.size 25 (.int .i64 (p 0)) (.int .i64 (p 1)) (.int .i64 (p 2)) (.int .i64 (p 3)) (.int .i64 (p 4)) (.int .i64 (p 5)) (List.mem_cons_of_mem _ (List.mem_cons_of_mem _ (List.mem_cons_of_mem _ (List.mem_cons_of_mem _ (List.mem_cons_of_mem _ (List.mem_cons_of_mem _ (List.mem_cons_of_mem _ (List.mem_cons_of_mem _ List.mem_cons_self))))))))
          go_wp2_with fail
          refine (G2.out _ S.out.lm).mono ?_
          rintro e w12 ⟨rfl, hb⟩
          replace S := Bx.mk (S.out.call hb)
          clear hb
          clear c7_0 c7_1 c7_2 c7_3 c7_4 c7_5 z7 c8_0 c8_1 c8_2 c8_3 c8_4 c8_5 z8
          replace S := Bx.mk (S.out.push #[.int .i64 (-g1), .int .i64 (-g0)] 23)
          obtain ⟨c9_0, c9_1, c9_2, c9_3, c9_4, c9_5, z9⟩ := S.out.six w.heap.size 25 (.int .i64 (p 0)) (.int .i64 (p 1)) (.int .i64 (p 2)) (.int .i64 (p 3)) (.int .i64 (p 4)) (.int .i64 (p 5)) (List.mem_cons_of_mem _ (List.mem_cons_of_mem _ (List.mem_cons_of_mem _ (List.mem_cons_of_mem _ (List.mem_cons_of_mem _ (List.mem_cons_of_mem _ (List.mem_cons_of_mem _ (List.mem_cons_of_mem _ (List.mem_cons_of_mem _ List.mem_cons_self)))))))))
          go_wp2_with fail
          refine (G3.out _ S.out.lm).mono ?_
          rintro e w13 ⟨rfl, hb⟩
          replace S := Bx.mk (S.out.call hb)
          clear hb
          clear c9_0 c9_1 c9_2 c9_3 c9_4 c9_5 z9
          replace S := Bx.mk (S.out.push #[.int .i64 0, .int .i64 0] 23)
          obtain ⟨c0_0, c0_1, f0_0, f0_1, z0⟩ := S.out.two w13.heap.size 23 (.int .i64 0) (.int .i64 0) List.mem_cons_self
          obtain ⟨c1_0, c1_1, f1_0, f1_1, z1⟩ := S.out.two w12.heap.size 23 (.int .i64 (-g1)) (.int .i64 (-g0)) (List.mem_cons_of_mem _ List.mem_cons_self)
          obtain ⟨c2_0, c2_1, f2_0, f2_1, z2⟩ := S.out.two w11.heap.size 23 (.int .i64 g0) (.int .i64 g1) (List.mem_cons_of_mem _ (List.mem_cons_of_mem _ List.mem_cons_self))
          obtain ⟨c9_0, c9_1, c9_2, c9_3, c9_4, c9_5, z9⟩ := S.out.six (w.heap.size + 1) 25 (.int .i64 (q 0)) (.int .i64 (q 1)) (.int .i64 (q 2)) (.int .i64 (q 3)) (.int .i64 (q 4)) (.int .i64 (q 5)) (List.mem_cons_of_mem _ (List.mem_cons_of_mem _ (List.mem_cons_of_mem _ (List.mem_cons_of_mem _ (List.mem_cons_of_mem _ (List.mem_cons_of_mem _ (List.mem_cons_of_mem _ (List.mem_cons_of_mem _ (List.mem_cons_of_mem _ List.mem_cons_self)))))))))
          obtain ⟨c10_0, c10_1, c10_2, c10_3, c10_4, c10_5, z10⟩ := S.out.six w.heap.size 25 (.int .i64 (p 0)) (.int .i64 (p 1)) (.int .i64 (p 2)) (.int .i64 (p 3)) (.int .i64 (p 4)) (.int .i64 (p 5)) (List.mem_cons_of_mem _ (List.mem_cons_of_mem _ (List.mem_cons_of_mem _ (List.mem_cons_of_mem _ (List.mem_cons_of_mem _ (List.mem_cons_of_mem _ (List.mem_cons_of_mem _ (List.mem_cons_of_mem _ (List.mem_cons_of_mem _ (List.mem_cons_of_mem _ List.mem_cons_self))))))))))
          go_wp2_with fail
          refine (E1.out _).mono ?_
          rintro e w14 ⟨rfl, hb⟩
          replace S := Bx.mk (S.out.call hb)
          clear hb
          clear c0_0 c0_1 f0_0 f0_1 z0 c1_0 c1_1 f1_0 f1_1 z1 c2_0 c2_1 f2_0 f2_1 z2 c9_0 c9_1 c9_2 c9_3 c9_4 c9_5 z9 c10_0 c10_1 c10_2 c10_3 c10_4 c10_5 z10
          by_cases hd : dc = 0
          · obtain ⟨O4, hd0, hd1⟩ := HD.out hd
            subst hd
            have I2 := Hx.mk (in_yes g0 g1 d0 d1 hd0 hd1)
            obtain ⟨c4_0, c4_1, c4_2, c4_3, c4_4, c4_5, z4⟩ := S.out.six w8.heap.size 25 (.int .i64 (r 0)) (.int .i64 (r 1)) (.int .i64 (r 2)) (.int .i64 (r 3)) (.int .i64 (r 4)) (.int .i64 (r 5)) (List.mem_cons_of_mem _ (List.mem_cons_of_mem _ (List.mem_cons_of_mem _ (List.mem_cons_of_mem _ List.mem_cons_self))))
            obtain ⟨fz4_0, fz4_1, fz4_2, fz4_3, fz4_4, fz4_5⟩ := S.out.fz6 w8.heap.size 25 #[.int .i64 (r 0), .int .i64 (r 1), .int .i64 (r 2), .int .i64 (r 3), .int .i64 (r 4), .int .i64 (r 5)] (List.mem_cons_of_mem _ (List.mem_cons_of_mem _ (List.mem_cons_of_mem _ (List.mem_cons_of_mem _ List.mem_cons_self))))
            replace S := Bx.mk (SS.put6 (L := [(w13.heap.size, 23, #[.int .i64 0, .int .i64 0]), (w12.heap.size, 23, #[.int .i64 (-g1), .int .i64 (-g0)]), (w11.heap.size, 23, #[.int .i64 g0, .int .i64 g1]), (w9.heap.size, 23, #[.int .i64 c0, .int .i64 c1])]) (M := [(w7.heap.size, 23, #[.int .i64 d0, .int .i64 d1]), (w6.heap.size, 23, #[.int .i64 c0, .int .i64 c1]), (w5.heap.size, 23, #[.int .i64 b0, .int .i64 b1]), (w4.heap.size, 23, #[.int .i64 a0, .int .i64 a1]), (w.heap.size + 1, 25, #[.int .i64 (q 0), .int .i64 (q 1), .int .i64 (q 2), .int .i64 (q 3), .int .i64 (q 4), .int .i64 (q 5)]), (w.heap.size, 25, #[.int .i64 (p 0), .int .i64 (p 1), .int .i64 (p 2), .int .i64 (p 3), .int .i64 (p 4), .int .i64 (p 5)])]) (b := w8.heap.size) (t := 25) S.out (.int .i64 (r2 0)) (.int .i64 (r2 1)) (.int .i64 (r2 2)) (.int .i64 (r2 3)) (.int .i64 (r2 4)) (.int .i64 (r2 5)))
            simp only [List.cons_append, List.nil_append] at S
            go_wp2_with fail
            refine (O4.out _ S.out.lm).mono ?_
            rintro e w15 ⟨rfl, hb⟩
            replace S := Bx.mk (S.out.call hb)
            clear hb
            clear c4_0 c4_1 c4_2 c4_3 c4_4 c4_5 z4 fz4_0 fz4_1 fz4_2 fz4_3 fz4_4 fz4_5
            replace S := Bx.mk (S.out.push #[.int .i64 g0, .int .i64 g1] 23)
            obtain ⟨c0_0, c0_1, f0_0, f0_1, z0⟩ := S.out.two w15.heap.size 23 (.int .i64 g0) (.int .i64 g1) List.mem_cons_self
            obtain ⟨c6_0, c6_1, f6_0, f6_1, z6⟩ := S.out.two w7.heap.size 23 (.int .i64 d0) (.int .i64 d1) (List.mem_cons_of_mem _ (List.mem_cons_of_mem _ (List.mem_cons_of_mem _ (List.mem_cons_of_mem _ (List.mem_cons_of_mem _ (List.mem_cons_of_mem _ List.mem_cons_self))))))
            go_wp2_with fail
            refine (I2.out _).mono ?_
            rintro e w16 ⟨rfl, hb⟩
            replace S := Bx.mk (S.out.call hb)
            clear hb
            clear c0_0 c0_1 f0_0 f0_1 z0 c6_0 c6_1 f6_0 f6_1 z6
            obtain ⟨c0_0, c0_1, f0_0, f0_1, z0⟩ := S.out.two w15.heap.size 23 (.int .i64 g0) (.int .i64 g1) List.mem_cons_self
            obtain ⟨c3_0, c3_1, f3_0, f3_1, z3⟩ := S.out.two w11.heap.size 23 (.int .i64 g0) (.int .i64 g1) (List.mem_cons_of_mem _ (List.mem_cons_of_mem _ (List.mem_cons_of_mem _ List.mem_cons_self)))
            go_wp2_with fail
            go_ret
            exact ⟨rfl, S.out.bl⟩
          · obtain ⟨c4_0, c4_1, c4_2, c4_3, c4_4, c4_5, z4⟩ := S.out.six w8.heap.size 25 (.int .i64 (r 0)) (.int .i64 (r 1)) (.int .i64 (r 2)) (.int .i64 (r 3)) (.int .i64 (r 4)) (.int .i64 (r 5)) (List.mem_cons_of_mem _ (List.mem_cons_of_mem _ (List.mem_cons_of_mem _ (List.mem_cons_of_mem _ List.mem_cons_self))))
            obtain ⟨fz4_0, fz4_1, fz4_2, fz4_3, fz4_4, fz4_5⟩ := S.out.fz6 w8.heap.size 25 #[.int .i64 (r 0), .int .i64 (r 1), .int .i64 (r 2), .int .i64 (r 3), .int .i64 (r 4), .int .i64 (r 5)] (List.mem_cons_of_mem _ (List.mem_cons_of_mem _ (List.mem_cons_of_mem _ (List.mem_cons_of_mem _ List.mem_cons_self))))
            replace S := Bx.mk (SS.put6 (L := [(w13.heap.size, 23, #[.int .i64 0, .int .i64 0]), (w12.heap.size, 23, #[.int .i64 (-g1), .int .i64 (-g0)]), (w11.heap.size, 23, #[.int .i64 g0, .int .i64 g1]), (w9.heap.size, 23, #[.int .i64 c0, .int .i64 c1])]) (M := [(w7.heap.size, 23, #[.int .i64 d0, .int .i64 d1]), (w6.heap.size, 23, #[.int .i64 c0, .int .i64 c1]), (w5.heap.size, 23, #[.int .i64 b0, .int .i64 b1]), (w4.heap.size, 23, #[.int .i64 a0, .int .i64 a1]), (w.heap.size + 1, 25, #[.int .i64 (q 0), .int .i64 (q 1), .int .i64 (q 2), .int .i64 (q 3), .int .i64 (q 4), .int .i64 (q 5)]), (w.heap.size, 25, #[.int .i64 (p 0), .int .i64 (p 1), .int .i64 (p 2), .int .i64 (p 3), .int .i64 (p 4), .int .i64 (p 5)])]) (b := w8.heap.size) (t := 25) S.out (.int .i64 (r2 0)) (.int .i64 (r2 1)) (.int .i64 (r2 2)) (.int .i64 (r2 3)) (.int .i64 (r2 4)) (.int .i64 (r2 5)))
            simp only [List.cons_append, List.nil_append] at S
            go_wp2_with fail
            go_ret
            exact ⟨rfl, S.out.bl⟩
        · skip
          clear c4_0 c4_1 c4_2 c4_3 c4_4 c4_5 z4 c5_0 c5_1 c5_2 c5_3 c5_4 c5_5 z5
          obtain ⟨c4_0, c4_1, c4_2, c4_3, c4_4, c4_5, z4⟩ := S.out.six (w.heap.size + 1) 25 (.int .i64 (q 0)) (.int .i64 (q 1)) (.int .i64 (q 2)) (.int .i64 (q 3)) (.int .i64 (q 4)) (.int .i64 (q 5)) (List.mem_cons_of_mem _ (List.mem_cons_of_mem _ (List.mem_cons_of_mem _ (List.mem_cons_of_mem _ List.mem_cons_self))))
          obtain ⟨c5_0, c5_1, c5_2, c5_3, c5_4, c5_5, z5⟩ := S.out.six w.heap.size 25 (.int .i64 (p 0)) (.int .i64 (p 1)) (.int .i64 (p 2)) (.int .i64 (p 3)) (.int .i64 (p 4)) (.int .i64 (p 5)) (List.mem_cons_of_mem _ (List.mem_cons_of_mem _ (List.mem_cons_of_mem _ (List.mem_cons_of_mem _ (List.mem_cons_of_mem _ List.mem_cons_self)))))
          go_wp2_with fail
          refine (M1.out _).mono ?_
          rintro e w8 ⟨rfl, hb⟩
          replace S := Bx.mk (S.out.call hb)
          clear hb
          clear c4_0 c4_1 c4_2 c4_3 c4_4 c4_5 z4 c5_0 c5_1 c5_2 c5_3 c5_4 c5_5 z5
          replace S := Bx.mk (S.out.push #[.int .i64 (r 0), .int .i64 (r 1), .int .i64 (r 2), .int .i64 (r 3), .int .i64 (r 4), .int .i64 (r 5)] 25)
          obtain ⟨c0_0, c0_1, c0_2, c0_3, c0_4, c0_5, z0⟩ := S.out.six w8.heap.size 25 (.int .i64 (r 0)) (.int .i64 (r 1)) (.int .i64 (r 2)) (.int .i64 (r 3)) (.int .i64 (r 4)) (.int .i64 (r 5)) List.mem_cons_self
          go_wp2_with fail
          refine (O3.out _ S.out.lm).mono ?_
          rintro e w9 ⟨rfl, hb⟩
          replace S := Bx.mk (S.out.call hb)
          clear hb
          clear c0_0 c0_1 c0_2 c0_3 c0_4 c0_5 z0
          replace S := Bx.mk (S.out.push #[.int .i64 c0, .int .i64 c1] 23)
          obtain ⟨c0_0, c0_1, f0_0, f0_1, z0⟩ := S.out.two w9.heap.size 23 (.int .i64 c0) (.int .i64 c1) List.mem_cons_self
          obtain ⟨c3_0, c3_1, f3_0, f3_1, z3⟩ := S.out.two w6.heap.size 23 (.int .i64 s0) (.int .i64 s1) (List.mem_cons_of_mem _ (List.mem_cons_of_mem _ (List.mem_cons_of_mem _ List.mem_cons_self)))
          go_wp2_with fail
          refine (I1.out _).mono ?_
          rintro e w10 ⟨rfl, hb⟩
          replace S := Bx.mk (S.out.call hb)
          clear hb
          clear c0_0 c0_1 f0_0 f0_1 z0 c3_0 c3_1 f3_0 f3_1 z3
          obtain ⟨c6_0, c6_1, c6_2, c6_3, c6_4, c6_5, z6⟩ := S.out.six (w.heap.size + 1) 25 (.int .i64 (q 0)) (.int .i64 (q 1)) (.int .i64 (q 2)) (.int .i64 (q 3)) (.int .i64 (q 4)) (.int .i64 (q 5)) (List.mem_cons_of_mem _ (List.mem_cons_of_mem _ (List.mem_cons_of_mem _ (List.mem_cons_of_mem _ (List.mem_cons_of_mem _ (List.mem_cons_of_mem _ List.mem_cons_self))))))
          obtain ⟨c7_0, c7_1, c7_2, c7_3, c7_4, c7_5, z7⟩ := S.out.six w.heap.size 25 (.int .i64 (p 0)) (.int .i64 (p 1)) (.int .i64 (p 2)) (.int .i64 (p 3)) (.int .i64 (p 4)) (.int .i64 (p 5)) (List.mem_cons_of_mem _ (List.mem_cons_of_mem _ (List.mem_cons_of_mem _ (List.mem_cons_of_mem _ (List.mem_cons_of_mem _ (List.mem_cons_of_mem _ (List.mem_cons_of_mem _ List.mem_cons_self)))))))
          obtain ⟨c0_0, c0_1, f0_0, f0_1, z0⟩ := S.out.two w9.heap.size 23 (.int .i64 c0) (.int .i64 c1) List.mem_cons_self
          obtain ⟨c3_0, c3_1, f3_0, f3_1, z3⟩ := S.out.two w6.heap.size 23 (.int .i64 s0) (.int .i64 s1) (List.mem_cons_of_mem _ (List.mem_cons_of_mem _ (List.mem_cons_of_mem _ List.mem_cons_self)))
          go_wp2_with fail
          refine (G1.out _ S.out.lm).mono ?_
          rintro e w11 ⟨rfl, hb⟩
          replace S := Bx.mk (S.out.call hb)
          clear hb
          clear c6_0 c6_1 c6_2 c6_3 c6_4 c6_5 z6 c7_0 c7_1 c7_2 c7_3 c7_4 c7_5 z7 c0_0 c0_1 f0_0 f0_1 z0 c3_0 c3_1 f3_0 f3_1 z3
          replace S := Bx.mk (S.out.push #[.int .i64 g0, .int .i64 g1] 23)
          obtain ⟨c7_0, c7_1, c7_2, c7_3, c7_4, c7_5, z7⟩ := S.out.six (w.heap.size + 1) 25 (.int .i64 (q 0)) (.int .i64 (q 1)) (.int .i64 (q 2)) (.int .i64 (q 3)) (.int .i64 (q 4)) (.int .i64 (q 5)) (List.mem_cons_of_mem _ (List.mem_cons_of_mem _ (List.mem_cons_of_mem _ (List.mem_cons_of_mem _ (List.mem_cons_of_mem _ (List.mem_cons_of_mem _ (List.mem_cons_of_mem _ List.mem_cons_self)))))))
          obtain ⟨c8_0, c8_1, c8_2, c8_3, c8_4, c8_5, z8⟩ := S.out.six w.heap.size 25 (.int .i64 (p 0)) (.int .i64 (p 1)) (.int .i64 (p 2)) (.int .i64 (p 3)) (.int .i64 (p 4)) (.int .i64 (p 5)) (List.mem_cons_of_mem _ (List.mem_cons_of_mem _ (List.mem_cons_of_mem _ (List.mem_cons_of_mem _ (List.mem_cons_of_mem _ (List.mem_cons_of_mem _ (List.mem_cons_of_mem _ (List.mem_cons_of_mem _ List.mem_cons_self))))))))
          go_wp2_with fail
          refine (G2.out _ S.out.lm).mono ?_
          rintro e w12 ⟨rfl, hb⟩
          replace S := Bx.mk (S.out.call hb)
          clear hb
          clear c7_0 c7_1 c7_2 c7_3 c7_4 c7_5 z7 c8_0 c8_1 c8_2 c8_3 c8_4 c8_5 z8
          replace S := Bx.mk (S.out.push #[.int .i64 (-g1), .int .i64 (-g0)] 23)
          obtain ⟨c9_0, c9_1, c9_2, c9_3, c9_4, c9_5, z9⟩ := S.out.six w.heap.size 25 (.int .i64 (p 0)) (.int .i64 (p 1)) (.int .i64 (p 2)) (.int .i64 (p 3)) (.int .i64 (p 4)) (.int .i64 (p 5)) (List.mem_cons_of_mem _ (List.mem_cons_of_mem _ (List.mem_cons_of_mem _ (List.mem_cons_of_mem _ (List.mem_cons_of_mem _ (List.mem_cons_of_mem _ (List.mem_cons_of_mem _ (List.mem_cons_of_mem _ (List.mem_cons_of_mem _ List.mem_cons_self)))))))))
          go_wp2_with fail
          refine (G3.out _ S.out.lm).mono ?_
          rintro e w13 ⟨rfl, hb⟩
          replace S := Bx.mk (S.out.call hb)
          clear hb
          clear c9_0 c9_1 c9_2 c9_3 c9_4 c9_5 z9
          replace S := Bx.mk (S.out.push #[.int .i64 0, .int .i64 0] 23)
          obtain ⟨c0_0, c0_1, f0_0, f0_1, z0⟩ := S.out.two w13.heap.size 23 (.int .i64 0) (.int .i64 0) List.mem_cons_self
          obtain ⟨c1_0, c1_1, f1_0, f1_1, z1⟩ := S.out.two w12.heap.size 23 (.int .i64 (-g1)) (.int .i64 (-g0)) (List.mem_cons_of_mem _ List.mem_cons_self)
          obtain ⟨c2_0, c2_1, f2_0, f2_1, z2⟩ := S.out.two w11.heap.size 23 (.int .i64 g0) (.int .i64 g1) (List.mem_cons_of_mem _ (List.mem_cons_of_mem _ List.mem_cons_self))
          obtain ⟨c9_0, c9_1, c9_2, c9_3, c9_4, c9_5, z9⟩ := S.out.six (w.heap.size + 1) 25 (.int .i64 (q 0)) (.int .i64 (q 1)) (.int .i64 (q 2)) (.int .i64 (q 3)) (.int .i64 (q 4)) (.int .i64 (q 5)) (List.mem_cons_of_mem _ (List.mem_cons_of_mem _ (List.mem_cons_of_mem _ (List.mem_cons_of_mem _ (List.mem_cons_of_mem _ (List.mem_cons_of_mem _ (List.mem_cons_of_mem _ (List.mem_cons_of_mem _ (List.mem_cons_of_mem _ List.mem_cons_self)))))))))
          obtain ⟨c10_0, c10_1, c10_2, c10_3, c10_4, c10_5, z10⟩ := S.out.six w.heap.size 25 (.int .i64 (p 0)) (.int .i64 (p 1)) (.int .i64 (p 2)) (.int .i64 (p 3)) (.int .i64 (p 4)) (.int .i64 (p 5)) (List.mem_cons_of_mem _ (List.mem_cons_of_mem _ (List.mem_cons_of_mem _ (List.mem_cons_of_mem _ (List.mem_cons_of_mem _ (List.mem_cons_of_mem _ (List.mem_cons_of_mem _ (List.mem_cons_of_mem _ (List.mem_cons_of_mem _ (List.mem_cons_of_mem _ List.mem_cons_self))))))))))
          go_wp2_with fail
          refine (E1.out _).mono ?_
          rintro e w14 ⟨rfl, hb⟩
          replace S := Bx.mk (S.out.call hb)
          clear hb
          clear c0_0 c0_1 f0_0 f0_1 z0 c1_0 c1_1 f1_0 f1_1 z1 c2_0 c2_1 f2_0 f2_1 z2 c9_0 c9_1 c9_2 c9_3 c9_4 c9_5 z9 c10_0 c10_1 c10_2 c10_3 c10_4 c10_5 z10
          by_cases hd : dc = 0
          · obtain ⟨O4, hd0, hd1⟩ := HD.out hd
            subst hd
            have I2 := Hx.mk (in_yes g0 g1 d0 d1 hd0 hd1)
            obtain ⟨c4_0, c4_1, c4_2, c4_3, c4_4, c4_5, z4⟩ := S.out.six w8.heap.size 25 (.int .i64 (r 0)) (.int .i64 (r 1)) (.int .i64 (r 2)) (.int .i64 (r 3)) (.int .i64 (r 4)) (.int .i64 (r 5)) (List.mem_cons_of_mem _ (List.mem_cons_of_mem _ (List.mem_cons_of_mem _ (List.mem_cons_of_mem _ List.mem_cons_self))))
            obtain ⟨fz4_0, fz4_1, fz4_2, fz4_3, fz4_4, fz4_5⟩ := S.out.fz6 w8.heap.size 25 #[.int .i64 (r 0), .int .i64 (r 1), .int .i64 (r 2), .int .i64 (r 3), .int .i64 (r 4), .int .i64 (r 5)] (List.mem_cons_of_mem _ (List.mem_cons_of_mem _ (List.mem_cons_of_mem _ (List.mem_cons_of_mem _ List.mem_cons_self))))
            replace S := Bx.mk (SS.put6 (L := [(w13.heap.size, 23, #[.int .i64 0, .int .i64 0]), (w12.heap.size, 23, #[.int .i64 (-g1), .int .i64 (-g0)]), (w11.heap.size, 23, #[.int .i64 g0, .int .i64 g1]), (w9.heap.size, 23, #[.int .i64 c0, .int .i64 c1])]) (M := [(w7.heap.size, 23, #[.int .i64 d0, .int .i64 d1]), (w6.heap.size, 23, #[.int .i64 s0, .int .i64 s1]), (w5.heap.size, 23, #[.int .i64 b0, .int .i64 b1]), (w4.heap.size, 23, #[.int .i64 a0, .int .i64 a1]), (w.heap.size + 1, 25, #[.int .i64 (q 0), .int .i64 (q 1), .int .i64 (q 2), .int .i64 (q 3), .int .i64 (q 4), .int .i64 (q 5)]), (w.heap.size, 25, #[.int .i64 (p 0), .int .i64 (p 1), .int .i64 (p 2), .int .i64 (p 3), .int .i64 (p 4), .int .i64 (p 5)])]) (b := w8.heap.size) (t := 25) S.out (.int .i64 (r2 0)) (.int .i64 (r2 1)) (.int .i64 (r2 2)) (.int .i64 (r2 3)) (.int .i64 (r2 4)) (.int .i64 (r2 5)))
            simp only [List.cons_append, List.nil_append] at S
            go_wp2_with fail
            refine (O4.out _ S.out.lm).mono ?_
            rintro e w15 ⟨rfl, hb⟩
            replace S := Bx.mk (S.out.call hb)
            clear hb
            clear c4_0 c4_1 c4_2 c4_3 c4_4 c4_5 z4 fz4_0 fz4_1 fz4_2 fz4_3 fz4_4 fz4_5
            replace S := Bx.mk (S.out.push #[.int .i64 g0, .int .i64 g1] 23)
            obtain ⟨c0_0, c0_1, f0_0, f0_1, z0⟩ := S.out.two w15.heap.size 23 (.int .i64 g0) (.int .i64 g1) List.mem_cons_self
            obtain ⟨c6_0, c6_1, f6_0, f6_1, z6⟩ := S.out.two w7.heap.size 23 (.int .i64 d0) (.int .i64 d1) (List.mem_cons_of_mem _ (List.mem_cons_of_mem _ (List.mem_cons_of_mem _ (List.mem_cons_of_mem _ (List.mem_cons_of_mem _ (List.mem_cons_of_mem _ List.mem_cons_self))))))
            go_wp2_with fail
            refine (I2.out _).mono ?_
            rintro e w16 ⟨rfl, hb⟩
            replace S := Bx.mk (S.out.call hb)
            clear hb
            clear c0_0 c0_1 f0_0 f0_1 z0 c6_0 c6_1 f6_0 f6_1 z6
            obtain ⟨c0_0, c0_1, f0_0, f0_1, z0⟩ := S.out.two w15.heap.size 23 (.int .i64 g0) (.int .i64 g1) List.mem_cons_self
            obtain ⟨c3_0, c3_1, f3_0, f3_1, z3⟩ := S.out.two w11.heap.size 23 (.int .i64 g0) (.int .i64 g1) (List.mem_cons_of_mem _ (List.mem_cons_of_mem _ (List.mem_cons_of_mem _ List.mem_cons_self)))
            go_wp2_with fail
            go_ret
            exact ⟨rfl, S.out.bl⟩
          · obtain ⟨c4_0, c4_1, c4_2, c4_3, c4_4, c4_5, z4⟩ := S.out.six w8.heap.size 25 (.int .i64 (r 0)) (.int .i64 (r 1)) (.int .i64 (r 2)) (.int .i64 (r 3)) (.int .i64 (r 4)) (.int .i64 (r 5)) (List.mem_cons_of_mem _ (List.mem_cons_of_mem _ (List.mem_cons_of_mem _ (List.mem_cons_of_mem _ List.mem_cons_self))))
            obtain ⟨fz4_0, fz4_1, fz4_2, fz4_3, fz4_4, fz4_5⟩ := S.out.fz6 w8.heap.size 25 #[.int .i64 (r 0), .int .i64 (r 1), .int .i64 (r 2), .int .i64 (r 3), .int .i64 (r 4), .int .i64 (r 5)] (List.mem_cons_of_mem _ (List.mem_cons_of_mem _ (List.mem_cons_of_mem _ (List.mem_cons_of_mem _ List.mem_cons_self))))
            replace S := Bx.mk (SS.put6 (L := [(w13.heap.size, 23, #[.int .i64 0, .int .i64 0]), (w12.heap.size, 23, #[.int .i64 (-g1), .int .i64 (-g0)]), (w11.heap.size, 23, #[.int .i64 g0, .int .i64 g1]), (w9.heap.size, 23, #[.int .i64 c0, .int .i64 c1])]) (M := [(w7.heap.size, 23, #[.int .i64 d0, .int .i64 d1]), (w6.heap.size, 23, #[.int .i64 s0, .int .i64 s1]), (w5.heap.size, 23, #[.int .i64 b0, .int .i64 b1]), (w4.heap.size, 23, #[.int .i64 a0, .int .i64 a1]), (w.heap.size + 1, 25, #[.int .i64 (q 0), .int .i64 (q 1), .int .i64 (q 2), .int .i64 (q 3), .int .i64 (q 4), .int .i64 (q 5)]), (w.heap.size, 25, #[.int .i64 (p 0), .int .i64 (p 1), .int .i64 (p 2), .int .i64 (p 3), .int .i64 (p 4), .int .i64 (p 5)])]) (b := w8.heap.size) (t := 25) S.out (.int .i64 (r2 0)) (.int .i64 (r2 1)) (.int .i64 (r2 2)) (.int .i64 (r2 3)) (.int .i64 (r2 4)) (.int .i64 (r2 5)))
            simp only [List.cons_append, List.nil_append] at S
            go_wp2_with fail
            go_ret
            exact ⟨rfl, S.out.bl⟩
      · cases o
        · skip
          clear c4_0 c4_1 c4_2 c4_3 c4_4 c4_5 z4 c5_0 c5_1 c5_2 c5_3 c5_4 c5_5 z5
          obtain ⟨c4_0, c4_1, c4_2, c4_3, c4_4, c4_5, z4⟩ := S.out.six (w.heap.size + 1) 25 (.int .i64 (q 0)) (.int .i64 (q 1)) (.int .i64 (q 2)) (.int .i64 (q 3)) (.int .i64 (q 4)) (.int .i64 (q 5)) (List.mem_cons_of_mem _ (List.mem_cons_of_mem _ (List.mem_cons_of_mem _ (List.mem_cons_of_mem _ List.mem_cons_self))))
          obtain ⟨c5_0, c5_1, c5_2, c5_3, c5_4, c5_5, z5⟩ := S.out.six w.heap.size 25 (.int .i64 (p 0)) (.int .i64 (p 1)) (.int .i64 (p 2)) (.int .i64 (p 3)) (.int .i64 (p 4)) (.int .i64 (p 5)) (List.mem_cons_of_mem _ (List.mem_cons_of_mem _ (List.mem_cons_of_mem _ (List.mem_cons_of_mem _ (List.mem_cons_of_mem _ List.mem_cons_self)))))
          go_wp2_with fail
          refine (M1.out _).mono ?_
          rintro e w8 ⟨rfl, hb⟩
          replace S := Bx.mk (S.out.call hb)
          clear hb
          clear c4_0 c4_1 c4_2 c4_3 c4_4 c4_5 z4 c5_0 c5_1 c5_2 c5_3 c5_4 c5_5 z5
          replace S := Bx.mk (S.out.push #[.int .i64 (r 0), .int .i64 (r 1), .int .i64 (r 2), .int .i64 (r 3), .int .i64 (r 4), .int .i64 (r 5)] 25)
          obtain ⟨c5_0, c5_1, c5_2, c5_3, c5_4, c5_5, z5⟩ := S.out.six (w.heap.size + 1) 25 (.int .i64 (q 0)) (.int .i64 (q 1)) (.int .i64 (q 2)) (.int .i64 (q 3)) (.int .i64 (q 4)) (.int .i64 (q 5)) (List.mem_cons_of_mem _ (List.mem_cons_of_mem _ (List.mem_cons_of_mem _ (List.mem_cons_of_mem _ (List.mem_cons_of_mem _ List.mem_cons_self)))))
          obtain ⟨c6_0, c6_1, c6_2, c6_3, c6_4, c6_5, z6⟩ := S.out.six w.heap.size 25 (.int .i64 (p 0)) (.int .i64 (p 1)) (.int .i64 (p 2)) (.int .i64 (p 3)) (.int .i64 (p 4)) (.int .i64 (p 5)) (List.mem_cons_of_mem _ (List.mem_cons_of_mem _ (List.mem_cons_of_mem _ (List.mem_cons_of_mem _ (List.mem_cons_of_mem _ (List.mem_cons_of_mem _ List.mem_cons_self))))))
          go_wp2_with fail
          refine (G1.out _ S.out.lm).mono ?_
          rintro e w9 ⟨rfl, hb⟩
          replace S := Bx.mk (S.out.call hb)
          clear hb
          clear c5_0 c5_1 c5_2 c5_3 c5_4 c5_5 z5 c6_0 c6_1 c6_2 c6_3 c6_4 c6_5 z6
          replace S := Bx.mk (S.out.push #[.int .i64 g0, .int .i64 g1] 23)
          obtain ⟨c6_0, c6_1, c6_2, c6_3, c6_4, c6_5, z6⟩ := S.out.six (w.heap.size + 1) 25 (.int .i64 (q 0)) (.int .i64 (q 1)) (.int .i64 (q 2)) (.int .i64 (q 3)) (.int .i64 (q 4)) (.int .i64 (q 5)) (List.mem_cons_of_mem _ (List.mem_cons_of_mem _ (List.mem_cons_of_mem _ (List.mem_cons_of_mem _ (List.mem_cons_of_mem _ (List.mem_cons_of_mem _ List.mem_cons_self))))))
          obtain ⟨c7_0, c7_1, c7_2, c7_3, c7_4, c7_5, z7⟩ := S.out.six w.heap.size 25 (.int .i64 (p 0)) (.int .i64 (p 1)) (.int .i64 (p 2)) (.int .i64 (p 3)) (.int .i64 (p 4)) (.int .i64 (p 5)) (List.mem_cons_of_mem _ (List.mem_cons_of_mem _ (List.mem_cons_of_mem _ (List.mem_cons_of_mem _ (List.mem_cons_of_mem _ (List.mem_cons_of_mem _ (List.mem_cons_of_mem _ List.mem_cons_self)))))))
          go_wp2_with fail
          refine (G2.out _ S.out.lm).mono ?_
          rintro e w10 ⟨rfl, hb⟩
          replace S := Bx.mk (S.out.call hb)
          clear hb
          clear c6_0 c6_1 c6_2 c6_3 c6_4 c6_5 z6 c7_0 c7_1 c7_2 c7_3 c7_4 c7_5 z7
          replace S := Bx.mk (S.out.push #[.int .i64 (-g1), .int .i64 (-g0)] 23)
          obtain ⟨c8_0, c8_1, c8_2, c8_3, c8_4, c8_5, z8⟩ := S.out.six w.heap.size 25 (.int .i64 (p 0)) (.int .i64 (p 1)) (.int .i64 (p 2)) (.int .i64 (p 3)) (.int .i64 (p 4)) (.int .i64 (p 5)) (List.mem_cons_of_mem _ (List.mem_cons_of_mem _ (List.mem_cons_of_mem _ (List.mem_cons_of_mem _ (List.mem_cons_of_mem _ (List.mem_cons_of_mem _ (List.mem_cons_of_mem _ (List.mem_cons_of_mem _ List.mem_cons_self))))))))
          go_wp2_with fail
          refine (G3.out _ S.out.lm).mono ?_
          rintro e w11 ⟨rfl, hb⟩
          replace S := Bx.mk (S.out.call hb)
          clear hb
          clear c8_0 c8_1 c8_2 c8_3 c8_4 c8_5 z8
          replace S := Bx.mk (S.out.push #[.int .i64 0, .int .i64 0] 23)
          obtain ⟨c0_0, c0_1, f0_0, f0_1, z0⟩ := S.out.two w11.heap.size 23 (.int .i64 0) (.int .i64 0) List.mem_cons_self
          obtain ⟨c1_0, c1_1, f1_0, f1_1, z1⟩ := S.out.two w10.heap.size 23 (.int .i64 (-g1)) (.int .i64 (-g0)) (List.mem_cons_of_mem _ List.mem_cons_self)
          obtain ⟨c2_0, c2_1, f2_0, f2_1, z2⟩ := S.out.two w9.heap.size 23 (.int .i64 g0) (.int .i64 g1) (List.mem_cons_of_mem _ (List.mem_cons_of_mem _ List.mem_cons_self))
          obtain ⟨c8_0, c8_1, c8_2, c8_3, c8_4, c8_5, z8⟩ := S.out.six (w.heap.size + 1) 25 (.int .i64 (q 0)) (.int .i64 (q 1)) (.int .i64 (q 2)) (.int .i64 (q 3)) (.int .i64 (q 4)) (.int .i64 (q 5)) (List.mem_cons_of_mem _ (List.mem_cons_of_mem _ (List.mem_cons_of_mem _ (List.mem_cons_of_mem _ (List.mem_cons_of_mem _ (List.mem_cons_of_mem _ (List.mem_cons_of_mem _ (List.mem_cons_of_mem _ List.mem_cons_self))))))))
          obtain ⟨c9_0, c9_1, c9_2, c9_3, c9_4, c9_5, z9⟩ := S.out.six w.heap.size 25 (.int .i64 (p 0)) (.int .i64 (p 1)) (.int .i64 (p 2)) (.int .i64 (p 3)) (.int .i64 (p 4)) (.int .i64 (p 5)) (List.mem_cons_of_mem _ (List.mem_cons_of_mem _ (List.mem_cons_of_mem _ (List.mem_cons_of_mem _ (List.mem_cons_of_mem _ (List.mem_cons_of_mem _ (List.mem_cons_of_mem _ (List.mem_cons_of_mem _ (List.mem_cons_of_mem _ List.mem_cons_self)))))))))
          go_wp2_with fail
          refine (E1.out _).mono ?_
          rintro e w12 ⟨rfl, hb⟩
          replace S := Bx.mk (S.out.call hb)
          clear hb
          clear c0_0 c0_1 f0_0 f0_1 z0 c1_0 c1_1 f1_0 f1_1 z1 c2_0 c2_1 f2_0 f2_1 z2 c8_0 c8_1 c8_2 c8_3 c8_4 c8_5 z8 c9_0 c9_1 c9_2 c9_3 c9_4 c9_5 z9
          by_cases hd : dc = 0
          · obtain ⟨O4, hd0, hd1⟩ := HD.out hd
            subst hd
            have I2 := Hx.mk (in_yes g0 g1 d0 d1 hd0 hd1)
            obtain ⟨c3_0, c3_1, c3_2, c3_3, c3_4, c3_5, z3⟩ := S.out.six w8.heap.size 25 (.int .i64 (r 0)) (.int .i64 (r 1)) (.int .i64 (r 2)) (.int .i64 (r 3)) (.int .i64 (r 4)) (.int .i64 (r 5)) (List.mem_cons_of_mem _ (List.mem_cons_of_mem _ (List.mem_cons_of_mem _ List.mem_cons_self)))
            obtain ⟨fz3_0, fz3_1, fz3_2, fz3_3, fz3_4, fz3_5⟩ := S.out.fz6 w8.heap.size 25 #[.int .i64 (r 0), .int .i64 (r 1), .int .i64 (r 2), .int .i64 (r 3), .int .i64 (r 4), .int .i64 (r 5)] (List.mem_cons_of_mem _ (List.mem_cons_of_mem _ (List.mem_cons_of_mem _ List.mem_cons_self)))
            replace S := Bx.mk (SS.put6 (L := [(w11.heap.size, 23, #[.int .i64 0, .int .i64 0]), (w10.heap.size, 23, #[.int .i64 (-g1), .int .i64 (-g0)]), (w9.heap.size, 23, #[.int .i64 g0, .int .i64 g1])]) (M := [(w7.heap.size, 23, #[.int .i64 d0, .int .i64 d1]), (w6.heap.size, 23, #[.int .i64 s0, .int .i64 s1]), (w5.heap.size, 23, #[.int .i64 b0, .int .i64 b1]), (w4.heap.size, 23, #[.int .i64 a0, .int .i64 a1]), (w.heap.size + 1, 25, #[.int .i64 (q 0), .int .i64 (q 1), .int .i64 (q 2), .int .i64 (q 3), .int .i64 (q 4), .int .i64 (q 5)]), (w.heap.size, 25, #[.int .i64 (p 0), .int .i64 (p 1), .int .i64 (p 2), .int .i64 (p 3), .int .i64 (p 4), .int .i64 (p 5)])]) (b := w8.heap.size) (t := 25) S.out (.int .i64 (r2 0)) (.int .i64 (r2 1)) (.int .i64 (r2 2)) (.int .i64 (r2 3)) (.int .i64 (r2 4)) (.int .i64 (r2 5)))
            simp only [List.cons_append, List.nil_append] at S
            go_wp2_with fail
            refine (O4.out _ S.out.lm).mono ?_
            rintro e w13 ⟨rfl, hb⟩
            replace S := Bx.mk (S.out.call hb)
            clear hb
            clear c3_0 c3_1 c3_2 c3_3 c3_4 c3_5 z3 fz3_0 fz3_1 fz3_2 fz3_3 fz3_4 fz3_5
            replace S := Bx.mk (S.out.push #[.int .i64 g0, .int .i64 g1] 23)
            obtain ⟨c0_0, c0_1, f0_0, f0_1, z0⟩ := S.out.two w13.heap.size 23 (.int .i64 g0) (.int .i64 g1) List.mem_cons_self
            obtain ⟨c5_0, c5_1, f5_0, f5_1, z5⟩ := S.out.two w7.heap.size 23 (.int .i64 d0) (.int .i64 d1) (List.mem_cons_of_mem _ (List.mem_cons_of_mem _ (List.mem_cons_of_mem _ (List.mem_cons_of_mem _ (List.mem_cons_of_mem _ List.mem_cons_self)))))
            go_wp2_with fail
            refine (I2.out _).mono ?_
            rintro e w14 ⟨rfl, hb⟩
            replace S := Bx.mk (S.out.call hb)
            clear hb
            clear c0_0 c0_1 f0_0 f0_1 z0 c5_0 c5_1 f5_0 f5_1 z5
            obtain ⟨c0_0, c0_1, f0_0, f0_1, z0⟩ := S.out.two w13.heap.size 23 (.int .i64 g0) (.int .i64 g1) List.mem_cons_self
            obtain ⟨c3_0, c3_1, f3_0, f3_1, z3⟩ := S.out.two w9.heap.size 23 (.int .i64 g0) (.int .i64 g1) (List.mem_cons_of_mem _ (List.mem_cons_of_mem _ (List.mem_cons_of_mem _ List.mem_cons_self)))
            go_wp2_with fail
            go_ret
            exact ⟨rfl, S.out.bl⟩
          · obtain ⟨c3_0, c3_1, c3_2, c3_3, c3_4, c3_5, z3⟩ := S.out.six w8.heap.size 25 (.int .i64 (r 0)) (.int .i64 (r 1)) (.int .i64 (r 2)) (.int .i64 (r 3)) (.int .i64 (r 4)) (.int .i64 (r 5)) (List.mem_cons_of_mem _ (List.mem_cons_of_mem _ (List.mem_cons_of_mem _ List.mem_cons_self)))
            obtain ⟨fz3_0, fz3_1, fz3_2, fz3_3, fz3_4, fz3_5⟩ := S.out.fz6 w8.heap.size 25 #[.int .i64 (r 0), .int .i64 (r 1), .int .i64 (r 2), .int .i64 (r 3), .int .i64 (r 4), .int .i64 (r 5)] (List.mem_cons_of_mem _ (List.mem_cons_of_mem _ (List.mem_cons_of_mem _ List.mem_cons_self)))
            replace S := Bx.mk (SS.put6 (L := [(w11.heap.size, 23, #[.int .i64 0, .int .i64 0]), (w10.heap.size, 23, #[.int .i64 (-g1), .int .i64 (-g0)]), (w9.heap.size, 23, #[.int .i64 g0, .int .i64 g1])]) (M := [(w7.heap.size, 23, #[.int .i64 d0, .int .i64 d1]), (w6.heap.size, 23, #[.int .i64 s0, .int .i64 s1]), (w5.heap.size, 23, #[.int .i64 b0, .int .i64 b1]), (w4.heap.size, 23, #[.int .i64 a0, .int .i64 a1]), (w.heap.size + 1, 25, #[.int .i64 (q 0), .int .i64 (q 1), .int .i64 (q 2), .int .i64 (q 3), .int .i64 (q 4), .int .i64 (q 5)]), (w.heap.size, 25, #[.int .i64 (p 0), .int .i64 (p 1), .int .i64 (p 2), .int .i64 (p 3), .int .i64 (p 4), .int .i64 (p 5)])]) (b := w8.heap.size) (t := 25) S.out (.int .i64 (r2 0)) (.int .i64 (r2 1)) (.int .i64 (r2 2)) (.int .i64 (r2 3)) (.int .i64 (r2 4)) (.int .i64 (r2 5)))
            simp only [List.cons_append, List.nil_append] at S
            go_wp2_with fail
            go_ret
            exact ⟨rfl, S.out.bl⟩
        · skip
          clear c4_0 c4_1 c4_2 c4_3 c4_4 c4_5 z4 c5_0 c5_1 c5_2 c5_3 c5_4 c5_5 z5
          obtain ⟨c4_0, c4_1, c4_2, c4_3, c4_4, c4_5, z4⟩ := S.out.six (w.heap.size + 1) 25 (.int .i64 (q 0)) (.int .i64 (q 1)) (.int .i64 (q 2)) (.int .i64 (q 3)) (.int .i64 (q 4)) (.int .i64 (q 5)) (List.mem_cons_of_mem _ (List.mem_cons_of_mem _ (List.mem_cons_of_mem _ (List.mem_cons_of_mem _ List.mem_cons_self))))
          obtain ⟨c5_0, c5_1, c5_2, c5_3, c5_4, c5_5, z5⟩ := S.out.six w.heap.size 25 (.int .i64 (p 0)) (.int .i64 (p 1)) (.int .i64 (p 2)) (.int .i64 (p 3)) (.int .i64 (p 4)) (.int .i64 (p 5)) (List.mem_cons_of_mem _ (List.mem_cons_of_mem _ (List.mem_cons_of_mem _ (List.mem_cons_of_mem _ (List.mem_cons_of_mem _ List.mem_cons_self)))))
          go_wp2_with fail
          refine (M1.out _).mono ?_
          rintro e w8 ⟨rfl, hb⟩
          replace S := Bx.mk (S.out.call hb)
          clear hb
          clear c4_0 c4_1 c4_2 c4_3 c4_4 c4_5 z4 c5_0 c5_1 c5_2 c5_3 c5_4 c5_5 z5
          replace S := Bx.mk (S.out.push #[.int .i64 (r 0), .int .i64 (r 1), .int .i64 (r 2), .int .i64 (r 3), .int .i64 (r 4), .int .i64 (r 5)] 25)
          obtain ⟨c5_0, c5_1, c5_2, c5_3, c5_4, c5_5, z5⟩ := S.out.six (w.heap.size + 1) 25 (.int .i64 (q 0)) (.int .i64 (q 1)) (.int .i64 (q 2)) (.int .i64 (q 3)) (.int .i64 (q 4)) (.int .i64 (q 5)) (List.mem_cons_of_mem _ (List.mem_cons_of_mem _ (List.mem_cons_of_mem _ (List.mem_cons_of_mem _ (List.mem_cons_of_mem _ List.mem_cons_self)))))
          obtain ⟨c6_0, c6_1, c6_2, c6_3, c6_4, c6_5, z6⟩ := S.out.six w.heap.size 25 (.int .i64 (p 0)) (.int .i64 (p 1)) (.int .i64 (p 2)) (.int .i64 (p 3)) (.int .i64 (p 4)) (.int .i64 (p 5)) (List.mem_cons_of_mem _ (List.mem_cons_of_mem _ (List.mem_cons_of_mem _ (List.mem_cons_of_mem _ (List.mem_cons_of_mem _ (List.mem_cons_of_mem _ List.mem_cons_self))))))
          go_wp2_with fail
          refine (G1.out _ S.out.lm).mono ?_
          rintro e w9 ⟨rfl, hb⟩
          replace S := Bx.mk (S.out.call hb)
          clear hb
          clear c5_0 c5_1 c5_2 c5_3 c5_4 c5_5 z5 c6_0 c6_1 c6_2 c6_3 c6_4 c6_5 z6
          replace S := Bx.mk (S.out.push #[.int .i64 g0, .int .i64 g1] 23)
          obtain ⟨c6_0, c6_1, c6_2, c6_3, c6_4, c6_5, z6⟩ := S.out.six (w.heap.size + 1) 25 (.int .i64 (q 0)) (.int .i64 (q 1)) (.int .i64 (q 2)) (.int .i64 (q 3)) (.int .i64 (q 4)) (.int .i64 (q 5)) (List.mem_cons_of_mem _ (List.mem_cons_of_mem _ (List.mem_cons_of_mem _ (List.mem_cons_of_mem _ (List.mem_cons_of_mem _ (List.mem_cons_of_mem _ List.mem_cons_self))))))
          obtain ⟨c7_0, c7_1, c7_2, c7_3, c7_4, c7_5, z7⟩ := S.out.six w.heap.size 25 (.int .i64 (p 0)) (.int .i64 (p 1)) (.int .i64 (p 2)) (.int .i64 (p 3)) (.int .i64 (p 4)) (.int .i64 (p 5)) (List.mem_cons_of_mem _ (List.mem_cons_of_mem _ (List.mem_cons_of_mem _ (List.mem_cons_of_mem _ (List.mem_cons_of_mem _ (List.mem_cons_of_mem _ (List.mem_cons_of_mem _ List.mem_cons_self)))))))
          go_wp2_with fail
          refine (G2.out _ S.out.lm).mono ?_
          rintro e w10 ⟨rfl, hb⟩
          replace S := Bx.mk (S.out.call hb)
          clear hb
          clear c6_0 c6_1 c6_2 c6_3 c6_4 c6_5 z6 c7_0 c7_1 c7_2 c7_3 c7_4 c7_5 z7
          replace S := Bx.mk (S.out.push #[.int .i64 (-g1), .int .i64 (-g0)] 23)
          obtain ⟨c8_0, c8_1, c8_2, c8_3, c8_4, c8_5, z8⟩ := S.out.six w.heap.size 25 (.int .i64 (p 0)) (.int .i64 (p 1)) (.int .i64 (p 2)) (.int .i64 (p 3)) (.int .i64 (p 4)) (.int .i64 (p 5)) (List.mem_cons_of_mem _ (List.mem_cons_of_mem _ (List.mem_cons_of_mem _ (List.mem_cons_of_mem _ (List.mem_cons_of_mem _ (List.mem_cons_of_mem _ (List.mem_cons_of_mem _ (List.mem_cons_of_mem _ List.mem_cons_self))))))))
          go_wp2_with fail
          refine (G3.out _ S.out.lm).mono ?_
          rintro e w11 ⟨rfl, hb⟩
          replace S := Bx.mk (S.out.call hb)
          clear hb
          clear c8_0 c8_1 c8_2 c8_3 c8_4 c8_5 z8
          replace S := Bx.mk (S.out.push #[.int .i64 0, .int .i64 0] 23)
          obtain ⟨c0_0, c0_1, f0_0, f0_1, z0⟩ := S.out.two w11.heap.size 23 (.int .i64 0) (.int .i64 0) List.mem_cons_self
          obtain ⟨c1_0, c1_1, f1_0, f1_1, z1⟩ := S.out.two w10.heap.size 23 (.int .i64 (-g1)) (.int .i64 (-g0)) (List.mem_cons_of_mem _ List.mem_cons_self)
          obtain ⟨c2_0, c2_1, f2_0, f2_1, z2⟩ := S.out.two w9.heap.size 23 (.int .i64 g0) (.int .i64 g1) (List.mem_cons_of_mem _ (List.mem_cons_of_mem _ List.mem_cons_self))
          obtain ⟨c8_0, c8_1, c8_2, c8_3, c8_4, c8_5, z8⟩ := S.out.six (w.heap.size + 1) 25 (.int .i64 (q 0)) (.int .i64 (q 1)) (.int .i64 (q 2)) (.int .i64 (q 3)) (.int .i64 (q 4)) (.int .i64 (q 5)) (List.mem_cons_of_mem _ (List.mem_cons_of_mem _ (List.mem_cons_of_mem _ (List.mem_cons_of_mem _ (List.mem_cons_of_mem _ (List.mem_cons_of_mem _ (List.mem_cons_of_mem _ (List.mem_cons_of_mem _ List.mem_cons_self))))))))
          obtain ⟨c9_0, c9_1, c9_2, c9_3, c9_4, c9_5, z9⟩ := S.out.six w.heap.size 25 (.int .i64 (p 0)) (.int .i64 (p 1)) (.int .i64 (p 2)) (.int .i64 (p 3)) (.int .i64 (p 4)) (.int .i64 (p 5)) (List.mem_cons_of_mem _ (List.mem_cons_of_mem _ (List.mem_cons_of_mem _ (List.mem_cons_of_mem _ (List.mem_cons_of_mem _ (List.mem_cons_of_mem _ (List.mem_cons_of_mem _ (List.mem_cons_of_mem _ (List.mem_cons_of_mem _ List.mem_cons_self)))))))))
          go_wp2_with fail
          refine (E1.out _).mono ?_
          rintro e w12 ⟨rfl, hb⟩
          replace S := Bx.mk (S.out.call hb)
          clear hb
          clear c0_0 c0_1 f0_0 f0_1 z0 c1_0 c1_1 f1_0 f1_1 z1 c2_0 c2_1 f2_0 f2_1 z2 c8_0 c8_1 c8_2 c8_3 c8_4 c8_5 z8 c9_0 c9_1 c9_2 c9_3 c9_4 c9_5 z9
          by_cases hd : dc = 0
          · obtain ⟨O4, hd0, hd1⟩ := HD.out hd
            subst hd
            have I2 := Hx.mk (in_yes g0 g1 d0 d1 hd0 hd1)
            obtain ⟨c3_0, c3_1, c3_2, c3_3, c3_4, c3_5, z3⟩ := S.out.six w8.heap.size 25 (.int .i64 (r 0)) (.int .i64 (r 1)) (.int .i64 (r 2)) (.int .i64 (r 3)) (.int .i64 (r 4)) (.int .i64 (r 5)) (List.mem_cons_of_mem _ (List.mem_cons_of_mem _ (List.mem_cons_of_mem _ List.mem_cons_self)))
            obtain ⟨fz3_0, fz3_1, fz3_2, fz3_3, fz3_4, fz3_5⟩ := S.out.fz6 w8.heap.size 25 #[.int .i64 (r 0), .int .i64 (r 1), .int .i64 (r 2), .int .i64 (r 3), .int .i64 (r 4), .int .i64 (r 5)] (List.mem_cons_of_mem _ (List.mem_cons_of_mem _ (List.mem_cons_of_mem _ List.mem_cons_self)))
            replace S := Bx.mk (SS.put6 (L := [(w11.heap.size, 23, #[.int .i64 0, .int .i64 0]), (w10.heap.size, 23, #[.int .i64 (-g1), .int .i64 (-g0)]), (w9.heap.size, 23, #[.int .i64 g0, .int .i64 g1])]) (M := [(w7.heap.size, 23, #[.int .i64 d0, .int .i64 d1]), (w6.heap.size, 23, #[.int .i64 s0, .int .i64 s1]), (w5.heap.size, 23, #[.int .i64 b0, .int .i64 b1]), (w4.heap.size, 23, #[.int .i64 a0, .int .i64 a1]), (w.heap.size + 1, 25, #[.int .i64 (q 0), .int .i64 (q 1), .int .i64 (q 2), .int .i64 (q 3), .int .i64 (q 4), .int .i64 (q 5)]), (w.heap.size, 25, #[.int .i64 (p 0), .int .i64 (p 1), .int .i64 (p 2), .int .i64 (p 3), .int .i64 (p 4), .int .i64 (p 5)])]) (b := w8.heap.size) (t := 25) S.out (.int .i64 (r2 0)) (.int .i64 (r2 1)) (.int .i64 (r2 2)) (.int .i64 (r2 3)) (.int .i64 (r2 4)) (.int .i64 (r2 5)))
            simp only [List.cons_append, List.nil_append] at S
            go_wp2_with fail
            refine (O4.out _ S.out.lm).mono ?_
            rintro e w13 ⟨rfl, hb⟩
            replace S := Bx.mk (S.out.call hb)
            clear hb
            clear c3_0 c3_1 c3_2 c3_3 c3_4 c3_5 z3 fz3_0 fz3_1 fz3_2 fz3_3 fz3_4 fz3_5
            replace S := Bx.mk (S.out.push #[.int .i64 g0, .int .i64 g1] 23)
            obtain ⟨c0_0, c0_1, f0_0, f0_1, z0⟩ := S.out.two w13.heap.size 23 (.int .i64 g0) (.int .i64 g1) List.mem_cons_self
            obtain ⟨c5_0, c5_1, f5_0, f5_1, z5⟩ := S.out.two w7.heap.size 23 (.int .i64 d0) (.int .i64 d1) (List.mem_cons_of_mem _ (List.mem_cons_of_mem _ (List.mem_cons_of_mem _ (List.mem_cons_of_mem _ (List.mem_cons_of_mem _ List.mem_cons_self)))))
            go_wp2_with fail
            refine (I2.out _).mono ?_
            rintro e w14 ⟨rfl, hb⟩
            replace S := Bx.mk (S.out.call hb)
            clear hb
            clear c0_0 c0_1 f0_0 f0_1 z0 c5_0 c5_1 f5_0 f5_1 z5
            obtain ⟨c0_0, c0_1, f0_0, f0_1, z0⟩ := S.out.two w13.heap.size 23 (.int .i64 g0) (.int .i64 g1) List.mem_cons_self
            obtain ⟨c3_0, c3_1, f3_0, f3_1, z3⟩ := S.out.two w9.heap.size 23 (.int .i64 g0) (.int .i64 g1) (List.mem_cons_of_mem _ (List.mem_cons_of_mem _ (List.mem_cons_of_mem _ List.mem_cons_self)))
            go_wp2_with fail
            go_ret
            exact ⟨rfl, S.out.bl⟩
          · obtain ⟨c3_0, c3_1, c3_2, c3_3, c3_4, c3_5, z3⟩ := S.out.six w8.heap.size 25 (.int .i64 (r 0)) (.int .i64 (r 1)) (.int .i64 (r 2)) (.int .i64 (r 3)) (.int .i64 (r 4)) (.int .i64 (r 5)) (List.mem_cons_of_mem _ (List.mem_cons_of_mem _ (List.mem_cons_of_mem _ List.mem_cons_self)))
            obtain ⟨fz3_0, fz3_1, fz3_2, fz3_3, fz3_4, fz3_5⟩ := S.out.fz6 w8.heap.size 25 #[.int .i64 (r 0), .int .i64 (r 1), .int .i64 (r 2), .int .i64 (r 3), .int .i64 (r 4), .int .i64 (r 5)] (List.mem_cons_of_mem _ (List.mem_cons_of_mem _ (List.mem_cons_of_mem _ List.mem_cons_self)))
            replace S := Bx.mk (SS.put6 (L := [(w11.heap.size, 23, #[.int .i64 0, .int .i64 0]), (w10.heap.size, 23, #[.int .i64 (-g1), .int .i64 (-g0)]), (w9.heap.size, 23, #[.int .i64 g0, .int .i64 g1])]) (M := [(w7.heap.size, 23, #[.int .i64 d0, .int .i64 d1]), (w6.heap.size, 23, #[.int .i64 s0, .int .i64 s1]), (w5.heap.size, 23, #[.int .i64 b0, .int .i64 b1]), (w4.heap.size, 23, #[.int .i64 a0, .int .i64 a1]), (w.heap.size + 1, 25, #[.int .i64 (q 0), .int .i64 (q 1), .int .i64 (q 2), .int .i64 (q 3), .int .i64 (q 4), .int .i64 (q 5)]), (w.heap.size, 25, #[.int .i64 (p 0), .int .i64 (p 1), .int .i64 (p 2), .int .i64 (p 3), .int .i64 (p 4), .int .i64 (p 5)])]) (b := w8.heap.size) (t := 25) S.out (.int .i64 (r2 0)) (.int .i64 (r2 1)) (.int .i64 (r2 2)) (.int .i64 (r2 3)) (.int .i64 (r2 4)) (.int .i64 (r2 5)))
            simp only [List.cons_append, List.nil_append] at S
            go_wp2_with fail
            go_ret
            exact ⟨rfl, S.out.bl⟩
end Go.Proofs.YtdlfnonlalkjdaaDoor

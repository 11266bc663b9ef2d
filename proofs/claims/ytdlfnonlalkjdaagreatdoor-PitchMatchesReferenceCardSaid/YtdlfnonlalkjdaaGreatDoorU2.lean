/- the reference's Mul, Div, Power of pitches. -/
import Derived.Test.YtdlfnonlalkjdaaGreatDoorU1
import Derived.Test.YtdlfnonlalkjdaaGreatDoorP13
namespace Go.Proofs.YtdlfnonlalkjdaaGreatDoor
open Go.RowKit M
set_option maxHeartbeats 2000000 in
theorem refMul_ok (a b s : Nat → Int) (w : World) (ha : bdB a 576 = true) (hb0 : bdB b 576 = true) (hs : ∀ i, i < 6 → a i + b i = s i) (hv : bdB s 576 = true) : Calls Tryz.prog 14 #[PV a, PV b] w (OutV w (s) 0) := by
  have H1 := Hx.mk (fun w => refValid_any a w true ha)
  have H2 := Hx.mk (fun w => refValid_any b w true hb0)
  have H3 := Hx.mk (fun w => refValid_any s w true hv)
  obtain ⟨la0, ta0⟩ := bdB_yes.1 ha 0 (by omega)
  obtain ⟨la1, ta1⟩ := bdB_yes.1 ha 1 (by omega)
  obtain ⟨la2, ta2⟩ := bdB_yes.1 ha 2 (by omega)
  obtain ⟨la3, ta3⟩ := bdB_yes.1 ha 3 (by omega)
  obtain ⟨la4, ta4⟩ := bdB_yes.1 ha 4 (by omega)
  obtain ⟨la5, ta5⟩ := bdB_yes.1 ha 5 (by omega)
  obtain ⟨lb0, tb0⟩ := bdB_yes.1 hb0 0 (by omega)
  have e0 := hs 0 (by omega)
  obtain ⟨lb1, tb1⟩ := bdB_yes.1 hb0 1 (by omega)
  have e1 := hs 1 (by omega)
  obtain ⟨lb2, tb2⟩ := bdB_yes.1 hb0 2 (by omega)
  have e2 := hs 2 (by omega)
  obtain ⟨lb3, tb3⟩ := bdB_yes.1 hb0 3 (by omega)
  have e3 := hs 3 (by omega)
  obtain ⟨lb4, tb4⟩ := bdB_yes.1 hb0 4 (by omega)
  have e4 := hs 4 (by omega)
  obtain ⟨lb5, tb5⟩ := bdB_yes.1 hb0 5 (by omega)
  have e5 := hs 5 (by omega)
  clear ha hb0 hs hv
  go_enter Tryz.func14, Tryz.ntmps14
  go_wp2_with fail
  refine (H1.out _).mono ?_
  rintro e w1 ⟨rfl, hb⟩
  obtain ⟨hc1, hf1⟩ := bcell hb
  have hz1 := hb.size
  (try simp at hz1)
  have hB : Hx (Below w.heap.size w w1) := ⟨Below.trans (by repeat (first | with_reducible exact hB.out | with_reducible exact Below.refl _ _ | (with_reducible refine Below.setCell ?_ ?side _; case side => (first | omega | (simp <;> omega))) | (with_reducible refine Below.alloc ?_ ?side _; case side => (first | omega | (simp <;> omega))) | with_reducible apply below_drewN)) (hb.mono (by first | omega | (simp <;> omega)))⟩
  clear hb
  have hy1_0 : w.heap.size < w1.heap.size := by omega
  have hy1_1 : w.heap.size + 1 < w1.heap.size := by omega
  have hy1_2 : w.heap.size + 1 + 1 < w1.heap.size := by omega
  go_wp2_with fail
  refine (H2.out _).mono ?_
  rintro e w2 ⟨rfl, hb⟩
  obtain ⟨hc2, hf2⟩ := bcell hb
  have hz2 := hb.size
  (try simp at hz2)
  have hB : Hx (Below w.heap.size w w2) := ⟨Below.trans (by repeat (first | with_reducible exact hB.out | with_reducible exact Below.refl _ _ | (with_reducible refine Below.setCell ?_ ?side _; case side => (first | omega | (simp <;> omega))) | (with_reducible refine Below.alloc ?_ ?side _; case side => (first | omega | (simp <;> omega))) | with_reducible apply below_drewN)) (hb.mono (by first | omega | (simp <;> omega)))⟩
  clear hb
  have hy2_0 : w.heap.size < w2.heap.size := by omega
  have hy2_1 : w.heap.size + 1 < w2.heap.size := by omega
  have hy2_2 : w.heap.size + 1 + 1 < w2.heap.size := by omega
  have HA : Hx (Cel (w.heap.size) w2 (a)) := by refine ⟨⟨six ?_ ?_ ?_ ?_ ?_ ?_, six ?_ ?_ ?_ ?_ ?_ ?_⟩⟩ <;> simp [go_sem, hc1, hf1, hy1_0, hc2, hf2]
  have HB : Hx (Cel (w.heap.size + 1) w2 (b)) := by refine ⟨⟨six ?_ ?_ ?_ ?_ ?_ ?_, six ?_ ?_ ?_ ?_ ?_ ?_⟩⟩ <;> simp [go_sem, hc1, hf1, hy1_1, hc2, hf2]
  have HR : Hx (Cel (w.heap.size + 1 + 1) w2 (fun _ => 0)) := by refine ⟨⟨six ?_ ?_ ?_ ?_ ?_ ?_, six ?_ ?_ ?_ ?_ ?_ ?_⟩⟩ <;> simp [go_sem, hc1, hf1, hy1_2, hc2, hf2]
  clear hc1 hf1 hc2 hf2
  go_wp2_with fail
  go_loopw [9] (fun iv wr => ∃ k : Int, 0 ≤ k ∧ k ≤ 6 ∧ iv = .int .i64 k ∧ Hx (Cel (w2.heap.size) wr (pre s (fun _ => 0) k)) ∧ Hx (Cel (w.heap.size) wr (a)) ∧ Hx (Cel (w.heap.size + 1) wr (b)) ∧ Hx (Cel (w.heap.size + 1 + 1) wr (fun _ => 0)) ∧ Hx (Below w.heap.size w wr) ∧ w2.heap.size < wr.heap.size) (fun iv _ => 6 - (intOf iv).toNat)
  case atStart => exact ⟨0, by omega, by omega, rfl, ⟨by rw [pre_zero]; exact Cel.lit w2 (fun _ => 0) _⟩, ⟨Cel.later (B := w2.heap.size) HA.out ((Below.refl _ _).alloc (Nat.le_refl _) _) (by omega)⟩, ⟨Cel.later (B := w2.heap.size) HB.out ((Below.refl _ _).alloc (Nat.le_refl _) _) (by omega)⟩, ⟨Cel.later (B := w2.heap.size) HR.out ((Below.refl _ _).alloc (Nat.le_refl _) _) (by omega)⟩, ⟨(by repeat (first | with_reducible exact hB.out | with_reducible exact Below.refl _ _ | (with_reducible refine Below.setCell ?_ ?side _; case side => (first | omega | (simp <;> omega))) | (with_reducible refine Below.alloc ?_ ?side _; case side => (first | omega | (simp <;> omega))) | with_reducible apply below_drewN | with_reducible apply Below.drew))⟩, by first | omega | (simp <;> omega)⟩
  case round =>
    obtain ⟨k, hk0, hk, rfl, HO, HA, HB, HR, hB, hsz⟩ := hrel
    have : k = 0 ∨ k = 1 ∨ k = 2 ∨ k = 3 ∨ k = 4 ∨ k = 5 ∨ k = 6 := by omega
    rcases this with rfl | rfl | rfl | rfl | rfl | rfl | rfl
    · have cHA0 := HA.out.cell 0 (by omega)
      have cHB0 := HB.out.cell 0 (by omega)
      have cHO0 : wr.cell? ⟨w2.heap.size, 0, none⟩ = some (.int .i64 (0)) := by rw [HO.out.cell 0 (by omega), pre_at (k := 0) (k0 := 0) _ _ rfl]
      have fHO0 := HO.out.fz 0 (by omega)
      go_wp2_with fail
      go_region
      all_goals
        go_wp2
        go_roundw
        case rel => exact ⟨1, by omega, by omega, rfl, ⟨by repeat (first | exact HO.out.set _ (by omega) (pre_step s _ rfl rfl rfl) | apply Cel.drew | apply Cel.drewN)⟩, ⟨by repeat (first | exact HA.out.other _ (by omega) | apply Cel.drew | apply Cel.drewN)⟩, ⟨by repeat (first | exact HB.out.other _ (by omega) | apply Cel.drew | apply Cel.drewN)⟩, ⟨by repeat (first | exact HR.out.other _ (by omega) | apply Cel.drew | apply Cel.drewN)⟩, ⟨(by repeat (first | with_reducible exact hB.out | with_reducible exact Below.refl _ _ | (with_reducible refine Below.setCell ?_ ?side _; case side => (first | omega | (simp <;> omega))) | (with_reducible refine Below.alloc ?_ ?side _; case side => (first | omega | (simp <;> omega))) | with_reducible apply below_drewN | with_reducible apply Below.drew))⟩, by first | omega | (simp <;> omega)⟩
        case measure => simp [intOf]
    · have cHA1 := HA.out.cell 1 (by omega)
      have cHB1 := HB.out.cell 1 (by omega)
      have cHO1 : wr.cell? ⟨w2.heap.size, 1, none⟩ = some (.int .i64 (0)) := by rw [HO.out.cell 1 (by omega), pre_at (k := 1) (k0 := 1) _ _ rfl]
      have fHO1 := HO.out.fz 1 (by omega)
      go_wp2_with fail
      go_region
      all_goals
        go_wp2
        go_roundw
        case rel => exact ⟨2, by omega, by omega, rfl, ⟨by repeat (first | exact HO.out.set _ (by omega) (pre_step s _ rfl rfl rfl) | apply Cel.drew | apply Cel.drewN)⟩, ⟨by repeat (first | exact HA.out.other _ (by omega) | apply Cel.drew | apply Cel.drewN)⟩, ⟨by repeat (first | exact HB.out.other _ (by omega) | apply Cel.drew | apply Cel.drewN)⟩, ⟨by repeat (first | exact HR.out.other _ (by omega) | apply Cel.drew | apply Cel.drewN)⟩, ⟨(by repeat (first | with_reducible exact hB.out | with_reducible exact Below.refl _ _ | (with_reducible refine Below.setCell ?_ ?side _; case side => (first | omega | (simp <;> omega))) | (with_reducible refine Below.alloc ?_ ?side _; case side => (first | omega | (simp <;> omega))) | with_reducible apply below_drewN | with_reducible apply Below.drew))⟩, by first | omega | (simp <;> omega)⟩
        case measure => simp [intOf]
    · have cHA2 := HA.out.cell 2 (by omega)
      have cHB2 := HB.out.cell 2 (by omega)
      have cHO2 : wr.cell? ⟨w2.heap.size, 2, none⟩ = some (.int .i64 (0)) := by rw [HO.out.cell 2 (by omega), pre_at (k := 2) (k0 := 2) _ _ rfl]
      have fHO2 := HO.out.fz 2 (by omega)
      go_wp2_with fail
      go_region
      all_goals
        go_wp2
        go_roundw
        case rel => exact ⟨3, by omega, by omega, rfl, ⟨by repeat (first | exact HO.out.set _ (by omega) (pre_step s _ rfl rfl rfl) | apply Cel.drew | apply Cel.drewN)⟩, ⟨by repeat (first | exact HA.out.other _ (by omega) | apply Cel.drew | apply Cel.drewN)⟩, ⟨by repeat (first | exact HB.out.other _ (by omega) | apply Cel.drew | apply Cel.drewN)⟩, ⟨by repeat (first | exact HR.out.other _ (by omega) | apply Cel.drew | apply Cel.drewN)⟩, ⟨(by repeat (first | with_reducible exact hB.out | with_reducible exact Below.refl _ _ | (with_reducible refine Below.setCell ?_ ?side _; case side => (first | omega | (simp <;> omega))) | (with_reducible refine Below.alloc ?_ ?side _; case side => (first | omega | (simp <;> omega))) | with_reducible apply below_drewN | with_reducible apply Below.drew))⟩, by first | omega | (simp <;> omega)⟩
        case measure => simp [intOf]
    · have cHA3 := HA.out.cell 3 (by omega)
      have cHB3 := HB.out.cell 3 (by omega)
      have cHO3 : wr.cell? ⟨w2.heap.size, 3, none⟩ = some (.int .i64 (0)) := by rw [HO.out.cell 3 (by omega), pre_at (k := 3) (k0 := 3) _ _ rfl]
      have fHO3 := HO.out.fz 3 (by omega)
      go_wp2_with fail
      go_region
      all_goals
        go_wp2
        go_roundw
        case rel => exact ⟨4, by omega, by omega, rfl, ⟨by repeat (first | exact HO.out.set _ (by omega) (pre_step s _ rfl rfl rfl) | apply Cel.drew | apply Cel.drewN)⟩, ⟨by repeat (first | exact HA.out.other _ (by omega) | apply Cel.drew | apply Cel.drewN)⟩, ⟨by repeat (first | exact HB.out.other _ (by omega) | apply Cel.drew | apply Cel.drewN)⟩, ⟨by repeat (first | exact HR.out.other _ (by omega) | apply Cel.drew | apply Cel.drewN)⟩, ⟨(by repeat (first | with_reducible exact hB.out | with_reducible exact Below.refl _ _ | (with_reducible refine Below.setCell ?_ ?side _; case side => (first | omega | (simp <;> omega))) | (with_reducible refine Below.alloc ?_ ?side _; case side => (first | omega | (simp <;> omega))) | with_reducible apply below_drewN | with_reducible apply Below.drew))⟩, by first | omega | (simp <;> omega)⟩
        case measure => simp [intOf]
    · have cHA4 := HA.out.cell 4 (by omega)
      have cHB4 := HB.out.cell 4 (by omega)
      have cHO4 : wr.cell? ⟨w2.heap.size, 4, none⟩ = some (.int .i64 (0)) := by rw [HO.out.cell 4 (by omega), pre_at (k := 4) (k0 := 4) _ _ rfl]
      have fHO4 := HO.out.fz 4 (by omega)
      go_wp2_with fail
      go_region
      all_goals
        go_wp2
        go_roundw
        case rel => exact ⟨5, by omega, by omega, rfl, ⟨by repeat (first | exact HO.out.set _ (by omega) (pre_step s _ rfl rfl rfl) | apply Cel.drew | apply Cel.drewN)⟩, ⟨by repeat (first | exact HA.out.other _ (by omega) | apply Cel.drew | apply Cel.drewN)⟩, ⟨by repeat (first | exact HB.out.other _ (by omega) | apply Cel.drew | apply Cel.drewN)⟩, ⟨by repeat (first | exact HR.out.other _ (by omega) | apply Cel.drew | apply Cel.drewN)⟩, ⟨(by repeat (first | with_reducible exact hB.out | with_reducible exact Below.refl _ _ | (with_reducible refine Below.setCell ?_ ?side _; case side => (first | omega | (simp <;> omega))) | (with_reducible refine Below.alloc ?_ ?side _; case side => (first | omega | (simp <;> omega))) | with_reducible apply below_drewN | with_reducible apply Below.drew))⟩, by first | omega | (simp <;> omega)⟩
        case measure => simp [intOf]
    · have cHA5 := HA.out.cell 5 (by omega)
      have cHB5 := HB.out.cell 5 (by omega)
      have cHO5 : wr.cell? ⟨w2.heap.size, 5, none⟩ = some (.int .i64 (0)) := by rw [HO.out.cell 5 (by omega), pre_at (k := 5) (k0 := 5) _ _ rfl]
      have fHO5 := HO.out.fz 5 (by omega)
      go_wp2_with fail
      go_region
      all_goals
        go_wp2
        go_roundw
        case rel => exact ⟨6, by omega, by omega, rfl, ⟨by repeat (first | exact HO.out.set _ (by omega) (pre_step s _ rfl rfl rfl) | apply Cel.drew | apply Cel.drewN)⟩, ⟨by repeat (first | exact HA.out.other _ (by omega) | apply Cel.drew | apply Cel.drewN)⟩, ⟨by repeat (first | exact HB.out.other _ (by omega) | apply Cel.drew | apply Cel.drewN)⟩, ⟨by repeat (first | exact HR.out.other _ (by omega) | apply Cel.drew | apply Cel.drewN)⟩, ⟨(by repeat (first | with_reducible exact hB.out | with_reducible exact Below.refl _ _ | (with_reducible refine Below.setCell ?_ ?side _; case side => (first | omega | (simp <;> omega))) | (with_reducible refine Below.alloc ?_ ?side _; case side => (first | omega | (simp <;> omega))) | with_reducible apply below_drewN | with_reducible apply Below.drew))⟩, by first | omega | (simp <;> omega)⟩
        case measure => simp [intOf]
    · have HO := Hx.mk (HO.out.congr (pre_six _ _))
      have cHO0 := HO.out.cell 0 (by omega)
      have fHO0 := HO.out.fz 0 (by omega)
      have cHO1 := HO.out.cell 1 (by omega)
      have fHO1 := HO.out.fz 1 (by omega)
      have cHO2 := HO.out.cell 2 (by omega)
      have fHO2 := HO.out.fz 2 (by omega)
      have cHO3 := HO.out.cell 3 (by omega)
      have fHO3 := HO.out.fz 3 (by omega)
      have cHO4 := HO.out.cell 4 (by omega)
      have fHO4 := HO.out.fz 4 (by omega)
      have cHO5 := HO.out.cell 5 (by omega)
      have fHO5 := HO.out.fz 5 (by omega)
      go_wp2_with fail
      refine (H3.out _).mono ?_
      rintro e w3 ⟨rfl, hb⟩
      have hB : Hx (Below w.heap.size w w3) := ⟨Below.trans hB.out (hb.mono (by omega))⟩
      have HO := Hx.mk (HO.out.later hb (by omega))
      have HR := Hx.mk (HR.out.later hb (by omega))
      clear cHO0 fHO0 cHO1 fHO1 cHO2 fHO2 cHO3 fHO3 cHO4 fHO4 cHO5 fHO5
      have cHO0 := HO.out.cell 0 (by omega)
      have fHO0 := HO.out.fz 0 (by omega)
      have cHO1 := HO.out.cell 1 (by omega)
      have fHO1 := HO.out.fz 1 (by omega)
      have cHO2 := HO.out.cell 2 (by omega)
      have fHO2 := HO.out.fz 2 (by omega)
      have cHO3 := HO.out.cell 3 (by omega)
      have fHO3 := HO.out.fz 3 (by omega)
      have cHO4 := HO.out.cell 4 (by omega)
      have fHO4 := HO.out.fz 4 (by omega)
      have cHO5 := HO.out.cell 5 (by omega)
      have fHO5 := HO.out.fz 5 (by omega)
      have cHR0 := HR.out.cell 0 (by omega)
      have fHR0 := HR.out.fz 0 (by omega)
      have cHR1 := HR.out.cell 1 (by omega)
      have fHR1 := HR.out.fz 1 (by omega)
      have cHR2 := HR.out.cell 2 (by omega)
      have fHR2 := HR.out.fz 2 (by omega)
      have cHR3 := HR.out.cell 3 (by omega)
      have fHR3 := HR.out.fz 3 (by omega)
      have cHR4 := HR.out.cell 4 (by omega)
      have fHR4 := HR.out.fz 4 (by omega)
      have cHR5 := HR.out.cell 5 (by omega)
      have fHR5 := HR.out.fz 5 (by omega)
      clear hb
      go_wp2_with fail
      refine bodyPost_ret_by (v := .tuple #[PV s, .int .i64 0]) (by simp [results, Tryz.results14, go_sem, cHR0, cHR1, cHR2, cHR3, cHR4, cHR5]) rfl ?_
      exact ⟨rfl, (by repeat (first | with_reducible exact hB.out | with_reducible exact Below.refl _ _ | (with_reducible refine Below.setCell ?_ ?side _; case side => (first | omega | (simp <;> omega))) | (with_reducible refine Below.alloc ?_ ?side _; case side => (first | omega | (simp <;> omega))) | with_reducible apply below_drewN | with_reducible apply Below.drew))⟩
set_option maxHeartbeats 2000000 in
theorem refMul_range (a b s : Nat → Int) (w : World) (ha : bdB a 576 = true) (hb0 : bdB b 576 = true) (hs : ∀ i, i < 6 → a i + b i = s i) (hv : bdB s 576 = false) : Calls Tryz.prog 14 #[PV a, PV b] w (OutV w (fun _ => 0) 3) := by
  have H1 := Hx.mk (fun w => refValid_any a w true ha)
  have H2 := Hx.mk (fun w => refValid_any b w true hb0)
  have H3 := Hx.mk (fun w => refValid_any s w false hv)
  obtain ⟨la0, ta0⟩ := bdB_yes.1 ha 0 (by omega)
  obtain ⟨la1, ta1⟩ := bdB_yes.1 ha 1 (by omega)
  obtain ⟨la2, ta2⟩ := bdB_yes.1 ha 2 (by omega)
  obtain ⟨la3, ta3⟩ := bdB_yes.1 ha 3 (by omega)
  obtain ⟨la4, ta4⟩ := bdB_yes.1 ha 4 (by omega)
  obtain ⟨la5, ta5⟩ := bdB_yes.1 ha 5 (by omega)
  obtain ⟨lb0, tb0⟩ := bdB_yes.1 hb0 0 (by omega)
  have e0 := hs 0 (by omega)
  obtain ⟨lb1, tb1⟩ := bdB_yes.1 hb0 1 (by omega)
  have e1 := hs 1 (by omega)
  obtain ⟨lb2, tb2⟩ := bdB_yes.1 hb0 2 (by omega)
  have e2 := hs 2 (by omega)
  obtain ⟨lb3, tb3⟩ := bdB_yes.1 hb0 3 (by omega)
  have e3 := hs 3 (by omega)
  obtain ⟨lb4, tb4⟩ := bdB_yes.1 hb0 4 (by omega)
  have e4 := hs 4 (by omega)
  obtain ⟨lb5, tb5⟩ := bdB_yes.1 hb0 5 (by omega)
  have e5 := hs 5 (by omega)
  clear ha hb0 hs hv
  go_enter Tryz.func14, Tryz.ntmps14
  go_wp2_with fail
  refine (H1.out _).mono ?_
  rintro e w1 ⟨rfl, hb⟩
  obtain ⟨hc1, hf1⟩ := bcell hb
  have hz1 := hb.size
  (try simp at hz1)
  have hB : Hx (Below w.heap.size w w1) := ⟨Below.trans (by repeat (first | with_reducible exact hB.out | with_reducible exact Below.refl _ _ | (with_reducible refine Below.setCell ?_ ?side _; case side => (first | omega | (simp <;> omega))) | (with_reducible refine Below.alloc ?_ ?side _; case side => (first | omega | (simp <;> omega))) | with_reducible apply below_drewN)) (hb.mono (by first | omega | (simp <;> omega)))⟩
  clear hb
  have hy1_0 : w.heap.size < w1.heap.size := by omega
  have hy1_1 : w.heap.size + 1 < w1.heap.size := by omega
  have hy1_2 : w.heap.size + 1 + 1 < w1.heap.size := by omega
  go_wp2_with fail
  refine (H2.out _).mono ?_
  rintro e w2 ⟨rfl, hb⟩
  obtain ⟨hc2, hf2⟩ := bcell hb
  have hz2 := hb.size
  (try simp at hz2)
  have hB : Hx (Below w.heap.size w w2) := ⟨Below.trans (by repeat (first | with_reducible exact hB.out | with_reducible exact Below.refl _ _ | (with_reducible refine Below.setCell ?_ ?side _; case side => (first | omega | (simp <;> omega))) | (with_reducible refine Below.alloc ?_ ?side _; case side => (first | omega | (simp <;> omega))) | with_reducible apply below_drewN)) (hb.mono (by first | omega | (simp <;> omega)))⟩
  clear hb
  have hy2_0 : w.heap.size < w2.heap.size := by omega
  have hy2_1 : w.heap.size + 1 < w2.heap.size := by omega
  have hy2_2 : w.heap.size + 1 + 1 < w2.heap.size := by omega
  have HA : Hx (Cel (w.heap.size) w2 (a)) := by refine ⟨⟨six ?_ ?_ ?_ ?_ ?_ ?_, six ?_ ?_ ?_ ?_ ?_ ?_⟩⟩ <;> simp [go_sem, hc1, hf1, hy1_0, hc2, hf2]
  have HB : Hx (Cel (w.heap.size + 1) w2 (b)) := by refine ⟨⟨six ?_ ?_ ?_ ?_ ?_ ?_, six ?_ ?_ ?_ ?_ ?_ ?_⟩⟩ <;> simp [go_sem, hc1, hf1, hy1_1, hc2, hf2]
  have HR : Hx (Cel (w.heap.size + 1 + 1) w2 (fun _ => 0)) := by refine ⟨⟨six ?_ ?_ ?_ ?_ ?_ ?_, six ?_ ?_ ?_ ?_ ?_ ?_⟩⟩ <;> simp [go_sem, hc1, hf1, hy1_2, hc2, hf2]
  clear hc1 hf1 hc2 hf2
  go_wp2_with fail
  go_loopw [9] (fun iv wr => ∃ k : Int, 0 ≤ k ∧ k ≤ 6 ∧ iv = .int .i64 k ∧ Hx (Cel (w2.heap.size) wr (pre s (fun _ => 0) k)) ∧ Hx (Cel (w.heap.size) wr (a)) ∧ Hx (Cel (w.heap.size + 1) wr (b)) ∧ Hx (Cel (w.heap.size + 1 + 1) wr (fun _ => 0)) ∧ Hx (Below w.heap.size w wr) ∧ w2.heap.size < wr.heap.size) (fun iv _ => 6 - (intOf iv).toNat)
  case atStart => exact ⟨0, by omega, by omega, rfl, ⟨by rw [pre_zero]; exact Cel.lit w2 (fun _ => 0) _⟩, ⟨Cel.later (B := w2.heap.size) HA.out ((Below.refl _ _).alloc (Nat.le_refl _) _) (by omega)⟩, ⟨Cel.later (B := w2.heap.size) HB.out ((Below.refl _ _).alloc (Nat.le_refl _) _) (by omega)⟩, ⟨Cel.later (B := w2.heap.size) HR.out ((Below.refl _ _).alloc (Nat.le_refl _) _) (by omega)⟩, ⟨(by repeat (first | with_reducible exact hB.out | with_reducible exact Below.refl _ _ | (with_reducible refine Below.setCell ?_ ?side _; case side => (first | omega | (simp <;> omega))) | (with_reducible refine Below.alloc ?_ ?side _; case side => (first | omega | (simp <;> omega))) | with_reducible apply below_drewN | with_reducible apply Below.drew))⟩, by first | omega | (simp <;> omega)⟩
  case round =>
    obtain ⟨k, hk0, hk, rfl, HO, HA, HB, HR, hB, hsz⟩ := hrel
    have : k = 0 ∨ k = 1 ∨ k = 2 ∨ k = 3 ∨ k = 4 ∨ k = 5 ∨ k = 6 := by omega
    rcases this with rfl | rfl | rfl | rfl | rfl | rfl | rfl
    · have cHA0 := HA.out.cell 0 (by omega)
      have cHB0 := HB.out.cell 0 (by omega)
      have cHO0 : wr.cell? ⟨w2.heap.size, 0, none⟩ = some (.int .i64 (0)) := by rw [HO.out.cell 0 (by omega), pre_at (k := 0) (k0 := 0) _ _ rfl]
      have fHO0 := HO.out.fz 0 (by omega)
      go_wp2_with fail
      go_region
      all_goals
        go_wp2
        go_roundw
        case rel => exact ⟨1, by omega, by omega, rfl, ⟨by repeat (first | exact HO.out.set _ (by omega) (pre_step s _ rfl rfl rfl) | apply Cel.drew | apply Cel.drewN)⟩, ⟨by repeat (first | exact HA.out.other _ (by omega) | apply Cel.drew | apply Cel.drewN)⟩, ⟨by repeat (first | exact HB.out.other _ (by omega) | apply Cel.drew | apply Cel.drewN)⟩, ⟨by repeat (first | exact HR.out.other _ (by omega) | apply Cel.drew | apply Cel.drewN)⟩, ⟨(by repeat (first | with_reducible exact hB.out | with_reducible exact Below.refl _ _ | (with_reducible refine Below.setCell ?_ ?side _; case side => (first | omega | (simp <;> omega))) | (with_reducible refine Below.alloc ?_ ?side _; case side => (first | omega | (simp <;> omega))) | with_reducible apply below_drewN | with_reducible apply Below.drew))⟩, by first | omega | (simp <;> omega)⟩
        case measure => simp [intOf]
    · have cHA1 := HA.out.cell 1 (by omega)
      have cHB1 := HB.out.cell 1 (by omega)
      have cHO1 : wr.cell? ⟨w2.heap.size, 1, none⟩ = some (.int .i64 (0)) := by rw [HO.out.cell 1 (by omega), pre_at (k := 1) (k0 := 1) _ _ rfl]
      have fHO1 := HO.out.fz 1 (by omega)
      go_wp2_with fail
      go_region
      all_goals
        go_wp2
        go_roundw
        case rel => exact ⟨2, by omega, by omega, rfl, ⟨by repeat (first | exact HO.out.set _ (by omega) (pre_step s _ rfl rfl rfl) | apply Cel.drew | apply Cel.drewN)⟩, ⟨by repeat (first | exact HA.out.other _ (by omega) | apply Cel.drew | apply Cel.drewN)⟩, ⟨by repeat (first | exact HB.out.other _ (by omega) | apply Cel.drew | apply Cel.drewN)⟩, ⟨by repeat (first | exact HR.out.other _ (by omega) | apply Cel.drew | apply Cel.drewN)⟩, ⟨(by repeat (first | with_reducible exact hB.out | with_reducible exact Below.refl _ _ | (with_reducible refine Below.setCell ?_ ?side _; case side => (first | omega | (simp <;> omega))) | (with_reducible refine Below.alloc ?_ ?side _; case side => (first | omega | (simp <;> omega))) | with_reducible apply below_drewN | with_reducible apply Below.drew))⟩, by first | omega | (simp <;> omega)⟩
        case measure => simp [intOf]
    · have cHA2 := HA.out.cell 2 (by omega)
      have cHB2 := HB.out.cell 2 (by omega)
      have cHO2 : wr.cell? ⟨w2.heap.size, 2, none⟩ = some (.int .i64 (0)) := by rw [HO.out.cell 2 (by omega), pre_at (k := 2) (k0 := 2) _ _ rfl]
      have fHO2 := HO.out.fz 2 (by omega)
      go_wp2_with fail
      go_region
      all_goals
        go_wp2
        go_roundw
        case rel => exact ⟨3, by omega, by omega, rfl, ⟨by repeat (first | exact HO.out.set _ (by omega) (pre_step s _ rfl rfl rfl) | apply Cel.drew | apply Cel.drewN)⟩, ⟨by repeat (first | exact HA.out.other _ (by omega) | apply Cel.drew | apply Cel.drewN)⟩, ⟨by repeat (first | exact HB.out.other _ (by omega) | apply Cel.drew | apply Cel.drewN)⟩, ⟨by repeat (first | exact HR.out.other _ (by omega) | apply Cel.drew | apply Cel.drewN)⟩, ⟨(by repeat (first | with_reducible exact hB.out | with_reducible exact Below.refl _ _ | (with_reducible refine Below.setCell ?_ ?side _; case side => (first | omega | (simp <;> omega))) | (with_reducible refine Below.alloc ?_ ?side _; case side => (first | omega | (simp <;> omega))) | with_reducible apply below_drewN | with_reducible apply Below.drew))⟩, by first | omega | (simp <;> omega)⟩
        case measure => simp [intOf]
    · have cHA3 := HA.out.cell 3 (by omega)
      have cHB3 := HB.out.cell 3 (by omega)
      have cHO3 : wr.cell? ⟨w2.heap.size, 3, none⟩ = some (.int .i64 (0)) := by rw [HO.out.cell 3 (by omega), pre_at (k := 3) (k0 := 3) _ _ rfl]
      have fHO3 := HO.out.fz 3 (by omega)
      go_wp2_with fail
      go_region
      all_goals
        go_wp2
        go_roundw
        case rel => exact ⟨4, by omega, by omega, rfl, ⟨by repeat (first | exact HO.out.set _ (by omega) (pre_step s _ rfl rfl rfl) | apply Cel.drew | apply Cel.drewN)⟩, ⟨by repeat (first | exact HA.out.other _ (by omega) | apply Cel.drew | apply Cel.drewN)⟩, ⟨by repeat (first | exact HB.out.other _ (by omega) | apply Cel.drew | apply Cel.drewN)⟩, ⟨by repeat (first | exact HR.out.other _ (by omega) | apply Cel.drew | apply Cel.drewN)⟩, ⟨(by repeat (first | with_reducible exact hB.out | with_reducible exact Below.refl _ _ | (with_reducible refine Below.setCell ?_ ?side _; case side => (first | omega | (simp <;> omega))) | (with_reducible refine Below.alloc ?_ ?side _; case side => (first | omega | (simp <;> omega))) | with_reducible apply below_drewN | with_reducible apply Below.drew))⟩, by first | omega | (simp <;> omega)⟩
        case measure => simp [intOf]
    · have cHA4 := HA.out.cell 4 (by omega)
      have cHB4 := HB.out.cell 4 (by omega)
      have cHO4 : wr.cell? ⟨w2.heap.size, 4, none⟩ = some (.int .i64 (0)) := by rw [HO.out.cell 4 (by omega), pre_at (k := 4) (k0 := 4) _ _ rfl]
      have fHO4 := HO.out.fz 4 (by omega)
      go_wp2_with fail
      go_region
      all_goals
        go_wp2
        go_roundw
        case rel => exact ⟨5, by omega, by omega, rfl, ⟨by repeat (first | exact HO.out.set _ (by omega) (pre_step s _ rfl rfl rfl) | apply Cel.drew | apply Cel.drewN)⟩, ⟨by repeat (first | exact HA.out.other _ (by omega) | apply Cel.drew | apply Cel.drewN)⟩, ⟨by repeat (first | exact HB.out.other _ (by omega) | apply Cel.drew | apply Cel.drewN)⟩, ⟨by repeat (first | exact HR.out.other _ (by omega) | apply Cel.drew | apply Cel.drewN)⟩, ⟨(by repeat (first | with_reducible exact hB.out | with_reducible exact Below.refl _ _ | (with_reducible refine Below.setCell ?_ ?side _; case side => (first | omega | (simp <;> omega))) | (with_reducible refine Below.alloc ?_ ?side _; case side => (first | omega | (simp <;> omega))) | with_reducible apply below_drewN | with_reducible apply Below.drew))⟩, by first | omega | (simp <;> omega)⟩
        case measure => simp [intOf]
    · have cHA5 := HA.out.cell 5 (by omega)
      have cHB5 := HB.out.cell 5 (by omega)
      have cHO5 : wr.cell? ⟨w2.heap.size, 5, none⟩ = some (.int .i64 (0)) := by rw [HO.out.cell 5 (by omega), pre_at (k := 5) (k0 := 5) _ _ rfl]
      have fHO5 := HO.out.fz 5 (by omega)
      go_wp2_with fail
      go_region
      all_goals
        go_wp2
        go_roundw
        case rel => exact ⟨6, by omega, by omega, rfl, ⟨by repeat (first | exact HO.out.set _ (by omega) (pre_step s _ rfl rfl rfl) | apply Cel.drew | apply Cel.drewN)⟩, ⟨by repeat (first | exact HA.out.other _ (by omega) | apply Cel.drew | apply Cel.drewN)⟩, ⟨by repeat (first | exact HB.out.other _ (by omega) | apply Cel.drew | apply Cel.drewN)⟩, ⟨by repeat (first | exact HR.out.other _ (by omega) | apply Cel.drew | apply Cel.drewN)⟩, ⟨(by repeat (first | with_reducible exact hB.out | with_reducible exact Below.refl _ _ | (with_reducible refine Below.setCell ?_ ?side _; case side => (first | omega | (simp <;> omega))) | (with_reducible refine Below.alloc ?_ ?side _; case side => (first | omega | (simp <;> omega))) | with_reducible apply below_drewN | with_reducible apply Below.drew))⟩, by first | omega | (simp <;> omega)⟩
        case measure => simp [intOf]
    · have HO := Hx.mk (HO.out.congr (pre_six _ _))
      have cHO0 := HO.out.cell 0 (by omega)
      have fHO0 := HO.out.fz 0 (by omega)
      have cHO1 := HO.out.cell 1 (by omega)
      have fHO1 := HO.out.fz 1 (by omega)
      have cHO2 := HO.out.cell 2 (by omega)
      have fHO2 := HO.out.fz 2 (by omega)
      have cHO3 := HO.out.cell 3 (by omega)
      have fHO3 := HO.out.fz 3 (by omega)
      have cHO4 := HO.out.cell 4 (by omega)
      have fHO4 := HO.out.fz 4 (by omega)
      have cHO5 := HO.out.cell 5 (by omega)
      have fHO5 := HO.out.fz 5 (by omega)
      go_wp2_with fail
      refine (H3.out _).mono ?_
      rintro e w3 ⟨rfl, hb⟩
      have hB : Hx (Below w.heap.size w w3) := ⟨Below.trans hB.out (hb.mono (by omega))⟩
      have HO := Hx.mk (HO.out.later hb (by omega))
      have HR := Hx.mk (HR.out.later hb (by omega))
      clear cHO0 fHO0 cHO1 fHO1 cHO2 fHO2 cHO3 fHO3 cHO4 fHO4 cHO5 fHO5
      have cHO0 := HO.out.cell 0 (by omega)
      have fHO0 := HO.out.fz 0 (by omega)
      have cHO1 := HO.out.cell 1 (by omega)
      have fHO1 := HO.out.fz 1 (by omega)
      have cHO2 := HO.out.cell 2 (by omega)
      have fHO2 := HO.out.fz 2 (by omega)
      have cHO3 := HO.out.cell 3 (by omega)
      have fHO3 := HO.out.fz 3 (by omega)
      have cHO4 := HO.out.cell 4 (by omega)
      have fHO4 := HO.out.fz 4 (by omega)
      have cHO5 := HO.out.cell 5 (by omega)
      have fHO5 := HO.out.fz 5 (by omega)
      have cHR0 := HR.out.cell 0 (by omega)
      have fHR0 := HR.out.fz 0 (by omega)
      have cHR1 := HR.out.cell 1 (by omega)
      have fHR1 := HR.out.fz 1 (by omega)
      have cHR2 := HR.out.cell 2 (by omega)
      have fHR2 := HR.out.fz 2 (by omega)
      have cHR3 := HR.out.cell 3 (by omega)
      have fHR3 := HR.out.fz 3 (by omega)
      have cHR4 := HR.out.cell 4 (by omega)
      have fHR4 := HR.out.fz 4 (by omega)
      have cHR5 := HR.out.cell 5 (by omega)
      have fHR5 := HR.out.fz 5 (by omega)
      clear hb
      go_wp2_with fail
      refine bodyPost_ret_by (v := .tuple #[PV (fun _ => 0), .int .i64 3]) (by simp [results, Tryz.results14, go_sem, cHR0, cHR1, cHR2, cHR3, cHR4, cHR5]) rfl ?_
      exact ⟨rfl, (by repeat (first | with_reducible exact hB.out | with_reducible exact Below.refl _ _ | (with_reducible refine Below.setCell ?_ ?side _; case side => (first | omega | (simp <;> omega))) | (with_reducible refine Below.alloc ?_ ?side _; case side => (first | omega | (simp <;> omega))) | with_reducible apply below_drewN | with_reducible apply Below.drew))⟩
theorem refMul_a (a b : Nat → Int) (x : Bool) (w : World) (ha : bdB a 576 = false) (hb0 : bdB b 576 = x) : Calls Tryz.prog 14 #[PV a, PV b] w (OutV w (fun _ => 0) 1) := by
  have H1 := Hx.mk (fun w => refValid_any a w false ha)
  have H2 := Hx.mk (fun w => refValid_any b w x hb0)
  clear ha hb0
  go_enter Tryz.func14, Tryz.ntmps14
  go_wp2_with fail
  refine (H1.out _).mono ?_
  rintro e w1 ⟨rfl, hb⟩
  obtain ⟨hc1, hf1⟩ := bcell hb
  have hz1 := hb.size
  (try simp at hz1)
  have hB : Hx (Below w.heap.size w w1) := ⟨Below.trans (by repeat (first | with_reducible exact hB.out | with_reducible exact Below.refl _ _ | (with_reducible refine Below.setCell ?_ ?side _; case side => (first | omega | (simp <;> omega))) | (with_reducible refine Below.alloc ?_ ?side _; case side => (first | omega | (simp <;> omega))) | with_reducible apply below_drewN)) (hb.mono (by first | omega | (simp <;> omega)))⟩
  clear hb
  have hy1_0 : w.heap.size < w1.heap.size := by omega
  have hy1_1 : w.heap.size + 1 < w1.heap.size := by omega
  have hy1_2 : w.heap.size + 1 + 1 < w1.heap.size := by omega
  go_wp2_with fail
  refine (H2.out _).mono ?_
  rintro e w2 ⟨rfl, hb⟩
  obtain ⟨hc2, hf2⟩ := bcell hb
  have hz2 := hb.size
  (try simp at hz2)
  have hB : Hx (Below w.heap.size w w2) := ⟨Below.trans (by repeat (first | with_reducible exact hB.out | with_reducible exact Below.refl _ _ | (with_reducible refine Below.setCell ?_ ?side _; case side => (first | omega | (simp <;> omega))) | (with_reducible refine Below.alloc ?_ ?side _; case side => (first | omega | (simp <;> omega))) | with_reducible apply below_drewN)) (hb.mono (by first | omega | (simp <;> omega)))⟩
  clear hb
  have hy2_0 : w.heap.size < w2.heap.size := by omega
  have hy2_1 : w.heap.size + 1 < w2.heap.size := by omega
  have hy2_2 : w.heap.size + 1 + 1 < w2.heap.size := by omega
  go_wp2_with fail
  refine bodyPost_ret_by (v := .tuple #[PV fun _ => 0, .int .i64 1]) (by simp [results, Tryz.results14, go_sem, hc1, hy1_2, hc2]) rfl ?_
  exact ⟨rfl, (by repeat (first | with_reducible exact hB.out | with_reducible exact Below.refl _ _ | (with_reducible refine Below.setCell ?_ ?side _; case side => (first | omega | (simp <;> omega))) | (with_reducible refine Below.alloc ?_ ?side _; case side => (first | omega | (simp <;> omega))) | with_reducible apply below_drewN))⟩
theorem refMul_b (a b : Nat → Int) (w : World) (ha : bdB a 576 = true) (hb0 : bdB b 576 = false) : Calls Tryz.prog 14 #[PV a, PV b] w (OutV w (fun _ => 0) 1) := by
  have H1 := Hx.mk (fun w => refValid_any a w true ha)
  have H2 := Hx.mk (fun w => refValid_any b w false hb0)
  clear ha hb0
  go_enter Tryz.func14, Tryz.ntmps14
  go_wp2_with fail
  refine (H1.out _).mono ?_
  rintro e w1 ⟨rfl, hb⟩
  obtain ⟨hc1, hf1⟩ := bcell hb
  have hz1 := hb.size
  (try simp at hz1)
  have hB : Hx (Below w.heap.size w w1) := ⟨Below.trans (by repeat (first | with_reducible exact hB.out | with_reducible exact Below.refl _ _ | (with_reducible refine Below.setCell ?_ ?side _; case side => (first | omega | (simp <;> omega))) | (with_reducible refine Below.alloc ?_ ?side _; case side => (first | omega | (simp <;> omega))) | with_reducible apply below_drewN)) (hb.mono (by first | omega | (simp <;> omega)))⟩
  clear hb
  have hy1_0 : w.heap.size < w1.heap.size := by omega
  have hy1_1 : w.heap.size + 1 < w1.heap.size := by omega
  have hy1_2 : w.heap.size + 1 + 1 < w1.heap.size := by omega
  go_wp2_with fail
  refine (H2.out _).mono ?_
  rintro e w2 ⟨rfl, hb⟩
  obtain ⟨hc2, hf2⟩ := bcell hb
  have hz2 := hb.size
  (try simp at hz2)
  have hB : Hx (Below w.heap.size w w2) := ⟨Below.trans (by repeat (first | with_reducible exact hB.out | with_reducible exact Below.refl _ _ | (with_reducible refine Below.setCell ?_ ?side _; case side => (first | omega | (simp <;> omega))) | (with_reducible refine Below.alloc ?_ ?side _; case side => (first | omega | (simp <;> omega))) | with_reducible apply below_drewN)) (hb.mono (by first | omega | (simp <;> omega)))⟩
  clear hb
  have hy2_0 : w.heap.size < w2.heap.size := by omega
  have hy2_1 : w.heap.size + 1 < w2.heap.size := by omega
  have hy2_2 : w.heap.size + 1 + 1 < w2.heap.size := by omega
  go_wp2_with fail
  refine bodyPost_ret_by (v := .tuple #[PV fun _ => 0, .int .i64 1]) (by simp [results, Tryz.results14, go_sem, hc1, hy1_2, hc2]) rfl ?_
  exact ⟨rfl, (by repeat (first | with_reducible exact hB.out | with_reducible exact Below.refl _ _ | (with_reducible refine Below.setCell ?_ ?side _; case side => (first | omega | (simp <;> omega))) | (with_reducible refine Below.alloc ?_ ?side _; case side => (first | omega | (simp <;> omega))) | with_reducible apply below_drewN))⟩
theorem refMul_any (a b : Nat → Int) (w : World) : Calls Tryz.prog 14 #[PV a, PV b] w (OutV w (comV a b 1) (comE a b 1)) := by
  by_cases ha : bdB a 576 = true
  · by_cases hb : bdB b 576 = true
    · obtain ⟨s, hs⟩ : ∃ s : Nat → Int, s = fun i => a i + 1 * b i := ⟨_, rfl⟩
      have hs2 : ∀ i, i < 6 → a i + b i = s i := fun i _ => by rw [hs]; simp
      by_cases hv : bdB s 576 = true
      · have e1 : comV a b 1 = s := by simp only [comV, ha, hb, ← hs, chkV, hv]; simp
        have e2 : comE a b 1 = 0 := by simp only [comE, ha, hb, ← hs, chkE, hv]; simp
        rw [e1, e2]; exact refMul_ok a b s w ha hb hs2 hv
      · have hv : bdB s 576 = false := by simpa using hv
        have e1 : comV a b 1 = fun _ => 0 := by simp only [comV, ha, hb, ← hs, chkV, hv]; simp
        have e2 : comE a b 1 = 3 := by simp only [comE, ha, hb, ← hs, chkE, hv]; simp
        rw [e1, e2]; exact refMul_range a b s w ha hb hs2 hv
    · have hb : bdB b 576 = false := by simpa using hb
      have e1 : comV a b 1 = fun _ => 0 := by simp [comV, hb]
      have e2 : comE a b 1 = 1 := by simp [comE, hb]
      rw [e1, e2]; exact refMul_b a b w ha hb
  · have ha : bdB a 576 = false := by simpa using ha
    have e1 : comV a b 1 = fun _ => 0 := by simp [comV, ha]
    have e2 : comE a b 1 = 1 := by simp [comE, ha]
    rw [e1, e2]; exact refMul_a a b _ w ha rfl
theorem bdB_neg (b : Nat → Int) (m : Int) : bdB (fun i => -b i) m = bdB b m := by
  by_cases h : bdB b m = true
  · rw [h, bdB_yes]
    intro i hi
    have := bdB_yes.1 h i hi
    show -m ≤ -b i ∧ -b i ≤ m
    omega
  · have h : bdB b m = false := by simpa using h
    rw [h, bdB_no]
    intro hn
    refine bdB_no.1 h fun i hi => ?_
    have h1 : -m ≤ -b i ∧ -b i ≤ m := hn i hi
    omega
theorem com_neg (a b : Nat → Int) : comV a (fun i => -b i) 1 = comV a b (-1) ∧ comE a (fun i => -b i) 1 = comE a b (-1) := by
  have e : (fun i => a i + 1 * -b i) = fun i => a i + -1 * b i := by funext i; omega
  unfold comV comE
  rw [bdB_neg, e]
  exact ⟨rfl, rfl⟩
set_option maxHeartbeats 2000000 in
theorem refDiv_ok (a b s r : Nat → Int) (c : Int) (w : World) (hb0 : bdB b 576 = true) (hs : ∀ i, i < 6 → -b i = s i) (hr : comV a s 1 = r) (hc : comE a s 1 = c) : Calls Tryz.prog 16 #[PV a, PV b] w (OutV w r c) := by
  have H1 := Hx.mk (fun w => refValid_any b w true hb0)
  have H2 := Hx.mk (fun w => refMul_any a s w)
  rw [hr, hc] at H2
  obtain ⟨lb0, tb0⟩ := bdB_yes.1 hb0 0 (by omega)
  have e0 := hs 0 (by omega)
  obtain ⟨lb1, tb1⟩ := bdB_yes.1 hb0 1 (by omega)
  have e1 := hs 1 (by omega)
  obtain ⟨lb2, tb2⟩ := bdB_yes.1 hb0 2 (by omega)
  have e2 := hs 2 (by omega)
  obtain ⟨lb3, tb3⟩ := bdB_yes.1 hb0 3 (by omega)
  have e3 := hs 3 (by omega)
  obtain ⟨lb4, tb4⟩ := bdB_yes.1 hb0 4 (by omega)
  have e4 := hs 4 (by omega)
  obtain ⟨lb5, tb5⟩ := bdB_yes.1 hb0 5 (by omega)
  have e5 := hs 5 (by omega)
  clear hb0 hs hr hc
  go_enter Tryz.func16, Tryz.ntmps16
  go_wp2_with fail
  refine (H1.out _).mono ?_
  rintro e w1 ⟨rfl, hb⟩
  obtain ⟨hc1, hf1⟩ := bcell hb
  have hz1 := hb.size
  (try simp at hz1)
  have hB : Hx (Below w.heap.size w w1) := ⟨Below.trans (by repeat (first | with_reducible exact hB.out | with_reducible exact Below.refl _ _ | (with_reducible refine Below.setCell ?_ ?side _; case side => (first | omega | (simp <;> omega))) | (with_reducible refine Below.alloc ?_ ?side _; case side => (first | omega | (simp <;> omega))) | with_reducible apply below_drewN)) (hb.mono (by first | omega | (simp <;> omega)))⟩
  clear hb
  have hy1_0 : w.heap.size < w1.heap.size := by omega
  have hy1_1 : w.heap.size + 1 < w1.heap.size := by omega
  have hy1_2 : w.heap.size + 1 + 1 < w1.heap.size := by omega
  have HA : Hx (Cel (w.heap.size) w1 (a)) := by refine ⟨⟨six ?_ ?_ ?_ ?_ ?_ ?_, six ?_ ?_ ?_ ?_ ?_ ?_⟩⟩ <;> simp [go_sem, hc1, hf1]
  have HO : Hx (Cel (w.heap.size + 1) w1 (b)) := by refine ⟨⟨six ?_ ?_ ?_ ?_ ?_ ?_, six ?_ ?_ ?_ ?_ ?_ ?_⟩⟩ <;> simp [go_sem, hc1, hf1]
  have HR : Hx (Cel (w.heap.size + 1 + 1) w1 (fun _ => 0)) := by refine ⟨⟨six ?_ ?_ ?_ ?_ ?_ ?_, six ?_ ?_ ?_ ?_ ?_ ?_⟩⟩ <;> simp [go_sem, hc1, hf1]
  clear hc1 hf1
  go_wp2_with fail
  go_loopw [7] (fun iv wr => ∃ k : Int, 0 ≤ k ∧ k ≤ 6 ∧ iv = .int .i64 k ∧ Hx (Cel (w.heap.size + 1) wr (pre s b k)) ∧ Hx (Cel (w.heap.size) wr (a)) ∧ Hx (Cel (w.heap.size + 1 + 1) wr (fun _ => 0)) ∧ Hx (Below w.heap.size w wr) ∧ w.heap.size + 1 + 1 < wr.heap.size) (fun iv _ => 6 - (intOf iv).toNat)
  case atStart => exact ⟨0, by omega, by omega, rfl, ⟨by rw [pre_zero]; exact HO.out⟩, HA, HR, hB, by first | omega | (simp <;> omega)⟩
  case round =>
    obtain ⟨k, hk0, hk, rfl, HO, HA, HR, hB, hsz⟩ := hrel
    have : k = 0 ∨ k = 1 ∨ k = 2 ∨ k = 3 ∨ k = 4 ∨ k = 5 ∨ k = 6 := by omega
    rcases this with rfl | rfl | rfl | rfl | rfl | rfl | rfl
    · have cHO0 : wr.cell? ⟨w.heap.size + 1, 0, none⟩ = some (.int .i64 (b 0)) := by rw [HO.out.cell 0 (by omega), pre_at (k := 0) (k0 := 0) _ _ rfl]
      have fHO0 := HO.out.fz 0 (by omega)
      go_wp2
      go_roundw
      case rel => exact ⟨1, by omega, by omega, rfl, ⟨HO.out.set _ (by omega) (pre_step s _ rfl rfl rfl)⟩, ⟨HA.out.other _ (by omega)⟩, ⟨HR.out.other _ (by omega)⟩, ⟨(by repeat (first | with_reducible exact hB.out | with_reducible exact Below.refl _ _ | (with_reducible refine Below.setCell ?_ ?side _; case side => (first | omega | (simp <;> omega))) | (with_reducible refine Below.alloc ?_ ?side _; case side => (first | omega | (simp <;> omega))) | with_reducible apply below_drewN | with_reducible apply Below.drew))⟩, by first | omega | (simp <;> omega)⟩
      case measure => simp [intOf]
    · have cHO1 : wr.cell? ⟨w.heap.size + 1, 1, none⟩ = some (.int .i64 (b 1)) := by rw [HO.out.cell 1 (by omega), pre_at (k := 1) (k0 := 1) _ _ rfl]
      have fHO1 := HO.out.fz 1 (by omega)
      go_wp2
      go_roundw
      case rel => exact ⟨2, by omega, by omega, rfl, ⟨HO.out.set _ (by omega) (pre_step s _ rfl rfl rfl)⟩, ⟨HA.out.other _ (by omega)⟩, ⟨HR.out.other _ (by omega)⟩, ⟨(by repeat (first | with_reducible exact hB.out | with_reducible exact Below.refl _ _ | (with_reducible refine Below.setCell ?_ ?side _; case side => (first | omega | (simp <;> omega))) | (with_reducible refine Below.alloc ?_ ?side _; case side => (first | omega | (simp <;> omega))) | with_reducible apply below_drewN | with_reducible apply Below.drew))⟩, by first | omega | (simp <;> omega)⟩
      case measure => simp [intOf]
    · have cHO2 : wr.cell? ⟨w.heap.size + 1, 2, none⟩ = some (.int .i64 (b 2)) := by rw [HO.out.cell 2 (by omega), pre_at (k := 2) (k0 := 2) _ _ rfl]
      have fHO2 := HO.out.fz 2 (by omega)
      go_wp2
      go_roundw
      case rel => exact ⟨3, by omega, by omega, rfl, ⟨HO.out.set _ (by omega) (pre_step s _ rfl rfl rfl)⟩, ⟨HA.out.other _ (by omega)⟩, ⟨HR.out.other _ (by omega)⟩, ⟨(by repeat (first | with_reducible exact hB.out | with_reducible exact Below.refl _ _ | (with_reducible refine Below.setCell ?_ ?side _; case side => (first | omega | (simp <;> omega))) | (with_reducible refine Below.alloc ?_ ?side _; case side => (first | omega | (simp <;> omega))) | with_reducible apply below_drewN | with_reducible apply Below.drew))⟩, by first | omega | (simp <;> omega)⟩
      case measure => simp [intOf]
    · have cHO3 : wr.cell? ⟨w.heap.size + 1, 3, none⟩ = some (.int .i64 (b 3)) := by rw [HO.out.cell 3 (by omega), pre_at (k := 3) (k0 := 3) _ _ rfl]
      have fHO3 := HO.out.fz 3 (by omega)
      go_wp2
      go_roundw
      case rel => exact ⟨4, by omega, by omega, rfl, ⟨HO.out.set _ (by omega) (pre_step s _ rfl rfl rfl)⟩, ⟨HA.out.other _ (by omega)⟩, ⟨HR.out.other _ (by omega)⟩, ⟨(by repeat (first | with_reducible exact hB.out | with_reducible exact Below.refl _ _ | (with_reducible refine Below.setCell ?_ ?side _; case side => (first | omega | (simp <;> omega))) | (with_reducible refine Below.alloc ?_ ?side _; case side => (first | omega | (simp <;> omega))) | with_reducible apply below_drewN | with_reducible apply Below.drew))⟩, by first | omega | (simp <;> omega)⟩
      case measure => simp [intOf]
    · have cHO4 : wr.cell? ⟨w.heap.size + 1, 4, none⟩ = some (.int .i64 (b 4)) := by rw [HO.out.cell 4 (by omega), pre_at (k := 4) (k0 := 4) _ _ rfl]
      have fHO4 := HO.out.fz 4 (by omega)
      go_wp2
      go_roundw
      case rel => exact ⟨5, by omega, by omega, rfl, ⟨HO.out.set _ (by omega) (pre_step s _ rfl rfl rfl)⟩, ⟨HA.out.other _ (by omega)⟩, ⟨HR.out.other _ (by omega)⟩, ⟨(by repeat (first | with_reducible exact hB.out | with_reducible exact Below.refl _ _ | (with_reducible refine Below.setCell ?_ ?side _; case side => (first | omega | (simp <;> omega))) | (with_reducible refine Below.alloc ?_ ?side _; case side => (first | omega | (simp <;> omega))) | with_reducible apply below_drewN | with_reducible apply Below.drew))⟩, by first | omega | (simp <;> omega)⟩
      case measure => simp [intOf]
    · have cHO5 : wr.cell? ⟨w.heap.size + 1, 5, none⟩ = some (.int .i64 (b 5)) := by rw [HO.out.cell 5 (by omega), pre_at (k := 5) (k0 := 5) _ _ rfl]
      have fHO5 := HO.out.fz 5 (by omega)
      go_wp2
      go_roundw
      case rel => exact ⟨6, by omega, by omega, rfl, ⟨HO.out.set _ (by omega) (pre_step s _ rfl rfl rfl)⟩, ⟨HA.out.other _ (by omega)⟩, ⟨HR.out.other _ (by omega)⟩, ⟨(by repeat (first | with_reducible exact hB.out | with_reducible exact Below.refl _ _ | (with_reducible refine Below.setCell ?_ ?side _; case side => (first | omega | (simp <;> omega))) | (with_reducible refine Below.alloc ?_ ?side _; case side => (first | omega | (simp <;> omega))) | with_reducible apply below_drewN | with_reducible apply Below.drew))⟩, by first | omega | (simp <;> omega)⟩
      case measure => simp [intOf]
    · have HO := Hx.mk (HO.out.congr (pre_six _ _))
      have cHO0 := HO.out.cell 0 (by omega)
      have fHO0 := HO.out.fz 0 (by omega)
      have cHO1 := HO.out.cell 1 (by omega)
      have fHO1 := HO.out.fz 1 (by omega)
      have cHO2 := HO.out.cell 2 (by omega)
      have fHO2 := HO.out.fz 2 (by omega)
      have cHO3 := HO.out.cell 3 (by omega)
      have fHO3 := HO.out.fz 3 (by omega)
      have cHO4 := HO.out.cell 4 (by omega)
      have fHO4 := HO.out.fz 4 (by omega)
      have cHO5 := HO.out.cell 5 (by omega)
      have fHO5 := HO.out.fz 5 (by omega)
      have cHA0 := HA.out.cell 0 (by omega)
      have cHA1 := HA.out.cell 1 (by omega)
      have cHA2 := HA.out.cell 2 (by omega)
      have cHA3 := HA.out.cell 3 (by omega)
      have cHA4 := HA.out.cell 4 (by omega)
      have cHA5 := HA.out.cell 5 (by omega)
      go_wp2_with fail
      refine (H2.out _).mono ?_
      rintro e w3 ⟨rfl, hb⟩
      have hB : Hx (Below w.heap.size w w3) := ⟨Below.trans hB.out (hb.mono (by omega))⟩
      have HR := Hx.mk (HR.out.later hb (by omega))
      have cHR0 := HR.out.cell 0 (by omega)
      have fHR0 := HR.out.fz 0 (by omega)
      have cHR1 := HR.out.cell 1 (by omega)
      have fHR1 := HR.out.fz 1 (by omega)
      have cHR2 := HR.out.cell 2 (by omega)
      have fHR2 := HR.out.fz 2 (by omega)
      have cHR3 := HR.out.cell 3 (by omega)
      have fHR3 := HR.out.fz 3 (by omega)
      have cHR4 := HR.out.cell 4 (by omega)
      have fHR4 := HR.out.fz 4 (by omega)
      have cHR5 := HR.out.cell 5 (by omega)
      have fHR5 := HR.out.fz 5 (by omega)
      clear hb
      go_wp2_with fail
      refine bodyPost_ret_by (v := .tuple #[PV r, .int .i64 c]) (by simp [results, Tryz.results16, go_sem, cHR0, cHR1, cHR2, cHR3, cHR4, cHR5]) rfl ?_
      exact ⟨rfl, (by repeat (first | with_reducible exact hB.out | with_reducible exact Below.refl _ _ | (with_reducible refine Below.setCell ?_ ?side _; case side => (first | omega | (simp <;> omega))) | (with_reducible refine Below.alloc ?_ ?side _; case side => (first | omega | (simp <;> omega))) | with_reducible apply below_drewN | with_reducible apply Below.drew))⟩
theorem refDiv_no (a b : Nat → Int) (w : World) (hb0 : bdB b 576 = false) : Calls Tryz.prog 16 #[PV a, PV b] w (OutV w (fun _ => 0) 1) := by
  have H1 := Hx.mk (fun w => refValid_any b w false hb0)
  clear hb0
  go_enter Tryz.func16, Tryz.ntmps16
  go_wp2_with fail
  refine (H1.out _).mono ?_
  rintro e w1 ⟨rfl, hb⟩
  obtain ⟨hc1, hf1⟩ := bcell hb
  have hz1 := hb.size
  (try simp at hz1)
  have hB : Hx (Below w.heap.size w w1) := ⟨Below.trans (by repeat (first | with_reducible exact hB.out | with_reducible exact Below.refl _ _ | (with_reducible refine Below.setCell ?_ ?side _; case side => (first | omega | (simp <;> omega))) | (with_reducible refine Below.alloc ?_ ?side _; case side => (first | omega | (simp <;> omega))) | with_reducible apply below_drewN)) (hb.mono (by first | omega | (simp <;> omega)))⟩
  clear hb
  have hy1_0 : w.heap.size < w1.heap.size := by omega
  have hy1_1 : w.heap.size + 1 < w1.heap.size := by omega
  have hy1_2 : w.heap.size + 1 + 1 < w1.heap.size := by omega
  go_wp2_with fail
  refine bodyPost_ret_by (v := .tuple #[PV fun _ => 0, .int .i64 1]) (by simp [results, Tryz.results16, go_sem, hc1]) rfl ?_
  exact ⟨rfl, (by repeat (first | with_reducible exact hB.out | with_reducible exact Below.refl _ _ | (with_reducible refine Below.setCell ?_ ?side _; case side => (first | omega | (simp <;> omega))) | (with_reducible refine Below.alloc ?_ ?side _; case side => (first | omega | (simp <;> omega))) | with_reducible apply below_drewN))⟩
theorem refDiv_any (a b : Nat → Int) (w : World) : Calls Tryz.prog 16 #[PV a, PV b] w (OutV w (comV a b (-1)) (comE a b (-1))) := by
  by_cases hb : bdB b 576 = true
  · obtain ⟨e1, e2⟩ := com_neg a b
    exact refDiv_ok a b (fun i => -b i) _ _ w hb (fun _ _ => rfl) e1 e2
  · have hb : bdB b 576 = false := by simpa using hb
    have e1 : comV a b (-1) = fun _ => 0 := by simp [comV, hb]
    have e2 : comE a b (-1) = 1 := by simp [comE, hb]
    rw [e1, e2]; exact refDiv_no a b w hb
end Go.Proofs.YtdlfnonlalkjdaaGreatDoor

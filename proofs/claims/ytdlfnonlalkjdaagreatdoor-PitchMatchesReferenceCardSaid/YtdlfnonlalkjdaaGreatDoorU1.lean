/- the reference's Of, Whole, Mul, Div of pitches. -/
import Derived.Test.YtdlfnonlalkjdaaGreatDoorU0
namespace Go.Proofs.YtdlfnonlalkjdaaGreatDoor
open Go.RowKit M
set_option maxHeartbeats 1000000 in
theorem refOf_ok (v r : Nat → Int) (w : World) (h : bdB v 48 = true) (hr : ∀ i, i < 6 → v i * 12 = r i) : Calls Tryz.prog 10 #[PV v] w (OutV w r 0) := by
  have H1 := Hx.mk (fun w => refInterval_any v w true h)
  obtain ⟨lv0, tv0⟩ := bdB_yes.1 h 0 (by omega)
  have e0 := hr 0 (by omega)
  obtain ⟨lv1, tv1⟩ := bdB_yes.1 h 1 (by omega)
  have e1 := hr 1 (by omega)
  obtain ⟨lv2, tv2⟩ := bdB_yes.1 h 2 (by omega)
  have e2 := hr 2 (by omega)
  obtain ⟨lv3, tv3⟩ := bdB_yes.1 h 3 (by omega)
  have e3 := hr 3 (by omega)
  obtain ⟨lv4, tv4⟩ := bdB_yes.1 h 4 (by omega)
  have e4 := hr 4 (by omega)
  obtain ⟨lv5, tv5⟩ := bdB_yes.1 h 5 (by omega)
  have e5 := hr 5 (by omega)
  clear h hr
  go_enter Tryz.func10, Tryz.ntmps10
  go_wp2_with fail
  refine (H1.out _).mono ?_
  rintro e w1 ⟨rfl, hb⟩
  obtain ⟨hc1, hf1⟩ := bcell hb
  have hz1 := hb.size
  (try simp at hz1)
  have hB : Hx (Below w.heap.size w w1) := ⟨Below.trans (by repeat (first | with_reducible exact hB.out | with_reducible exact Below.refl _ _ | (with_reducible refine Below.setCell ?_ ?side _; case side => (first | omega | (simp <;> omega))) | (with_reducible refine Below.alloc ?_ ?side _; case side => (first | omega | (simp <;> omega))) | with_reducible apply below_drewN)) (hb.mono (by first | omega | (simp <;> omega)))⟩
  clear hb
  have hy1_0 : w.heap.size < w1.heap.size := by omega
  have hy1_1 : w.heap.size + 1 < w1.heap.size := by omega
  have hy1_2 : w.heap.size + 1 + 1 < w1.heap.size := by omega
  have HV : Hx (Cel (w.heap.size) w1 (v)) := by refine ⟨⟨six ?_ ?_ ?_ ?_ ?_ ?_, six ?_ ?_ ?_ ?_ ?_ ?_⟩⟩ <;> simp [go_sem, hc1, hf1]
  have HR : Hx (Cel (w.heap.size + 1) w1 (fun _ => 0)) := by refine ⟨⟨six ?_ ?_ ?_ ?_ ?_ ?_, six ?_ ?_ ?_ ?_ ?_ ?_⟩⟩ <;> simp [go_sem, hc1, hf1]
  have HO : Hx (Cel (w.heap.size + 1 + 1) w1 (fun _ => 0)) := by refine ⟨⟨six ?_ ?_ ?_ ?_ ?_ ?_, six ?_ ?_ ?_ ?_ ?_ ?_⟩⟩ <;> simp [go_sem, hc1, hf1]
  clear hc1 hf1
  go_wp2_with fail
  go_loopw [6] (fun iv wr => ∃ k : Int, 0 ≤ k ∧ k ≤ 6 ∧ iv = .int .i64 k ∧ Hx (Cel (w.heap.size + 1 + 1) wr (pre r (fun _ => 0) k)) ∧ Hx (Cel (w.heap.size + 1) wr (fun _ => 0)) ∧ Hx (Cel (w.heap.size) wr (v)) ∧ Hx (Below w.heap.size w wr)) (fun iv _ => 6 - (intOf iv).toNat)
  case atStart => exact ⟨0, by omega, by omega, rfl, ⟨by rw [pre_zero]; exact HO.out⟩, HR, HV, hB⟩
  case round =>
    obtain ⟨k, hk0, hk, rfl, HO, HR, HV, hB⟩ := hrel
    have : k = 0 ∨ k = 1 ∨ k = 2 ∨ k = 3 ∨ k = 4 ∨ k = 5 ∨ k = 6 := by omega
    rcases this with rfl | rfl | rfl | rfl | rfl | rfl | rfl
    · have cHV0 := HV.out.cell 0 (by omega)
      have cHO0 : wr.cell? ⟨w.heap.size + 1 + 1, 0, none⟩ = some (.int .i64 (0)) := by rw [HO.out.cell 0 (by omega), pre_at (k := 0) (k0 := 0) _ _ rfl]
      have fHO0 := HO.out.fz 0 (by omega)
      go_wp2
      go_roundw
      case rel => exact ⟨1, by omega, by omega, rfl, ⟨HO.out.set _ (by omega) (pre_step r _ rfl rfl rfl)⟩, ⟨HR.out.other _ (by omega)⟩, ⟨HV.out.other _ (by omega)⟩, ⟨(by repeat (first | with_reducible exact hB.out | with_reducible exact Below.refl _ _ | (with_reducible refine Below.setCell ?_ ?side _; case side => (first | omega | (simp <;> omega))) | (with_reducible refine Below.alloc ?_ ?side _; case side => (first | omega | (simp <;> omega))) | with_reducible apply below_drewN | with_reducible apply Below.drew))⟩⟩
      case measure => simp [intOf]
    · have cHV1 := HV.out.cell 1 (by omega)
      have cHO1 : wr.cell? ⟨w.heap.size + 1 + 1, 1, none⟩ = some (.int .i64 (0)) := by rw [HO.out.cell 1 (by omega), pre_at (k := 1) (k0 := 1) _ _ rfl]
      have fHO1 := HO.out.fz 1 (by omega)
      go_wp2
      go_roundw
      case rel => exact ⟨2, by omega, by omega, rfl, ⟨HO.out.set _ (by omega) (pre_step r _ rfl rfl rfl)⟩, ⟨HR.out.other _ (by omega)⟩, ⟨HV.out.other _ (by omega)⟩, ⟨(by repeat (first | with_reducible exact hB.out | with_reducible exact Below.refl _ _ | (with_reducible refine Below.setCell ?_ ?side _; case side => (first | omega | (simp <;> omega))) | (with_reducible refine Below.alloc ?_ ?side _; case side => (first | omega | (simp <;> omega))) | with_reducible apply below_drewN | with_reducible apply Below.drew))⟩⟩
      case measure => simp [intOf]
    · have cHV2 := HV.out.cell 2 (by omega)
      have cHO2 : wr.cell? ⟨w.heap.size + 1 + 1, 2, none⟩ = some (.int .i64 (0)) := by rw [HO.out.cell 2 (by omega), pre_at (k := 2) (k0 := 2) _ _ rfl]
      have fHO2 := HO.out.fz 2 (by omega)
      go_wp2
      go_roundw
      case rel => exact ⟨3, by omega, by omega, rfl, ⟨HO.out.set _ (by omega) (pre_step r _ rfl rfl rfl)⟩, ⟨HR.out.other _ (by omega)⟩, ⟨HV.out.other _ (by omega)⟩, ⟨(by repeat (first | with_reducible exact hB.out | with_reducible exact Below.refl _ _ | (with_reducible refine Below.setCell ?_ ?side _; case side => (first | omega | (simp <;> omega))) | (with_reducible refine Below.alloc ?_ ?side _; case side => (first | omega | (simp <;> omega))) | with_reducible apply below_drewN | with_reducible apply Below.drew))⟩⟩
      case measure => simp [intOf]
    · have cHV3 := HV.out.cell 3 (by omega)
      have cHO3 : wr.cell? ⟨w.heap.size + 1 + 1, 3, none⟩ = some (.int .i64 (0)) := by rw [HO.out.cell 3 (by omega), pre_at (k := 3) (k0 := 3) _ _ rfl]
      have fHO3 := HO.out.fz 3 (by omega)
      go_wp2
      go_roundw
      case rel => exact ⟨4, by omega, by omega, rfl, ⟨HO.out.set _ (by omega) (pre_step r _ rfl rfl rfl)⟩, ⟨HR.out.other _ (by omega)⟩, ⟨HV.out.other _ (by omega)⟩, ⟨(by repeat (first | with_reducible exact hB.out | with_reducible exact Below.refl _ _ | (with_reducible refine Below.setCell ?_ ?side _; case side => (first | omega | (simp <;> omega))) | (with_reducible refine Below.alloc ?_ ?side _; case side => (first | omega | (simp <;> omega))) | with_reducible apply below_drewN | with_reducible apply Below.drew))⟩⟩
      case measure => simp [intOf]
    · have cHV4 := HV.out.cell 4 (by omega)
      have cHO4 : wr.cell? ⟨w.heap.size + 1 + 1, 4, none⟩ = some (.int .i64 (0)) := by rw [HO.out.cell 4 (by omega), pre_at (k := 4) (k0 := 4) _ _ rfl]
      have fHO4 := HO.out.fz 4 (by omega)
      go_wp2
      go_roundw
      case rel => exact ⟨5, by omega, by omega, rfl, ⟨HO.out.set _ (by omega) (pre_step r _ rfl rfl rfl)⟩, ⟨HR.out.other _ (by omega)⟩, ⟨HV.out.other _ (by omega)⟩, ⟨(by repeat (first | with_reducible exact hB.out | with_reducible exact Below.refl _ _ | (with_reducible refine Below.setCell ?_ ?side _; case side => (first | omega | (simp <;> omega))) | (with_reducible refine Below.alloc ?_ ?side _; case side => (first | omega | (simp <;> omega))) | with_reducible apply below_drewN | with_reducible apply Below.drew))⟩⟩
      case measure => simp [intOf]
    · have cHV5 := HV.out.cell 5 (by omega)
      have cHO5 : wr.cell? ⟨w.heap.size + 1 + 1, 5, none⟩ = some (.int .i64 (0)) := by rw [HO.out.cell 5 (by omega), pre_at (k := 5) (k0 := 5) _ _ rfl]
      have fHO5 := HO.out.fz 5 (by omega)
      go_wp2
      go_roundw
      case rel => exact ⟨6, by omega, by omega, rfl, ⟨HO.out.set _ (by omega) (pre_step r _ rfl rfl rfl)⟩, ⟨HR.out.other _ (by omega)⟩, ⟨HV.out.other _ (by omega)⟩, ⟨(by repeat (first | with_reducible exact hB.out | with_reducible exact Below.refl _ _ | (with_reducible refine Below.setCell ?_ ?side _; case side => (first | omega | (simp <;> omega))) | (with_reducible refine Below.alloc ?_ ?side _; case side => (first | omega | (simp <;> omega))) | with_reducible apply below_drewN | with_reducible apply Below.drew))⟩⟩
      case measure => simp [intOf]
    · have HO := Hx.mk (HO.out.congr (pre_six _ _))
      have cHO0 := HO.out.cell 0 (by omega)
      have fHO0 := HO.out.fz 0 (by omega)
      have cHR0 := HR.out.cell 0 (by omega)
      have fHR0 := HR.out.fz 0 (by omega)
      have cHO1 := HO.out.cell 1 (by omega)
      have fHO1 := HO.out.fz 1 (by omega)
      have cHR1 := HR.out.cell 1 (by omega)
      have fHR1 := HR.out.fz 1 (by omega)
      have cHO2 := HO.out.cell 2 (by omega)
      have fHO2 := HO.out.fz 2 (by omega)
      have cHR2 := HR.out.cell 2 (by omega)
      have fHR2 := HR.out.fz 2 (by omega)
      have cHO3 := HO.out.cell 3 (by omega)
      have fHO3 := HO.out.fz 3 (by omega)
      have cHR3 := HR.out.cell 3 (by omega)
      have fHR3 := HR.out.fz 3 (by omega)
      have cHO4 := HO.out.cell 4 (by omega)
      have fHO4 := HO.out.fz 4 (by omega)
      have cHR4 := HR.out.cell 4 (by omega)
      have fHR4 := HR.out.fz 4 (by omega)
      have cHO5 := HO.out.cell 5 (by omega)
      have fHO5 := HO.out.fz 5 (by omega)
      have cHR5 := HR.out.cell 5 (by omega)
      have fHR5 := HR.out.fz 5 (by omega)
      go_wp2_with fail
      refine bodyPost_ret_by (v := .tuple #[PV r, .int .i64 0]) (by simp [results, Tryz.results10, go_sem, cHR0, cHR1, cHR2, cHR3, cHR4, cHR5]) rfl ?_
      exact ⟨rfl, (by repeat (first | with_reducible exact hB.out | with_reducible exact Below.refl _ _ | (with_reducible refine Below.setCell ?_ ?side _; case side => (first | omega | (simp <;> omega))) | (with_reducible refine Below.alloc ?_ ?side _; case side => (first | omega | (simp <;> omega))) | with_reducible apply below_drewN | with_reducible apply Below.drew))⟩
theorem refOf_no (v : Nat → Int) (w : World) (h : bdB v 48 = false) : Calls Tryz.prog 10 #[PV v] w (OutV w (fun _ => 0) 1) := by
  have H1 := Hx.mk (fun w => refInterval_any v w false h)
  clear h
  go_enter Tryz.func10, Tryz.ntmps10
  go_wp2_with fail
  refine (H1.out _).mono ?_
  rintro e w1 ⟨rfl, hb⟩
  obtain ⟨hc1, hf1⟩ := bcell hb
  have hz1 := hb.size
  (try simp at hz1)
  have hB : Hx (Below w.heap.size w w1) := ⟨Below.trans (by repeat (first | with_reducible exact hB.out | with_reducible exact Below.refl _ _ | (with_reducible refine Below.setCell ?_ ?side _; case side => (first | omega | (simp <;> omega))) | (with_reducible refine Below.alloc ?_ ?side _; case side => (first | omega | (simp <;> omega))) | with_reducible apply below_drewN)) (hb.mono (by first | omega | (simp <;> omega)))⟩
  clear hb
  have hy1_0 : w.heap.size < w1.heap.size := by omega
  have hy1_1 : w.heap.size + 1 < w1.heap.size := by omega
  have hy1_2 : w.heap.size + 1 + 1 < w1.heap.size := by omega
  go_wp2_with fail
  refine bodyPost_ret_by (v := .tuple #[PV fun _ => 0, .int .i64 1]) (by simp [results, Tryz.results10, go_sem, hc1]) rfl ?_
  exact ⟨rfl, (by repeat (first | with_reducible exact hB.out | with_reducible exact Below.refl _ _ | (with_reducible refine Below.setCell ?_ ?side _; case side => (first | omega | (simp <;> omega))) | (with_reducible refine Below.alloc ?_ ?side _; case side => (first | omega | (simp <;> omega))) | with_reducible apply below_drewN))⟩
set_option maxHeartbeats 1000000 in
theorem refWhole_ok (v u : Nat → Int) (w : World) (h : bdB v 576 = true) (hu : ∀ i, i < 6 → v i = 12 * u i) : Calls Tryz.prog 12 #[PV v] w (OutV w u 0) := by
  have H1 := Hx.mk (fun w => refValid_any v w true h)
  obtain ⟨lv0, tv0⟩ := bdB_yes.1 h 0 (by omega)
  have m0 : (v 0).tmod 12 = 0 := by rw [hu 0 (by omega)]; exact Int.mul_tmod_right _ _
  have q0 : (v 0).tdiv 12 = u 0 := by rw [hu 0 (by omega)]; exact Int.mul_tdiv_cancel_left _ (by omega)
  have x0 : -48 ≤ u 0 := by have := hu 0 (by omega); omega
  have y0 : u 0 ≤ 48 := by have := hu 0 (by omega); omega
  obtain ⟨lv1, tv1⟩ := bdB_yes.1 h 1 (by omega)
  have m1 : (v 1).tmod 12 = 0 := by rw [hu 1 (by omega)]; exact Int.mul_tmod_right _ _
  have q1 : (v 1).tdiv 12 = u 1 := by rw [hu 1 (by omega)]; exact Int.mul_tdiv_cancel_left _ (by omega)
  have x1 : -48 ≤ u 1 := by have := hu 1 (by omega); omega
  have y1 : u 1 ≤ 48 := by have := hu 1 (by omega); omega
  obtain ⟨lv2, tv2⟩ := bdB_yes.1 h 2 (by omega)
  have m2 : (v 2).tmod 12 = 0 := by rw [hu 2 (by omega)]; exact Int.mul_tmod_right _ _
  have q2 : (v 2).tdiv 12 = u 2 := by rw [hu 2 (by omega)]; exact Int.mul_tdiv_cancel_left _ (by omega)
  have x2 : -48 ≤ u 2 := by have := hu 2 (by omega); omega
  have y2 : u 2 ≤ 48 := by have := hu 2 (by omega); omega
  obtain ⟨lv3, tv3⟩ := bdB_yes.1 h 3 (by omega)
  have m3 : (v 3).tmod 12 = 0 := by rw [hu 3 (by omega)]; exact Int.mul_tmod_right _ _
  have q3 : (v 3).tdiv 12 = u 3 := by rw [hu 3 (by omega)]; exact Int.mul_tdiv_cancel_left _ (by omega)
  have x3 : -48 ≤ u 3 := by have := hu 3 (by omega); omega
  have y3 : u 3 ≤ 48 := by have := hu 3 (by omega); omega
  obtain ⟨lv4, tv4⟩ := bdB_yes.1 h 4 (by omega)
  have m4 : (v 4).tmod 12 = 0 := by rw [hu 4 (by omega)]; exact Int.mul_tmod_right _ _
  have q4 : (v 4).tdiv 12 = u 4 := by rw [hu 4 (by omega)]; exact Int.mul_tdiv_cancel_left _ (by omega)
  have x4 : -48 ≤ u 4 := by have := hu 4 (by omega); omega
  have y4 : u 4 ≤ 48 := by have := hu 4 (by omega); omega
  obtain ⟨lv5, tv5⟩ := bdB_yes.1 h 5 (by omega)
  have m5 : (v 5).tmod 12 = 0 := by rw [hu 5 (by omega)]; exact Int.mul_tmod_right _ _
  have q5 : (v 5).tdiv 12 = u 5 := by rw [hu 5 (by omega)]; exact Int.mul_tdiv_cancel_left _ (by omega)
  have x5 : -48 ≤ u 5 := by have := hu 5 (by omega); omega
  have y5 : u 5 ≤ 48 := by have := hu 5 (by omega); omega
  clear h hu
  go_enter Tryz.func12, Tryz.ntmps12
  go_wp2_with fail
  refine (H1.out _).mono ?_
  rintro e w1 ⟨rfl, hb⟩
  obtain ⟨hc1, hf1⟩ := bcell hb
  have hz1 := hb.size
  (try simp at hz1)
  have hB : Hx (Below w.heap.size w w1) := ⟨Below.trans (by repeat (first | with_reducible exact hB.out | with_reducible exact Below.refl _ _ | (with_reducible refine Below.setCell ?_ ?side _; case side => (first | omega | (simp <;> omega))) | (with_reducible refine Below.alloc ?_ ?side _; case side => (first | omega | (simp <;> omega))) | with_reducible apply below_drewN)) (hb.mono (by first | omega | (simp <;> omega)))⟩
  clear hb
  have hy1_0 : w.heap.size < w1.heap.size := by omega
  have hy1_1 : w.heap.size + 1 < w1.heap.size := by omega
  have hy1_2 : w.heap.size + 1 + 1 < w1.heap.size := by omega
  have HV : Hx (Cel (w.heap.size) w1 (v)) := by refine ⟨⟨six ?_ ?_ ?_ ?_ ?_ ?_, six ?_ ?_ ?_ ?_ ?_ ?_⟩⟩ <;> simp [go_sem, hc1, hf1]
  have HR : Hx (Cel (w.heap.size + 1) w1 (fun _ => 0)) := by refine ⟨⟨six ?_ ?_ ?_ ?_ ?_ ?_, six ?_ ?_ ?_ ?_ ?_ ?_⟩⟩ <;> simp [go_sem, hc1, hf1]
  have HO : Hx (Cel (w.heap.size + 1 + 1) w1 (fun _ => 0)) := by refine ⟨⟨six ?_ ?_ ?_ ?_ ?_ ?_, six ?_ ?_ ?_ ?_ ?_ ?_⟩⟩ <;> simp [go_sem, hc1, hf1]
  clear hc1 hf1
  go_wp2_with fail
  go_loopw [6] (fun iv wr => ∃ k : Int, 0 ≤ k ∧ k ≤ 6 ∧ iv = .int .i64 k ∧ Hx (Cel (w.heap.size + 1 + 1) wr (pre u (fun _ => 0) k)) ∧ Hx (Cel (w.heap.size + 1) wr (fun _ => 0)) ∧ Hx (Cel (w.heap.size) wr (v)) ∧ Hx (Below w.heap.size w wr)) (fun iv _ => 6 - (intOf iv).toNat)
  case atStart => exact ⟨0, by omega, by omega, rfl, ⟨by rw [pre_zero]; exact HO.out⟩, HR, HV, hB⟩
  case round =>
    obtain ⟨k, hk0, hk, rfl, HO, HR, HV, hB⟩ := hrel
    have : k = 0 ∨ k = 1 ∨ k = 2 ∨ k = 3 ∨ k = 4 ∨ k = 5 ∨ k = 6 := by omega
    rcases this with rfl | rfl | rfl | rfl | rfl | rfl | rfl
    · have cHV0 := HV.out.cell 0 (by omega)
      have cHO0 : wr.cell? ⟨w.heap.size + 1 + 1, 0, none⟩ = some (.int .i64 (0)) := by rw [HO.out.cell 0 (by omega), pre_at (k := 0) (k0 := 0) _ _ rfl]
      have fHO0 := HO.out.fz 0 (by omega)
      go_wp2
      go_roundw
      case rel => exact ⟨1, by omega, by omega, rfl, ⟨HO.out.set _ (by omega) (pre_step u _ rfl rfl rfl)⟩, ⟨HR.out.other _ (by omega)⟩, ⟨HV.out.other _ (by omega)⟩, ⟨(by repeat (first | with_reducible exact hB.out | with_reducible exact Below.refl _ _ | (with_reducible refine Below.setCell ?_ ?side _; case side => (first | omega | (simp <;> omega))) | (with_reducible refine Below.alloc ?_ ?side _; case side => (first | omega | (simp <;> omega))) | with_reducible apply below_drewN | with_reducible apply Below.drew))⟩⟩
      case measure => simp [intOf]
    · have cHV1 := HV.out.cell 1 (by omega)
      have cHO1 : wr.cell? ⟨w.heap.size + 1 + 1, 1, none⟩ = some (.int .i64 (0)) := by rw [HO.out.cell 1 (by omega), pre_at (k := 1) (k0 := 1) _ _ rfl]
      have fHO1 := HO.out.fz 1 (by omega)
      go_wp2
      go_roundw
      case rel => exact ⟨2, by omega, by omega, rfl, ⟨HO.out.set _ (by omega) (pre_step u _ rfl rfl rfl)⟩, ⟨HR.out.other _ (by omega)⟩, ⟨HV.out.other _ (by omega)⟩, ⟨(by repeat (first | with_reducible exact hB.out | with_reducible exact Below.refl _ _ | (with_reducible refine Below.setCell ?_ ?side _; case side => (first | omega | (simp <;> omega))) | (with_reducible refine Below.alloc ?_ ?side _; case side => (first | omega | (simp <;> omega))) | with_reducible apply below_drewN | with_reducible apply Below.drew))⟩⟩
      case measure => simp [intOf]
    · have cHV2 := HV.out.cell 2 (by omega)
      have cHO2 : wr.cell? ⟨w.heap.size + 1 + 1, 2, none⟩ = some (.int .i64 (0)) := by rw [HO.out.cell 2 (by omega), pre_at (k := 2) (k0 := 2) _ _ rfl]
      have fHO2 := HO.out.fz 2 (by omega)
      go_wp2
      go_roundw
      case rel => exact ⟨3, by omega, by omega, rfl, ⟨HO.out.set _ (by omega) (pre_step u _ rfl rfl rfl)⟩, ⟨HR.out.other _ (by omega)⟩, ⟨HV.out.other _ (by omega)⟩, ⟨(by repeat (first | with_reducible exact hB.out | with_reducible exact Below.refl _ _ | (with_reducible refine Below.setCell ?_ ?side _; case side => (first | omega | (simp <;> omega))) | (with_reducible refine Below.alloc ?_ ?side _; case side => (first | omega | (simp <;> omega))) | with_reducible apply below_drewN | with_reducible apply Below.drew))⟩⟩
      case measure => simp [intOf]
    · have cHV3 := HV.out.cell 3 (by omega)
      have cHO3 : wr.cell? ⟨w.heap.size + 1 + 1, 3, none⟩ = some (.int .i64 (0)) := by rw [HO.out.cell 3 (by omega), pre_at (k := 3) (k0 := 3) _ _ rfl]
      have fHO3 := HO.out.fz 3 (by omega)
      go_wp2
      go_roundw
      case rel => exact ⟨4, by omega, by omega, rfl, ⟨HO.out.set _ (by omega) (pre_step u _ rfl rfl rfl)⟩, ⟨HR.out.other _ (by omega)⟩, ⟨HV.out.other _ (by omega)⟩, ⟨(by repeat (first | with_reducible exact hB.out | with_reducible exact Below.refl _ _ | (with_reducible refine Below.setCell ?_ ?side _; case side => (first | omega | (simp <;> omega))) | (with_reducible refine Below.alloc ?_ ?side _; case side => (first | omega | (simp <;> omega))) | with_reducible apply below_drewN | with_reducible apply Below.drew))⟩⟩
      case measure => simp [intOf]
    · have cHV4 := HV.out.cell 4 (by omega)
      have cHO4 : wr.cell? ⟨w.heap.size + 1 + 1, 4, none⟩ = some (.int .i64 (0)) := by rw [HO.out.cell 4 (by omega), pre_at (k := 4) (k0 := 4) _ _ rfl]
      have fHO4 := HO.out.fz 4 (by omega)
      go_wp2
      go_roundw
      case rel => exact ⟨5, by omega, by omega, rfl, ⟨HO.out.set _ (by omega) (pre_step u _ rfl rfl rfl)⟩, ⟨HR.out.other _ (by omega)⟩, ⟨HV.out.other _ (by omega)⟩, ⟨(by repeat (first | with_reducible exact hB.out | with_reducible exact Below.refl _ _ | (with_reducible refine Below.setCell ?_ ?side _; case side => (first | omega | (simp <;> omega))) | (with_reducible refine Below.alloc ?_ ?side _; case side => (first | omega | (simp <;> omega))) | with_reducible apply below_drewN | with_reducible apply Below.drew))⟩⟩
      case measure => simp [intOf]
    · have cHV5 := HV.out.cell 5 (by omega)
      have cHO5 : wr.cell? ⟨w.heap.size + 1 + 1, 5, none⟩ = some (.int .i64 (0)) := by rw [HO.out.cell 5 (by omega), pre_at (k := 5) (k0 := 5) _ _ rfl]
      have fHO5 := HO.out.fz 5 (by omega)
      go_wp2
      go_roundw
      case rel => exact ⟨6, by omega, by omega, rfl, ⟨HO.out.set _ (by omega) (pre_step u _ rfl rfl rfl)⟩, ⟨HR.out.other _ (by omega)⟩, ⟨HV.out.other _ (by omega)⟩, ⟨(by repeat (first | with_reducible exact hB.out | with_reducible exact Below.refl _ _ | (with_reducible refine Below.setCell ?_ ?side _; case side => (first | omega | (simp <;> omega))) | (with_reducible refine Below.alloc ?_ ?side _; case side => (first | omega | (simp <;> omega))) | with_reducible apply below_drewN | with_reducible apply Below.drew))⟩⟩
      case measure => simp [intOf]
    · have HO := Hx.mk (HO.out.congr (pre_six _ _))
      have cHO0 := HO.out.cell 0 (by omega)
      have fHO0 := HO.out.fz 0 (by omega)
      have cHR0 := HR.out.cell 0 (by omega)
      have fHR0 := HR.out.fz 0 (by omega)
      have cHO1 := HO.out.cell 1 (by omega)
      have fHO1 := HO.out.fz 1 (by omega)
      have cHR1 := HR.out.cell 1 (by omega)
      have fHR1 := HR.out.fz 1 (by omega)
      have cHO2 := HO.out.cell 2 (by omega)
      have fHO2 := HO.out.fz 2 (by omega)
      have cHR2 := HR.out.cell 2 (by omega)
      have fHR2 := HR.out.fz 2 (by omega)
      have cHO3 := HO.out.cell 3 (by omega)
      have fHO3 := HO.out.fz 3 (by omega)
      have cHR3 := HR.out.cell 3 (by omega)
      have fHR3 := HR.out.fz 3 (by omega)
      have cHO4 := HO.out.cell 4 (by omega)
      have fHO4 := HO.out.fz 4 (by omega)
      have cHR4 := HR.out.cell 4 (by omega)
      have fHR4 := HR.out.fz 4 (by omega)
      have cHO5 := HO.out.cell 5 (by omega)
      have fHO5 := HO.out.fz 5 (by omega)
      have cHR5 := HR.out.cell 5 (by omega)
      have fHR5 := HR.out.fz 5 (by omega)
      go_wp2_with fail
      refine bodyPost_ret_by (v := .tuple #[PV u, .int .i64 0]) (by simp [results, Tryz.results12, go_sem, cHR0, cHR1, cHR2, cHR3, cHR4, cHR5]) rfl ?_
      exact ⟨rfl, (by repeat (first | with_reducible exact hB.out | with_reducible exact Below.refl _ _ | (with_reducible refine Below.setCell ?_ ?side _; case side => (first | omega | (simp <;> omega))) | (with_reducible refine Below.alloc ?_ ?side _; case side => (first | omega | (simp <;> omega))) | with_reducible apply below_drewN | with_reducible apply Below.drew))⟩
set_option maxHeartbeats 2000000 in
theorem refWhole_kind (v : Nat → Int) (w : World) (h : bdB v 576 = true) (hu : ∃ i, i < 6 ∧ ¬ (12 ∣ v i)) : Calls Tryz.prog 12 #[PV v] w (OutV w (fun _ => 0) 9) := by
  have H1 := Hx.mk (fun w => refValid_any v w true h)
  have HU := Hx.mk hu
  obtain ⟨lv0, tv0⟩ := bdB_yes.1 h 0 (by omega)
  obtain ⟨lv1, tv1⟩ := bdB_yes.1 h 1 (by omega)
  obtain ⟨lv2, tv2⟩ := bdB_yes.1 h 2 (by omega)
  obtain ⟨lv3, tv3⟩ := bdB_yes.1 h 3 (by omega)
  obtain ⟨lv4, tv4⟩ := bdB_yes.1 h 4 (by omega)
  obtain ⟨lv5, tv5⟩ := bdB_yes.1 h 5 (by omega)
  clear h hu
  go_enter Tryz.func12, Tryz.ntmps12
  go_wp2_with fail
  refine (H1.out _).mono ?_
  rintro e w1 ⟨rfl, hb⟩
  obtain ⟨hc1, hf1⟩ := bcell hb
  have hz1 := hb.size
  (try simp at hz1)
  have hB : Hx (Below w.heap.size w w1) := ⟨Below.trans (by repeat (first | with_reducible exact hB.out | with_reducible exact Below.refl _ _ | (with_reducible refine Below.setCell ?_ ?side _; case side => (first | omega | (simp <;> omega))) | (with_reducible refine Below.alloc ?_ ?side _; case side => (first | omega | (simp <;> omega))) | with_reducible apply below_drewN)) (hb.mono (by first | omega | (simp <;> omega)))⟩
  clear hb
  have hy1_0 : w.heap.size < w1.heap.size := by omega
  have hy1_1 : w.heap.size + 1 < w1.heap.size := by omega
  have hy1_2 : w.heap.size + 1 + 1 < w1.heap.size := by omega
  have HV : Hx (Cel (w.heap.size) w1 (v)) := by refine ⟨⟨six ?_ ?_ ?_ ?_ ?_ ?_, six ?_ ?_ ?_ ?_ ?_ ?_⟩⟩ <;> simp [go_sem, hc1, hf1]
  have HR : Hx (Cel (w.heap.size + 1) w1 (fun _ => 0)) := by refine ⟨⟨six ?_ ?_ ?_ ?_ ?_ ?_, six ?_ ?_ ?_ ?_ ?_ ?_⟩⟩ <;> simp [go_sem, hc1, hf1]
  have HO : Hx (Cel (w.heap.size + 1 + 1) w1 (fun _ => 0)) := by refine ⟨⟨six ?_ ?_ ?_ ?_ ?_ ?_, six ?_ ?_ ?_ ?_ ?_ ?_⟩⟩ <;> simp [go_sem, hc1, hf1]
  clear hc1 hf1
  go_wp2_with fail
  go_loopw [6] (fun iv wr => ∃ (k : Int) (q : Nat → Int), 0 ≤ k ∧ k ≤ 6 ∧ iv = .int .i64 k ∧ Hx (Cel (w.heap.size + 1 + 1) wr q) ∧ Hx (Cel (w.heap.size + 1) wr (fun _ => 0)) ∧ Hx (Cel (w.heap.size) wr v) ∧ Hx (Below w.heap.size w wr) ∧ Hx (∀ j : Nat, (j : Int) < k → (12 : Int) ∣ v j)) (fun iv _ => 6 - (intOf iv).toNat)
  case atStart => exact ⟨0, _, by omega, by omega, rfl, HO, HR, HV, hB, ⟨fun j hj => by omega⟩⟩
  case round =>
    obtain ⟨k, q, hk0, hk, rfl, HO, HR, HV, hB, HD⟩ := hrel
    have : k = 0 ∨ k = 1 ∨ k = 2 ∨ k = 3 ∨ k = 4 ∨ k = 5 ∨ k = 6 := by omega
    rcases this with rfl | rfl | rfl | rfl | rfl | rfl | rfl
    · have cHV0 := HV.out.cell 0 (by omega)
      have cHO0 := HO.out.cell 0 (by omega)
      have fHO0 := HO.out.fz 0 (by omega)
      by_cases m0 : (v 0).tmod 12 = 0
      · obtain ⟨q0, k0⟩ : ∃ q, (v 0).tdiv 12 = q := ⟨_, rfl⟩
        have HD2 : Hx (∀ j : Nat, (j : Int) < 1 → (12 : Int) ∣ v j) := ⟨fun j hj => by
          by_cases e : j = 0
          · subst e; exact Int.dvd_of_tmod_eq_zero m0
          · exact HD.out j (by omega)⟩
        go_wp2
        go_roundw
        case rel => exact ⟨1, fun j => if j = 0 then _ else q j, by omega, by omega, rfl, ⟨HO.out.set _ (by omega) (fun _ _ => rfl)⟩, ⟨HR.out.other _ (by omega)⟩, ⟨HV.out.other _ (by omega)⟩, ⟨(by repeat (first | with_reducible exact hB.out | with_reducible exact Below.refl _ _ | (with_reducible refine Below.setCell ?_ ?side _; case side => (first | omega | (simp <;> omega))) | (with_reducible refine Below.alloc ?_ ?side _; case side => (first | omega | (simp <;> omega))) | with_reducible apply below_drewN | with_reducible apply Below.drew))⟩, HD2⟩
        case measure => simp [intOf]
      · have zz : ((v 0).tmod 12 == 0) = false := beq_eq_false_iff_ne.2 m0
        have zn : ((v 0).tmod 12 != 0) = true := by rw [bne_iff_ne]; exact m0
        clear m0
        have cHR0 := HR.out.cell 0 (by omega)
        have fHR0 := HR.out.fz 0 (by omega)
        have cHR1 := HR.out.cell 1 (by omega)
        have fHR1 := HR.out.fz 1 (by omega)
        have cHR2 := HR.out.cell 2 (by omega)
        have fHR2 := HR.out.fz 2 (by omega)
        have cHR3 := HR.out.cell 3 (by omega)
        have fHR3 := HR.out.fz 3 (by omega)
        have cHR4 := HR.out.cell 4 (by omega)
        have fHR4 := HR.out.fz 4 (by omega)
        have cHR5 := HR.out.cell 5 (by omega)
        have fHR5 := HR.out.fz 5 (by omega)
        go_wp2
        refine bodyPost_ret_by (v := .tuple #[PV fun _ => 0, .int .i64 9]) (by simp [results, Tryz.results12, go_sem, cHR0, cHR1, cHR2, cHR3, cHR4, cHR5]) rfl ?_
        exact ⟨rfl, (by repeat (first | with_reducible exact hB.out | with_reducible exact Below.refl _ _ | (with_reducible refine Below.setCell ?_ ?side _; case side => (first | omega | (simp <;> omega))) | (with_reducible refine Below.alloc ?_ ?side _; case side => (first | omega | (simp <;> omega))) | with_reducible apply below_drewN | with_reducible apply Below.drew))⟩
    · have cHV1 := HV.out.cell 1 (by omega)
      have cHO1 := HO.out.cell 1 (by omega)
      have fHO1 := HO.out.fz 1 (by omega)
      by_cases m1 : (v 1).tmod 12 = 0
      · obtain ⟨q1, k1⟩ : ∃ q, (v 1).tdiv 12 = q := ⟨_, rfl⟩
        have HD2 : Hx (∀ j : Nat, (j : Int) < 2 → (12 : Int) ∣ v j) := ⟨fun j hj => by
          by_cases e : j = 1
          · subst e; exact Int.dvd_of_tmod_eq_zero m1
          · exact HD.out j (by omega)⟩
        go_wp2
        go_roundw
        case rel => exact ⟨2, fun j => if j = 1 then _ else q j, by omega, by omega, rfl, ⟨HO.out.set _ (by omega) (fun _ _ => rfl)⟩, ⟨HR.out.other _ (by omega)⟩, ⟨HV.out.other _ (by omega)⟩, ⟨(by repeat (first | with_reducible exact hB.out | with_reducible exact Below.refl _ _ | (with_reducible refine Below.setCell ?_ ?side _; case side => (first | omega | (simp <;> omega))) | (with_reducible refine Below.alloc ?_ ?side _; case side => (first | omega | (simp <;> omega))) | with_reducible apply below_drewN | with_reducible apply Below.drew))⟩, HD2⟩
        case measure => simp [intOf]
      · have zz : ((v 1).tmod 12 == 0) = false := beq_eq_false_iff_ne.2 m1
        have zn : ((v 1).tmod 12 != 0) = true := by rw [bne_iff_ne]; exact m1
        clear m1
        have cHR0 := HR.out.cell 0 (by omega)
        have fHR0 := HR.out.fz 0 (by omega)
        have cHR1 := HR.out.cell 1 (by omega)
        have fHR1 := HR.out.fz 1 (by omega)
        have cHR2 := HR.out.cell 2 (by omega)
        have fHR2 := HR.out.fz 2 (by omega)
        have cHR3 := HR.out.cell 3 (by omega)
        have fHR3 := HR.out.fz 3 (by omega)
        have cHR4 := HR.out.cell 4 (by omega)
        have fHR4 := HR.out.fz 4 (by omega)
        have cHR5 := HR.out.cell 5 (by omega)
        have fHR5 := HR.out.fz 5 (by omega)
        go_wp2
        refine bodyPost_ret_by (v := .tuple #[PV fun _ => 0, .int .i64 9]) (by simp [results, Tryz.results12, go_sem, cHR0, cHR1, cHR2, cHR3, cHR4, cHR5]) rfl ?_
        exact ⟨rfl, (by repeat (first | with_reducible exact hB.out | with_reducible exact Below.refl _ _ | (with_reducible refine Below.setCell ?_ ?side _; case side => (first | omega | (simp <;> omega))) | (with_reducible refine Below.alloc ?_ ?side _; case side => (first | omega | (simp <;> omega))) | with_reducible apply below_drewN | with_reducible apply Below.drew))⟩
    · have cHV2 := HV.out.cell 2 (by omega)
      have cHO2 := HO.out.cell 2 (by omega)
      have fHO2 := HO.out.fz 2 (by omega)
      by_cases m2 : (v 2).tmod 12 = 0
      · obtain ⟨q2, k2⟩ : ∃ q, (v 2).tdiv 12 = q := ⟨_, rfl⟩
        have HD2 : Hx (∀ j : Nat, (j : Int) < 3 → (12 : Int) ∣ v j) := ⟨fun j hj => by
          by_cases e : j = 2
          · subst e; exact Int.dvd_of_tmod_eq_zero m2
          · exact HD.out j (by omega)⟩
        go_wp2
        go_roundw
        case rel => exact ⟨3, fun j => if j = 2 then _ else q j, by omega, by omega, rfl, ⟨HO.out.set _ (by omega) (fun _ _ => rfl)⟩, ⟨HR.out.other _ (by omega)⟩, ⟨HV.out.other _ (by omega)⟩, ⟨(by repeat (first | with_reducible exact hB.out | with_reducible exact Below.refl _ _ | (with_reducible refine Below.setCell ?_ ?side _; case side => (first | omega | (simp <;> omega))) | (with_reducible refine Below.alloc ?_ ?side _; case side => (first | omega | (simp <;> omega))) | with_reducible apply below_drewN | with_reducible apply Below.drew))⟩, HD2⟩
        case measure => simp [intOf]
      · have zz : ((v 2).tmod 12 == 0) = false := beq_eq_false_iff_ne.2 m2
        have zn : ((v 2).tmod 12 != 0) = true := by rw [bne_iff_ne]; exact m2
        clear m2
        have cHR0 := HR.out.cell 0 (by omega)
        have fHR0 := HR.out.fz 0 (by omega)
        have cHR1 := HR.out.cell 1 (by omega)
        have fHR1 := HR.out.fz 1 (by omega)
        have cHR2 := HR.out.cell 2 (by omega)
        have fHR2 := HR.out.fz 2 (by omega)
        have cHR3 := HR.out.cell 3 (by omega)
        have fHR3 := HR.out.fz 3 (by omega)
        have cHR4 := HR.out.cell 4 (by omega)
        have fHR4 := HR.out.fz 4 (by omega)
        have cHR5 := HR.out.cell 5 (by omega)
        have fHR5 := HR.out.fz 5 (by omega)
        go_wp2
        refine bodyPost_ret_by (v := .tuple #[PV fun _ => 0, .int .i64 9]) (by simp [results, Tryz.results12, go_sem, cHR0, cHR1, cHR2, cHR3, cHR4, cHR5]) rfl ?_
        exact ⟨rfl, (by repeat (first | with_reducible exact hB.out | with_reducible exact Below.refl _ _ | (with_reducible refine Below.setCell ?_ ?side _; case side => (first | omega | (simp <;> omega))) | (with_reducible refine Below.alloc ?_ ?side _; case side => (first | omega | (simp <;> omega))) | with_reducible apply below_drewN | with_reducible apply Below.drew))⟩
    · have cHV3 := HV.out.cell 3 (by omega)
      have cHO3 := HO.out.cell 3 (by omega)
      have fHO3 := HO.out.fz 3 (by omega)
      by_cases m3 : (v 3).tmod 12 = 0
      · obtain ⟨q3, k3⟩ : ∃ q, (v 3).tdiv 12 = q := ⟨_, rfl⟩
        have HD2 : Hx (∀ j : Nat, (j : Int) < 4 → (12 : Int) ∣ v j) := ⟨fun j hj => by
          by_cases e : j = 3
          · subst e; exact Int.dvd_of_tmod_eq_zero m3
          · exact HD.out j (by omega)⟩
        go_wp2
        go_roundw
        case rel => exact ⟨4, fun j => if j = 3 then _ else q j, by omega, by omega, rfl, ⟨HO.out.set _ (by omega) (fun _ _ => rfl)⟩, ⟨HR.out.other _ (by omega)⟩, ⟨HV.out.other _ (by omega)⟩, ⟨(by repeat (first | with_reducible exact hB.out | with_reducible exact Below.refl _ _ | (with_reducible refine Below.setCell ?_ ?side _; case side => (first | omega | (simp <;> omega))) | (with_reducible refine Below.alloc ?_ ?side _; case side => (first | omega | (simp <;> omega))) | with_reducible apply below_drewN | with_reducible apply Below.drew))⟩, HD2⟩
        case measure => simp [intOf]
      · have zz : ((v 3).tmod 12 == 0) = false := beq_eq_false_iff_ne.2 m3
        have zn : ((v 3).tmod 12 != 0) = true := by rw [bne_iff_ne]; exact m3
        clear m3
        have cHR0 := HR.out.cell 0 (by omega)
        have fHR0 := HR.out.fz 0 (by omega)
        have cHR1 := HR.out.cell 1 (by omega)
        have fHR1 := HR.out.fz 1 (by omega)
        have cHR2 := HR.out.cell 2 (by omega)
        have fHR2 := HR.out.fz 2 (by omega)
        have cHR3 := HR.out.cell 3 (by omega)
        have fHR3 := HR.out.fz 3 (by omega)
        have cHR4 := HR.out.cell 4 (by omega)
        have fHR4 := HR.out.fz 4 (by omega)
        have cHR5 := HR.out.cell 5 (by omega)
        have fHR5 := HR.out.fz 5 (by omega)
        go_wp2
        refine bodyPost_ret_by (v := .tuple #[PV fun _ => 0, .int .i64 9]) (by simp [results, Tryz.results12, go_sem, cHR0, cHR1, cHR2, cHR3, cHR4, cHR5]) rfl ?_
        exact ⟨rfl, (by repeat (first | with_reducible exact hB.out | with_reducible exact Below.refl _ _ | (with_reducible refine Below.setCell ?_ ?side _; case side => (first | omega | (simp <;> omega))) | (with_reducible refine Below.alloc ?_ ?side _; case side => (first | omega | (simp <;> omega))) | with_reducible apply below_drewN | with_reducible apply Below.drew))⟩
    · have cHV4 := HV.out.cell 4 (by omega)
      have cHO4 := HO.out.cell 4 (by omega)
      have fHO4 := HO.out.fz 4 (by omega)
      by_cases m4 : (v 4).tmod 12 = 0
      · obtain ⟨q4, k4⟩ : ∃ q, (v 4).tdiv 12 = q := ⟨_, rfl⟩
        have HD2 : Hx (∀ j : Nat, (j : Int) < 5 → (12 : Int) ∣ v j) := ⟨fun j hj => by
          by_cases e : j = 4
          · subst e; exact Int.dvd_of_tmod_eq_zero m4
          · exact HD.out j (by omega)⟩
        go_wp2
        go_roundw
        case rel => exact ⟨5, fun j => if j = 4 then _ else q j, by omega, by omega, rfl, ⟨HO.out.set _ (by omega) (fun _ _ => rfl)⟩, ⟨HR.out.other _ (by omega)⟩, ⟨HV.out.other _ (by omega)⟩, ⟨(by repeat (first | with_reducible exact hB.out | with_reducible exact Below.refl _ _ | (with_reducible refine Below.setCell ?_ ?side _; case side => (first | omega | (simp <;> omega))) | (with_reducible refine Below.alloc ?_ ?side _; case side => (first | omega | (simp <;> omega))) | with_reducible apply below_drewN | with_reducible apply Below.drew))⟩, HD2⟩
        case measure => simp [intOf]
      · have zz : ((v 4).tmod 12 == 0) = false := beq_eq_false_iff_ne.2 m4
        have zn : ((v 4).tmod 12 != 0) = true := by rw [bne_iff_ne]; exact m4
        clear m4
        have cHR0 := HR.out.cell 0 (by omega)
        have fHR0 := HR.out.fz 0 (by omega)
        have cHR1 := HR.out.cell 1 (by omega)
        have fHR1 := HR.out.fz 1 (by omega)
        have cHR2 := HR.out.cell 2 (by omega)
        have fHR2 := HR.out.fz 2 (by omega)
        have cHR3 := HR.out.cell 3 (by omega)
        have fHR3 := HR.out.fz 3 (by omega)
        have cHR4 := HR.out.cell 4 (by omega)
        have fHR4 := HR.out.fz 4 (by omega)
        have cHR5 := HR.out.cell 5 (by omega)
        have fHR5 := HR.out.fz 5 (by omega)
        go_wp2
        refine bodyPost_ret_by (v := .tuple #[PV fun _ => 0, .int .i64 9]) (by simp [results, Tryz.results12, go_sem, cHR0, cHR1, cHR2, cHR3, cHR4, cHR5]) rfl ?_
        exact ⟨rfl, (by repeat (first | with_reducible exact hB.out | with_reducible exact Below.refl _ _ | (with_reducible refine Below.setCell ?_ ?side _; case side => (first | omega | (simp <;> omega))) | (with_reducible refine Below.alloc ?_ ?side _; case side => (first | omega | (simp <;> omega))) | with_reducible apply below_drewN | with_reducible apply Below.drew))⟩
    · have cHV5 := HV.out.cell 5 (by omega)
      have cHO5 := HO.out.cell 5 (by omega)
      have fHO5 := HO.out.fz 5 (by omega)
      by_cases m5 : (v 5).tmod 12 = 0
      · obtain ⟨q5, k5⟩ : ∃ q, (v 5).tdiv 12 = q := ⟨_, rfl⟩
        have HD2 : Hx (∀ j : Nat, (j : Int) < 6 → (12 : Int) ∣ v j) := ⟨fun j hj => by
          by_cases e : j = 5
          · subst e; exact Int.dvd_of_tmod_eq_zero m5
          · exact HD.out j (by omega)⟩
        go_wp2
        go_roundw
        case rel => exact ⟨6, fun j => if j = 5 then _ else q j, by omega, by omega, rfl, ⟨HO.out.set _ (by omega) (fun _ _ => rfl)⟩, ⟨HR.out.other _ (by omega)⟩, ⟨HV.out.other _ (by omega)⟩, ⟨(by repeat (first | with_reducible exact hB.out | with_reducible exact Below.refl _ _ | (with_reducible refine Below.setCell ?_ ?side _; case side => (first | omega | (simp <;> omega))) | (with_reducible refine Below.alloc ?_ ?side _; case side => (first | omega | (simp <;> omega))) | with_reducible apply below_drewN | with_reducible apply Below.drew))⟩, HD2⟩
        case measure => simp [intOf]
      · have zz : ((v 5).tmod 12 == 0) = false := beq_eq_false_iff_ne.2 m5
        have zn : ((v 5).tmod 12 != 0) = true := by rw [bne_iff_ne]; exact m5
        clear m5
        have cHR0 := HR.out.cell 0 (by omega)
        have fHR0 := HR.out.fz 0 (by omega)
        have cHR1 := HR.out.cell 1 (by omega)
        have fHR1 := HR.out.fz 1 (by omega)
        have cHR2 := HR.out.cell 2 (by omega)
        have fHR2 := HR.out.fz 2 (by omega)
        have cHR3 := HR.out.cell 3 (by omega)
        have fHR3 := HR.out.fz 3 (by omega)
        have cHR4 := HR.out.cell 4 (by omega)
        have fHR4 := HR.out.fz 4 (by omega)
        have cHR5 := HR.out.cell 5 (by omega)
        have fHR5 := HR.out.fz 5 (by omega)
        go_wp2
        refine bodyPost_ret_by (v := .tuple #[PV fun _ => 0, .int .i64 9]) (by simp [results, Tryz.results12, go_sem, cHR0, cHR1, cHR2, cHR3, cHR4, cHR5]) rfl ?_
        exact ⟨rfl, (by repeat (first | with_reducible exact hB.out | with_reducible exact Below.refl _ _ | (with_reducible refine Below.setCell ?_ ?side _; case side => (first | omega | (simp <;> omega))) | (with_reducible refine Below.alloc ?_ ?side _; case side => (first | omega | (simp <;> omega))) | with_reducible apply below_drewN | with_reducible apply Below.drew))⟩
    · exfalso
      obtain ⟨i, hi, hn⟩ := HU.out
      exact hn (HD.out i (by omega))
theorem refWhole_no (v : Nat → Int) (w : World) (h : bdB v 576 = false) : Calls Tryz.prog 12 #[PV v] w (OutV w (fun _ => 0) 1) := by
  have H1 := Hx.mk (fun w => refValid_any v w false h)
  clear h
  go_enter Tryz.func12, Tryz.ntmps12
  go_wp2_with fail
  refine (H1.out _).mono ?_
  rintro e w1 ⟨rfl, hb⟩
  obtain ⟨hc1, hf1⟩ := bcell hb
  have hz1 := hb.size
  (try simp at hz1)
  have hB : Hx (Below w.heap.size w w1) := ⟨Below.trans (by repeat (first | with_reducible exact hB.out | with_reducible exact Below.refl _ _ | (with_reducible refine Below.setCell ?_ ?side _; case side => (first | omega | (simp <;> omega))) | (with_reducible refine Below.alloc ?_ ?side _; case side => (first | omega | (simp <;> omega))) | with_reducible apply below_drewN)) (hb.mono (by first | omega | (simp <;> omega)))⟩
  clear hb
  have hy1_0 : w.heap.size < w1.heap.size := by omega
  have hy1_1 : w.heap.size + 1 < w1.heap.size := by omega
  have hy1_2 : w.heap.size + 1 + 1 < w1.heap.size := by omega
  go_wp2_with fail
  refine bodyPost_ret_by (v := .tuple #[PV fun _ => 0, .int .i64 1]) (by simp [results, Tryz.results12, go_sem, hc1]) rfl ?_
  exact ⟨rfl, (by repeat (first | with_reducible exact hB.out | with_reducible exact Below.refl _ _ | (with_reducible refine Below.setCell ?_ ?side _; case side => (first | omega | (simp <;> omega))) | (with_reducible refine Below.alloc ?_ ?side _; case side => (first | omega | (simp <;> omega))) | with_reducible apply below_drewN))⟩
end Go.Proofs.YtdlfnonlalkjdaaGreatDoor

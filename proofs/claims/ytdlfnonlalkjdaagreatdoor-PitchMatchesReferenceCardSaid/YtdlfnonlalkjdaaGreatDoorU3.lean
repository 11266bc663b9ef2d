/- the reference's Power of pitches. -/
import Derived.Test.YtdlfnonlalkjdaaGreatDoorU2
namespace Go.Proofs.YtdlfnonlalkjdaaGreatDoor
open Go.RowKit M
set_option maxHeartbeats 2000000 in
theorem refPower_ok (v u : Nat → Int) (n d : Int) (w : World) (h : bdB v 576 = true) (hn0 : -576 ≤ n) (hn1 : n ≤ 576) (hd0 : 1 ≤ d) (hd1 : d ≤ 12) (hu : ∀ i, i < 6 → n * v i = d * u i) (hv : bdB u 576 = true) : Calls Tryz.prog 18 #[PV v, .int .i64 n, .int .i64 d] w (OutV w (u) 0) := by
  have H1 := Hx.mk (fun w => refValid_any v w true h)
  have H3 := Hx.mk (fun w => refValid_any u w true hv)
  obtain ⟨x0, e0⟩ : ∃ x, v 0 * n = x := ⟨_, rfl⟩
  obtain ⟨l0, t0⟩ := mul_lim hn0 hn1 (bdB_yes.1 h 0 (by omega))
  have p0 := hu 0 (by omega)
  have m0 : x0.tmod d = 0 := by rw [← e0, Int.mul_comm, p0]; exact Int.mul_tmod_right _ _
  have q0 : x0.tdiv d = u 0 := by rw [← e0, Int.mul_comm, p0]; exact Int.mul_tdiv_cancel_left _ (by omega)
  obtain ⟨y0, z0⟩ := bd_quo (by omega) p0 l0 t0
  rw [show n * v 0 = x0 from by rw [Int.mul_comm]; exact e0] at l0 t0
  clear p0
  obtain ⟨x1, e1⟩ : ∃ x, v 1 * n = x := ⟨_, rfl⟩
  obtain ⟨l1, t1⟩ := mul_lim hn0 hn1 (bdB_yes.1 h 1 (by omega))
  have p1 := hu 1 (by omega)
  have m1 : x1.tmod d = 0 := by rw [← e1, Int.mul_comm, p1]; exact Int.mul_tmod_right _ _
  have q1 : x1.tdiv d = u 1 := by rw [← e1, Int.mul_comm, p1]; exact Int.mul_tdiv_cancel_left _ (by omega)
  obtain ⟨y1, z1⟩ := bd_quo (by omega) p1 l1 t1
  rw [show n * v 1 = x1 from by rw [Int.mul_comm]; exact e1] at l1 t1
  clear p1
  obtain ⟨x2, e2⟩ : ∃ x, v 2 * n = x := ⟨_, rfl⟩
  obtain ⟨l2, t2⟩ := mul_lim hn0 hn1 (bdB_yes.1 h 2 (by omega))
  have p2 := hu 2 (by omega)
  have m2 : x2.tmod d = 0 := by rw [← e2, Int.mul_comm, p2]; exact Int.mul_tmod_right _ _
  have q2 : x2.tdiv d = u 2 := by rw [← e2, Int.mul_comm, p2]; exact Int.mul_tdiv_cancel_left _ (by omega)
  obtain ⟨y2, z2⟩ := bd_quo (by omega) p2 l2 t2
  rw [show n * v 2 = x2 from by rw [Int.mul_comm]; exact e2] at l2 t2
  clear p2
  obtain ⟨x3, e3⟩ : ∃ x, v 3 * n = x := ⟨_, rfl⟩
  obtain ⟨l3, t3⟩ := mul_lim hn0 hn1 (bdB_yes.1 h 3 (by omega))
  have p3 := hu 3 (by omega)
  have m3 : x3.tmod d = 0 := by rw [← e3, Int.mul_comm, p3]; exact Int.mul_tmod_right _ _
  have q3 : x3.tdiv d = u 3 := by rw [← e3, Int.mul_comm, p3]; exact Int.mul_tdiv_cancel_left _ (by omega)
  obtain ⟨y3, z3⟩ := bd_quo (by omega) p3 l3 t3
  rw [show n * v 3 = x3 from by rw [Int.mul_comm]; exact e3] at l3 t3
  clear p3
  obtain ⟨x4, e4⟩ : ∃ x, v 4 * n = x := ⟨_, rfl⟩
  obtain ⟨l4, t4⟩ := mul_lim hn0 hn1 (bdB_yes.1 h 4 (by omega))
  have p4 := hu 4 (by omega)
  have m4 : x4.tmod d = 0 := by rw [← e4, Int.mul_comm, p4]; exact Int.mul_tmod_right _ _
  have q4 : x4.tdiv d = u 4 := by rw [← e4, Int.mul_comm, p4]; exact Int.mul_tdiv_cancel_left _ (by omega)
  obtain ⟨y4, z4⟩ := bd_quo (by omega) p4 l4 t4
  rw [show n * v 4 = x4 from by rw [Int.mul_comm]; exact e4] at l4 t4
  clear p4
  obtain ⟨x5, e5⟩ : ∃ x, v 5 * n = x := ⟨_, rfl⟩
  obtain ⟨l5, t5⟩ := mul_lim hn0 hn1 (bdB_yes.1 h 5 (by omega))
  have p5 := hu 5 (by omega)
  have m5 : x5.tmod d = 0 := by rw [← e5, Int.mul_comm, p5]; exact Int.mul_tmod_right _ _
  have q5 : x5.tdiv d = u 5 := by rw [← e5, Int.mul_comm, p5]; exact Int.mul_tdiv_cancel_left _ (by omega)
  obtain ⟨y5, z5⟩ := bd_quo (by omega) p5 l5 t5
  rw [show n * v 5 = x5 from by rw [Int.mul_comm]; exact e5] at l5 t5
  clear p5
  clear h hu hv
  go_enter Tryz.func18, Tryz.ntmps18
  go_wp2_with fail
  refine (H1.out _).mono ?_
  rintro e w1 ⟨rfl, hb⟩
  obtain ⟨hc1, hf1⟩ := bcell hb
  have hz1 := hb.size
  (try simp at hz1)
  have hB : Hx (Below w.heap.size w w1) := ⟨Below.trans (by repeat (first | with_reducible exact hB.out | with_reducible exact Below.refl _ _ | (with_reducible refine Below.setCell ?_ ?side _; case side => (first | omega | (simp <;> omega))) | (with_reducible refine Below.alloc ?_ ?side _; case side => (first | omega | (simp <;> omega))) | with_reducible apply below_drewN)) (hb.mono (by first | omega | (simp <;> omega)))⟩
  clear hb
  have hy1_0 : w.heap.size < w1.heap.size := by omega
  have hy1_1 : w.heap.size + 1 < w1.heap.size := by omega
  have HO : Hx (Cel (w.heap.size) w1 (v)) := by refine ⟨⟨six ?_ ?_ ?_ ?_ ?_ ?_, six ?_ ?_ ?_ ?_ ?_ ?_⟩⟩ <;> simp [go_sem, hc1, hf1]
  have HR : Hx (Cel (w.heap.size + 1) w1 (fun _ => 0)) := by refine ⟨⟨six ?_ ?_ ?_ ?_ ?_ ?_, six ?_ ?_ ?_ ?_ ?_ ?_⟩⟩ <;> simp [go_sem, hc1, hf1]
  clear hc1 hf1
  go_wp2_with fail
  go_loopw [9] (fun iv wr => ∃ k : Int, 0 ≤ k ∧ k ≤ 6 ∧ iv = .int .i64 k ∧ Hx (Cel (w.heap.size) wr (pre u v k)) ∧ Hx (Cel (w.heap.size + 1) wr (fun _ => 0)) ∧ Hx (Below w.heap.size w wr) ∧ w.heap.size + 1 < wr.heap.size) (fun iv _ => 6 - (intOf iv).toNat)
  case atStart => exact ⟨0, by omega, by omega, rfl, ⟨by rw [pre_zero]; exact HO.out⟩, HR, hB, by first | omega | (simp <;> omega)⟩
  case round =>
    obtain ⟨k, hk0, hk, rfl, HO, HR, hB, hsz⟩ := hrel
    have : k = 0 ∨ k = 1 ∨ k = 2 ∨ k = 3 ∨ k = 4 ∨ k = 5 ∨ k = 6 := by omega
    rcases this with rfl | rfl | rfl | rfl | rfl | rfl | rfl
    · have cHO0 : wr.cell? ⟨w.heap.size, 0, none⟩ = some (.int .i64 (v 0)) := by rw [HO.out.cell 0 (by omega), pre_at (k := 0) (k0 := 0) _ _ rfl]
      have fHO0 := HO.out.fz 0 (by omega)
      go_wp2
      go_roundw
      case rel => exact ⟨1, by omega, by omega, rfl, ⟨HO.out.set _ (by omega) (pre_step u _ rfl rfl rfl)⟩, ⟨HR.out.other _ (by omega)⟩, ⟨(by repeat (first | with_reducible exact hB.out | with_reducible exact Below.refl _ _ | (with_reducible refine Below.setCell ?_ ?side _; case side => (first | omega | (simp <;> omega))) | (with_reducible refine Below.alloc ?_ ?side _; case side => (first | omega | (simp <;> omega))) | with_reducible apply below_drewN | with_reducible apply Below.drew))⟩, by first | omega | (simp <;> omega)⟩
      case measure => simp [intOf]
    · have cHO1 : wr.cell? ⟨w.heap.size, 1, none⟩ = some (.int .i64 (v 1)) := by rw [HO.out.cell 1 (by omega), pre_at (k := 1) (k0 := 1) _ _ rfl]
      have fHO1 := HO.out.fz 1 (by omega)
      go_wp2
      go_roundw
      case rel => exact ⟨2, by omega, by omega, rfl, ⟨HO.out.set _ (by omega) (pre_step u _ rfl rfl rfl)⟩, ⟨HR.out.other _ (by omega)⟩, ⟨(by repeat (first | with_reducible exact hB.out | with_reducible exact Below.refl _ _ | (with_reducible refine Below.setCell ?_ ?side _; case side => (first | omega | (simp <;> omega))) | (with_reducible refine Below.alloc ?_ ?side _; case side => (first | omega | (simp <;> omega))) | with_reducible apply below_drewN | with_reducible apply Below.drew))⟩, by first | omega | (simp <;> omega)⟩
      case measure => simp [intOf]
    · have cHO2 : wr.cell? ⟨w.heap.size, 2, none⟩ = some (.int .i64 (v 2)) := by rw [HO.out.cell 2 (by omega), pre_at (k := 2) (k0 := 2) _ _ rfl]
      have fHO2 := HO.out.fz 2 (by omega)
      go_wp2
      go_roundw
      case rel => exact ⟨3, by omega, by omega, rfl, ⟨HO.out.set _ (by omega) (pre_step u _ rfl rfl rfl)⟩, ⟨HR.out.other _ (by omega)⟩, ⟨(by repeat (first | with_reducible exact hB.out | with_reducible exact Below.refl _ _ | (with_reducible refine Below.setCell ?_ ?side _; case side => (first | omega | (simp <;> omega))) | (with_reducible refine Below.alloc ?_ ?side _; case side => (first | omega | (simp <;> omega))) | with_reducible apply below_drewN | with_reducible apply Below.drew))⟩, by first | omega | (simp <;> omega)⟩
      case measure => simp [intOf]
    · have cHO3 : wr.cell? ⟨w.heap.size, 3, none⟩ = some (.int .i64 (v 3)) := by rw [HO.out.cell 3 (by omega), pre_at (k := 3) (k0 := 3) _ _ rfl]
      have fHO3 := HO.out.fz 3 (by omega)
      go_wp2
      go_roundw
      case rel => exact ⟨4, by omega, by omega, rfl, ⟨HO.out.set _ (by omega) (pre_step u _ rfl rfl rfl)⟩, ⟨HR.out.other _ (by omega)⟩, ⟨(by repeat (first | with_reducible exact hB.out | with_reducible exact Below.refl _ _ | (with_reducible refine Below.setCell ?_ ?side _; case side => (first | omega | (simp <;> omega))) | (with_reducible refine Below.alloc ?_ ?side _; case side => (first | omega | (simp <;> omega))) | with_reducible apply below_drewN | with_reducible apply Below.drew))⟩, by first | omega | (simp <;> omega)⟩
      case measure => simp [intOf]
    · have cHO4 : wr.cell? ⟨w.heap.size, 4, none⟩ = some (.int .i64 (v 4)) := by rw [HO.out.cell 4 (by omega), pre_at (k := 4) (k0 := 4) _ _ rfl]
      have fHO4 := HO.out.fz 4 (by omega)
      go_wp2
      go_roundw
      case rel => exact ⟨5, by omega, by omega, rfl, ⟨HO.out.set _ (by omega) (pre_step u _ rfl rfl rfl)⟩, ⟨HR.out.other _ (by omega)⟩, ⟨(by repeat (first | with_reducible exact hB.out | with_reducible exact Below.refl _ _ | (with_reducible refine Below.setCell ?_ ?side _; case side => (first | omega | (simp <;> omega))) | (with_reducible refine Below.alloc ?_ ?side _; case side => (first | omega | (simp <;> omega))) | with_reducible apply below_drewN | with_reducible apply Below.drew))⟩, by first | omega | (simp <;> omega)⟩
      case measure => simp [intOf]
    · have cHO5 : wr.cell? ⟨w.heap.size, 5, none⟩ = some (.int .i64 (v 5)) := by rw [HO.out.cell 5 (by omega), pre_at (k := 5) (k0 := 5) _ _ rfl]
      have fHO5 := HO.out.fz 5 (by omega)
      go_wp2
      go_roundw
      case rel => exact ⟨6, by omega, by omega, rfl, ⟨HO.out.set _ (by omega) (pre_step u _ rfl rfl rfl)⟩, ⟨HR.out.other _ (by omega)⟩, ⟨(by repeat (first | with_reducible exact hB.out | with_reducible exact Below.refl _ _ | (with_reducible refine Below.setCell ?_ ?side _; case side => (first | omega | (simp <;> omega))) | (with_reducible refine Below.alloc ?_ ?side _; case side => (first | omega | (simp <;> omega))) | with_reducible apply below_drewN | with_reducible apply Below.drew))⟩, by first | omega | (simp <;> omega)⟩
      case measure => simp [intOf]
    · have HO := Hx.mk (HO.out.congr (pre_six _ _))
      have cHO0 := HO.out.cell 0 (by omega)
      have fHO0 := HO.out.fz 0 (by omega)
      have cHO1 := HO.out.cell 1 (by omega)
      have fHO1 := HO.out.fz 1 (by omega)
      have cHO2 := HO.out.cell 2 (by omega)
      have fHO2 := HO.out.fz 2 (by omega)
      have cHO3 := HO.out.cell 3 (by omega)
      have fHO3 := HO.out.fz 3 (by omega)
      have cHO4 := HO.out.cell 4 (by omega)
      have fHO4 := HO.out.fz 4 (by omega)
      have cHO5 := HO.out.cell 5 (by omega)
      have fHO5 := HO.out.fz 5 (by omega)
      go_wp2_with fail
      refine (H3.out _).mono ?_
      rintro e w3 ⟨rfl, hb⟩
      have hB : Hx (Below w.heap.size w w3) := ⟨Below.trans hB.out (hb.mono (by omega))⟩
      have HO := Hx.mk (HO.out.later hb (by omega))
      have HR := Hx.mk (HR.out.later hb (by omega))
      clear cHO0 fHO0 cHO1 fHO1 cHO2 fHO2 cHO3 fHO3 cHO4 fHO4 cHO5 fHO5
      have cHO0 := HO.out.cell 0 (by omega)
      have fHO0 := HO.out.fz 0 (by omega)
      have cHO1 := HO.out.cell 1 (by omega)
      have fHO1 := HO.out.fz 1 (by omega)
      have cHO2 := HO.out.cell 2 (by omega)
      have fHO2 := HO.out.fz 2 (by omega)
      have cHO3 := HO.out.cell 3 (by omega)
      have fHO3 := HO.out.fz 3 (by omega)
      have cHO4 := HO.out.cell 4 (by omega)
      have fHO4 := HO.out.fz 4 (by omega)
      have cHO5 := HO.out.cell 5 (by omega)
      have fHO5 := HO.out.fz 5 (by omega)
      have cHR0 := HR.out.cell 0 (by omega)
      have fHR0 := HR.out.fz 0 (by omega)
      have cHR1 := HR.out.cell 1 (by omega)
      have fHR1 := HR.out.fz 1 (by omega)
      have cHR2 := HR.out.cell 2 (by omega)
      have fHR2 := HR.out.fz 2 (by omega)
      have cHR3 := HR.out.cell 3 (by omega)
      have fHR3 := HR.out.fz 3 (by omega)
      have cHR4 := HR.out.cell 4 (by omega)
      have fHR4 := HR.out.fz 4 (by omega)
      have cHR5 := HR.out.cell 5 (by omega)
      have fHR5 := HR.out.fz 5 (by omega)
      clear hb
      go_wp2_with fail
      refine bodyPost_ret_by (v := .tuple #[PV u, .int .i64 0]) (by simp [results, Tryz.results18, go_sem, cHR0, cHR1, cHR2, cHR3, cHR4, cHR5]) rfl ?_
      exact ⟨rfl, (by repeat (first | with_reducible exact hB.out | with_reducible exact Below.refl _ _ | (with_reducible refine Below.setCell ?_ ?side _; case side => (first | omega | (simp <;> omega))) | (with_reducible refine Below.alloc ?_ ?side _; case side => (first | omega | (simp <;> omega))) | with_reducible apply below_drewN | with_reducible apply Below.drew))⟩
set_option maxHeartbeats 2000000 in
theorem refPower_range (v u : Nat → Int) (n d : Int) (w : World) (h : bdB v 576 = true) (hn0 : -576 ≤ n) (hn1 : n ≤ 576) (hd0 : 1 ≤ d) (hd1 : d ≤ 12) (hu : ∀ i, i < 6 → n * v i = d * u i) (hv : bdB u 576 = false) : Calls Tryz.prog 18 #[PV v, .int .i64 n, .int .i64 d] w (OutV w (fun _ => 0) 3) := by
  have H1 := Hx.mk (fun w => refValid_any v w true h)
  have H3 := Hx.mk (fun w => refValid_any u w false hv)
  obtain ⟨x0, e0⟩ : ∃ x, v 0 * n = x := ⟨_, rfl⟩
  obtain ⟨l0, t0⟩ := mul_lim hn0 hn1 (bdB_yes.1 h 0 (by omega))
  have p0 := hu 0 (by omega)
  have m0 : x0.tmod d = 0 := by rw [← e0, Int.mul_comm, p0]; exact Int.mul_tmod_right _ _
  have q0 : x0.tdiv d = u 0 := by rw [← e0, Int.mul_comm, p0]; exact Int.mul_tdiv_cancel_left _ (by omega)
  obtain ⟨y0, z0⟩ := bd_quo (by omega) p0 l0 t0
  rw [show n * v 0 = x0 from by rw [Int.mul_comm]; exact e0] at l0 t0
  clear p0
  obtain ⟨x1, e1⟩ : ∃ x, v 1 * n = x := ⟨_, rfl⟩
  obtain ⟨l1, t1⟩ := mul_lim hn0 hn1 (bdB_yes.1 h 1 (by omega))
  have p1 := hu 1 (by omega)
  have m1 : x1.tmod d = 0 := by rw [← e1, Int.mul_comm, p1]; exact Int.mul_tmod_right _ _
  have q1 : x1.tdiv d = u 1 := by rw [← e1, Int.mul_comm, p1]; exact Int.mul_tdiv_cancel_left _ (by omega)
  obtain ⟨y1, z1⟩ := bd_quo (by omega) p1 l1 t1
  rw [show n * v 1 = x1 from by rw [Int.mul_comm]; exact e1] at l1 t1
  clear p1
  obtain ⟨x2, e2⟩ : ∃ x, v 2 * n = x := ⟨_, rfl⟩
  obtain ⟨l2, t2⟩ := mul_lim hn0 hn1 (bdB_yes.1 h 2 (by omega))
  have p2 := hu 2 (by omega)
  have m2 : x2.tmod d = 0 := by rw [← e2, Int.mul_comm, p2]; exact Int.mul_tmod_right _ _
  have q2 : x2.tdiv d = u 2 := by rw [← e2, Int.mul_comm, p2]; exact Int.mul_tdiv_cancel_left _ (by omega)
  obtain ⟨y2, z2⟩ := bd_quo (by omega) p2 l2 t2
  rw [show n * v 2 = x2 from by rw [Int.mul_comm]; exact e2] at l2 t2
  clear p2
  obtain ⟨x3, e3⟩ : ∃ x, v 3 * n = x := ⟨_, rfl⟩
  obtain ⟨l3, t3⟩ := mul_lim hn0 hn1 (bdB_yes.1 h 3 (by omega))
  have p3 := hu 3 (by omega)
  have m3 : x3.tmod d = 0 := by rw [← e3, Int.mul_comm, p3]; exact Int.mul_tmod_right _ _
  have q3 : x3.tdiv d = u 3 := by rw [← e3, Int.mul_comm, p3]; exact Int.mul_tdiv_cancel_left _ (by omega)
  obtain ⟨y3, z3⟩ := bd_quo (by omega) p3 l3 t3
  rw [show n * v 3 = x3 from by rw [Int.mul_comm]; exact e3] at l3 t3
  clear p3
  obtain ⟨x4, e4⟩ : ∃ x, v 4 * n = x := ⟨_, rfl⟩
  obtain ⟨l4, t4⟩ := mul_lim hn0 hn1 (bdB_yes.1 h 4 (by omega))
  have p4 := hu 4 (by omega)
  have m4 : x4.tmod d = 0 := by rw [← e4, Int.mul_comm, p4]; exact Int.mul_tmod_right _ _
  have q4 : x4.tdiv d = u 4 := by rw [← e4, Int.mul_comm, p4]; exact Int.mul_tdiv_cancel_left _ (by omega)
  obtain ⟨y4, z4⟩ := bd_quo (by omega) p4 l4 t4
  rw [show n * v 4 = x4 from by rw [Int.mul_comm]; exact e4] at l4 t4
  clear p4
  obtain ⟨x5, e5⟩ : ∃ x, v 5 * n = x := ⟨_, rfl⟩
  obtain ⟨l5, t5⟩ := mul_lim hn0 hn1 (bdB_yes.1 h 5 (by omega))
  have p5 := hu 5 (by omega)
  have m5 : x5.tmod d = 0 := by rw [← e5, Int.mul_comm, p5]; exact Int.mul_tmod_right _ _
  have q5 : x5.tdiv d = u 5 := by rw [← e5, Int.mul_comm, p5]; exact Int.mul_tdiv_cancel_left _ (by omega)
  obtain ⟨y5, z5⟩ := bd_quo (by omega) p5 l5 t5
  rw [show n * v 5 = x5 from by rw [Int.mul_comm]; exact e5] at l5 t5
  clear p5
  clear h hu hv
  go_enter Tryz.func18, Tryz.ntmps18
  go_wp2_with fail
  refine (H1.out _).mono ?_
  rintro e w1 ⟨rfl, hb⟩
  obtain ⟨hc1, hf1⟩ := bcell hb
  have hz1 := hb.size
  (try simp at hz1)
  have hB : Hx (Below w.heap.size w w1) := ⟨Below.trans (by repeat (first | with_reducible exact hB.out | with_reducible exact Below.refl _ _ | (with_reducible refine Below.setCell ?_ ?side _; case side => (first | omega | (simp <;> omega))) | (with_reducible refine Below.alloc ?_ ?side _; case side => (first | omega | (simp <;> omega))) | with_reducible apply below_drewN)) (hb.mono (by first | omega | (simp <;> omega)))⟩
  clear hb
  have hy1_0 : w.heap.size < w1.heap.size := by omega
  have hy1_1 : w.heap.size + 1 < w1.heap.size := by omega
  have HO : Hx (Cel (w.heap.size) w1 (v)) := by refine ⟨⟨six ?_ ?_ ?_ ?_ ?_ ?_, six ?_ ?_ ?_ ?_ ?_ ?_⟩⟩ <;> simp [go_sem, hc1, hf1]
  have HR : Hx (Cel (w.heap.size + 1) w1 (fun _ => 0)) := by refine ⟨⟨six ?_ ?_ ?_ ?_ ?_ ?_, six ?_ ?_ ?_ ?_ ?_ ?_⟩⟩ <;> simp [go_sem, hc1, hf1]
  clear hc1 hf1
  go_wp2_with fail
  go_loopw [9] (fun iv wr => ∃ k : Int, 0 ≤ k ∧ k ≤ 6 ∧ iv = .int .i64 k ∧ Hx (Cel (w.heap.size) wr (pre u v k)) ∧ Hx (Cel (w.heap.size + 1) wr (fun _ => 0)) ∧ Hx (Below w.heap.size w wr) ∧ w.heap.size + 1 < wr.heap.size) (fun iv _ => 6 - (intOf iv).toNat)
  case atStart => exact ⟨0, by omega, by omega, rfl, ⟨by rw [pre_zero]; exact HO.out⟩, HR, hB, by first | omega | (simp <;> omega)⟩
  case round =>
    obtain ⟨k, hk0, hk, rfl, HO, HR, hB, hsz⟩ := hrel
    have : k = 0 ∨ k = 1 ∨ k = 2 ∨ k = 3 ∨ k = 4 ∨ k = 5 ∨ k = 6 := by omega
    rcases this with rfl | rfl | rfl | rfl | rfl | rfl | rfl
    · have cHO0 : wr.cell? ⟨w.heap.size, 0, none⟩ = some (.int .i64 (v 0)) := by rw [HO.out.cell 0 (by omega), pre_at (k := 0) (k0 := 0) _ _ rfl]
      have fHO0 := HO.out.fz 0 (by omega)
      go_wp2
      go_roundw
      case rel => exact ⟨1, by omega, by omega, rfl, ⟨HO.out.set _ (by omega) (pre_step u _ rfl rfl rfl)⟩, ⟨HR.out.other _ (by omega)⟩, ⟨(by repeat (first | with_reducible exact hB.out | with_reducible exact Below.refl _ _ | (with_reducible refine Below.setCell ?_ ?side _; case side => (first | omega | (simp <;> omega))) | (with_reducible refine Below.alloc ?_ ?side _; case side => (first | omega | (simp <;> omega))) | with_reducible apply below_drewN | with_reducible apply Below.drew))⟩, by first | omega | (simp <;> omega)⟩
      case measure => simp [intOf]
    · have cHO1 : wr.cell? ⟨w.heap.size, 1, none⟩ = some (.int .i64 (v 1)) := by rw [HO.out.cell 1 (by omega), pre_at (k := 1) (k0 := 1) _ _ rfl]
      have fHO1 := HO.out.fz 1 (by omega)
      go_wp2
      go_roundw
      case rel => exact ⟨2, by omega, by omega, rfl, ⟨HO.out.set _ (by omega) (pre_step u _ rfl rfl rfl)⟩, ⟨HR.out.other _ (by omega)⟩, ⟨(by repeat (first | with_reducible exact hB.out | with_reducible exact Below.refl _ _ | (with_reducible refine Below.setCell ?_ ?side _; case side => (first | omega | (simp <;> omega))) | (with_reducible refine Below.alloc ?_ ?side _; case side => (first | omega | (simp <;> omega))) | with_reducible apply below_drewN | with_reducible apply Below.drew))⟩, by first | omega | (simp <;> omega)⟩
      case measure => simp [intOf]
    · have cHO2 : wr.cell? ⟨w.heap.size, 2, none⟩ = some (.int .i64 (v 2)) := by rw [HO.out.cell 2 (by omega), pre_at (k := 2) (k0 := 2) _ _ rfl]
      have fHO2 := HO.out.fz 2 (by omega)
      go_wp2
      go_roundw
      case rel => exact ⟨3, by omega, by omega, rfl, ⟨HO.out.set _ (by omega) (pre_step u _ rfl rfl rfl)⟩, ⟨HR.out.other _ (by omega)⟩, ⟨(by repeat (first | with_reducible exact hB.out | with_reducible exact Below.refl _ _ | (with_reducible refine Below.setCell ?_ ?side _; case side => (first | omega | (simp <;> omega))) | (with_reducible refine Below.alloc ?_ ?side _; case side => (first | omega | (simp <;> omega))) | with_reducible apply below_drewN | with_reducible apply Below.drew))⟩, by first | omega | (simp <;> omega)⟩
      case measure => simp [intOf]
    · have cHO3 : wr.cell? ⟨w.heap.size, 3, none⟩ = some (.int .i64 (v 3)) := by rw [HO.out.cell 3 (by omega), pre_at (k := 3) (k0 := 3) _ _ rfl]
      have fHO3 := HO.out.fz 3 (by omega)
      go_wp2
      go_roundw
      case rel => exact ⟨4, by omega, by omega, rfl, ⟨HO.out.set _ (by omega) (pre_step u _ rfl rfl rfl)⟩, ⟨HR.out.other _ (by omega)⟩, ⟨(by repeat (first | with_reducible exact hB.out | with_reducible exact Below.refl _ _ | (with_reducible refine Below.setCell ?_ ?side _; case side => (first | omega | (simp <;> omega))) | (with_reducible refine Below.alloc ?_ ?side _; case side => (first | omega | (simp <;> omega))) | with_reducible apply below_drewN | with_reducible apply Below.drew))⟩, by first | omega | (simp <;> omega)⟩
      case measure => simp [intOf]
    · have cHO4 : wr.cell? ⟨w.heap.size, 4, none⟩ = some (.int .i64 (v 4)) := by rw [HO.out.cell 4 (by omega), pre_at (k := 4) (k0 := 4) _ _ rfl]
      have fHO4 := HO.out.fz 4 (by omega)
      go_wp2
      go_roundw
      case rel => exact ⟨5, by omega, by omega, rfl, ⟨HO.out.set _ (by omega) (pre_step u _ rfl rfl rfl)⟩, ⟨HR.out.other _ (by omega)⟩, ⟨(by repeat (first | with_reducible exact hB.out | with_reducible exact Below.refl _ _ | (with_reducible refine Below.setCell ?_ ?side _; case side => (first | omega | (simp <;> omega))) | (with_reducible refine Below.alloc ?_ ?side _; case side => (first | omega | (simp <;> omega))) | with_reducible apply below_drewN | with_reducible apply Below.drew))⟩, by first | omega | (simp <;> omega)⟩
      case measure => simp [intOf]
    · have cHO5 : wr.cell? ⟨w.heap.size, 5, none⟩ = some (.int .i64 (v 5)) := by rw [HO.out.cell 5 (by omega), pre_at (k := 5) (k0 := 5) _ _ rfl]
      have fHO5 := HO.out.fz 5 (by omega)
      go_wp2
      go_roundw
      case rel => exact ⟨6, by omega, by omega, rfl, ⟨HO.out.set _ (by omega) (pre_step u _ rfl rfl rfl)⟩, ⟨HR.out.other _ (by omega)⟩, ⟨(by repeat (first | with_reducible exact hB.out | with_reducible exact Below.refl _ _ | (with_reducible refine Below.setCell ?_ ?side _; case side => (first | omega | (simp <;> omega))) | (with_reducible refine Below.alloc ?_ ?side _; case side => (first | omega | (simp <;> omega))) | with_reducible apply below_drewN | with_reducible apply Below.drew))⟩, by first | omega | (simp <;> omega)⟩
      case measure => simp [intOf]
    · have HO := Hx.mk (HO.out.congr (pre_six _ _))
      have cHO0 := HO.out.cell 0 (by omega)
      have fHO0 := HO.out.fz 0 (by omega)
      have cHO1 := HO.out.cell 1 (by omega)
      have fHO1 := HO.out.fz 1 (by omega)
      have cHO2 := HO.out.cell 2 (by omega)
      have fHO2 := HO.out.fz 2 (by omega)
      have cHO3 := HO.out.cell 3 (by omega)
      have fHO3 := HO.out.fz 3 (by omega)
      have cHO4 := HO.out.cell 4 (by omega)
      have fHO4 := HO.out.fz 4 (by omega)
      have cHO5 := HO.out.cell 5 (by omega)
      have fHO5 := HO.out.fz 5 (by omega)
      go_wp2_with fail
      refine (H3.out _).mono ?_
      rintro e w3 ⟨rfl, hb⟩
      have hB : Hx (Below w.heap.size w w3) := ⟨Below.trans hB.out (hb.mono (by omega))⟩
      have HO := Hx.mk (HO.out.later hb (by omega))
      have HR := Hx.mk (HR.out.later hb (by omega))
      clear cHO0 fHO0 cHO1 fHO1 cHO2 fHO2 cHO3 fHO3 cHO4 fHO4 cHO5 fHO5
      have cHO0 := HO.out.cell 0 (by omega)
      have fHO0 := HO.out.fz 0 (by omega)
      have cHO1 := HO.out.cell 1 (by omega)
      have fHO1 := HO.out.fz 1 (by omega)
      have cHO2 := HO.out.cell 2 (by omega)
      have fHO2 := HO.out.fz 2 (by omega)
      have cHO3 := HO.out.cell 3 (by omega)
      have fHO3 := HO.out.fz 3 (by omega)
      have cHO4 := HO.out.cell 4 (by omega)
      have fHO4 := HO.out.fz 4 (by omega)
      have cHO5 := HO.out.cell 5 (by omega)
      have fHO5 := HO.out.fz 5 (by omega)
      have cHR0 := HR.out.cell 0 (by omega)
      have fHR0 := HR.out.fz 0 (by omega)
      have cHR1 := HR.out.cell 1 (by omega)
      have fHR1 := HR.out.fz 1 (by omega)
      have cHR2 := HR.out.cell 2 (by omega)
      have fHR2 := HR.out.fz 2 (by omega)
      have cHR3 := HR.out.cell 3 (by omega)
      have fHR3 := HR.out.fz 3 (by omega)
      have cHR4 := HR.out.cell 4 (by omega)
      have fHR4 := HR.out.fz 4 (by omega)
      have cHR5 := HR.out.cell 5 (by omega)
      have fHR5 := HR.out.fz 5 (by omega)
      clear hb
      go_wp2_with fail
      refine bodyPost_ret_by (v := .tuple #[PV (fun _ => 0), .int .i64 3]) (by simp [results, Tryz.results18, go_sem, cHR0, cHR1, cHR2, cHR3, cHR4, cHR5]) rfl ?_
      exact ⟨rfl, (by repeat (first | with_reducible exact hB.out | with_reducible exact Below.refl _ _ | (with_reducible refine Below.setCell ?_ ?side _; case side => (first | omega | (simp <;> omega))) | (with_reducible refine Below.alloc ?_ ?side _; case side => (first | omega | (simp <;> omega))) | with_reducible apply below_drewN | with_reducible apply Below.drew))⟩
set_option maxHeartbeats 2000000 in
theorem refPower_kind (v : Nat → Int) (n d : Int) (w : World) (h : bdB v 576 = true) (hn0 : -576 ≤ n) (hn1 : n ≤ 576) (hd0 : 1 ≤ d) (hd1 : d ≤ 12) (hu : ∃ i, i < 6 ∧ ¬ (d ∣ n * v i)) : Calls Tryz.prog 18 #[PV v, .int .i64 n, .int .i64 d] w (OutV w (fun _ => 0) 9) := by
  have H1 := Hx.mk (fun w => refValid_any v w true h)
  have HU := Hx.mk hu
  obtain ⟨x0, e0⟩ : ∃ x, v 0 * n = x := ⟨_, rfl⟩
  obtain ⟨l0, t0⟩ := mul_lim hn0 hn1 (bdB_yes.1 h 0 (by omega))
  rw [show n * v 0 = x0 from by rw [Int.mul_comm]; exact e0] at l0 t0
  obtain ⟨x1, e1⟩ : ∃ x, v 1 * n = x := ⟨_, rfl⟩
  obtain ⟨l1, t1⟩ := mul_lim hn0 hn1 (bdB_yes.1 h 1 (by omega))
  rw [show n * v 1 = x1 from by rw [Int.mul_comm]; exact e1] at l1 t1
  obtain ⟨x2, e2⟩ : ∃ x, v 2 * n = x := ⟨_, rfl⟩
  obtain ⟨l2, t2⟩ := mul_lim hn0 hn1 (bdB_yes.1 h 2 (by omega))
  rw [show n * v 2 = x2 from by rw [Int.mul_comm]; exact e2] at l2 t2
  obtain ⟨x3, e3⟩ : ∃ x, v 3 * n = x := ⟨_, rfl⟩
  obtain ⟨l3, t3⟩ := mul_lim hn0 hn1 (bdB_yes.1 h 3 (by omega))
  rw [show n * v 3 = x3 from by rw [Int.mul_comm]; exact e3] at l3 t3
  obtain ⟨x4, e4⟩ : ∃ x, v 4 * n = x := ⟨_, rfl⟩
  obtain ⟨l4, t4⟩ := mul_lim hn0 hn1 (bdB_yes.1 h 4 (by omega))
  rw [show n * v 4 = x4 from by rw [Int.mul_comm]; exact e4] at l4 t4
  obtain ⟨x5, e5⟩ : ∃ x, v 5 * n = x := ⟨_, rfl⟩
  obtain ⟨l5, t5⟩ := mul_lim hn0 hn1 (bdB_yes.1 h 5 (by omega))
  rw [show n * v 5 = x5 from by rw [Int.mul_comm]; exact e5] at l5 t5
  clear h hu
  go_enter Tryz.func18, Tryz.ntmps18
  go_wp2_with fail
  refine (H1.out _).mono ?_
  rintro e w1 ⟨rfl, hb⟩
  obtain ⟨hc1, hf1⟩ := bcell hb
  have hz1 := hb.size
  (try simp at hz1)
  have hB : Hx (Below w.heap.size w w1) := ⟨Below.trans (by repeat (first | with_reducible exact hB.out | with_reducible exact Below.refl _ _ | (with_reducible refine Below.setCell ?_ ?side _; case side => (first | omega | (simp <;> omega))) | (with_reducible refine Below.alloc ?_ ?side _; case side => (first | omega | (simp <;> omega))) | with_reducible apply below_drewN)) (hb.mono (by first | omega | (simp <;> omega)))⟩
  clear hb
  have hy1_0 : w.heap.size < w1.heap.size := by omega
  have hy1_1 : w.heap.size + 1 < w1.heap.size := by omega
  have HO : Hx (Cel (w.heap.size) w1 (v)) := by refine ⟨⟨six ?_ ?_ ?_ ?_ ?_ ?_, six ?_ ?_ ?_ ?_ ?_ ?_⟩⟩ <;> simp [go_sem, hc1, hf1]
  have HR : Hx (Cel (w.heap.size + 1) w1 (fun _ => 0)) := by refine ⟨⟨six ?_ ?_ ?_ ?_ ?_ ?_, six ?_ ?_ ?_ ?_ ?_ ?_⟩⟩ <;> simp [go_sem, hc1, hf1]
  clear hc1 hf1
  go_wp2_with fail
  go_loopw [9] (fun iv wr => ∃ (k : Int) (q : Nat → Int), 0 ≤ k ∧ k ≤ 6 ∧ iv = .int .i64 k ∧ Hx (Cel (w.heap.size) wr q) ∧ Hx (Cel (w.heap.size + 1) wr (fun _ => 0)) ∧ Hx (Below w.heap.size w wr) ∧ Hx (∀ j : Nat, (j : Int) < k → d ∣ n * v j) ∧ Hx (∀ j : Nat, k ≤ (j : Int) → q j = v j)) (fun iv _ => 6 - (intOf iv).toNat)
  case atStart => exact ⟨0, _, by omega, by omega, rfl, HO, HR, hB, ⟨fun j hj => by omega⟩, ⟨fun _ _ => rfl⟩⟩
  case round =>
    obtain ⟨k, q, hk0, hk, rfl, HO, HR, hB, HD, HQ⟩ := hrel
    have : k = 0 ∨ k = 1 ∨ k = 2 ∨ k = 3 ∨ k = 4 ∨ k = 5 ∨ k = 6 := by omega
    rcases this with rfl | rfl | rfl | rfl | rfl | rfl | rfl
    · have cHO0 := HO.out.cell 0 (by omega)
      have fHO0 := HO.out.fz 0 (by omega)
      rw [HQ.out 0 (by omega)] at cHO0
      by_cases m0 : x0.tmod d = 0
      · obtain ⟨q0, k0⟩ : ∃ q, x0.tdiv d = q := ⟨_, rfl⟩
        have HD2 : Hx (∀ j : Nat, (j : Int) < 1 → d ∣ n * v j) := ⟨fun j hj => by
          by_cases e : j = 0
          · subst e; rw [Int.mul_comm, e0]; exact Int.dvd_of_tmod_eq_zero m0
          · exact HD.out j (by omega)⟩
        have HQ2 : Hx (∀ (x : Int) (j : Nat), (1 : Int) ≤ (j : Int) → (if j = 0 then x else q j) = v j) := ⟨fun x j hj => by
          rw [if_neg (by omega)]; exact HQ.out j (by omega)⟩
        go_wp2
        go_roundw
        case rel => exact ⟨1, fun j => if j = 0 then _ else q j, by omega, by omega, rfl, ⟨HO.out.set _ (by omega) (fun _ _ => rfl)⟩, ⟨HR.out.other _ (by omega)⟩, ⟨(by repeat (first | with_reducible exact hB.out | with_reducible exact Below.refl _ _ | (with_reducible refine Below.setCell ?_ ?side _; case side => (first | omega | (simp <;> omega))) | (with_reducible refine Below.alloc ?_ ?side _; case side => (first | omega | (simp <;> omega))) | with_reducible apply below_drewN | with_reducible apply Below.drew))⟩, HD2, ⟨HQ2.out _⟩⟩
        case measure => simp [intOf]
      · have zz : (x0.tmod d == 0) = false := beq_eq_false_iff_ne.2 m0
        have zn : (x0.tmod d != 0) = true := by rw [bne_iff_ne]; exact m0
        clear m0
        have cHR0 := HR.out.cell 0 (by omega)
        have fHR0 := HR.out.fz 0 (by omega)
        have cHR1 := HR.out.cell 1 (by omega)
        have fHR1 := HR.out.fz 1 (by omega)
        have cHR2 := HR.out.cell 2 (by omega)
        have fHR2 := HR.out.fz 2 (by omega)
        have cHR3 := HR.out.cell 3 (by omega)
        have fHR3 := HR.out.fz 3 (by omega)
        have cHR4 := HR.out.cell 4 (by omega)
        have fHR4 := HR.out.fz 4 (by omega)
        have cHR5 := HR.out.cell 5 (by omega)
        have fHR5 := HR.out.fz 5 (by omega)
        go_wp2
        refine bodyPost_ret_by (v := .tuple #[PV fun _ => 0, .int .i64 9]) (by simp [results, Tryz.results18, go_sem, cHR0, cHR1, cHR2, cHR3, cHR4, cHR5]) rfl ?_
        exact ⟨rfl, (by repeat (first | with_reducible exact hB.out | with_reducible exact Below.refl _ _ | (with_reducible refine Below.setCell ?_ ?side _; case side => (first | omega | (simp <;> omega))) | (with_reducible refine Below.alloc ?_ ?side _; case side => (first | omega | (simp <;> omega))) | with_reducible apply below_drewN | with_reducible apply Below.drew))⟩
    · have cHO1 := HO.out.cell 1 (by omega)
      have fHO1 := HO.out.fz 1 (by omega)
      rw [HQ.out 1 (by omega)] at cHO1
      by_cases m1 : x1.tmod d = 0
      · obtain ⟨q1, k1⟩ : ∃ q, x1.tdiv d = q := ⟨_, rfl⟩
        have HD2 : Hx (∀ j : Nat, (j : Int) < 2 → d ∣ n * v j) := ⟨fun j hj => by
          by_cases e : j = 1
          · subst e; rw [Int.mul_comm, e1]; exact Int.dvd_of_tmod_eq_zero m1
          · exact HD.out j (by omega)⟩
        have HQ2 : Hx (∀ (x : Int) (j : Nat), (2 : Int) ≤ (j : Int) → (if j = 1 then x else q j) = v j) := ⟨fun x j hj => by
          rw [if_neg (by omega)]; exact HQ.out j (by omega)⟩
        go_wp2
        go_roundw
        case rel => exact ⟨2, fun j => if j = 1 then _ else q j, by omega, by omega, rfl, ⟨HO.out.set _ (by omega) (fun _ _ => rfl)⟩, ⟨HR.out.other _ (by omega)⟩, ⟨(by repeat (first | with_reducible exact hB.out | with_reducible exact Below.refl _ _ | (with_reducible refine Below.setCell ?_ ?side _; case side => (first | omega | (simp <;> omega))) | (with_reducible refine Below.alloc ?_ ?side _; case side => (first | omega | (simp <;> omega))) | with_reducible apply below_drewN | with_reducible apply Below.drew))⟩, HD2, ⟨HQ2.out _⟩⟩
        case measure => simp [intOf]
      · have zz : (x1.tmod d == 0) = false := beq_eq_false_iff_ne.2 m1
        have zn : (x1.tmod d != 0) = true := by rw [bne_iff_ne]; exact m1
        clear m1
        have cHR0 := HR.out.cell 0 (by omega)
        have fHR0 := HR.out.fz 0 (by omega)
        have cHR1 := HR.out.cell 1 (by omega)
        have fHR1 := HR.out.fz 1 (by omega)
        have cHR2 := HR.out.cell 2 (by omega)
        have fHR2 := HR.out.fz 2 (by omega)
        have cHR3 := HR.out.cell 3 (by omega)
        have fHR3 := HR.out.fz 3 (by omega)
        have cHR4 := HR.out.cell 4 (by omega)
        have fHR4 := HR.out.fz 4 (by omega)
        have cHR5 := HR.out.cell 5 (by omega)
        have fHR5 := HR.out.fz 5 (by omega)
        go_wp2
        refine bodyPost_ret_by (v := .tuple #[PV fun _ => 0, .int .i64 9]) (by simp [results, Tryz.results18, go_sem, cHR0, cHR1, cHR2, cHR3, cHR4, cHR5]) rfl ?_
        exact ⟨rfl, (by repeat (first | with_reducible exact hB.out | with_reducible exact Below.refl _ _ | (with_reducible refine Below.setCell ?_ ?side _; case side => (first | omega | (simp <;> omega))) | (with_reducible refine Below.alloc ?_ ?side _; case side => (first | omega | (simp <;> omega))) | with_reducible apply below_drewN | with_reducible apply Below.drew))⟩
    · have cHO2 := HO.out.cell 2 (by omega)
      have fHO2 := HO.out.fz 2 (by omega)
      rw [HQ.out 2 (by omega)] at cHO2
      by_cases m2 : x2.tmod d = 0
      · obtain ⟨q2, k2⟩ : ∃ q, x2.tdiv d = q := ⟨_, rfl⟩
        have HD2 : Hx (∀ j : Nat, (j : Int) < 3 → d ∣ n * v j) := ⟨fun j hj => by
          by_cases e : j = 2
          · subst e; rw [Int.mul_comm, e2]; exact Int.dvd_of_tmod_eq_zero m2
          · exact HD.out j (by omega)⟩
        have HQ2 : Hx (∀ (x : Int) (j : Nat), (3 : Int) ≤ (j : Int) → (if j = 2 then x else q j) = v j) := ⟨fun x j hj => by
          rw [if_neg (by omega)]; exact HQ.out j (by omega)⟩
        go_wp2
        go_roundw
        case rel => exact ⟨3, fun j => if j = 2 then _ else q j, by omega, by omega, rfl, ⟨HO.out.set _ (by omega) (fun _ _ => rfl)⟩, ⟨HR.out.other _ (by omega)⟩, ⟨(by repeat (first | with_reducible exact hB.out | with_reducible exact Below.refl _ _ | (with_reducible refine Below.setCell ?_ ?side _; case side => (first | omega | (simp <;> omega))) | (with_reducible refine Below.alloc ?_ ?side _; case side => (first | omega | (simp <;> omega))) | with_reducible apply below_drewN | with_reducible apply Below.drew))⟩, HD2, ⟨HQ2.out _⟩⟩
        case measure => simp [intOf]
      · have zz : (x2.tmod d == 0) = false := beq_eq_false_iff_ne.2 m2
        have zn : (x2.tmod d != 0) = true := by rw [bne_iff_ne]; exact m2
        clear m2
        have cHR0 := HR.out.cell 0 (by omega)
        have fHR0 := HR.out.fz 0 (by omega)
        have cHR1 := HR.out.cell 1 (by omega)
        have fHR1 := HR.out.fz 1 (by omega)
        have cHR2 := HR.out.cell 2 (by omega)
        have fHR2 := HR.out.fz 2 (by omega)
        have cHR3 := HR.out.cell 3 (by omega)
        have fHR3 := HR.out.fz 3 (by omega)
        have cHR4 := HR.out.cell 4 (by omega)
        have fHR4 := HR.out.fz 4 (by omega)
        have cHR5 := HR.out.cell 5 (by omega)
        have fHR5 := HR.out.fz 5 (by omega)
        go_wp2
        refine bodyPost_ret_by (v := .tuple #[PV fun _ => 0, .int .i64 9]) (by simp [results, Tryz.results18, go_sem, cHR0, cHR1, cHR2, cHR3, cHR4, cHR5]) rfl ?_
        exact ⟨rfl, (by repeat (first | with_reducible exact hB.out | with_reducible exact Below.refl _ _ | (with_reducible refine Below.setCell ?_ ?side _; case side => (first | omega | (simp <;> omega))) | (with_reducible refine Below.alloc ?_ ?side _; case side => (first | omega | (simp <;> omega))) | with_reducible apply below_drewN | with_reducible apply Below.drew))⟩
    · have cHO3 := HO.out.cell 3 (by omega)
      have fHO3 := HO.out.fz 3 (by omega)
      rw [HQ.out 3 (by omega)] at cHO3
      by_cases m3 : x3.tmod d = 0
      · obtain ⟨q3, k3⟩ : ∃ q, x3.tdiv d = q := ⟨_, rfl⟩
        have HD2 : Hx (∀ j : Nat, (j : Int) < 4 → d ∣ n * v j) := ⟨fun j hj => by
          by_cases e : j = 3
          · subst e; rw [Int.mul_comm, e3]; exact Int.dvd_of_tmod_eq_zero m3
          · exact HD.out j (by omega)⟩
        have HQ2 : Hx (∀ (x : Int) (j : Nat), (4 : Int) ≤ (j : Int) → (if j = 3 then x else q j) = v j) := ⟨fun x j hj => by
          rw [if_neg (by omega)]; exact HQ.out j (by omega)⟩
        go_wp2
        go_roundw
        case rel => exact ⟨4, fun j => if j = 3 then _ else q j, by omega, by omega, rfl, ⟨HO.out.set _ (by omega) (fun _ _ => rfl)⟩, ⟨HR.out.other _ (by omega)⟩, ⟨(by repeat (first | with_reducible exact hB.out | with_reducible exact Below.refl _ _ | (with_reducible refine Below.setCell ?_ ?side _; case side => (first | omega | (simp <;> omega))) | (with_reducible refine Below.alloc ?_ ?side _; case side => (first | omega | (simp <;> omega))) | with_reducible apply below_drewN | with_reducible apply Below.drew))⟩, HD2, ⟨HQ2.out _⟩⟩
        case measure => simp [intOf]
      · have zz : (x3.tmod d == 0) = false := beq_eq_false_iff_ne.2 m3
        have zn : (x3.tmod d != 0) = true := by rw [bne_iff_ne]; exact m3
        clear m3
        have cHR0 := HR.out.cell 0 (by omega)
        have fHR0 := HR.out.fz 0 (by omega)
        have cHR1 := HR.out.cell 1 (by omega)
        have fHR1 := HR.out.fz 1 (by omega)
        have cHR2 := HR.out.cell 2 (by omega)
        have fHR2 := HR.out.fz 2 (by omega)
        have cHR3 := HR.out.cell 3 (by omega)
        have fHR3 := HR.out.fz 3 (by omega)
        have cHR4 := HR.out.cell 4 (by omega)
        have fHR4 := HR.out.fz 4 (by omega)
        have cHR5 := HR.out.cell 5 (by omega)
        have fHR5 := HR.out.fz 5 (by omega)
        go_wp2
        refine bodyPost_ret_by (v := .tuple #[PV fun _ => 0, .int .i64 9]) (by simp [results, Tryz.results18, go_sem, cHR0, cHR1, cHR2, cHR3, cHR4, cHR5]) rfl ?_
        exact ⟨rfl, (by repeat (first | with_reducible exact hB.out | with_reducible exact Below.refl _ _ | (with_reducible refine Below.setCell ?_ ?side _; case side => (first | omega | (simp <;> omega))) | (with_reducible refine Below.alloc ?_ ?side _; case side => (first | omega | (simp <;> omega))) | with_reducible apply below_drewN | with_reducible apply Below.drew))⟩
    · have cHO4 := HO.out.cell 4 (by omega)
      have fHO4 := HO.out.fz 4 (by omega)
      rw [HQ.out 4 (by omega)] at cHO4
      by_cases m4 : x4.tmod d = 0
      · obtain ⟨q4, k4⟩ : ∃ q, x4.tdiv d = q := ⟨_, rfl⟩
        have HD2 : Hx (∀ j : Nat, (j : Int) < 5 → d ∣ n * v j) := ⟨fun j hj => by
          by_cases e : j = 4
          · subst e; rw [Int.mul_comm, e4]; exact Int.dvd_of_tmod_eq_zero m4
          · exact HD.out j (by omega)⟩
        have HQ2 : Hx (∀ (x : Int) (j : Nat), (5 : Int) ≤ (j : Int) → (if j = 4 then x else q j) = v j) := ⟨fun x j hj => by
          rw [if_neg (by omega)]; exact HQ.out j (by omega)⟩
        go_wp2
        go_roundw
        case rel => exact ⟨5, fun j => if j = 4 then _ else q j, by omega, by omega, rfl, ⟨HO.out.set _ (by omega) (fun _ _ => rfl)⟩, ⟨HR.out.other _ (by omega)⟩, ⟨(by repeat (first | with_reducible exact hB.out | with_reducible exact Below.refl _ _ | (with_reducible refine Below.setCell ?_ ?side _; case side => (first | omega | (simp <;> omega))) | (with_reducible refine Below.alloc ?_ ?side _; case side => (first | omega | (simp <;> omega))) | with_reducible apply below_drewN | with_reducible apply Below.drew))⟩, HD2, ⟨HQ2.out _⟩⟩
        case measure => simp [intOf]
      · have zz : (x4.tmod d == 0) = false := beq_eq_false_iff_ne.2 m4
        have zn : (x4.tmod d != 0) = true := by rw [bne_iff_ne]; exact m4
        clear m4
        have cHR0 := HR.out.cell 0 (by omega)
        have fHR0 := HR.out.fz 0 (by omega)
        have cHR1 := HR.out.cell 1 (by omega)
        have fHR1 := HR.out.fz 1 (by omega)
        have cHR2 := HR.out.cell 2 (by omega)
        have fHR2 := HR.out.fz 2 (by omega)
        have cHR3 := HR.out.cell 3 (by omega)
        have fHR3 := HR.out.fz 3 (by omega)
        have cHR4 := HR.out.cell 4 (by omega)
        have fHR4 := HR.out.fz 4 (by omega)
        have cHR5 := HR.out.cell 5 (by omega)
        have fHR5 := HR.out.fz 5 (by omega)
        go_wp2
        refine bodyPost_ret_by (v := .tuple #[PV fun _ => 0, .int .i64 9]) (by simp [results, Tryz.results18, go_sem, cHR0, cHR1, cHR2, cHR3, cHR4, cHR5]) rfl ?_
        exact ⟨rfl, (by repeat (first | with_reducible exact hB.out | with_reducible exact Below.refl _ _ | (with_reducible refine Below.setCell ?_ ?side _; case side => (first | omega | (simp <;> omega))) | (with_reducible refine Below.alloc ?_ ?side _; case side => (first | omega | (simp <;> omega))) | with_reducible apply below_drewN | with_reducible apply Below.drew))⟩
    · have cHO5 := HO.out.cell 5 (by omega)
      have fHO5 := HO.out.fz 5 (by omega)
      rw [HQ.out 5 (by omega)] at cHO5
      by_cases m5 : x5.tmod d = 0
      · obtain ⟨q5, k5⟩ : ∃ q, x5.tdiv d = q := ⟨_, rfl⟩
        have HD2 : Hx (∀ j : Nat, (j : Int) < 6 → d ∣ n * v j) := ⟨fun j hj => by
          by_cases e : j = 5
          · subst e; rw [Int.mul_comm, e5]; exact Int.dvd_of_tmod_eq_zero m5
          · exact HD.out j (by omega)⟩
        have HQ2 : Hx (∀ (x : Int) (j : Nat), (6 : Int) ≤ (j : Int) → (if j = 5 then x else q j) = v j) := ⟨fun x j hj => by
          rw [if_neg (by omega)]; exact HQ.out j (by omega)⟩
        go_wp2
        go_roundw
        case rel => exact ⟨6, fun j => if j = 5 then _ else q j, by omega, by omega, rfl, ⟨HO.out.set _ (by omega) (fun _ _ => rfl)⟩, ⟨HR.out.other _ (by omega)⟩, ⟨(by repeat (first | with_reducible exact hB.out | with_reducible exact Below.refl _ _ | (with_reducible refine Below.setCell ?_ ?side _; case side => (first | omega | (simp <;> omega))) | (with_reducible refine Below.alloc ?_ ?side _; case side => (first | omega | (simp <;> omega))) | with_reducible apply below_drewN | with_reducible apply Below.drew))⟩, HD2, ⟨HQ2.out _⟩⟩
        case measure => simp [intOf]
      · have zz : (x5.tmod d == 0) = false := beq_eq_false_iff_ne.2 m5
        have zn : (x5.tmod d != 0) = true := by rw [bne_iff_ne]; exact m5
        clear m5
        have cHR0 := HR.out.cell 0 (by omega)
        have fHR0 := HR.out.fz 0 (by omega)
        have cHR1 := HR.out.cell 1 (by omega)
        have fHR1 := HR.out.fz 1 (by omega)
        have cHR2 := HR.out.cell 2 (by omega)
        have fHR2 := HR.out.fz 2 (by omega)
        have cHR3 := HR.out.cell 3 (by omega)
        have fHR3 := HR.out.fz 3 (by omega)
        have cHR4 := HR.out.cell 4 (by omega)
        have fHR4 := HR.out.fz 4 (by omega)
        have cHR5 := HR.out.cell 5 (by omega)
        have fHR5 := HR.out.fz 5 (by omega)
        go_wp2
        refine bodyPost_ret_by (v := .tuple #[PV fun _ => 0, .int .i64 9]) (by simp [results, Tryz.results18, go_sem, cHR0, cHR1, cHR2, cHR3, cHR4, cHR5]) rfl ?_
        exact ⟨rfl, (by repeat (first | with_reducible exact hB.out | with_reducible exact Below.refl _ _ | (with_reducible refine Below.setCell ?_ ?side _; case side => (first | omega | (simp <;> omega))) | (with_reducible refine Below.alloc ?_ ?side _; case side => (first | omega | (simp <;> omega))) | with_reducible apply below_drewN | with_reducible apply Below.drew))⟩
    · exfalso
      obtain ⟨i, hi, hn⟩ := HU.out
      exact hn (HD.out i (by omega))
theorem refPower_v (v : Nat → Int) (n d : Int) (w : World) (h : bdB v 576 = false) : Calls Tryz.prog 18 #[PV v, .int .i64 n, .int .i64 d] w (OutV w (fun _ => 0) 1) := by
  have H1 := Hx.mk (fun w => refValid_any v w false h)
  clear h
  go_enter Tryz.func18, Tryz.ntmps18
  go_wp2_with fail
  refine (H1.out _).mono ?_
  rintro e w1 ⟨rfl, hb⟩
  obtain ⟨hc1, hf1⟩ := bcell hb
  have hz1 := hb.size
  (try simp at hz1)
  have hB : Hx (Below w.heap.size w w1) := ⟨Below.trans (by repeat (first | with_reducible exact hB.out | with_reducible exact Below.refl _ _ | (with_reducible refine Below.setCell ?_ ?side _; case side => (first | omega | (simp <;> omega))) | (with_reducible refine Below.alloc ?_ ?side _; case side => (first | omega | (simp <;> omega))) | with_reducible apply below_drewN)) (hb.mono (by first | omega | (simp <;> omega)))⟩
  clear hb
  have hy1_0 : w.heap.size < w1.heap.size := by omega
  have hy1_1 : w.heap.size + 1 < w1.heap.size := by omega
  go_wp2_with fail
  refine bodyPost_ret_by (v := .tuple #[PV fun _ => 0, .int .i64 1]) (by simp [results, Tryz.results18, go_sem, hc1]) rfl ?_
  exact ⟨rfl, (by repeat (first | with_reducible exact hB.out | with_reducible exact Below.refl _ _ | (with_reducible refine Below.setCell ?_ ?side _; case side => (first | omega | (simp <;> omega))) | (with_reducible refine Below.alloc ?_ ?side _; case side => (first | omega | (simp <;> omega))) | with_reducible apply below_drewN))⟩
theorem refPower_n0 (v : Nat → Int) (n d : Int) (w : World) (h : bdB v 576 = true) (h1 : n < -576) : Calls Tryz.prog 18 #[PV v, .int .i64 n, .int .i64 d] w (OutV w (fun _ => 0) 1) := by
  have H1 := Hx.mk (fun w => refValid_any v w true h)
  clear h
  go_enter Tryz.func18, Tryz.ntmps18
  go_wp2_with fail
  refine (H1.out _).mono ?_
  rintro e w1 ⟨rfl, hb⟩
  obtain ⟨hc1, hf1⟩ := bcell hb
  have hz1 := hb.size
  (try simp at hz1)
  have hB : Hx (Below w.heap.size w w1) := ⟨Below.trans (by repeat (first | with_reducible exact hB.out | with_reducible exact Below.refl _ _ | (with_reducible refine Below.setCell ?_ ?side _; case side => (first | omega | (simp <;> omega))) | (with_reducible refine Below.alloc ?_ ?side _; case side => (first | omega | (simp <;> omega))) | with_reducible apply below_drewN)) (hb.mono (by first | omega | (simp <;> omega)))⟩
  clear hb
  have hy1_0 : w.heap.size < w1.heap.size := by omega
  have hy1_1 : w.heap.size + 1 < w1.heap.size := by omega
  go_wp2_with fail
  refine bodyPost_ret_by (v := .tuple #[PV fun _ => 0, .int .i64 1]) (by simp [results, Tryz.results18, go_sem, hc1]) rfl ?_
  exact ⟨rfl, (by repeat (first | with_reducible exact hB.out | with_reducible exact Below.refl _ _ | (with_reducible refine Below.setCell ?_ ?side _; case side => (first | omega | (simp <;> omega))) | (with_reducible refine Below.alloc ?_ ?side _; case side => (first | omega | (simp <;> omega))) | with_reducible apply below_drewN))⟩
theorem refPower_n1 (v : Nat → Int) (n d : Int) (w : World) (h : bdB v 576 = true) (h0 : -576 ≤ n) (h1 : 576 < n) : Calls Tryz.prog 18 #[PV v, .int .i64 n, .int .i64 d] w (OutV w (fun _ => 0) 1) := by
  have H1 := Hx.mk (fun w => refValid_any v w true h)
  clear h
  go_enter Tryz.func18, Tryz.ntmps18
  go_wp2_with fail
  refine (H1.out _).mono ?_
  rintro e w1 ⟨rfl, hb⟩
  obtain ⟨hc1, hf1⟩ := bcell hb
  have hz1 := hb.size
  (try simp at hz1)
  have hB : Hx (Below w.heap.size w w1) := ⟨Below.trans (by repeat (first | with_reducible exact hB.out | with_reducible exact Below.refl _ _ | (with_reducible refine Below.setCell ?_ ?side _; case side => (first | omega | (simp <;> omega))) | (with_reducible refine Below.alloc ?_ ?side _; case side => (first | omega | (simp <;> omega))) | with_reducible apply below_drewN)) (hb.mono (by first | omega | (simp <;> omega)))⟩
  clear hb
  have hy1_0 : w.heap.size < w1.heap.size := by omega
  have hy1_1 : w.heap.size + 1 < w1.heap.size := by omega
  go_wp2_with fail
  refine bodyPost_ret_by (v := .tuple #[PV fun _ => 0, .int .i64 1]) (by simp [results, Tryz.results18, go_sem, hc1]) rfl ?_
  exact ⟨rfl, (by repeat (first | with_reducible exact hB.out | with_reducible exact Below.refl _ _ | (with_reducible refine Below.setCell ?_ ?side _; case side => (first | omega | (simp <;> omega))) | (with_reducible refine Below.alloc ?_ ?side _; case side => (first | omega | (simp <;> omega))) | with_reducible apply below_drewN))⟩
theorem refPower_d0 (v : Nat → Int) (n d : Int) (w : World) (h : bdB v 576 = true) (h0 : -576 ≤ n) (h01 : n ≤ 576) (h1 : d < 1) : Calls Tryz.prog 18 #[PV v, .int .i64 n, .int .i64 d] w (OutV w (fun _ => 0) 1) := by
  have H1 := Hx.mk (fun w => refValid_any v w true h)
  clear h
  go_enter Tryz.func18, Tryz.ntmps18
  go_wp2_with fail
  refine (H1.out _).mono ?_
  rintro e w1 ⟨rfl, hb⟩
  obtain ⟨hc1, hf1⟩ := bcell hb
  have hz1 := hb.size
  (try simp at hz1)
  have hB : Hx (Below w.heap.size w w1) := ⟨Below.trans (by repeat (first | with_reducible exact hB.out | with_reducible exact Below.refl _ _ | (with_reducible refine Below.setCell ?_ ?side _; case side => (first | omega | (simp <;> omega))) | (with_reducible refine Below.alloc ?_ ?side _; case side => (first | omega | (simp <;> omega))) | with_reducible apply below_drewN)) (hb.mono (by first | omega | (simp <;> omega)))⟩
  clear hb
  have hy1_0 : w.heap.size < w1.heap.size := by omega
  have hy1_1 : w.heap.size + 1 < w1.heap.size := by omega
  go_wp2_with fail
  refine bodyPost_ret_by (v := .tuple #[PV fun _ => 0, .int .i64 1]) (by simp [results, Tryz.results18, go_sem, hc1]) rfl ?_
  exact ⟨rfl, (by repeat (first | with_reducible exact hB.out | with_reducible exact Below.refl _ _ | (with_reducible refine Below.setCell ?_ ?side _; case side => (first | omega | (simp <;> omega))) | (with_reducible refine Below.alloc ?_ ?side _; case side => (first | omega | (simp <;> omega))) | with_reducible apply below_drewN))⟩
theorem refPower_d1 (v : Nat → Int) (n d : Int) (w : World) (h : bdB v 576 = true) (h0 : -576 ≤ n) (h01 : n ≤ 576) (h02 : 1 ≤ d) (h1 : 12 < d) : Calls Tryz.prog 18 #[PV v, .int .i64 n, .int .i64 d] w (OutV w (fun _ => 0) 1) := by
  have H1 := Hx.mk (fun w => refValid_any v w true h)
  clear h
  go_enter Tryz.func18, Tryz.ntmps18
  go_wp2_with fail
  refine (H1.out _).mono ?_
  rintro e w1 ⟨rfl, hb⟩
  obtain ⟨hc1, hf1⟩ := bcell hb
  have hz1 := hb.size
  (try simp at hz1)
  have hB : Hx (Below w.heap.size w w1) := ⟨Below.trans (by repeat (first | with_reducible exact hB.out | with_reducible exact Below.refl _ _ | (with_reducible refine Below.setCell ?_ ?side _; case side => (first | omega | (simp <;> omega))) | (with_reducible refine Below.alloc ?_ ?side _; case side => (first | omega | (simp <;> omega))) | with_reducible apply below_drewN)) (hb.mono (by first | omega | (simp <;> omega)))⟩
  clear hb
  have hy1_0 : w.heap.size < w1.heap.size := by omega
  have hy1_1 : w.heap.size + 1 < w1.heap.size := by omega
  go_wp2_with fail
  refine bodyPost_ret_by (v := .tuple #[PV fun _ => 0, .int .i64 1]) (by simp [results, Tryz.results18, go_sem, hc1]) rfl ?_
  exact ⟨rfl, (by repeat (first | with_reducible exact hB.out | with_reducible exact Below.refl _ _ | (with_reducible refine Below.setCell ?_ ?side _; case side => (first | omega | (simp <;> omega))) | (with_reducible refine Below.alloc ?_ ?side _; case side => (first | omega | (simp <;> omega))) | with_reducible apply below_drewN))⟩
end Go.Proofs.YtdlfnonlalkjdaaGreatDoor

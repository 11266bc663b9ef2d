/- size.Gap, Of, Near. -/
import Derived.Test.YtdlfnonlalkjdaaDoorSB
import Derived.Test.YtdlfnonlalkjdaaDoorSE
import Derived.Test.YtdlfnonlalkjdaaDoorP10
namespace Go.Proofs.YtdlfnonlalkjdaaDoor
open Go.RowKit M
theorem mLo_le_mHi (v : Nat → Int) : mLo v ≤ mHi v := by
  have k : ∀ i x, tLo i x ≤ tHi i x := fun i x => by
    have h : (loN i : Int) ≤ hiN i := by unfold loN hiN; repeat' split
                                         all_goals omega
    unfold tLo tHi
    split
    · exact Int.mul_le_mul_of_nonneg_left h (by assumption)
    · exact Int.mul_le_mul_of_nonpos_left (by omega) h
  rw [mLo_eq, mHi_eq]
  have h0 := k 0 (v 0); have h1 := k 1 (v 1); have h2 := k 2 (v 2); have h3 := k 3 (v 3); have h4 := k 4 (v 4); have h5 := k 5 (v 5)
  omega
theorem m_bd {v : Nat → Int} (hv : ∀ i, i < 6 → -1152 ≤ v i ∧ v i ≤ 1152) : -30000000000000 ≤ mLo v ∧ mHi v ≤ 30000000000000 := by
  have h1 := sLo_bd hv 6 (by omega)
  have h2 := sHi_bd hv 6 (by omega)
  rw [sLo_six] at h1; rw [sHi_six] at h2
  omega
theorem m_valid {v : Nat → Int} (hv : ∀ i, i < 6 → -1152 ≤ v i ∧ v i ≤ 1152) : szB (mLo v) (mHi v) = true := by
  have h1 := m_bd hv; have h2 := mLo_le_mHi v
  exact szB_yes.2 ⟨by omega, h2, by omega⟩
theorem dif_bd {a b : Nat → Int} (ha : bdB a 576 = true) (hb : bdB b 576 = true) : ∀ i, i < 6 → -1152 ≤ a i - b i ∧ a i - b i ≤ 1152 := fun i hi => by
  have h1 := bdB_yes.1 ha i hi; have h2 := bdB_yes.1 hb i hi; omega
theorem apt0 (v : Nat → Int) : ∀ w, (Instr.index 25 (PV v) (.int .i64 0)).run Tryd.prog w = .ok (.int .i64 (v 0)) w := fun _ => by kernel_rfl
theorem apt1 (v : Nat → Int) : ∀ w, (Instr.index 25 (PV v) (.int .i64 1)).run Tryd.prog w = .ok (.int .i64 (v 1)) w := fun _ => by kernel_rfl
theorem apt2 (v : Nat → Int) : ∀ w, (Instr.index 25 (PV v) (.int .i64 2)).run Tryd.prog w = .ok (.int .i64 (v 2)) w := fun _ => by kernel_rfl
theorem apt3 (v : Nat → Int) : ∀ w, (Instr.index 25 (PV v) (.int .i64 3)).run Tryd.prog w = .ok (.int .i64 (v 3)) w := fun _ => by kernel_rfl
theorem apt4 (v : Nat → Int) : ∀ w, (Instr.index 25 (PV v) (.int .i64 4)).run Tryd.prog w = .ok (.int .i64 (v 4)) w := fun _ => by kernel_rfl
theorem apt5 (v : Nat → Int) : ∀ w, (Instr.index 25 (PV v) (.int .i64 5)).run Tryd.prog w = .ok (.int .i64 (v 5)) w := fun _ => by kernel_rfl
theorem gap_a (a b : Nat → Int) (ha : bdB a 576 = false) (w : World) : Calls Tryd.prog 17 #[PV a, PV b] w (OutZ w 0 0 1) := by
  have H1 := Hx.mk (fun w => pvalid_any a w false ha)
  clear ha
  go_enter Tryd.func17, Tryd.ntmps17
  go_wp2_with fail
  refine (H1.out _).mono ?_
  rintro e w1 ⟨rfl, hb⟩
  obtain ⟨hc1, hf1⟩ := bcell hb
  have hz1 := hb.size
  (try simp at hz1)
  have hB : Hx (Below w.heap.size w w1) := ⟨Below.trans (by repeat (first | with_reducible exact hB.out | with_reducible exact Below.refl _ _ | (with_reducible refine Below.setCell ?_ ?side _; case side => (first | omega | (simp <;> omega))) | (with_reducible refine Below.alloc ?_ ?side _; case side => (first | omega | (simp <;> omega))) | with_reducible apply below_drewN)) (hb.mono (by first | omega | (simp <;> omega)))⟩
  clear hb
  have hy1_0 : w.heap.size < w1.heap.size := by omega
  have hy1_1 : w.heap.size + 1 < w1.heap.size := by omega
  have hy1_2 : w.heap.size + 1 + 1 < w1.heap.size := by omega
  go_wp2_with fail
  refine bodyPost_ret_by (v := .tuple #[SV 0 0, .int .i64 1]) (by simp [results, Tryd.results17, go_sem, hc1]) rfl ?_
  exact ⟨rfl, (by repeat (first | with_reducible exact hB.out | with_reducible exact Below.refl _ _ | (with_reducible refine Below.setCell ?_ ?side _; case side => (first | omega | (simp <;> omega))) | (with_reducible refine Below.alloc ?_ ?side _; case side => (first | omega | (simp <;> omega))) | with_reducible apply below_drewN))⟩
theorem gap_b (a b : Nat → Int) (ha : bdB a 576 = true) (hb0 : bdB b 576 = false) (w : World) : Calls Tryd.prog 17 #[PV a, PV b] w (OutZ w 0 0 1) := by
  have H1 := Hx.mk (fun w => pvalid_any a w true ha)
  have H2 := Hx.mk (fun w => pvalid_any b w false hb0)
  clear ha hb0
  go_enter Tryd.func17, Tryd.ntmps17
  go_wp2_with fail
  refine (H1.out _).mono ?_
  rintro e w1 ⟨rfl, hb⟩
  obtain ⟨hc1, hf1⟩ := bcell hb
  have hz1 := hb.size
  (try simp at hz1)
  have hB : Hx (Below w.heap.size w w1) := ⟨Below.trans (by repeat (first | with_reducible exact hB.out | with_reducible exact Below.refl _ _ | (with_reducible refine Below.setCell ?_ ?side _; case side => (first | omega | (simp <;> omega))) | (with_reducible refine Below.alloc ?_ ?side _; case side => (first | omega | (simp <;> omega))) | with_reducible apply below_drewN)) (hb.mono (by first | omega | (simp <;> omega)))⟩
  clear hb
  have hy1_0 : w.heap.size < w1.heap.size := by omega
  have hy1_1 : w.heap.size + 1 < w1.heap.size := by omega
  have hy1_2 : w.heap.size + 1 + 1 < w1.heap.size := by omega
  go_wp2_with fail
  refine (H2.out _).mono ?_
  rintro e w2 ⟨rfl, hb⟩
  obtain ⟨hc2, hf2⟩ := bcell hb
  have hz2 := hb.size
  (try simp at hz2)
  have hB : Hx (Below w.heap.size w w2) := ⟨Below.trans (by repeat (first | with_reducible exact hB.out | with_reducible exact Below.refl _ _ | (with_reducible refine Below.setCell ?_ ?side _; case side => (first | omega | (simp <;> omega))) | (with_reducible refine Below.alloc ?_ ?side _; case side => (first | omega | (simp <;> omega))) | with_reducible apply below_drewN)) (hb.mono (by first | omega | (simp <;> omega)))⟩
  clear hb
  have hy2_0 : w.heap.size < w2.heap.size := by omega
  have hy2_1 : w.heap.size + 1 < w2.heap.size := by omega
  have hy2_2 : w.heap.size + 1 + 1 < w2.heap.size := by omega
  go_wp2_with fail
  refine bodyPost_ret_by (v := .tuple #[SV 0 0, .int .i64 1]) (by simp [results, Tryd.results17, go_sem, hc1, hy1_2, hc2]) rfl ?_
  exact ⟨rfl, (by repeat (first | with_reducible exact hB.out | with_reducible exact Below.refl _ _ | (with_reducible refine Below.setCell ?_ ?side _; case side => (first | omega | (simp <;> omega))) | (with_reducible refine Below.alloc ?_ ?side _; case side => (first | omega | (simp <;> omega))) | with_reducible apply below_drewN))⟩
set_option maxHeartbeats 2000000 in
theorem gap_ok (a b : Nat → Int) (ha : bdB a 576 = true) (hb0 : bdB b 576 = true) (w : World) (hL : Lm w) : Calls Tryd.prog 17 #[PV a, PV b] w (OutZ w (mLo fun i => a i - b i) (mHi fun i => a i - b i) 0) := by
  have H1 := Hx.mk (fun w => pvalid_any a w true ha)
  have H2 := Hx.mk (fun w => pvalid_any b w true hb0)
  have HM := Hx.mk (fun w => measure_any (fun i => a i - b i) w ⟨dif_bd ha hb0⟩)
  have L0 := Hx.mk hL
  clear hL
  have i0 := apt0 b
  obtain ⟨p0, q0⟩ := dif_bd ha hb0 0 (by omega)
  have i1 := apt1 b
  obtain ⟨p1, q1⟩ := dif_bd ha hb0 1 (by omega)
  have i2 := apt2 b
  obtain ⟨p2, q2⟩ := dif_bd ha hb0 2 (by omega)
  have i3 := apt3 b
  obtain ⟨p3, q3⟩ := dif_bd ha hb0 3 (by omega)
  have i4 := apt4 b
  obtain ⟨p4, q4⟩ := dif_bd ha hb0 4 (by omega)
  have i5 := apt5 b
  obtain ⟨p5, q5⟩ := dif_bd ha hb0 5 (by omega)
  clear ha hb0
  go_enter Tryd.func17, Tryd.ntmps17
  go_wp2_with fail
  refine (H1.out _).mono ?_
  rintro e w1 ⟨rfl, hb⟩
  obtain ⟨hc1, hf1⟩ := bcell hb
  have hz1 := hb.size
  (try simp at hz1)
  have hB : Hx (Below w.heap.size w w1) := ⟨Below.trans (by repeat (first | with_reducible exact hB.out | with_reducible exact Below.refl _ _ | (with_reducible refine Below.setCell ?_ ?side _; case side => (first | omega | (simp <;> omega))) | (with_reducible refine Below.alloc ?_ ?side _; case side => (first | omega | (simp <;> omega))) | with_reducible apply below_drewN)) (hb.mono (by first | omega | (simp <;> omega)))⟩
  clear hb
  have hy1_0 : w.heap.size < w1.heap.size := by omega
  have hy1_1 : w.heap.size + 1 < w1.heap.size := by omega
  have hy1_2 : w.heap.size + 1 + 1 < w1.heap.size := by omega
  go_wp2_with fail
  refine (H2.out _).mono ?_
  rintro e w2 ⟨rfl, hb⟩
  obtain ⟨hc2, hf2⟩ := bcell hb
  have hz2 := hb.size
  (try simp at hz2)
  have hB : Hx (Below w.heap.size w w2) := ⟨Below.trans (by repeat (first | with_reducible exact hB.out | with_reducible exact Below.refl _ _ | (with_reducible refine Below.setCell ?_ ?side _; case side => (first | omega | (simp <;> omega))) | (with_reducible refine Below.alloc ?_ ?side _; case side => (first | omega | (simp <;> omega))) | with_reducible apply below_drewN)) (hb.mono (by first | omega | (simp <;> omega)))⟩
  clear hb
  have hy2_0 : w.heap.size < w2.heap.size := by omega
  have hy2_1 : w.heap.size + 1 < w2.heap.size := by omega
  have hy2_2 : w.heap.size + 1 + 1 < w2.heap.size := by omega
  have x0 : w2.cell? ⟨w.heap.size, 0, none⟩ = some (.int .i64 (a 0)) := by simp [go_sem, hc1, hy1_0, hc2]
  have b0 : w2.cell? ⟨w.heap.size + 1, 0, none⟩ = some (.int .i64 (b 0)) := by simp [go_sem, hc1, hy1_1, hc2]
  have y0 : w2.frozen? ⟨w.heap.size, 0, none⟩ = false := by simp [go_sem, hf1, hy1_0, hf2]
  have x1 : w2.cell? ⟨w.heap.size, 1, none⟩ = some (.int .i64 (a 1)) := by simp [go_sem, hc1, hy1_0, hc2]
  have b1 : w2.cell? ⟨w.heap.size + 1, 1, none⟩ = some (.int .i64 (b 1)) := by simp [go_sem, hc1, hy1_1, hc2]
  have y1 : w2.frozen? ⟨w.heap.size, 1, none⟩ = false := by simp [go_sem, hf1, hy1_0, hf2]
  have x2 : w2.cell? ⟨w.heap.size, 2, none⟩ = some (.int .i64 (a 2)) := by simp [go_sem, hc1, hy1_0, hc2]
  have b2 : w2.cell? ⟨w.heap.size + 1, 2, none⟩ = some (.int .i64 (b 2)) := by simp [go_sem, hc1, hy1_1, hc2]
  have y2 : w2.frozen? ⟨w.heap.size, 2, none⟩ = false := by simp [go_sem, hf1, hy1_0, hf2]
  have x3 : w2.cell? ⟨w.heap.size, 3, none⟩ = some (.int .i64 (a 3)) := by simp [go_sem, hc1, hy1_0, hc2]
  have b3 : w2.cell? ⟨w.heap.size + 1, 3, none⟩ = some (.int .i64 (b 3)) := by simp [go_sem, hc1, hy1_1, hc2]
  have y3 : w2.frozen? ⟨w.heap.size, 3, none⟩ = false := by simp [go_sem, hf1, hy1_0, hf2]
  have x4 : w2.cell? ⟨w.heap.size, 4, none⟩ = some (.int .i64 (a 4)) := by simp [go_sem, hc1, hy1_0, hc2]
  have b4 : w2.cell? ⟨w.heap.size + 1, 4, none⟩ = some (.int .i64 (b 4)) := by simp [go_sem, hc1, hy1_1, hc2]
  have y4 : w2.frozen? ⟨w.heap.size, 4, none⟩ = false := by simp [go_sem, hf1, hy1_0, hf2]
  have x5 : w2.cell? ⟨w.heap.size, 5, none⟩ = some (.int .i64 (a 5)) := by simp [go_sem, hc1, hy1_0, hc2]
  have b5 : w2.cell? ⟨w.heap.size + 1, 5, none⟩ = some (.int .i64 (b 5)) := by simp [go_sem, hc1, hy1_1, hc2]
  have y5 : w2.frozen? ⟨w.heap.size, 5, none⟩ = false := by simp [go_sem, hf1, hy1_0, hf2]
  have u0 : w2.cell? ⟨w.heap.size + 1 + 1, 0, none⟩ = some (.int .i64 0) := by simp [go_sem, hc1, hy1_2, hc2]
  have v0 : w2.frozen? ⟨w.heap.size + 1 + 1, 0, none⟩ = false := by simp [go_sem, hf1, hy1_2, hf2]
  have u1 : w2.cell? ⟨w.heap.size + 1 + 1, 1, none⟩ = some (.int .i64 0) := by simp [go_sem, hc1, hy1_2, hc2]
  have v1 : w2.frozen? ⟨w.heap.size + 1 + 1, 1, none⟩ = false := by simp [go_sem, hf1, hy1_2, hf2]
  clear hc1 hf1 hc2 hf2 hz1 hz2 hy1_0 hy1_1 hy1_2 H1 H2
  go_wp2_with fail
  refine wp_loop_rounds 7 ?_
  rw [rounds_succ]
  go_wp2_with fail
  rw [rounds_succ]
  go_wp2_with fail
  rw [rounds_succ]
  go_wp2_with fail
  rw [rounds_succ]
  go_wp2_with fail
  rw [rounds_succ]
  go_wp2_with fail
  rw [rounds_succ]
  go_wp2_with fail
  rw [rounds_succ]
  go_wp2_with fail
  refine (HM.out _ (L0.out.keep (by repeat (first | with_reducible exact hB.out | with_reducible exact Below.refl _ _ | (with_reducible refine Below.setCell ?_ ?side _; case side => (first | omega | (simp <;> omega))) | (with_reducible refine Below.alloc ?_ ?side _; case side => (first | omega | (simp <;> omega))) | with_reducible apply below_drewN)))).mono ?_
  rintro e w3 ⟨rfl, hb⟩
  obtain ⟨hc3, hf3⟩ := bcell hb
  have hz3 := hb.size
  simp at hz3
  have hB : Hx (Below w.heap.size w w3) := ⟨Below.trans (by repeat (first | with_reducible exact hB.out | with_reducible exact Below.refl _ _ | (with_reducible refine Below.setCell ?_ ?side _; case side => (first | omega | (simp <;> omega))) | (with_reducible refine Below.alloc ?_ ?side _; case side => (first | omega | (simp <;> omega))) | with_reducible apply below_drewN)) (hb.mono (by first | omega | (simp <;> omega)))⟩
  clear hb
  have hy3 : w.heap.size + 1 + 1 < w3.heap.size := by omega
  go_wp2_with fail
  refine bodyPost_ret_by (v := .tuple #[SV (mLo fun i => a i - b i) (mHi fun i => a i - b i), .int .i64 0]) (by simp [results, Tryd.results17, go_sem, hc3, hy2_2, u0, u1]) rfl ?_
  exact ⟨rfl, (by repeat (first | with_reducible exact hB.out | with_reducible exact Below.refl _ _ | (with_reducible refine Below.setCell ?_ ?side _; case side => (first | omega | (simp <;> omega))) | (with_reducible refine Below.alloc ?_ ?side _; case side => (first | omega | (simp <;> omega))) | with_reducible apply below_drewN))⟩
end Go.Proofs.YtdlfnonlalkjdaaDoor

/- The reference's comparison of pitches, whole. -/
import Derived.Test.YtomgihlkbmaleaaDoorUM
import Derived.Test.YtomgihlkbmaleaaDoorP11
namespace Go.Proofs.YtomgihlkbmaleaaDoor
open Go.RowKit M
theorem rd_cells {w : World} {ao : Option Addr} {n c : Nat} {l : List Int} (h : Rd w (.slice ao n c) l) : CellsK .u32 w ao l := by
  obtain ⟨ao', c', e, h1, h2, h3⟩ := h.shape
  simp only [Value.slice.injEq] at e
  obtain ⟨rfl, -, -⟩ := e
  exact h3
set_option maxHeartbeats 4000000 in
theorem rp_cmp (a b d : Nat → Int) (w : World) (ha : bdB a 576 = true) (hb0 : bdB b 576 = true) (hd : ∀ i, i < 6 → a i - b i = d i) :
    Calls Tryd.prog 55 #[PV a, PV b] w fun e w' => e = .returned (.tuple #[.int .i64 (sg d), .int .i64 0]) ∧ Below w.heap.size w w' := by
  have H1 := Hx.mk (fun w => rp_valid a w true ha)
  have H2 := Hx.mk (fun w => rp_valid b w true hb0)
  have hl : ∀ i, i < 6 → -1152 ≤ d i ∧ d i ≤ 1152 := fun i hi => by have h1 := bdB_yes.1 ha i hi; have h2 := bdB_yes.1 hb0 i hi; have := hd i hi; omega
  have HP1 : Hx (∀ w, Calls Tryd.prog 75 #[PV d, .int .i64 1] w (RetNat w (up d))) := ⟨fun w => refProduct_prod d d 1 w (fun i _ => by omega) hl⟩
  have HP2 : Hx (∀ w, Calls Tryd.prog 75 #[PV d, .int .i64 (-1)] w (RetNat w (dn d))) := ⟨fun w => refProduct_prod d (neg d) (-1) w (fun i _ => by simp only [neg]; omega) (fun i hi => by have := hl i hi; simp only [neg]; omega)⟩
  have HF1 : Hx (Fits (up d)) := ⟨fits_up fun i hi => (hl i hi).2⟩
  have HF2 : Hx (Fits (dn d)) := ⟨fits_up fun i hi => by have := hl i hi; simp only [neg]; omega⟩
  have HCMG : Hx (∀ po qo pc qc w4, Rd w4 (.slice po (limbs (up d)).length pc) (limbs (up d)) → Rd w4 (.slice qo (limbs (dn d)).length qc) (limbs (dn d)) → Calls Tryd.prog 74 #[.slice po (limbs (up d)).length pc, .slice qo (limbs (dn d)).length qc] w4 (fun e w' => e = .returned (.tuple #[.int .i64 (sg d), .int .i64 0]) ∧ Quiet w4 w')) :=
    ⟨fun po qo pc qc w4 h1 h2 => refCmp_gen po qo (up d) (dn d) _ _ pc qc w4 rfl rfl HF1.out HF2.out (rd_cells h1) (rd_cells h2)⟩
  obtain ⟨la0, ta0⟩ := bdB_yes.1 ha 0 (by omega)
  obtain ⟨la1, ta1⟩ := bdB_yes.1 ha 1 (by omega)
  obtain ⟨la2, ta2⟩ := bdB_yes.1 ha 2 (by omega)
  obtain ⟨la3, ta3⟩ := bdB_yes.1 ha 3 (by omega)
  obtain ⟨la4, ta4⟩ := bdB_yes.1 ha 4 (by omega)
  obtain ⟨la5, ta5⟩ := bdB_yes.1 ha 5 (by omega)
  obtain ⟨lb0, tb0⟩ := bdB_yes.1 hb0 0 (by omega)
  have e0 := hd 0 (by omega)
  obtain ⟨lb1, tb1⟩ := bdB_yes.1 hb0 1 (by omega)
  have e1 := hd 1 (by omega)
  obtain ⟨lb2, tb2⟩ := bdB_yes.1 hb0 2 (by omega)
  have e2 := hd 2 (by omega)
  obtain ⟨lb3, tb3⟩ := bdB_yes.1 hb0 3 (by omega)
  have e3 := hd 3 (by omega)
  obtain ⟨lb4, tb4⟩ := bdB_yes.1 hb0 4 (by omega)
  have e4 := hd 4 (by omega)
  obtain ⟨lb5, tb5⟩ := bdB_yes.1 hb0 5 (by omega)
  have e5 := hd 5 (by omega)
  clear ha hb0 hd hl
  go_enter Tryd.func55, Tryd.ntmps55
  go_wp2_with fail
  refine (H1.out _).mono ?_
  rintro e w1 ⟨rfl, hb⟩
  obtain ⟨hc1, hf1⟩ := bcell hb
  have hz1 := hb.size
  (try simp at hz1)
  have hB : Hx (Below w.heap.size w w1) := ⟨Below.trans (by repeat (first | with_reducible exact hB.out | with_reducible exact Below.refl _ _ | (with_reducible refine Below.setCell ?_ ?side _; case side => (first | omega | (simp <;> omega))) | (with_reducible refine Below.alloc ?_ ?side _; case side => (first | omega | (simp <;> omega))) | with_reducible apply below_drewN)) (hb.mono (by first | omega | (simp <;> omega)))⟩
  clear hb
  have hy1_0 : w.heap.size < w1.heap.size := by omega
  have hy1_1 : w.heap.size + 1 < w1.heap.size := by omega
  go_wp2_with fail
  refine (H2.out _).mono ?_
  rintro e w2 ⟨rfl, hb⟩
  obtain ⟨hc2, hf2⟩ := bcell hb
  have hz2 := hb.size
  (try simp at hz2)
  have hB : Hx (Below w.heap.size w w2) := ⟨Below.trans (by repeat (first | with_reducible exact hB.out | with_reducible exact Below.refl _ _ | (with_reducible refine Below.setCell ?_ ?side _; case side => (first | omega | (simp <;> omega))) | (with_reducible refine Below.alloc ?_ ?side _; case side => (first | omega | (simp <;> omega))) | with_reducible apply below_drewN)) (hb.mono (by first | omega | (simp <;> omega)))⟩
  clear hb
  have hy2_0 : w.heap.size < w2.heap.size := by omega
  have hy2_1 : w.heap.size + 1 < w2.heap.size := by omega
  have HA : Hx (Cel (w.heap.size) w2 (a)) := by refine ⟨⟨six ?_ ?_ ?_ ?_ ?_ ?_, six ?_ ?_ ?_ ?_ ?_ ?_⟩⟩ <;> simp [go_sem, hc1, hf1, hz1, hy1_0, hy1_1, hc2, hf2, hz2, hy2_0, hy2_1]
  have HB : Hx (Cel (w.heap.size + 1) w2 (b)) := by refine ⟨⟨six ?_ ?_ ?_ ?_ ?_ ?_, six ?_ ?_ ?_ ?_ ?_ ?_⟩⟩ <;> simp [go_sem, hc1, hf1, hz1, hy1_0, hy1_1, hc2, hf2, hz2, hy2_0, hy2_1]
  clear hc1 hf1 hc2 hf2
  go_wp2_with fail
  go_loopw [9] (fun iv wr => ∃ k : Int, 0 ≤ k ∧ k ≤ 6 ∧ iv = .int .i64 k ∧ Hx (Cel (w2.heap.size) wr (pre d (fun _ => 0) k)) ∧ Hx (Cel (w.heap.size) wr (a)) ∧ Hx (Cel (w.heap.size + 1) wr (b)) ∧ Hx (Below w.heap.size w wr) ∧ w2.heap.size < wr.heap.size) (fun iv _ => 6 - (intOf iv).toNat)
  case atStart => exact ⟨0, by omega, by omega, rfl, ⟨by rw [pre_zero]; exact Cel.lit w2 (fun _ => 0) _⟩, ⟨Cel.later (B := w2.heap.size) HA.out ((Below.refl _ _).alloc (Nat.le_refl _) _) (by omega)⟩, ⟨Cel.later (B := w2.heap.size) HB.out ((Below.refl _ _).alloc (Nat.le_refl _) _) (by omega)⟩, ⟨(by repeat (first | with_reducible exact hB.out | with_reducible exact Below.refl _ _ | (with_reducible refine Below.setCell ?_ ?side _; case side => (first | omega | (simp <;> omega))) | (with_reducible refine Below.alloc ?_ ?side _; case side => (first | omega | (simp <;> omega))) | with_reducible apply below_drewN | with_reducible apply Below.drew))⟩, by first | omega | (simp <;> omega)⟩
  case round =>
    obtain ⟨k, hk0, hk, rfl, HO, HA, HB, hB, hsz⟩ := hrel
    have : k = 0 ∨ k = 1 ∨ k = 2 ∨ k = 3 ∨ k = 4 ∨ k = 5 ∨ k = 6 := by omega
    rcases this with rfl | rfl | rfl | rfl | rfl | rfl | rfl
    · have cHA0 := HA.out.cell 0 (by omega)
      have cHB0 := HB.out.cell 0 (by omega)
      have cHO0 : wr.cell? ⟨w2.heap.size, 0, none⟩ = some (.int .i64 (0)) := by rw [HO.out.cell 0 (by omega), pre_at (k := 0) (k0 := 0) _ _ rfl]
      have fHO0 := HO.out.fz 0 (by omega)
      go_wp2_with fail
      go_region
      all_goals
        go_wp2
        go_roundw
        case rel => exact ⟨1, by omega, by omega, rfl, ⟨by repeat (first | exact HO.out.set _ (by omega) (pre_step d _ rfl rfl rfl) | apply Cel.drew | apply Cel.drewN)⟩, ⟨by repeat (first | exact HA.out.other _ (by omega) | apply Cel.drew | apply Cel.drewN)⟩, ⟨by repeat (first | exact HB.out.other _ (by omega) | apply Cel.drew | apply Cel.drewN)⟩, ⟨(by repeat (first | with_reducible exact hB.out | with_reducible exact Below.refl _ _ | (with_reducible refine Below.setCell ?_ ?side _; case side => (first | omega | (simp <;> omega))) | (with_reducible refine Below.alloc ?_ ?side _; case side => (first | omega | (simp <;> omega))) | with_reducible apply below_drewN | with_reducible apply Below.drew))⟩, by first | omega | (simp <;> omega)⟩
        case measure => simp [intOf]
    · have cHA1 := HA.out.cell 1 (by omega)
      have cHB1 := HB.out.cell 1 (by omega)
      have cHO1 : wr.cell? ⟨w2.heap.size, 1, none⟩ = some (.int .i64 (0)) := by rw [HO.out.cell 1 (by omega), pre_at (k := 1) (k0 := 1) _ _ rfl]
      have fHO1 := HO.out.fz 1 (by omega)
      go_wp2_with fail
      go_region
      all_goals
        go_wp2
        go_roundw
        case rel => exact ⟨2, by omega, by omega, rfl, ⟨by repeat (first | exact HO.out.set _ (by omega) (pre_step d _ rfl rfl rfl) | apply Cel.drew | apply Cel.drewN)⟩, ⟨by repeat (first | exact HA.out.other _ (by omega) | apply Cel.drew | apply Cel.drewN)⟩, ⟨by repeat (first | exact HB.out.other _ (by omega) | apply Cel.drew | apply Cel.drewN)⟩, ⟨(by repeat (first | with_reducible exact hB.out | with_reducible exact Below.refl _ _ | (with_reducible refine Below.setCell ?_ ?side _; case side => (first | omega | (simp <;> omega))) | (with_reducible refine Below.alloc ?_ ?side _; case side => (first | omega | (simp <;> omega))) | with_reducible apply below_drewN | with_reducible apply Below.drew))⟩, by first | omega | (simp <;> omega)⟩
        case measure => simp [intOf]
    · have cHA2 := HA.out.cell 2 (by omega)
      have cHB2 := HB.out.cell 2 (by omega)
      have cHO2 : wr.cell? ⟨w2.heap.size, 2, none⟩ = some (.int .i64 (0)) := by rw [HO.out.cell 2 (by omega), pre_at (k := 2) (k0 := 2) _ _ rfl]
      have fHO2 := HO.out.fz 2 (by omega)
      go_wp2_with fail
      go_region
      all_goals
        go_wp2
        go_roundw
        case rel => exact ⟨3, by omega, by omega, rfl, ⟨by repeat (first | exact HO.out.set _ (by omega) (pre_step d _ rfl rfl rfl) | apply Cel.drew | apply Cel.drewN)⟩, ⟨by repeat (first | exact HA.out.other _ (by omega) | apply Cel.drew | apply Cel.drewN)⟩, ⟨by repeat (first | exact HB.out.other _ (by omega) | apply Cel.drew | apply Cel.drewN)⟩, ⟨(by repeat (first | with_reducible exact hB.out | with_reducible exact Below.refl _ _ | (with_reducible refine Below.setCell ?_ ?side _; case side => (first | omega | (simp <;> omega))) | (with_reducible refine Below.alloc ?_ ?side _; case side => (first | omega | (simp <;> omega))) | with_reducible apply below_drewN | with_reducible apply Below.drew))⟩, by first | omega | (simp <;> omega)⟩
        case measure => simp [intOf]
    · have cHA3 := HA.out.cell 3 (by omega)
      have cHB3 := HB.out.cell 3 (by omega)
      have cHO3 : wr.cell? ⟨w2.heap.size, 3, none⟩ = some (.int .i64 (0)) := by rw [HO.out.cell 3 (by omega), pre_at (k := 3) (k0 := 3) _ _ rfl]
      have fHO3 := HO.out.fz 3 (by omega)
      go_wp2_with fail
      go_region
      all_goals
        go_wp2
        go_roundw
        case rel => exact ⟨4, by omega, by omega, rfl, ⟨by repeat (first | exact HO.out.set _ (by omega) (pre_step d _ rfl rfl rfl) | apply Cel.drew | apply Cel.drewN)⟩, ⟨by repeat (first | exact HA.out.other _ (by omega) | apply Cel.drew | apply Cel.drewN)⟩, ⟨by repeat (first | exact HB.out.other _ (by omega) | apply Cel.drew | apply Cel.drewN)⟩, ⟨(by repeat (first | with_reducible exact hB.out | with_reducible exact Below.refl _ _ | (with_reducible refine Below.setCell ?_ ?side _; case side => (first | omega | (simp <;> omega))) | (with_reducible refine Below.alloc ?_ ?side _; case side => (first | omega | (simp <;> omega))) | with_reducible apply below_drewN | with_reducible apply Below.drew))⟩, by first | omega | (simp <;> omega)⟩
        case measure => simp [intOf]
    · have cHA4 := HA.out.cell 4 (by omega)
      have cHB4 := HB.out.cell 4 (by omega)
      have cHO4 : wr.cell? ⟨w2.heap.size, 4, none⟩ = some (.int .i64 (0)) := by rw [HO.out.cell 4 (by omega), pre_at (k := 4) (k0 := 4) _ _ rfl]
      have fHO4 := HO.out.fz 4 (by omega)
      go_wp2_with fail
      go_region
      all_goals
        go_wp2
        go_roundw
        case rel => exact ⟨5, by omega, by omega, rfl, ⟨by repeat (first | exact HO.out.set _ (by omega) (pre_step d _ rfl rfl rfl) | apply Cel.drew | apply Cel.drewN)⟩, ⟨by repeat (first | exact HA.out.other _ (by omega) | apply Cel.drew | apply Cel.drewN)⟩, ⟨by repeat (first | exact HB.out.other _ (by omega) | apply Cel.drew | apply Cel.drewN)⟩, ⟨(by repeat (first | with_reducible exact hB.out | with_reducible exact Below.refl _ _ | (with_reducible refine Below.setCell ?_ ?side _; case side => (first | omega | (simp <;> omega))) | (with_reducible refine Below.alloc ?_ ?side _; case side => (first | omega | (simp <;> omega))) | with_reducible apply below_drewN | with_reducible apply Below.drew))⟩, by first | omega | (simp <;> omega)⟩
        case measure => simp [intOf]
    · have cHA5 := HA.out.cell 5 (by omega)
      have cHB5 := HB.out.cell 5 (by omega)
      have cHO5 : wr.cell? ⟨w2.heap.size, 5, none⟩ = some (.int .i64 (0)) := by rw [HO.out.cell 5 (by omega), pre_at (k := 5) (k0 := 5) _ _ rfl]
      have fHO5 := HO.out.fz 5 (by omega)
      go_wp2_with fail
      go_region
      all_goals
        go_wp2
        go_roundw
        case rel => exact ⟨6, by omega, by omega, rfl, ⟨by repeat (first | exact HO.out.set _ (by omega) (pre_step d _ rfl rfl rfl) | apply Cel.drew | apply Cel.drewN)⟩, ⟨by repeat (first | exact HA.out.other _ (by omega) | apply Cel.drew | apply Cel.drewN)⟩, ⟨by repeat (first | exact HB.out.other _ (by omega) | apply Cel.drew | apply Cel.drewN)⟩, ⟨(by repeat (first | with_reducible exact hB.out | with_reducible exact Below.refl _ _ | (with_reducible refine Below.setCell ?_ ?side _; case side => (first | omega | (simp <;> omega))) | (with_reducible refine Below.alloc ?_ ?side _; case side => (first | omega | (simp <;> omega))) | with_reducible apply below_drewN | with_reducible apply Below.drew))⟩, by first | omega | (simp <;> omega)⟩
        case measure => simp [intOf]
    · have HO := Hx.mk (HO.out.congr (pre_six _ _))
      have cHO0 := HO.out.cell 0 (by omega)
      have cHO1 := HO.out.cell 1 (by omega)
      have cHO2 := HO.out.cell 2 (by omega)
      have cHO3 := HO.out.cell 3 (by omega)
      have cHO4 := HO.out.cell 4 (by omega)
      have cHO5 := HO.out.cell 5 (by omega)
      clear HA HB
      go_wp2_with fail
      go_region_with (first
        | (go_at_call 75; (with_reducible refine (HP1.out _).mono ?_); rintro e w3 ⟨v3, rfl, hr3, hb3⟩; have ce0 := (hb3.cell (p := ⟨w2.heap.size, 0, none⟩) hsz).trans cHO0; have ce1 := (hb3.cell (p := ⟨w2.heap.size, 1, none⟩) hsz).trans cHO1; have ce2 := (hb3.cell (p := ⟨w2.heap.size, 2, none⟩) hsz).trans cHO2; have ce3 := (hb3.cell (p := ⟨w2.heap.size, 3, none⟩) hsz).trans cHO3; have ce4 := (hb3.cell (p := ⟨w2.heap.size, 4, none⟩) hsz).trans cHO4; have ce5 := (hb3.cell (p := ⟨w2.heap.size, 5, none⟩) hsz).trans cHO5; have HB3 : Hx (Below wr.heap.size wr w3) := ⟨((Below.refl _ _).drew).trans (hb3.mono (Nat.le_refl _))⟩; have HR3 := Hx.mk hr3; clear hb3 hr3; obtain ⟨po, pc, rfl, _⟩ := HR3.out.shape)
        | (go_at_call 75; (with_reducible refine (HP2.out _).mono ?_); rintro e w4 ⟨v4, rfl, hr4, hb4⟩; have HR4 := Hx.mk hr4; have HB4 : Hx (Below wr.heap.size wr w4) := ⟨HB3.out.trans (hb4.mono HB3.out.size)⟩; have HR3 := Hx.mk (HR3.out.keep hb4); clear hr4 hb4; obtain ⟨qo, qc, rfl, _⟩ := HR4.out.shape; have HCM := Hx.mk (HCMG.out po qo pc qc w4 HR3.out HR4.out))
        | (go_at_call 74; (with_reducible refine (HCM.out).mono ?_); rintro e w5 ⟨rfl, hq⟩; have HB5 : Hx (Below w.heap.size w w5) := ⟨(hB.out.trans (HB4.out.mono hB.out.size)).trans (quiet_below hq _)⟩; clear hq HCM))
      all_goals
        go_wp2
        go_ret2
        exact ⟨rfl, HB5.out⟩
theorem rp_cmpa (a b : Nat → Int) (x : Bool) (w : World) (ha : bdB a 576 = false) (hb0 : bdB b 576 = x) : Calls Tryd.prog 55 #[PV a, PV b] w fun e w' => e = .returned (.tuple #[.int .i64 0, .int .i64 1]) ∧ Below w.heap.size w w' := by
  have H1 := Hx.mk (fun w => rp_valid a w false ha)
  have H2 := Hx.mk (fun w => rp_valid b w x hb0)
  clear ha hb0
  go_enter Tryd.func55, Tryd.ntmps55
  go_wp2_with fail
  refine (H1.out _).mono ?_
  rintro e w1 ⟨rfl, hb⟩
  obtain ⟨hc1, hf1⟩ := bcell hb
  have hz1 := hb.size
  (try simp at hz1)
  have hB : Hx (Below w.heap.size w w1) := ⟨Below.trans (by repeat (first | with_reducible exact hB.out | with_reducible exact Below.refl _ _ | (with_reducible refine Below.setCell ?_ ?side _; case side => (first | omega | (simp <;> omega))) | (with_reducible refine Below.alloc ?_ ?side _; case side => (first | omega | (simp <;> omega))) | with_reducible apply below_drewN)) (hb.mono (by first | omega | (simp <;> omega)))⟩
  clear hb
  have hy1_0 : w.heap.size < w1.heap.size := by omega
  have hy1_1 : w.heap.size + 1 < w1.heap.size := by omega
  go_wp2_with fail
  refine (H2.out _).mono ?_
  rintro e w2 ⟨rfl, hb⟩
  obtain ⟨hc2, hf2⟩ := bcell hb
  have hz2 := hb.size
  (try simp at hz2)
  have hB : Hx (Below w.heap.size w w2) := ⟨Below.trans (by repeat (first | with_reducible exact hB.out | with_reducible exact Below.refl _ _ | (with_reducible refine Below.setCell ?_ ?side _; case side => (first | omega | (simp <;> omega))) | (with_reducible refine Below.alloc ?_ ?side _; case side => (first | omega | (simp <;> omega))) | with_reducible apply below_drewN)) (hb.mono (by first | omega | (simp <;> omega)))⟩
  clear hb
  have hy2_0 : w.heap.size < w2.heap.size := by omega
  have hy2_1 : w.heap.size + 1 < w2.heap.size := by omega
  go_wp2_with fail
  go_ret2
  exact ⟨rfl, (by repeat (first | with_reducible exact hB.out | with_reducible exact Below.refl _ _ | (with_reducible refine Below.setCell ?_ ?side _; case side => (first | omega | (simp <;> omega))) | (with_reducible refine Below.alloc ?_ ?side _; case side => (first | omega | (simp <;> omega))) | with_reducible apply below_drewN))⟩
theorem rp_cmpb (a b : Nat → Int) (w : World) (ha : bdB a 576 = true) (hb0 : bdB b 576 = false) : Calls Tryd.prog 55 #[PV a, PV b] w fun e w' => e = .returned (.tuple #[.int .i64 0, .int .i64 1]) ∧ Below w.heap.size w w' := by
  have H1 := Hx.mk (fun w => rp_valid a w true ha)
  have H2 := Hx.mk (fun w => rp_valid b w false hb0)
  clear ha hb0
  go_enter Tryd.func55, Tryd.ntmps55
  go_wp2_with fail
  refine (H1.out _).mono ?_
  rintro e w1 ⟨rfl, hb⟩
  obtain ⟨hc1, hf1⟩ := bcell hb
  have hz1 := hb.size
  (try simp at hz1)
  have hB : Hx (Below w.heap.size w w1) := ⟨Below.trans (by repeat (first | with_reducible exact hB.out | with_reducible exact Below.refl _ _ | (with_reducible refine Below.setCell ?_ ?side _; case side => (first | omega | (simp <;> omega))) | (with_reducible refine Below.alloc ?_ ?side _; case side => (first | omega | (simp <;> omega))) | with_reducible apply below_drewN)) (hb.mono (by first | omega | (simp <;> omega)))⟩
  clear hb
  have hy1_0 : w.heap.size < w1.heap.size := by omega
  have hy1_1 : w.heap.size + 1 < w1.heap.size := by omega
  go_wp2_with fail
  refine (H2.out _).mono ?_
  rintro e w2 ⟨rfl, hb⟩
  obtain ⟨hc2, hf2⟩ := bcell hb
  have hz2 := hb.size
  (try simp at hz2)
  have hB : Hx (Below w.heap.size w w2) := ⟨Below.trans (by repeat (first | with_reducible exact hB.out | with_reducible exact Below.refl _ _ | (with_reducible refine Below.setCell ?_ ?side _; case side => (first | omega | (simp <;> omega))) | (with_reducible refine Below.alloc ?_ ?side _; case side => (first | omega | (simp <;> omega))) | with_reducible apply below_drewN)) (hb.mono (by first | omega | (simp <;> omega)))⟩
  clear hb
  have hy2_0 : w.heap.size < w2.heap.size := by omega
  have hy2_1 : w.heap.size + 1 < w2.heap.size := by omega
  go_wp2_with fail
  go_ret2
  exact ⟨rfl, (by repeat (first | with_reducible exact hB.out | with_reducible exact Below.refl _ _ | (with_reducible refine Below.setCell ?_ ?side _; case side => (first | omega | (simp <;> omega))) | (with_reducible refine Below.alloc ?_ ?side _; case side => (first | omega | (simp <;> omega))) | with_reducible apply below_drewN))⟩
end Go.Proofs.YtomgihlkbmaleaaDoor

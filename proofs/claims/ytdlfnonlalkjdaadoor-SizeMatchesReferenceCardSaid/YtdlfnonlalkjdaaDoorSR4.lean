/- the reference's Of, Gap, Near of sizes. -/
import Derived.Test.YtdlfnonlalkjdaaDoorSR3
import Derived.Test.YtdlfnonlalkjdaaDoorP20
import Derived.Test.YtdlfnonlalkjdaaDoorSLNa
namespace Go.Proofs.YtdlfnonlalkjdaaDoor
open Go.RowKit M
theorem rof_no (p : Nat → Int) (hv : bdB p 576 = false) (w : World) : Calls Tryd.prog 16 #[PV p] w (OutZ w 0 0 1) := by
  have H := Hx.mk (fun w => refValid_any p w false hv)
  clear hv
  go_enter Tryd.func16, Tryd.ntmps16
  go_wp2_with fail
  refine (H.out _).mono ?_
  rintro e w1 ⟨rfl, hb⟩
  obtain ⟨hc1, hf1⟩ := bcell hb
  have hz1 := hb.size
  (try simp at hz1)
  have hB : Hx (Below w.heap.size w w1) := ⟨Below.trans (by repeat (first | with_reducible exact hB.out | with_reducible exact Below.refl _ _ | (with_reducible refine Below.setCell ?_ ?side _; case side => (first | omega | (simp <;> omega))) | (with_reducible refine Below.alloc ?_ ?side _; case side => (first | omega | (simp <;> omega))) | with_reducible apply below_drewN)) (hb.mono (by first | omega | (simp <;> omega)))⟩
  clear hb
  have hy1_0 : w.heap.size < w1.heap.size := by omega
  have hy1_1 : w.heap.size + 1 < w1.heap.size := by omega
  go_wp2_with fail
  refine bodyPost_ret_by (v := .tuple #[SV 0 0, .int .i64 1]) (by simp [results, Tryd.results16, go_sem, hc1]) rfl ?_
  exact ⟨rfl, (by repeat (first | with_reducible exact hB.out | with_reducible exact Below.refl _ _ | (with_reducible refine Below.setCell ?_ ?side _; case side => (first | omega | (simp <;> omega))) | (with_reducible refine Below.alloc ?_ ?side _; case side => (first | omega | (simp <;> omega))) | with_reducible apply below_drewN))⟩
theorem rof_ok (p : Nat → Int) (hv : bdB p 576 = true) (w : World) : Calls Tryd.prog 16 #[PV p] w (OutZ w (mLo p) (mHi p) 0) := by
  have H := Hx.mk (fun w => refValid_any p w true hv)
  have H2 := Hx.mk (fun w => exponents_any p w ⟨bd_1152 hv⟩)
  clear hv
  go_enter Tryd.func16, Tryd.ntmps16
  go_wp2_with fail
  refine (H.out _).mono ?_
  rintro e w1 ⟨rfl, hb⟩
  obtain ⟨hc1, hf1⟩ := bcell hb
  have hz1 := hb.size
  (try simp at hz1)
  have hB : Hx (Below w.heap.size w w1) := ⟨Below.trans (by repeat (first | with_reducible exact hB.out | with_reducible exact Below.refl _ _ | (with_reducible refine Below.setCell ?_ ?side _; case side => (first | omega | (simp <;> omega))) | (with_reducible refine Below.alloc ?_ ?side _; case side => (first | omega | (simp <;> omega))) | with_reducible apply below_drewN)) (hb.mono (by first | omega | (simp <;> omega)))⟩
  clear hb
  have hy1_0 : w.heap.size < w1.heap.size := by omega
  have hy1_1 : w.heap.size + 1 < w1.heap.size := by omega
  go_wp2_with fail
  refine (H2.out _).mono ?_
  rintro e w2 ⟨rfl, hb⟩
  obtain ⟨hc2, hf2⟩ := bcell hb
  have hz2 := hb.size
  (try simp at hz2)
  have hB : Hx (Below w.heap.size w w2) := ⟨Below.trans (by repeat (first | with_reducible exact hB.out | with_reducible exact Below.refl _ _ | (with_reducible refine Below.setCell ?_ ?side _; case side => (first | omega | (simp <;> omega))) | (with_reducible refine Below.alloc ?_ ?side _; case side => (first | omega | (simp <;> omega))) | with_reducible apply below_drewN)) (hb.mono (by first | omega | (simp <;> omega)))⟩
  clear hb
  have hy2_0 : w.heap.size < w2.heap.size := by omega
  have hy2_1 : w.heap.size + 1 < w2.heap.size := by omega
  go_wp2_with fail
  refine bodyPost_ret_by (v := .tuple #[SV (mLo p) (mHi p), .int .i64 0]) (by simp [results, Tryd.results16, go_sem, hc1, hy1_1, hc2]) rfl ?_
  exact ⟨rfl, (by repeat (first | with_reducible exact hB.out | with_reducible exact Below.refl _ _ | (with_reducible refine Below.setCell ?_ ?side _; case side => (first | omega | (simp <;> omega))) | (with_reducible refine Below.alloc ?_ ?side _; case side => (first | omega | (simp <;> omega))) | with_reducible apply below_drewN))⟩
theorem rof_any (p : Nat → Int) (x y k : Int) (h : ofR p = (x, y, k)) (w : World) : Calls Tryd.prog 16 #[PV p] w (OutZ w x y k) := by
  unfold ofR at h
  cases hv : bdB p 576
  · rw [hv] at h; simp at h; obtain ⟨rfl, rfl, rfl⟩ := h; exact rof_no p hv w
  · rw [hv] at h; simp only [if_true, Prod.mk.injEq] at h; obtain ⟨rfl, rfl, rfl⟩ := h; exact rof_ok p hv w
theorem rgap_a (a b : Nat → Int) (ha : bdB a 576 = false) (w : World) : Calls Tryd.prog 18 #[PV a, PV b] w (OutZ w 0 0 1) := by
  have H1 := Hx.mk (fun w => refValid_any a w false ha)
  clear ha
  go_enter Tryd.func18, Tryd.ntmps18
  go_wp2_with fail
  refine (H1.out _).mono ?_
  rintro e w1 ⟨rfl, hb⟩
  obtain ⟨hc1, hf1⟩ := bcell hb
  have hz1 := hb.size
  (try simp at hz1)
  have hB : Hx (Below w.heap.size w w1) := ⟨Below.trans (by repeat (first | with_reducible exact hB.out | with_reducible exact Below.refl _ _ | (with_reducible refine Below.setCell ?_ ?side _; case side => (first | omega | (simp <;> omega))) | (with_reducible refine Below.alloc ?_ ?side _; case side => (first | omega | (simp <;> omega))) | with_reducible apply below_drewN)) (hb.mono (by first | omega | (simp <;> omega)))⟩
  clear hb
  have hy1_0 : w.heap.size < w1.heap.size := by omega
  have hy1_1 : w.heap.size + 1 < w1.heap.size := by omega
  have hy1_2 : w.heap.size + 1 + 1 < w1.heap.size := by omega
  go_wp2_with fail
  refine bodyPost_ret_by (v := .tuple #[SV 0 0, .int .i64 1]) (by simp [results, Tryd.results18, go_sem, hc1]) rfl ?_
  exact ⟨rfl, (by repeat (first | with_reducible exact hB.out | with_reducible exact Below.refl _ _ | (with_reducible refine Below.setCell ?_ ?side _; case side => (first | omega | (simp <;> omega))) | (with_reducible refine Below.alloc ?_ ?side _; case side => (first | omega | (simp <;> omega))) | with_reducible apply below_drewN))⟩
theorem rgap_b (a b : Nat → Int) (ha : bdB a 576 = true) (hb0 : bdB b 576 = false) (w : World) : Calls Tryd.prog 18 #[PV a, PV b] w (OutZ w 0 0 1) := by
  have H1 := Hx.mk (fun w => refValid_any a w true ha)
  have H2 := Hx.mk (fun w => refValid_any b w false hb0)
  clear ha hb0
  go_enter Tryd.func18, Tryd.ntmps18
  go_wp2_with fail
  refine (H1.out _).mono ?_
  rintro e w1 ⟨rfl, hb⟩
  obtain ⟨hc1, hf1⟩ := bcell hb
  have hz1 := hb.size
  (try simp at hz1)
  have hB : Hx (Below w.heap.size w w1) := ⟨Below.trans (by repeat (first | with_reducible exact hB.out | with_reducible exact Below.refl _ _ | (with_reducible refine Below.setCell ?_ ?side _; case side => (first | omega | (simp <;> omega))) | (with_reducible refine Below.alloc ?_ ?side _; case side => (first | omega | (simp <;> omega))) | with_reducible apply below_drewN)) (hb.mono (by first | omega | (simp <;> omega)))⟩
  clear hb
  have hy1_0 : w.heap.size < w1.heap.size := by omega
  have hy1_1 : w.heap.size + 1 < w1.heap.size := by omega
  have hy1_2 : w.heap.size + 1 + 1 < w1.heap.size := by omega
  go_wp2_with fail
  refine (H2.out _).mono ?_
  rintro e w2 ⟨rfl, hb⟩
  obtain ⟨hc2, hf2⟩ := bcell hb
  have hz2 := hb.size
  (try simp at hz2)
  have hB : Hx (Below w.heap.size w w2) := ⟨Below.trans (by repeat (first | with_reducible exact hB.out | with_reducible exact Below.refl _ _ | (with_reducible refine Below.setCell ?_ ?side _; case side => (first | omega | (simp <;> omega))) | (with_reducible refine Below.alloc ?_ ?side _; case side => (first | omega | (simp <;> omega))) | with_reducible apply below_drewN)) (hb.mono (by first | omega | (simp <;> omega)))⟩
  clear hb
  have hy2_0 : w.heap.size < w2.heap.size := by omega
  have hy2_1 : w.heap.size + 1 < w2.heap.size := by omega
  have hy2_2 : w.heap.size + 1 + 1 < w2.heap.size := by omega
  go_wp2_with fail
  refine bodyPost_ret_by (v := .tuple #[SV 0 0, .int .i64 1]) (by simp [results, Tryd.results18, go_sem, hc1, hy1_2, hc2]) rfl ?_
  exact ⟨rfl, (by repeat (first | with_reducible exact hB.out | with_reducible exact Below.refl _ _ | (with_reducible refine Below.setCell ?_ ?side _; case side => (first | omega | (simp <;> omega))) | (with_reducible refine Below.alloc ?_ ?side _; case side => (first | omega | (simp <;> omega))) | with_reducible apply below_drewN))⟩
/-- What holds within the reference's Gap: the exponents, the differences so far, the result's cells. -/
structure Gs (w : World) (D : Nat) (a b : Nat → Int) (k : Nat) (W : World) : Prop where
  bl : Below w.heap.size w W
  hD : w.heap.size + 2 < D
  lt : D < W.heap.size
  xa : ∀ i, i < 6 → W.cell? ⟨w.heap.size, i, none⟩ = some (.int .i64 (a i))
  xb : ∀ i, i < 6 → W.cell? ⟨w.heap.size + 1, i, none⟩ = some (.int .i64 (b i))
  dc : ∀ i, i < 6 → W.cell? ⟨D, i, none⟩ = some (.int .i64 (if i < k then a i - b i else 0))
  fz : ∀ i, i < 6 → W.frozen? ⟨D, i, none⟩ = false
  rc : ∀ i, i < 2 → W.cell? ⟨w.heap.size + 1 + 1, i, none⟩ = some (.int .i64 0)
  rf : ∀ i, i < 2 → W.frozen? ⟨w.heap.size + 1 + 1, i, none⟩ = false
theorem Gs.keep {w W W' : World} {D : Nat} {a b : Nat → Int} {k : Nat} (h : Gs w D a b k W) (hb : Below W.heap.size W W') : Gs w D a b k W' := by
  have h1 := h.hD
  have h2 := h.lt
  exact ⟨h.bl.trans (hb.mono h.bl.size), h.hD, Nat.lt_of_lt_of_le h.lt hb.size, fun i hi => (hb.cell (p := ⟨w.heap.size, i, none⟩) (show w.heap.size < _ by omega)).trans (h.xa i hi), fun i hi => (hb.cell (p := ⟨w.heap.size + 1, i, none⟩) (show w.heap.size + 1 < _ by omega)).trans (h.xb i hi),
    fun i hi => (hb.cell (p := ⟨D, i, none⟩) h.lt).trans (h.dc i hi), fun i hi => (hb.frozen (p := ⟨D, i, none⟩) h.lt).trans (h.fz i hi), fun i hi => (hb.cell (p := ⟨w.heap.size + 1 + 1, i, none⟩) (show w.heap.size + 1 + 1 < _ by omega)).trans (h.rc i hi), fun i hi => (hb.frozen (p := ⟨w.heap.size + 1 + 1, i, none⟩) (show w.heap.size + 1 + 1 < _ by omega)).trans (h.rf i hi)⟩
theorem Gs.drew {w W : World} {D : Nat} {a b : Nat → Int} {k : Nat} (h : Gs w D a b k W) : Gs w D a b k W.drew := h.keep (Below.refl _ _).drew
theorem Gs.drewN {w W : World} {D : Nat} {a b : Nat → Int} {k : Nat} (h : Gs w D a b k W) (n : Nat) : Gs w D a b k (W.drewN n) := h.keep (below_drewN (Below.refl _ _) n)
theorem Gs.set {w W : World} {D : Nat} {a b : Nat → Int} {k : Nat} (h : Gs w D a b k W) (hk : k < 6) : Gs w D a b (k + 1) (W.setCell ⟨D, k, none⟩ (.int .i64 (a k - b k))) := by
  have h1 := h.hD
  have hb : Below D W (W.setCell ⟨D, k, none⟩ (.int .i64 (a k - b k))) := Below.setCell (p := ⟨D, k, none⟩) (Below.refl _ _) (Nat.le_refl D) _
  refine ⟨h.bl.trans (hb.mono (by omega)), h.hD, by simpa using h.lt, fun i hi => (hb.cell (p := ⟨w.heap.size, i, none⟩) (show w.heap.size < _ by omega)).trans (h.xa i hi), fun i hi => (hb.cell (p := ⟨w.heap.size + 1, i, none⟩) (show w.heap.size + 1 < _ by omega)).trans (h.xb i hi), ?_, ?_, fun i hi => (hb.cell (p := ⟨w.heap.size + 1 + 1, i, none⟩) (show w.heap.size + 1 + 1 < _ by omega)).trans (h.rc i hi), fun i hi => (hb.frozen (p := ⟨w.heap.size + 1 + 1, i, none⟩) (show w.heap.size + 1 + 1 < _ by omega)).trans (h.rf i hi)⟩
  · intro i hi
    have hc := h.dc k hk
    have hf := h.fz k hk
    by_cases e : i = k
    · subst e; rw [if_pos (by omega)]; simp [go_sem, hc]
    · have hi2 := h.dc i hi
      have e2 : (if i < k + 1 then a i - b i else 0) = (if i < k then a i - b i else 0) := by
        by_cases h3 : i < k
        · rw [if_pos h3, if_pos (by omega)]
        · rw [if_neg h3, if_neg (by omega)]
      rw [e2]
      simp [go_sem, hi2]
  · intro i hi
    have hf := h.fz i hi
    simp [go_sem, hf]
set_option maxHeartbeats 4000000 in
theorem rgap_ok (a b : Nat → Int) (ha : bdB a 576 = true) (hb0 : bdB b 576 = true) (w : World) : Calls Tryd.prog 18 #[PV a, PV b] w (OutZ w (mLo fun i => a i - b i) (mHi fun i => a i - b i) 0) := by
  have H1 := Hx.mk (fun w => refValid_any a w true ha)
  have H2 := Hx.mk (fun w => refValid_any b w true hb0)
  have HM := Hx.mk (fun w => exponents_any (fun i => a i - b i) w ⟨dif_bd ha hb0⟩)
  obtain ⟨p0, q0⟩ := dif_bd ha hb0 0 (by omega)
  obtain ⟨p1, q1⟩ := dif_bd ha hb0 1 (by omega)
  obtain ⟨p2, q2⟩ := dif_bd ha hb0 2 (by omega)
  obtain ⟨p3, q3⟩ := dif_bd ha hb0 3 (by omega)
  obtain ⟨p4, q4⟩ := dif_bd ha hb0 4 (by omega)
  obtain ⟨p5, q5⟩ := dif_bd ha hb0 5 (by omega)
  clear ha hb0
  go_enter Tryd.func18, Tryd.ntmps18
  go_wp2_with fail
  refine (H1.out _).mono ?_
  rintro e w1 ⟨rfl, hb⟩
  obtain ⟨hc1, hf1⟩ := bcell hb
  have hz1 := hb.size
  (try simp at hz1)
  have hB : Hx (Below w.heap.size w w1) := ⟨Below.trans (by repeat (first | with_reducible exact hB.out | with_reducible exact Below.refl _ _ | (with_reducible refine Below.setCell ?_ ?side _; case side => (first | omega | (simp <;> omega))) | (with_reducible refine Below.alloc ?_ ?side _; case side => (first | omega | (simp <;> omega))) | with_reducible apply below_drewN)) (hb.mono (by first | omega | (simp <;> omega)))⟩
  clear hb
  have hy1_0 : w.heap.size < w1.heap.size := by omega
  have hy1_1 : w.heap.size + 1 < w1.heap.size := by omega
  have hy1_2 : w.heap.size + 1 + 1 < w1.heap.size := by omega
  go_wp2_with fail
  refine (H2.out _).mono ?_
  rintro e w2 ⟨rfl, hb⟩
  obtain ⟨hc2, hf2⟩ := bcell hb
  have hz2 := hb.size
  (try simp at hz2)
  have hB : Hx (Below w.heap.size w w2) := ⟨Below.trans (by repeat (first | with_reducible exact hB.out | with_reducible exact Below.refl _ _ | (with_reducible refine Below.setCell ?_ ?side _; case side => (first | omega | (simp <;> omega))) | (with_reducible refine Below.alloc ?_ ?side _; case side => (first | omega | (simp <;> omega))) | with_reducible apply below_drewN)) (hb.mono (by first | omega | (simp <;> omega)))⟩
  clear hb
  have hy2_0 : w.heap.size < w2.heap.size := by omega
  have hy2_1 : w.heap.size + 1 < w2.heap.size := by omega
  have hy2_2 : w.heap.size + 1 + 1 < w2.heap.size := by omega
  have x0 : w2.cell? ⟨w.heap.size, 0, none⟩ = some (.int .i64 (a 0)) := by simp [go_sem, hc1, hy1_0, hc2]
  have y0 : w2.cell? ⟨w.heap.size + 1, 0, none⟩ = some (.int .i64 (b 0)) := by simp [go_sem, hc1, hy1_1, hc2]
  have x1 : w2.cell? ⟨w.heap.size, 1, none⟩ = some (.int .i64 (a 1)) := by simp [go_sem, hc1, hy1_0, hc2]
  have y1 : w2.cell? ⟨w.heap.size + 1, 1, none⟩ = some (.int .i64 (b 1)) := by simp [go_sem, hc1, hy1_1, hc2]
  have x2 : w2.cell? ⟨w.heap.size, 2, none⟩ = some (.int .i64 (a 2)) := by simp [go_sem, hc1, hy1_0, hc2]
  have y2 : w2.cell? ⟨w.heap.size + 1, 2, none⟩ = some (.int .i64 (b 2)) := by simp [go_sem, hc1, hy1_1, hc2]
  have x3 : w2.cell? ⟨w.heap.size, 3, none⟩ = some (.int .i64 (a 3)) := by simp [go_sem, hc1, hy1_0, hc2]
  have y3 : w2.cell? ⟨w.heap.size + 1, 3, none⟩ = some (.int .i64 (b 3)) := by simp [go_sem, hc1, hy1_1, hc2]
  have x4 : w2.cell? ⟨w.heap.size, 4, none⟩ = some (.int .i64 (a 4)) := by simp [go_sem, hc1, hy1_0, hc2]
  have y4 : w2.cell? ⟨w.heap.size + 1, 4, none⟩ = some (.int .i64 (b 4)) := by simp [go_sem, hc1, hy1_1, hc2]
  have x5 : w2.cell? ⟨w.heap.size, 5, none⟩ = some (.int .i64 (a 5)) := by simp [go_sem, hc1, hy1_0, hc2]
  have y5 : w2.cell? ⟨w.heap.size + 1, 5, none⟩ = some (.int .i64 (b 5)) := by simp [go_sem, hc1, hy1_1, hc2]
  have u0 : w2.cell? ⟨w.heap.size + 1 + 1, 0, none⟩ = some (.int .i64 0) := by simp [go_sem, hc1, hy1_2, hc2]
  have v0 : w2.frozen? ⟨w.heap.size + 1 + 1, 0, none⟩ = false := by simp [go_sem, hf1, hy1_2, hf2]
  have u1 : w2.cell? ⟨w.heap.size + 1 + 1, 1, none⟩ = some (.int .i64 0) := by simp [go_sem, hc1, hy1_2, hc2]
  have v1 : w2.frozen? ⟨w.heap.size + 1 + 1, 1, none⟩ = false := by simp [go_sem, hf1, hy1_2, hf2]
  clear hc1 hf1 hc2 hf2 hz1 hz2 hy1_0 hy1_1 hy1_2 H1 H2
  go_wp2_with fail
  have G0 : Hx (Gs w w2.heap.size a b 0 (w2.alloc (.cells #[.int .i64 0, .int .i64 0, .int .i64 0, .int .i64 0, .int .i64 0, .int .i64 0] 24))) := by
    refine ⟨⟨hB.out.alloc hB.out.size _, by omega, by simp, ?_, ?_, ?_, ?_, ?_, ?_⟩⟩
    · intro i hi
      have : i = 0 ∨ i = 1 ∨ i = 2 ∨ i = 3 ∨ i = 4 ∨ i = 5 := by omega
      rcases this with rfl | rfl | rfl | rfl | rfl | rfl <;> simp [go_sem, x0, x1, x2, x3, x4, x5, hy2_0]
    · intro i hi
      have : i = 0 ∨ i = 1 ∨ i = 2 ∨ i = 3 ∨ i = 4 ∨ i = 5 := by omega
      rcases this with rfl | rfl | rfl | rfl | rfl | rfl <;> simp [go_sem, y0, y1, y2, y3, y4, y5, hy2_1]
    · intro i hi
      have : i = 0 ∨ i = 1 ∨ i = 2 ∨ i = 3 ∨ i = 4 ∨ i = 5 := by omega
      rcases this with rfl | rfl | rfl | rfl | rfl | rfl <;> simp [go_sem]
    · intro i hi
      simp [go_sem]
    · intro i hi
      have : i = 0 ∨ i = 1 := by omega
      rcases this with rfl | rfl <;> simp [go_sem, u0, u1, hy2_2]
    · intro i hi
      have : i = 0 ∨ i = 1 := by omega
      rcases this with rfl | rfl <;> simp [go_sem, v0, v1, hy2_2]
  clear x0 x1 x2 x3 x4 x5 y0 y1 y2 y3 y4 y5 u0 u1 v0 v1
  go_loopw [7] (fun iv wr => ∃ k : Nat, k ≤ 6 ∧ iv = .int .i64 (k : Int) ∧ Hx (Gs w w2.heap.size a b k wr)) (fun iv _ => 6 - (intOf iv).toNat)
  case atStart => exact ⟨0, by omega, rfl, G0⟩
  case round =>
    clear G0
    obtain ⟨k, hk, rfl, HS⟩ := hrel
    have : k = 0 ∨ k = 1 ∨ k = 2 ∨ k = 3 ∨ k = 4 ∨ k = 5 ∨ k = 6 := by omega
    rcases this with rfl | rfl | rfl | rfl | rfl | rfl | rfl
    · have xa := HS.out.xa 0 (by omega)
      have xb := HS.out.xb 0 (by omega)
      have dc := HS.out.dc 0 (by omega)
      have fz := HS.out.fz 0 (by omega)
      go_wp2_with fail
      go_region
      all_goals
        go_wp2
        go_roundw
        case rel => exact ⟨1, by omega, rfl, ⟨by repeat (first | exact HS.out.set (by omega) | apply Gs.drew | apply Gs.drewN)⟩⟩
        case measure => simp [intOf]
    · have xa := HS.out.xa 1 (by omega)
      have xb := HS.out.xb 1 (by omega)
      have dc := HS.out.dc 1 (by omega)
      have fz := HS.out.fz 1 (by omega)
      go_wp2_with fail
      go_region
      all_goals
        go_wp2
        go_roundw
        case rel => exact ⟨2, by omega, rfl, ⟨by repeat (first | exact HS.out.set (by omega) | apply Gs.drew | apply Gs.drewN)⟩⟩
        case measure => simp [intOf]
    · have xa := HS.out.xa 2 (by omega)
      have xb := HS.out.xb 2 (by omega)
      have dc := HS.out.dc 2 (by omega)
      have fz := HS.out.fz 2 (by omega)
      go_wp2_with fail
      go_region
      all_goals
        go_wp2
        go_roundw
        case rel => exact ⟨3, by omega, rfl, ⟨by repeat (first | exact HS.out.set (by omega) | apply Gs.drew | apply Gs.drewN)⟩⟩
        case measure => simp [intOf]
    · have xa := HS.out.xa 3 (by omega)
      have xb := HS.out.xb 3 (by omega)
      have dc := HS.out.dc 3 (by omega)
      have fz := HS.out.fz 3 (by omega)
      go_wp2_with fail
      go_region
      all_goals
        go_wp2
        go_roundw
        case rel => exact ⟨4, by omega, rfl, ⟨by repeat (first | exact HS.out.set (by omega) | apply Gs.drew | apply Gs.drewN)⟩⟩
        case measure => simp [intOf]
    · have xa := HS.out.xa 4 (by omega)
      have xb := HS.out.xb 4 (by omega)
      have dc := HS.out.dc 4 (by omega)
      have fz := HS.out.fz 4 (by omega)
      go_wp2_with fail
      go_region
      all_goals
        go_wp2
        go_roundw
        case rel => exact ⟨5, by omega, rfl, ⟨by repeat (first | exact HS.out.set (by omega) | apply Gs.drew | apply Gs.drewN)⟩⟩
        case measure => simp [intOf]
    · have xa := HS.out.xa 5 (by omega)
      have xb := HS.out.xb 5 (by omega)
      have dc := HS.out.dc 5 (by omega)
      have fz := HS.out.fz 5 (by omega)
      go_wp2_with fail
      go_region
      all_goals
        go_wp2
        go_roundw
        case rel => exact ⟨6, by omega, rfl, ⟨by repeat (first | exact HS.out.set (by omega) | apply Gs.drew | apply Gs.drewN)⟩⟩
        case measure => simp [intOf]
    · have d0 := HS.out.dc 0 (by omega)
      have d1 := HS.out.dc 1 (by omega)
      have d2 := HS.out.dc 2 (by omega)
      have d3 := HS.out.dc 3 (by omega)
      have d4 := HS.out.dc 4 (by omega)
      have d5 := HS.out.dc 5 (by omega)
      simp only [Nat.reduceLT, if_true] at d0 d1 d2 d3 d4 d5
      go_wp2_with fail
      refine (HM.out _).mono ?_
      rintro e w3 ⟨rfl, hb⟩
      have HZ := HS.out.keep (Below.trans (by repeat (first | with_reducible exact Below.refl _ _ | with_reducible apply Below.drew | with_reducible apply below_drewN)) hb)
      have r0 := HZ.rc 0 (by omega)
      have r1 := HZ.rc 1 (by omega)
      have s0 := HZ.rf 0 (by omega)
      have s1 := HZ.rf 1 (by omega)
      have HB := Hx.mk HZ.bl
      clear hb HZ
      go_wp2_with fail
      refine bodyPost_ret_by (v := .tuple #[SV (mLo fun i => a i - b i) (mHi fun i => a i - b i), .int .i64 0]) (by simp [results, Tryd.results18, go_sem, r0, r1]) rfl ?_
      refine ⟨rfl, HB.out.trans (Below.setCell (Below.setCell (Below.refl _ _) ?_ _) ?_ _)⟩ <;> (show w.heap.size ≤ w.heap.size + 1 + 1; omega)
theorem rgap_any (a b : Nat → Int) (x y k : Int) (h : gpR a b = (x, y, k)) (w : World) : Calls Tryd.prog 18 #[PV a, PV b] w (OutZ w x y k) := by
  unfold gpR at h
  cases ha : bdB a 576
  · rw [ha] at h; simp at h; obtain ⟨rfl, rfl, rfl⟩ := h; exact rgap_a a b ha w
  · cases hb : bdB b 576
    · rw [ha, hb] at h; simp at h; obtain ⟨rfl, rfl, rfl⟩ := h; exact rgap_b a b ha hb w
    · rw [ha, hb] at h; simp only [Bool.and_self, if_true, Prod.mk.injEq] at h; obtain ⟨rfl, rfl, rfl⟩ := h; exact rgap_ok a b ha hb w
end Go.Proofs.YtdlfnonlalkjdaaDoor

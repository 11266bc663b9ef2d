/- pitch.Power. -/
import Derived.Test.YtomgihlkbmaleaaDoorP11
import Derived.Deep.DeepCutAuto
namespace Go.Proofs.YtomgihlkbmaleaaDoor
open Go.RowKit M
theorem mul_lim {n x : Int} (h0 : -576 ≤ n) (h1 : n ≤ 576) (hx : -576 ≤ x ∧ x ≤ 576) : -1000000 ≤ n * x ∧ n * x ≤ 1000000 := by
  have h2 : (n * x).natAbs = n.natAbs * x.natAbs := Int.natAbs_mul n x
  have h3 : n.natAbs * x.natAbs ≤ 576 * 576 := Nat.mul_le_mul (by omega) (by omega)
  omega
set_option maxHeartbeats 1000000 in
theorem power_ok (v u r : Nat → Int) (n d c : Int) (w : World) (h : bdB v 576 = true) (hn0 : -576 ≤ n) (hn1 : n ≤ 576) (hd0 : 1 ≤ d) (hd1 : d ≤ 12) (hu : ∀ i, i < 6 → n * v i = d * u i) (hr : chkV u = r) (hc : chkE u = c) :
    Calls Tryd.prog 49 #[PV v, .int .i64 n, .int .i64 d] w (OutV w r c) := by
  obtain ⟨s, hs⟩ : ∃ s : Nat → Int, s = fun i => n * v i := ⟨_, rfl⟩
  have hsl : Lim 1000000 s := fun i hi => by rw [hs]; exact mul_lim hn0 hn1 (bdB_yes.1 h i hi)
  have H1 := Hx.mk (fun w => pvalid_any v w true h)
  have H2 := Hx.mk (fun w => sum_any (fun _ => 0) v s n w ⟨fun i hi => by simp⟩ ⟨fun i hi => mul_lim hn0 hn1 (bdB_yes.1 h i hi)⟩ ⟨fun i hi => by rw [hs]; simp⟩)
  have H3 := Hx.mk (fun w => divided_yes s u d w (by omega) (by omega) ⟨hsl⟩ ⟨fun i hi => by rw [hs]; exact hu i hi⟩)
  have H4 := Hx.mk (fun w => checked_any u w)
  rw [hr, hc] at H4
  clear h hu hs hsl hr hc
  go_enter Tryd.func49, Tryd.ntmps49
  go_wp2_with fail
  refine (H1.out _).mono ?_
  rintro e w1 ⟨rfl, hb⟩
  obtain ⟨hc1, hf1⟩ := bcell hb
  have hz1 := hb.size
  (try simp at hz1)
  have hB : Hx (Below w.heap.size w w1) := ⟨Below.trans (by repeat (first | with_reducible exact hB.out | with_reducible exact Below.refl _ _ | (with_reducible refine Below.setCell ?_ ?side _; case side => (first | omega | (simp <;> omega))) | (with_reducible refine Below.alloc ?_ ?side _; case side => (first | omega | (simp <;> omega))) | with_reducible apply below_drewN)) (hb.mono (by first | omega | (simp <;> omega)))⟩
  clear hb
  have hy1_0 : w.heap.size < w1.heap.size := by omega
  have hy1_1 : w.heap.size + 1 < w1.heap.size := by omega
  go_wp2_with fail
  refine (H2.out _).mono ?_
  rintro e w2 ⟨rfl, hb⟩
  obtain ⟨hc2, hf2⟩ := bcell hb
  have hz2 := hb.size
  (try simp at hz2)
  have hB : Hx (Below w.heap.size w w2) := ⟨Below.trans (by repeat (first | with_reducible exact hB.out | with_reducible exact Below.refl _ _ | (with_reducible refine Below.setCell ?_ ?side _; case side => (first | omega | (simp <;> omega))) | (with_reducible refine Below.alloc ?_ ?side _; case side => (first | omega | (simp <;> omega))) | with_reducible apply below_drewN)) (hb.mono (by first | omega | (simp <;> omega)))⟩
  clear hb
  have hy2_0 : w.heap.size < w2.heap.size := by omega
  have hy2_1 : w.heap.size + 1 < w2.heap.size := by omega
  go_wp2_with fail
  refine (H3.out _).mono ?_
  rintro e w3 ⟨rfl, hb⟩
  obtain ⟨hc3, hf3⟩ := bcell hb
  have hz3 := hb.size
  (try simp at hz3)
  have hB : Hx (Below w.heap.size w w3) := ⟨Below.trans (by repeat (first | with_reducible exact hB.out | with_reducible exact Below.refl _ _ | (with_reducible refine Below.setCell ?_ ?side _; case side => (first | omega | (simp <;> omega))) | (with_reducible refine Below.alloc ?_ ?side _; case side => (first | omega | (simp <;> omega))) | with_reducible apply below_drewN)) (hb.mono (by first | omega | (simp <;> omega)))⟩
  clear hb
  have hy3_0 : w.heap.size < w3.heap.size := by omega
  have hy3_1 : w.heap.size + 1 < w3.heap.size := by omega
  go_upto_region 4 with fail
  have uc0 : (w3.alloc (.cells #[.int .i64 (u 0), .int .i64 (u 1), .int .i64 (u 2), .int .i64 (u 3), .int .i64 (u 4), .int .i64 (u 5)] 22)).cell? ⟨w3.heap.size, 0, none⟩ = some (.int .i64 (u 0)) := by simp [go_sem]
  have zc0 : (w3.alloc (.cells #[.int .i64 (u 0), .int .i64 (u 1), .int .i64 (u 2), .int .i64 (u 3), .int .i64 (u 4), .int .i64 (u 5)] 22)).cell? ⟨w.heap.size + 1, 0, none⟩ = some (.int .i64 0) := by simp [go_sem, hc1, hy1_1, hc2, hy2_1, hc3, hy3_1]
  have zf0 : (w3.alloc (.cells #[.int .i64 (u 0), .int .i64 (u 1), .int .i64 (u 2), .int .i64 (u 3), .int .i64 (u 4), .int .i64 (u 5)] 22)).frozen? ⟨w.heap.size + 1, 0, none⟩ = false := by simp [go_sem, hf1, hy1_1, hf2, hy2_1, hf3, hy3_1]
  have uc1 : (w3.alloc (.cells #[.int .i64 (u 0), .int .i64 (u 1), .int .i64 (u 2), .int .i64 (u 3), .int .i64 (u 4), .int .i64 (u 5)] 22)).cell? ⟨w3.heap.size, 1, none⟩ = some (.int .i64 (u 1)) := by simp [go_sem]
  have zc1 : (w3.alloc (.cells #[.int .i64 (u 0), .int .i64 (u 1), .int .i64 (u 2), .int .i64 (u 3), .int .i64 (u 4), .int .i64 (u 5)] 22)).cell? ⟨w.heap.size + 1, 1, none⟩ = some (.int .i64 0) := by simp [go_sem, hc1, hy1_1, hc2, hy2_1, hc3, hy3_1]
  have zf1 : (w3.alloc (.cells #[.int .i64 (u 0), .int .i64 (u 1), .int .i64 (u 2), .int .i64 (u 3), .int .i64 (u 4), .int .i64 (u 5)] 22)).frozen? ⟨w.heap.size + 1, 1, none⟩ = false := by simp [go_sem, hf1, hy1_1, hf2, hy2_1, hf3, hy3_1]
  have uc2 : (w3.alloc (.cells #[.int .i64 (u 0), .int .i64 (u 1), .int .i64 (u 2), .int .i64 (u 3), .int .i64 (u 4), .int .i64 (u 5)] 22)).cell? ⟨w3.heap.size, 2, none⟩ = some (.int .i64 (u 2)) := by simp [go_sem]
  have zc2 : (w3.alloc (.cells #[.int .i64 (u 0), .int .i64 (u 1), .int .i64 (u 2), .int .i64 (u 3), .int .i64 (u 4), .int .i64 (u 5)] 22)).cell? ⟨w.heap.size + 1, 2, none⟩ = some (.int .i64 0) := by simp [go_sem, hc1, hy1_1, hc2, hy2_1, hc3, hy3_1]
  have zf2 : (w3.alloc (.cells #[.int .i64 (u 0), .int .i64 (u 1), .int .i64 (u 2), .int .i64 (u 3), .int .i64 (u 4), .int .i64 (u 5)] 22)).frozen? ⟨w.heap.size + 1, 2, none⟩ = false := by simp [go_sem, hf1, hy1_1, hf2, hy2_1, hf3, hy3_1]
  have uc3 : (w3.alloc (.cells #[.int .i64 (u 0), .int .i64 (u 1), .int .i64 (u 2), .int .i64 (u 3), .int .i64 (u 4), .int .i64 (u 5)] 22)).cell? ⟨w3.heap.size, 3, none⟩ = some (.int .i64 (u 3)) := by simp [go_sem]
  have zc3 : (w3.alloc (.cells #[.int .i64 (u 0), .int .i64 (u 1), .int .i64 (u 2), .int .i64 (u 3), .int .i64 (u 4), .int .i64 (u 5)] 22)).cell? ⟨w.heap.size + 1, 3, none⟩ = some (.int .i64 0) := by simp [go_sem, hc1, hy1_1, hc2, hy2_1, hc3, hy3_1]
  have zf3 : (w3.alloc (.cells #[.int .i64 (u 0), .int .i64 (u 1), .int .i64 (u 2), .int .i64 (u 3), .int .i64 (u 4), .int .i64 (u 5)] 22)).frozen? ⟨w.heap.size + 1, 3, none⟩ = false := by simp [go_sem, hf1, hy1_1, hf2, hy2_1, hf3, hy3_1]
  have uc4 : (w3.alloc (.cells #[.int .i64 (u 0), .int .i64 (u 1), .int .i64 (u 2), .int .i64 (u 3), .int .i64 (u 4), .int .i64 (u 5)] 22)).cell? ⟨w3.heap.size, 4, none⟩ = some (.int .i64 (u 4)) := by simp [go_sem]
  have zc4 : (w3.alloc (.cells #[.int .i64 (u 0), .int .i64 (u 1), .int .i64 (u 2), .int .i64 (u 3), .int .i64 (u 4), .int .i64 (u 5)] 22)).cell? ⟨w.heap.size + 1, 4, none⟩ = some (.int .i64 0) := by simp [go_sem, hc1, hy1_1, hc2, hy2_1, hc3, hy3_1]
  have zf4 : (w3.alloc (.cells #[.int .i64 (u 0), .int .i64 (u 1), .int .i64 (u 2), .int .i64 (u 3), .int .i64 (u 4), .int .i64 (u 5)] 22)).frozen? ⟨w.heap.size + 1, 4, none⟩ = false := by simp [go_sem, hf1, hy1_1, hf2, hy2_1, hf3, hy3_1]
  have uc5 : (w3.alloc (.cells #[.int .i64 (u 0), .int .i64 (u 1), .int .i64 (u 2), .int .i64 (u 3), .int .i64 (u 4), .int .i64 (u 5)] 22)).cell? ⟨w3.heap.size, 5, none⟩ = some (.int .i64 (u 5)) := by simp [go_sem]
  have zc5 : (w3.alloc (.cells #[.int .i64 (u 0), .int .i64 (u 1), .int .i64 (u 2), .int .i64 (u 3), .int .i64 (u 4), .int .i64 (u 5)] 22)).cell? ⟨w.heap.size + 1, 5, none⟩ = some (.int .i64 0) := by simp [go_sem, hc1, hy1_1, hc2, hy2_1, hc3, hy3_1]
  have zf5 : (w3.alloc (.cells #[.int .i64 (u 0), .int .i64 (u 1), .int .i64 (u 2), .int .i64 (u 3), .int .i64 (u 4), .int .i64 (u 5)] 22)).frozen? ⟨w.heap.size + 1, 5, none⟩ = false := by simp [go_sem, hf1, hy1_1, hf2, hy2_1, hf3, hy3_1]
  have hB : Hx (Below w.heap.size w (w3.alloc (.cells #[.int .i64 (u 0), .int .i64 (u 1), .int .i64 (u 2), .int .i64 (u 3), .int .i64 (u 4), .int .i64 (u 5)] 22))) := ⟨hB.out.alloc hB.out.size _⟩
  have hne1 : ¬ w3.heap.size = w.heap.size + 1 := by omega
  have hne2 : ¬ w.heap.size + 1 = w3.heap.size := by omega
  have hl : w.heap.size + 1 < (w3.alloc (.cells #[.int .i64 (u 0), .int .i64 (u 1), .int .i64 (u 2), .int .i64 (u 3), .int .i64 (u 4), .int .i64 (u 5)] 22)).heap.size := by simp; omega
  clear hc1 hf1 hc2 hf2 hc3 hf3
  generalize (w3.alloc (.cells #[.int .i64 (u 0), .int .i64 (u 1), .int .i64 (u 2), .int .i64 (u 3), .int .i64 (u 4), .int .i64 (u 5)] 22)) = W3 at *
  generalize w3.heap.size = b2 at *
  clear hy1_0 hy1_1 hz1 hy2_0 hy2_1 hz2 hy3_0 hy3_1 hz3
  go_wp2_with fail
  refine (H4.out _).mono ?_
  rintro e w4 ⟨rfl, hb⟩
  replace zc0 := (hb.cell (p := ⟨w.heap.size + 1, 0, none⟩) (by show w.heap.size + 1 < _; omega)).trans zc0
  replace zf0 := (hb.frozen (p := ⟨w.heap.size + 1, 0, none⟩) (by show w.heap.size + 1 < _; omega)).trans zf0
  replace zc1 := (hb.cell (p := ⟨w.heap.size + 1, 1, none⟩) (by show w.heap.size + 1 < _; omega)).trans zc1
  replace zf1 := (hb.frozen (p := ⟨w.heap.size + 1, 1, none⟩) (by show w.heap.size + 1 < _; omega)).trans zf1
  replace zc2 := (hb.cell (p := ⟨w.heap.size + 1, 2, none⟩) (by show w.heap.size + 1 < _; omega)).trans zc2
  replace zf2 := (hb.frozen (p := ⟨w.heap.size + 1, 2, none⟩) (by show w.heap.size + 1 < _; omega)).trans zf2
  replace zc3 := (hb.cell (p := ⟨w.heap.size + 1, 3, none⟩) (by show w.heap.size + 1 < _; omega)).trans zc3
  replace zf3 := (hb.frozen (p := ⟨w.heap.size + 1, 3, none⟩) (by show w.heap.size + 1 < _; omega)).trans zf3
  replace zc4 := (hb.cell (p := ⟨w.heap.size + 1, 4, none⟩) (by show w.heap.size + 1 < _; omega)).trans zc4
  replace zf4 := (hb.frozen (p := ⟨w.heap.size + 1, 4, none⟩) (by show w.heap.size + 1 < _; omega)).trans zf4
  replace zc5 := (hb.cell (p := ⟨w.heap.size + 1, 5, none⟩) (by show w.heap.size + 1 < _; omega)).trans zc5
  replace zf5 := (hb.frozen (p := ⟨w.heap.size + 1, 5, none⟩) (by show w.heap.size + 1 < _; omega)).trans zf5
  have hB : Hx (Below w.heap.size w w4) := ⟨hB.out.trans (hb.mono (by omega))⟩
  clear hb
  go_wp2_with fail
  refine bodyPost_ret_by (v := .tuple #[PV r, .int .i64 c]) (by simp [results, Tryd.results49, go_sem, zc0, zc1, zc2, zc3, zc4, zc5]) rfl ?_
  exact ⟨rfl, (by repeat (first | with_reducible exact hB.out | with_reducible exact Below.refl _ _ | (with_reducible refine Below.setCell ?_ ?side _; case side => (first | omega | (simp <;> omega))) | (with_reducible refine Below.alloc ?_ ?side _; case side => (first | omega | (simp <;> omega))) | with_reducible apply below_drewN))⟩
theorem power_v (v : Nat → Int) (n d : Int) (w : World) (h : bdB v 576 = false) : Calls Tryd.prog 49 #[PV v, .int .i64 n, .int .i64 d] w (OutV w (fun _ => 0) 1) := by
  have H1 := Hx.mk (fun w => pvalid_any v w false h)
  clear h
  go_enter Tryd.func49, Tryd.ntmps49
  go_wp2_with fail
  refine (H1.out _).mono ?_
  rintro e w1 ⟨rfl, hb⟩
  obtain ⟨hc1, hf1⟩ := bcell hb
  have hz1 := hb.size
  (try simp at hz1)
  have hB : Hx (Below w.heap.size w w1) := ⟨Below.trans (by repeat (first | with_reducible exact hB.out | with_reducible exact Below.refl _ _ | (with_reducible refine Below.setCell ?_ ?side _; case side => (first | omega | (simp <;> omega))) | (with_reducible refine Below.alloc ?_ ?side _; case side => (first | omega | (simp <;> omega))) | with_reducible apply below_drewN)) (hb.mono (by first | omega | (simp <;> omega)))⟩
  clear hb
  have hy1_0 : w.heap.size < w1.heap.size := by omega
  have hy1_1 : w.heap.size + 1 < w1.heap.size := by omega
  go_wp2_with fail
  refine bodyPost_ret_by (v := .tuple #[PV fun _ => 0, .int .i64 1]) (by simp [results, Tryd.results49, go_sem, hc1]) rfl ?_
  exact ⟨rfl, (by repeat (first | with_reducible exact hB.out | with_reducible exact Below.refl _ _ | (with_reducible refine Below.setCell ?_ ?side _; case side => (first | omega | (simp <;> omega))) | (with_reducible refine Below.alloc ?_ ?side _; case side => (first | omega | (simp <;> omega))) | with_reducible apply below_drewN))⟩
theorem power_n0 (v : Nat → Int) (n d : Int) (w : World) (h : bdB v 576 = true) (h1 : n < -576) : Calls Tryd.prog 49 #[PV v, .int .i64 n, .int .i64 d] w (OutV w (fun _ => 0) 1) := by
  have H1 := Hx.mk (fun w => pvalid_any v w true h)
  clear h
  go_enter Tryd.func49, Tryd.ntmps49
  go_wp2_with fail
  refine (H1.out _).mono ?_
  rintro e w1 ⟨rfl, hb⟩
  obtain ⟨hc1, hf1⟩ := bcell hb
  have hz1 := hb.size
  (try simp at hz1)
  have hB : Hx (Below w.heap.size w w1) := ⟨Below.trans (by repeat (first | with_reducible exact hB.out | with_reducible exact Below.refl _ _ | (with_reducible refine Below.setCell ?_ ?side _; case side => (first | omega | (simp <;> omega))) | (with_reducible refine Below.alloc ?_ ?side _; case side => (first | omega | (simp <;> omega))) | with_reducible apply below_drewN)) (hb.mono (by first | omega | (simp <;> omega)))⟩
  clear hb
  have hy1_0 : w.heap.size < w1.heap.size := by omega
  have hy1_1 : w.heap.size + 1 < w1.heap.size := by omega
  go_wp2_with fail
  refine bodyPost_ret_by (v := .tuple #[PV fun _ => 0, .int .i64 1]) (by simp [results, Tryd.results49, go_sem, hc1]) rfl ?_
  exact ⟨rfl, (by repeat (first | with_reducible exact hB.out | with_reducible exact Below.refl _ _ | (with_reducible refine Below.setCell ?_ ?side _; case side => (first | omega | (simp <;> omega))) | (with_reducible refine Below.alloc ?_ ?side _; case side => (first | omega | (simp <;> omega))) | with_reducible apply below_drewN))⟩
theorem power_n1 (v : Nat → Int) (n d : Int) (w : World) (h : bdB v 576 = true) (h0 : -576 ≤ n) (h1 : 576 < n) : Calls Tryd.prog 49 #[PV v, .int .i64 n, .int .i64 d] w (OutV w (fun _ => 0) 1) := by
  have H1 := Hx.mk (fun w => pvalid_any v w true h)
  clear h
  go_enter Tryd.func49, Tryd.ntmps49
  go_wp2_with fail
  refine (H1.out _).mono ?_
  rintro e w1 ⟨rfl, hb⟩
  obtain ⟨hc1, hf1⟩ := bcell hb
  have hz1 := hb.size
  (try simp at hz1)
  have hB : Hx (Below w.heap.size w w1) := ⟨Below.trans (by repeat (first | with_reducible exact hB.out | with_reducible exact Below.refl _ _ | (with_reducible refine Below.setCell ?_ ?side _; case side => (first | omega | (simp <;> omega))) | (with_reducible refine Below.alloc ?_ ?side _; case side => (first | omega | (simp <;> omega))) | with_reducible apply below_drewN)) (hb.mono (by first | omega | (simp <;> omega)))⟩
  clear hb
  have hy1_0 : w.heap.size < w1.heap.size := by omega
  have hy1_1 : w.heap.size + 1 < w1.heap.size := by omega
  go_wp2_with fail
  refine bodyPost_ret_by (v := .tuple #[PV fun _ => 0, .int .i64 1]) (by simp [results, Tryd.results49, go_sem, hc1]) rfl ?_
  exact ⟨rfl, (by repeat (first | with_reducible exact hB.out | with_reducible exact Below.refl _ _ | (with_reducible refine Below.setCell ?_ ?side _; case side => (first | omega | (simp <;> omega))) | (with_reducible refine Below.alloc ?_ ?side _; case side => (first | omega | (simp <;> omega))) | with_reducible apply below_drewN))⟩
theorem power_d0 (v : Nat → Int) (n d : Int) (w : World) (h : bdB v 576 = true) (h0 : -576 ≤ n) (h01 : n ≤ 576) (h1 : d < 1) : Calls Tryd.prog 49 #[PV v, .int .i64 n, .int .i64 d] w (OutV w (fun _ => 0) 1) := by
  have H1 := Hx.mk (fun w => pvalid_any v w true h)
  clear h
  go_enter Tryd.func49, Tryd.ntmps49
  go_wp2_with fail
  refine (H1.out _).mono ?_
  rintro e w1 ⟨rfl, hb⟩
  obtain ⟨hc1, hf1⟩ := bcell hb
  have hz1 := hb.size
  (try simp at hz1)
  have hB : Hx (Below w.heap.size w w1) := ⟨Below.trans (by repeat (first | with_reducible exact hB.out | with_reducible exact Below.refl _ _ | (with_reducible refine Below.setCell ?_ ?side _; case side => (first | omega | (simp <;> omega))) | (with_reducible refine Below.alloc ?_ ?side _; case side => (first | omega | (simp <;> omega))) | with_reducible apply below_drewN)) (hb.mono (by first | omega | (simp <;> omega)))⟩
  clear hb
  have hy1_0 : w.heap.size < w1.heap.size := by omega
  have hy1_1 : w.heap.size + 1 < w1.heap.size := by omega
  go_wp2_with fail
  refine bodyPost_ret_by (v := .tuple #[PV fun _ => 0, .int .i64 1]) (by simp [results, Tryd.results49, go_sem, hc1]) rfl ?_
  exact ⟨rfl, (by repeat (first | with_reducible exact hB.out | with_reducible exact Below.refl _ _ | (with_reducible refine Below.setCell ?_ ?side _; case side => (first | omega | (simp <;> omega))) | (with_reducible refine Below.alloc ?_ ?side _; case side => (first | omega | (simp <;> omega))) | with_reducible apply below_drewN))⟩
theorem power_d1 (v : Nat → Int) (n d : Int) (w : World) (h : bdB v 576 = true) (h0 : -576 ≤ n) (h01 : n ≤ 576) (h02 : 1 ≤ d) (h1 : 12 < d) : Calls Tryd.prog 49 #[PV v, .int .i64 n, .int .i64 d] w (OutV w (fun _ => 0) 1) := by
  have H1 := Hx.mk (fun w => pvalid_any v w true h)
  clear h
  go_enter Tryd.func49, Tryd.ntmps49
  go_wp2_with fail
  refine (H1.out _).mono ?_
  rintro e w1 ⟨rfl, hb⟩
  obtain ⟨hc1, hf1⟩ := bcell hb
  have hz1 := hb.size
  (try simp at hz1)
  have hB : Hx (Below w.heap.size w w1) := ⟨Below.trans (by repeat (first | with_reducible exact hB.out | with_reducible exact Below.refl _ _ | (with_reducible refine Below.setCell ?_ ?side _; case side => (first | omega | (simp <;> omega))) | (with_reducible refine Below.alloc ?_ ?side _; case side => (first | omega | (simp <;> omega))) | with_reducible apply below_drewN)) (hb.mono (by first | omega | (simp <;> omega)))⟩
  clear hb
  have hy1_0 : w.heap.size < w1.heap.size := by omega
  have hy1_1 : w.heap.size + 1 < w1.heap.size := by omega
  go_wp2_with fail
  refine bodyPost_ret_by (v := .tuple #[PV fun _ => 0, .int .i64 1]) (by simp [results, Tryd.results49, go_sem, hc1]) rfl ?_
  exact ⟨rfl, (by repeat (first | with_reducible exact hB.out | with_reducible exact Below.refl _ _ | (with_reducible refine Below.setCell ?_ ?side _; case side => (first | omega | (simp <;> omega))) | (with_reducible refine Below.alloc ?_ ?side _; case side => (first | omega | (simp <;> omega))) | with_reducible apply below_drewN))⟩
end Go.Proofs.YtomgihlkbmaleaaDoor

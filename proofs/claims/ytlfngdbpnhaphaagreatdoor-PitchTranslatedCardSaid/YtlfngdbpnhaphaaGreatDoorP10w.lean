/- pitch.Whole. -/
import Derived.Test.YtlfngdbpnhaphaaGreatDoorP10
import Derived.Deep.DeepCutAuto
namespace Go.Proofs.YtlfngdbpnhaphaaGreatDoor
open Go.RowKit M
theorem whole_ok (v u : Nat → Int) (w : World) (h : bdB v 576 = true) (hu : ∀ i, i < 6 → v i = 12 * u i) : Calls Tryz.prog 17 #[PV v] w (OutV w u 0) := by
  have H1 := Hx.mk (fun w => pvalid_any v w true h)
  have H2 := Hx.mk (fun w => divided_yes v u 12 w (by omega) (by omega) ⟨fun i hi => by have := bdB_yes.1 h i hi; omega⟩ ⟨hu⟩)
  clear h hu
  go_enter Tryz.func17, Tryz.ntmps17
  go_wp2_with fail
  refine (H1.out _).mono ?_
  rintro e w1 ⟨rfl, hb⟩
  obtain ⟨hc1, hf1⟩ := bcell hb
  have hz1 := hb.size
  (try simp at hz1)
  have hB : Hx (Below w.heap.size w w1) := ⟨Below.trans (by repeat (first | with_reducible exact hB.out | with_reducible exact Below.refl _ _ | (with_reducible refine Below.setCell ?_ ?side _; case side => (first | omega | (simp <;> omega))) | (with_reducible refine Below.alloc ?_ ?side _; case side => (first | omega | (simp <;> omega))) | with_reducible apply below_drewN)) (hb.mono (by first | omega | (simp <;> omega)))⟩
  clear hb
  have hy1_0 : w.heap.size < w1.heap.size := by omega
  have hy1_1 : w.heap.size + 1 < w1.heap.size := by omega
  go_wp2_with fail
  refine (H2.out _).mono ?_
  rintro e w2 ⟨rfl, hb⟩
  obtain ⟨hc2, hf2⟩ := bcell hb
  have hz2 := hb.size
  (try simp at hz2)
  have hB : Hx (Below w.heap.size w w2) := ⟨Below.trans (by repeat (first | with_reducible exact hB.out | with_reducible exact Below.refl _ _ | (with_reducible refine Below.setCell ?_ ?side _; case side => (first | omega | (simp <;> omega))) | (with_reducible refine Below.alloc ?_ ?side _; case side => (first | omega | (simp <;> omega))) | with_reducible apply below_drewN)) (hb.mono (by first | omega | (simp <;> omega)))⟩
  clear hb
  have hy2_0 : w.heap.size < w2.heap.size := by omega
  have hy2_1 : w.heap.size + 1 < w2.heap.size := by omega
  go_upto_region 4 with fail
  have uc0 : (w2.alloc (.cells #[.int .i64 (u 0), .int .i64 (u 1), .int .i64 (u 2), .int .i64 (u 3), .int .i64 (u 4), .int .i64 (u 5)] 22)).cell? ⟨w2.heap.size, 0, none⟩ = some (.int .i64 (u 0)) := by simp [go_sem]
  have zc0 : (w2.alloc (.cells #[.int .i64 (u 0), .int .i64 (u 1), .int .i64 (u 2), .int .i64 (u 3), .int .i64 (u 4), .int .i64 (u 5)] 22)).cell? ⟨w.heap.size + 1, 0, none⟩ = some (.int .i64 0) := by simp [go_sem, hc1, hy1_1, hc2, hy2_1]
  have zf0 : (w2.alloc (.cells #[.int .i64 (u 0), .int .i64 (u 1), .int .i64 (u 2), .int .i64 (u 3), .int .i64 (u 4), .int .i64 (u 5)] 22)).frozen? ⟨w.heap.size + 1, 0, none⟩ = false := by simp [go_sem, hf1, hy1_1, hf2, hy2_1]
  have uc1 : (w2.alloc (.cells #[.int .i64 (u 0), .int .i64 (u 1), .int .i64 (u 2), .int .i64 (u 3), .int .i64 (u 4), .int .i64 (u 5)] 22)).cell? ⟨w2.heap.size, 1, none⟩ = some (.int .i64 (u 1)) := by simp [go_sem]
  have zc1 : (w2.alloc (.cells #[.int .i64 (u 0), .int .i64 (u 1), .int .i64 (u 2), .int .i64 (u 3), .int .i64 (u 4), .int .i64 (u 5)] 22)).cell? ⟨w.heap.size + 1, 1, none⟩ = some (.int .i64 0) := by simp [go_sem, hc1, hy1_1, hc2, hy2_1]
  have zf1 : (w2.alloc (.cells #[.int .i64 (u 0), .int .i64 (u 1), .int .i64 (u 2), .int .i64 (u 3), .int .i64 (u 4), .int .i64 (u 5)] 22)).frozen? ⟨w.heap.size + 1, 1, none⟩ = false := by simp [go_sem, hf1, hy1_1, hf2, hy2_1]
  have uc2 : (w2.alloc (.cells #[.int .i64 (u 0), .int .i64 (u 1), .int .i64 (u 2), .int .i64 (u 3), .int .i64 (u 4), .int .i64 (u 5)] 22)).cell? ⟨w2.heap.size, 2, none⟩ = some (.int .i64 (u 2)) := by simp [go_sem]
  have zc2 : (w2.alloc (.cells #[.int .i64 (u 0), .int .i64 (u 1), .int .i64 (u 2), .int .i64 (u 3), .int .i64 (u 4), .int .i64 (u 5)] 22)).cell? ⟨w.heap.size + 1, 2, none⟩ = some (.int .i64 0) := by simp [go_sem, hc1, hy1_1, hc2, hy2_1]
  have zf2 : (w2.alloc (.cells #[.int .i64 (u 0), .int .i64 (u 1), .int .i64 (u 2), .int .i64 (u 3), .int .i64 (u 4), .int .i64 (u 5)] 22)).frozen? ⟨w.heap.size + 1, 2, none⟩ = false := by simp [go_sem, hf1, hy1_1, hf2, hy2_1]
  have uc3 : (w2.alloc (.cells #[.int .i64 (u 0), .int .i64 (u 1), .int .i64 (u 2), .int .i64 (u 3), .int .i64 (u 4), .int .i64 (u 5)] 22)).cell? ⟨w2.heap.size, 3, none⟩ = some (.int .i64 (u 3)) := by simp [go_sem]
  have zc3 : (w2.alloc (.cells #[.int .i64 (u 0), .int .i64 (u 1), .int .i64 (u 2), .int .i64 (u 3), .int .i64 (u 4), .int .i64 (u 5)] 22)).cell? ⟨w.heap.size + 1, 3, none⟩ = some (.int .i64 0) := by simp [go_sem, hc1, hy1_1, hc2, hy2_1]
  have zf3 : (w2.alloc (.cells #[.int .i64 (u 0), .int .i64 (u 1), .int .i64 (u 2), .int .i64 (u 3), .int .i64 (u 4), .int .i64 (u 5)] 22)).frozen? ⟨w.heap.size + 1, 3, none⟩ = false := by simp [go_sem, hf1, hy1_1, hf2, hy2_1]
  have uc4 : (w2.alloc (.cells #[.int .i64 (u 0), .int .i64 (u 1), .int .i64 (u 2), .int .i64 (u 3), .int .i64 (u 4), .int .i64 (u 5)] 22)).cell? ⟨w2.heap.size, 4, none⟩ = some (.int .i64 (u 4)) := by simp [go_sem]
  have zc4 : (w2.alloc (.cells #[.int .i64 (u 0), .int .i64 (u 1), .int .i64 (u 2), .int .i64 (u 3), .int .i64 (u 4), .int .i64 (u 5)] 22)).cell? ⟨w.heap.size + 1, 4, none⟩ = some (.int .i64 0) := by simp [go_sem, hc1, hy1_1, hc2, hy2_1]
  have zf4 : (w2.alloc (.cells #[.int .i64 (u 0), .int .i64 (u 1), .int .i64 (u 2), .int .i64 (u 3), .int .i64 (u 4), .int .i64 (u 5)] 22)).frozen? ⟨w.heap.size + 1, 4, none⟩ = false := by simp [go_sem, hf1, hy1_1, hf2, hy2_1]
  have uc5 : (w2.alloc (.cells #[.int .i64 (u 0), .int .i64 (u 1), .int .i64 (u 2), .int .i64 (u 3), .int .i64 (u 4), .int .i64 (u 5)] 22)).cell? ⟨w2.heap.size, 5, none⟩ = some (.int .i64 (u 5)) := by simp [go_sem]
  have zc5 : (w2.alloc (.cells #[.int .i64 (u 0), .int .i64 (u 1), .int .i64 (u 2), .int .i64 (u 3), .int .i64 (u 4), .int .i64 (u 5)] 22)).cell? ⟨w.heap.size + 1, 5, none⟩ = some (.int .i64 0) := by simp [go_sem, hc1, hy1_1, hc2, hy2_1]
  have zf5 : (w2.alloc (.cells #[.int .i64 (u 0), .int .i64 (u 1), .int .i64 (u 2), .int .i64 (u 3), .int .i64 (u 4), .int .i64 (u 5)] 22)).frozen? ⟨w.heap.size + 1, 5, none⟩ = false := by simp [go_sem, hf1, hy1_1, hf2, hy2_1]
  have hB : Hx (Below w.heap.size w (w2.alloc (.cells #[.int .i64 (u 0), .int .i64 (u 1), .int .i64 (u 2), .int .i64 (u 3), .int .i64 (u 4), .int .i64 (u 5)] 22))) := ⟨hB.out.alloc hB.out.size _⟩
  have hne1 : ¬ w2.heap.size = w.heap.size + 1 := by omega
  have hne2 : ¬ w.heap.size + 1 = w2.heap.size := by omega
  clear hc1 hf1 hc2 hf2
  generalize (w2.alloc (.cells #[.int .i64 (u 0), .int .i64 (u 1), .int .i64 (u 2), .int .i64 (u 3), .int .i64 (u 4), .int .i64 (u 5)] 22)) = W3 at *
  generalize w2.heap.size = b2 at *
  clear hy1_0 hy1_1 hy2_0 hy2_1 hz1 hz2
  go_wp2_with fail
  refine bodyPost_ret_by (v := .tuple #[PV u, .int .i64 0]) (by simp [results, Tryz.results17, go_sem, zc0, zc1, zc2, zc3, zc4, zc5]) rfl ?_
  exact ⟨rfl, (by repeat (first | with_reducible exact hB.out | with_reducible exact Below.refl _ _ | (with_reducible refine Below.setCell ?_ ?side _; case side => (first | omega | (simp <;> omega))) | (with_reducible refine Below.alloc ?_ ?side _; case side => (first | omega | (simp <;> omega))) | with_reducible apply below_drewN))⟩
theorem whole_kind (v : Nat → Int) (w : World) (h : bdB v 576 = true) (hu : ∃ i, i < 6 ∧ ¬ (12 ∣ v i)) : Calls Tryz.prog 17 #[PV v] w (OutV w (fun _ => 0) 9) := by
  have H1 := Hx.mk (fun w => pvalid_any v w true h)
  have H2 := Hx.mk (fun w => divided_no v 12 w (by omega) (by omega) ⟨fun i hi => by have := bdB_yes.1 h i hi; omega⟩ ⟨hu⟩)
  clear h hu
  go_enter Tryz.func17, Tryz.ntmps17
  go_wp2_with fail
  refine (H1.out _).mono ?_
  rintro e w1 ⟨rfl, hb⟩
  obtain ⟨hc1, hf1⟩ := bcell hb
  have hz1 := hb.size
  (try simp at hz1)
  have hB : Hx (Below w.heap.size w w1) := ⟨Below.trans (by repeat (first | with_reducible exact hB.out | with_reducible exact Below.refl _ _ | (with_reducible refine Below.setCell ?_ ?side _; case side => (first | omega | (simp <;> omega))) | (with_reducible refine Below.alloc ?_ ?side _; case side => (first | omega | (simp <;> omega))) | with_reducible apply below_drewN)) (hb.mono (by first | omega | (simp <;> omega)))⟩
  clear hb
  have hy1_0 : w.heap.size < w1.heap.size := by omega
  have hy1_1 : w.heap.size + 1 < w1.heap.size := by omega
  go_wp2_with fail
  refine (H2.out _).mono ?_
  rintro e w2 ⟨rfl, hb⟩
  obtain ⟨hc2, hf2⟩ := bcell hb
  have hz2 := hb.size
  (try simp at hz2)
  have hB : Hx (Below w.heap.size w w2) := ⟨Below.trans (by repeat (first | with_reducible exact hB.out | with_reducible exact Below.refl _ _ | (with_reducible refine Below.setCell ?_ ?side _; case side => (first | omega | (simp <;> omega))) | (with_reducible refine Below.alloc ?_ ?side _; case side => (first | omega | (simp <;> omega))) | with_reducible apply below_drewN)) (hb.mono (by first | omega | (simp <;> omega)))⟩
  clear hb
  have hy2_0 : w.heap.size < w2.heap.size := by omega
  have hy2_1 : w.heap.size + 1 < w2.heap.size := by omega
  go_upto_region 4 with fail
  have uc0 : (w2.alloc (.cells #[.int .i64 0, .int .i64 0, .int .i64 0, .int .i64 0, .int .i64 0, .int .i64 0] 22)).cell? ⟨w2.heap.size, 0, none⟩ = some (.int .i64 0) := by simp [go_sem]
  have zc0 : (w2.alloc (.cells #[.int .i64 0, .int .i64 0, .int .i64 0, .int .i64 0, .int .i64 0, .int .i64 0] 22)).cell? ⟨w.heap.size + 1, 0, none⟩ = some (.int .i64 0) := by simp [go_sem, hc1, hy1_1, hc2, hy2_1]
  have zf0 : (w2.alloc (.cells #[.int .i64 0, .int .i64 0, .int .i64 0, .int .i64 0, .int .i64 0, .int .i64 0] 22)).frozen? ⟨w.heap.size + 1, 0, none⟩ = false := by simp [go_sem, hf1, hy1_1, hf2, hy2_1]
  have uc1 : (w2.alloc (.cells #[.int .i64 0, .int .i64 0, .int .i64 0, .int .i64 0, .int .i64 0, .int .i64 0] 22)).cell? ⟨w2.heap.size, 1, none⟩ = some (.int .i64 0) := by simp [go_sem]
  have zc1 : (w2.alloc (.cells #[.int .i64 0, .int .i64 0, .int .i64 0, .int .i64 0, .int .i64 0, .int .i64 0] 22)).cell? ⟨w.heap.size + 1, 1, none⟩ = some (.int .i64 0) := by simp [go_sem, hc1, hy1_1, hc2, hy2_1]
  have zf1 : (w2.alloc (.cells #[.int .i64 0, .int .i64 0, .int .i64 0, .int .i64 0, .int .i64 0, .int .i64 0] 22)).frozen? ⟨w.heap.size + 1, 1, none⟩ = false := by simp [go_sem, hf1, hy1_1, hf2, hy2_1]
  have uc2 : (w2.alloc (.cells #[.int .i64 0, .int .i64 0, .int .i64 0, .int .i64 0, .int .i64 0, .int .i64 0] 22)).cell? ⟨w2.heap.size, 2, none⟩ = some (.int .i64 0) := by simp [go_sem]
  have zc2 : (w2.alloc (.cells #[.int .i64 0, .int .i64 0, .int .i64 0, .int .i64 0, .int .i64 0, .int .i64 0] 22)).cell? ⟨w.heap.size + 1, 2, none⟩ = some (.int .i64 0) := by simp [go_sem, hc1, hy1_1, hc2, hy2_1]
  have zf2 : (w2.alloc (.cells #[.int .i64 0, .int .i64 0, .int .i64 0, .int .i64 0, .int .i64 0, .int .i64 0] 22)).frozen? ⟨w.heap.size + 1, 2, none⟩ = false := by simp [go_sem, hf1, hy1_1, hf2, hy2_1]
  have uc3 : (w2.alloc (.cells #[.int .i64 0, .int .i64 0, .int .i64 0, .int .i64 0, .int .i64 0, .int .i64 0] 22)).cell? ⟨w2.heap.size, 3, none⟩ = some (.int .i64 0) := by simp [go_sem]
  have zc3 : (w2.alloc (.cells #[.int .i64 0, .int .i64 0, .int .i64 0, .int .i64 0, .int .i64 0, .int .i64 0] 22)).cell? ⟨w.heap.size + 1, 3, none⟩ = some (.int .i64 0) := by simp [go_sem, hc1, hy1_1, hc2, hy2_1]
  have zf3 : (w2.alloc (.cells #[.int .i64 0, .int .i64 0, .int .i64 0, .int .i64 0, .int .i64 0, .int .i64 0] 22)).frozen? ⟨w.heap.size + 1, 3, none⟩ = false := by simp [go_sem, hf1, hy1_1, hf2, hy2_1]
  have uc4 : (w2.alloc (.cells #[.int .i64 0, .int .i64 0, .int .i64 0, .int .i64 0, .int .i64 0, .int .i64 0] 22)).cell? ⟨w2.heap.size, 4, none⟩ = some (.int .i64 0) := by simp [go_sem]
  have zc4 : (w2.alloc (.cells #[.int .i64 0, .int .i64 0, .int .i64 0, .int .i64 0, .int .i64 0, .int .i64 0] 22)).cell? ⟨w.heap.size + 1, 4, none⟩ = some (.int .i64 0) := by simp [go_sem, hc1, hy1_1, hc2, hy2_1]
  have zf4 : (w2.alloc (.cells #[.int .i64 0, .int .i64 0, .int .i64 0, .int .i64 0, .int .i64 0, .int .i64 0] 22)).frozen? ⟨w.heap.size + 1, 4, none⟩ = false := by simp [go_sem, hf1, hy1_1, hf2, hy2_1]
  have uc5 : (w2.alloc (.cells #[.int .i64 0, .int .i64 0, .int .i64 0, .int .i64 0, .int .i64 0, .int .i64 0] 22)).cell? ⟨w2.heap.size, 5, none⟩ = some (.int .i64 0) := by simp [go_sem]
  have zc5 : (w2.alloc (.cells #[.int .i64 0, .int .i64 0, .int .i64 0, .int .i64 0, .int .i64 0, .int .i64 0] 22)).cell? ⟨w.heap.size + 1, 5, none⟩ = some (.int .i64 0) := by simp [go_sem, hc1, hy1_1, hc2, hy2_1]
  have zf5 : (w2.alloc (.cells #[.int .i64 0, .int .i64 0, .int .i64 0, .int .i64 0, .int .i64 0, .int .i64 0] 22)).frozen? ⟨w.heap.size + 1, 5, none⟩ = false := by simp [go_sem, hf1, hy1_1, hf2, hy2_1]
  have hB : Hx (Below w.heap.size w (w2.alloc (.cells #[.int .i64 0, .int .i64 0, .int .i64 0, .int .i64 0, .int .i64 0, .int .i64 0] 22))) := ⟨hB.out.alloc hB.out.size _⟩
  have hne1 : ¬ w2.heap.size = w.heap.size + 1 := by omega
  have hne2 : ¬ w.heap.size + 1 = w2.heap.size := by omega
  clear hc1 hf1 hc2 hf2
  generalize (w2.alloc (.cells #[.int .i64 0, .int .i64 0, .int .i64 0, .int .i64 0, .int .i64 0, .int .i64 0] 22)) = W3 at *
  generalize w2.heap.size = b2 at *
  clear hy1_0 hy1_1 hy2_0 hy2_1 hz1 hz2
  go_wp2_with fail
  refine bodyPost_ret_by (v := .tuple #[PV fun _ => 0, .int .i64 9]) (by simp [results, Tryz.results17, go_sem, zc0, zc1, zc2, zc3, zc4, zc5]) rfl ?_
  exact ⟨rfl, (by repeat (first | with_reducible exact hB.out | with_reducible exact Below.refl _ _ | (with_reducible refine Below.setCell ?_ ?side _; case side => (first | omega | (simp <;> omega))) | (with_reducible refine Below.alloc ?_ ?side _; case side => (first | omega | (simp <;> omega))) | with_reducible apply below_drewN))⟩
theorem whole_no (v : Nat → Int) (w : World) (h : bdB v 576 = false) : Calls Tryz.prog 17 #[PV v] w (OutV w (fun _ => 0) 1) := by
  have H1 := Hx.mk (fun w => pvalid_any v w false h)
  clear h
  go_enter Tryz.func17, Tryz.ntmps17
  go_wp2_with fail
  refine (H1.out _).mono ?_
  rintro e w1 ⟨rfl, hb⟩
  obtain ⟨hc1, hf1⟩ := bcell hb
  have hz1 := hb.size
  (try simp at hz1)
  have hB : Hx (Below w.heap.size w w1) := ⟨Below.trans (by repeat (first | with_reducible exact hB.out | with_reducible exact Below.refl _ _ | (with_reducible refine Below.setCell ?_ ?side _; case side => (first | omega | (simp <;> omega))) | (with_reducible refine Below.alloc ?_ ?side _; case side => (first | omega | (simp <;> omega))) | with_reducible apply below_drewN)) (hb.mono (by first | omega | (simp <;> omega)))⟩
  clear hb
  have hy1_0 : w.heap.size < w1.heap.size := by omega
  have hy1_1 : w.heap.size + 1 < w1.heap.size := by omega
  go_wp2_with fail
  refine bodyPost_ret_by (v := .tuple #[PV fun _ => 0, .int .i64 1]) (by simp [results, Tryz.results17, go_sem, hc1]) rfl ?_
  exact ⟨rfl, (by repeat (first | with_reducible exact hB.out | with_reducible exact Below.refl _ _ | (with_reducible refine Below.setCell ?_ ?side _; case side => (first | omega | (simp <;> omega))) | (with_reducible refine Below.alloc ?_ ?side _; case side => (first | omega | (simp <;> omega))) | with_reducible apply below_drewN))⟩
end Go.Proofs.YtlfngdbpnhaphaaGreatDoor

/- pitch.Power, Ratio. -/
import Derived.Test.YtlfngdbpnhaphaaGreatDoorP11
import Derived.Deep.DeepCutAuto
namespace Go.Proofs.YtlfngdbpnhaphaaGreatDoor
open Go.RowKit M
/-- What Ratio hands back. -/
def OutR (n d : Nat) (w : World) (e : Ending) (w' : World) : Prop := (∃ va vb v ra rb, FacR n va ra ∧ FacR d vb rb ∧ ((ra = rb ∧ (∀ i, i < 6 → v i = va i - vb i) ∧ e = .returned (.tuple #[PV v, .int .i64 0])) ∨ (ra ≠ rb ∧ e = .returned (.tuple #[PV fun _ => 0, .int .i64 9])))) ∧ Below w.heap.size w w'
set_option maxHeartbeats 1000000 in
theorem ratio_any (n d : Nat) (w : World) (hP0 : Pm w) (hn0 : 1 ≤ n) (hn1 : n ≤ 1000000000) (hd0 : 1 ≤ d) (hd1 : d ≤ 1000000000) : Calls Tryz.prog 27 #[.int .i64 (n : Int), .int .i64 (d : Int)] w (OutR n d w) := by
  have hP := Hx.mk hP0
  clear hP0
  go_enter Tryz.func27, Tryz.ntmps27
  go_wp2_with fail
  refine (factors_any n _ hn0 hn1 (hP.out.keep (by repeat (first | with_reducible exact Below.refl _ _ | (with_reducible refine Below.alloc ?_ ?side _; case side => (first | omega | (simp <;> omega))))))).mono ?_
  rintro e w1 ⟨va, ra, rfl, hF1, hb⟩
  have HF1 := Hx.mk hF1
  obtain ⟨hc1, hf1⟩ := bcell hb
  have hz1 := hb.size
  (try simp at hz1)
  have hB : Hx (Below w.heap.size w w1) := ⟨Below.trans (by repeat (first | with_reducible exact hB.out | with_reducible exact Below.refl _ _ | (with_reducible refine Below.setCell ?_ ?side _; case side => (first | omega | (simp <;> omega))) | (with_reducible refine Below.alloc ?_ ?side _; case side => (first | omega | (simp <;> omega))) | with_reducible apply below_drewN)) (hb.mono (by first | omega | (simp <;> omega)))⟩
  clear hb hF1
  have hy1 : w.heap.size < w1.heap.size := by omega
  go_upto_region 4 with fail
  have ac0 : (w1.alloc (.cells (PC va) 22)).cell? ⟨w1.heap.size, 0, none⟩ = some (.int .i64 (va 0)) := by simp [go_sem]
  have ac1 : (w1.alloc (.cells (PC va) 22)).cell? ⟨w1.heap.size, 1, none⟩ = some (.int .i64 (va 1)) := by simp [go_sem]
  have ac2 : (w1.alloc (.cells (PC va) 22)).cell? ⟨w1.heap.size, 2, none⟩ = some (.int .i64 (va 2)) := by simp [go_sem]
  have ac3 : (w1.alloc (.cells (PC va) 22)).cell? ⟨w1.heap.size, 3, none⟩ = some (.int .i64 (va 3)) := by simp [go_sem]
  have ac4 : (w1.alloc (.cells (PC va) 22)).cell? ⟨w1.heap.size, 4, none⟩ = some (.int .i64 (va 4)) := by simp [go_sem]
  have ac5 : (w1.alloc (.cells (PC va) 22)).cell? ⟨w1.heap.size, 5, none⟩ = some (.int .i64 (va 5)) := by simp [go_sem]
  have zc0 : (w1.alloc (.cells (PC va) 22)).cell? ⟨w.heap.size, 0, none⟩ = some (.int .i64 0) := by simp [go_sem, hc1, hy1]
  have zf0 : (w1.alloc (.cells (PC va) 22)).frozen? ⟨w.heap.size, 0, none⟩ = false := by simp [go_sem, hf1, hy1]
  have zc1 : (w1.alloc (.cells (PC va) 22)).cell? ⟨w.heap.size, 1, none⟩ = some (.int .i64 0) := by simp [go_sem, hc1, hy1]
  have zf1 : (w1.alloc (.cells (PC va) 22)).frozen? ⟨w.heap.size, 1, none⟩ = false := by simp [go_sem, hf1, hy1]
  have zc2 : (w1.alloc (.cells (PC va) 22)).cell? ⟨w.heap.size, 2, none⟩ = some (.int .i64 0) := by simp [go_sem, hc1, hy1]
  have zf2 : (w1.alloc (.cells (PC va) 22)).frozen? ⟨w.heap.size, 2, none⟩ = false := by simp [go_sem, hf1, hy1]
  have zc3 : (w1.alloc (.cells (PC va) 22)).cell? ⟨w.heap.size, 3, none⟩ = some (.int .i64 0) := by simp [go_sem, hc1, hy1]
  have zf3 : (w1.alloc (.cells (PC va) 22)).frozen? ⟨w.heap.size, 3, none⟩ = false := by simp [go_sem, hf1, hy1]
  have zc4 : (w1.alloc (.cells (PC va) 22)).cell? ⟨w.heap.size, 4, none⟩ = some (.int .i64 0) := by simp [go_sem, hc1, hy1]
  have zf4 : (w1.alloc (.cells (PC va) 22)).frozen? ⟨w.heap.size, 4, none⟩ = false := by simp [go_sem, hf1, hy1]
  have zc5 : (w1.alloc (.cells (PC va) 22)).cell? ⟨w.heap.size, 5, none⟩ = some (.int .i64 0) := by simp [go_sem, hc1, hy1]
  have zf5 : (w1.alloc (.cells (PC va) 22)).frozen? ⟨w.heap.size, 5, none⟩ = false := by simp [go_sem, hf1, hy1]
  have hB : Hx (Below w.heap.size w (w1.alloc (.cells (PC va) 22))) := ⟨hB.out.alloc hB.out.size _⟩
  have hP1 := Hx.mk (hP.out.keep hB.out)
  have hl1 : w1.heap.size < (w1.alloc (.cells (PC va) 22)).heap.size := by simp
  clear hc1 hf1
  generalize (w1.alloc (.cells (PC va) 22)) = W3 at *
  generalize w1.heap.size = b1 at *
  clear hz1
  go_wp2_with fail
  refine (factors_any d _ hd0 hd1 hP1.out).mono ?_
  rintro e w2 ⟨vb, rb, rfl, hF2, hb⟩
  have HF2 := Hx.mk hF2
  have hz2 := hb.size
  have hB : Hx (Below w.heap.size w w2) := ⟨hB.out.trans (hb.mono (by omega))⟩
  replace ac0 := (hb.cell (p := ⟨b1, 0, none⟩) hl1).trans ac0
  replace ac1 := (hb.cell (p := ⟨b1, 1, none⟩) hl1).trans ac1
  replace ac2 := (hb.cell (p := ⟨b1, 2, none⟩) hl1).trans ac2
  replace ac3 := (hb.cell (p := ⟨b1, 3, none⟩) hl1).trans ac3
  replace ac4 := (hb.cell (p := ⟨b1, 4, none⟩) hl1).trans ac4
  replace ac5 := (hb.cell (p := ⟨b1, 5, none⟩) hl1).trans ac5
  replace zc0 := (hb.cell (p := ⟨w.heap.size, 0, none⟩) (by show w.heap.size < _; omega)).trans zc0
  replace zf0 := (hb.frozen (p := ⟨w.heap.size, 0, none⟩) (by show w.heap.size < _; omega)).trans zf0
  replace zc1 := (hb.cell (p := ⟨w.heap.size, 1, none⟩) (by show w.heap.size < _; omega)).trans zc1
  replace zf1 := (hb.frozen (p := ⟨w.heap.size, 1, none⟩) (by show w.heap.size < _; omega)).trans zf1
  replace zc2 := (hb.cell (p := ⟨w.heap.size, 2, none⟩) (by show w.heap.size < _; omega)).trans zc2
  replace zf2 := (hb.frozen (p := ⟨w.heap.size, 2, none⟩) (by show w.heap.size < _; omega)).trans zf2
  replace zc3 := (hb.cell (p := ⟨w.heap.size, 3, none⟩) (by show w.heap.size < _; omega)).trans zc3
  replace zf3 := (hb.frozen (p := ⟨w.heap.size, 3, none⟩) (by show w.heap.size < _; omega)).trans zf3
  replace zc4 := (hb.cell (p := ⟨w.heap.size, 4, none⟩) (by show w.heap.size < _; omega)).trans zc4
  replace zf4 := (hb.frozen (p := ⟨w.heap.size, 4, none⟩) (by show w.heap.size < _; omega)).trans zf4
  replace zc5 := (hb.cell (p := ⟨w.heap.size, 5, none⟩) (by show w.heap.size < _; omega)).trans zc5
  replace zf5 := (hb.frozen (p := ⟨w.heap.size, 5, none⟩) (by show w.heap.size < _; omega)).trans zf5
  clear hb hF2
  go_upto_region 5 with fail
  have hy2 : w.heap.size < w2.heap.size := by omega
  have hy3 : b1 < w2.heap.size := by omega
  have bc0 : (w2.alloc (.cells (PC vb) 22)).cell? ⟨w2.heap.size, 0, none⟩ = some (.int .i64 (vb 0)) := by simp [go_sem]
  have bc1 : (w2.alloc (.cells (PC vb) 22)).cell? ⟨w2.heap.size, 1, none⟩ = some (.int .i64 (vb 1)) := by simp [go_sem]
  have bc2 : (w2.alloc (.cells (PC vb) 22)).cell? ⟨w2.heap.size, 2, none⟩ = some (.int .i64 (vb 2)) := by simp [go_sem]
  have bc3 : (w2.alloc (.cells (PC vb) 22)).cell? ⟨w2.heap.size, 3, none⟩ = some (.int .i64 (vb 3)) := by simp [go_sem]
  have bc4 : (w2.alloc (.cells (PC vb) 22)).cell? ⟨w2.heap.size, 4, none⟩ = some (.int .i64 (vb 4)) := by simp [go_sem]
  have bc5 : (w2.alloc (.cells (PC vb) 22)).cell? ⟨w2.heap.size, 5, none⟩ = some (.int .i64 (vb 5)) := by simp [go_sem]
  replace ac0 : (w2.alloc (.cells (PC vb) 22)).cell? ⟨b1, 0, none⟩ = some (.int .i64 (va 0)) := by simp [go_sem, ac0, hy3]
  replace zc0 : (w2.alloc (.cells (PC vb) 22)).cell? ⟨w.heap.size, 0, none⟩ = some (.int .i64 0) := by simp [go_sem, zc0, hy2]
  replace zf0 : (w2.alloc (.cells (PC vb) 22)).frozen? ⟨w.heap.size, 0, none⟩ = false := by simp [go_sem, zf0, hy2]
  replace ac1 : (w2.alloc (.cells (PC vb) 22)).cell? ⟨b1, 1, none⟩ = some (.int .i64 (va 1)) := by simp [go_sem, ac1, hy3]
  replace zc1 : (w2.alloc (.cells (PC vb) 22)).cell? ⟨w.heap.size, 1, none⟩ = some (.int .i64 0) := by simp [go_sem, zc1, hy2]
  replace zf1 : (w2.alloc (.cells (PC vb) 22)).frozen? ⟨w.heap.size, 1, none⟩ = false := by simp [go_sem, zf1, hy2]
  replace ac2 : (w2.alloc (.cells (PC vb) 22)).cell? ⟨b1, 2, none⟩ = some (.int .i64 (va 2)) := by simp [go_sem, ac2, hy3]
  replace zc2 : (w2.alloc (.cells (PC vb) 22)).cell? ⟨w.heap.size, 2, none⟩ = some (.int .i64 0) := by simp [go_sem, zc2, hy2]
  replace zf2 : (w2.alloc (.cells (PC vb) 22)).frozen? ⟨w.heap.size, 2, none⟩ = false := by simp [go_sem, zf2, hy2]
  replace ac3 : (w2.alloc (.cells (PC vb) 22)).cell? ⟨b1, 3, none⟩ = some (.int .i64 (va 3)) := by simp [go_sem, ac3, hy3]
  replace zc3 : (w2.alloc (.cells (PC vb) 22)).cell? ⟨w.heap.size, 3, none⟩ = some (.int .i64 0) := by simp [go_sem, zc3, hy2]
  replace zf3 : (w2.alloc (.cells (PC vb) 22)).frozen? ⟨w.heap.size, 3, none⟩ = false := by simp [go_sem, zf3, hy2]
  replace ac4 : (w2.alloc (.cells (PC vb) 22)).cell? ⟨b1, 4, none⟩ = some (.int .i64 (va 4)) := by simp [go_sem, ac4, hy3]
  replace zc4 : (w2.alloc (.cells (PC vb) 22)).cell? ⟨w.heap.size, 4, none⟩ = some (.int .i64 0) := by simp [go_sem, zc4, hy2]
  replace zf4 : (w2.alloc (.cells (PC vb) 22)).frozen? ⟨w.heap.size, 4, none⟩ = false := by simp [go_sem, zf4, hy2]
  replace ac5 : (w2.alloc (.cells (PC vb) 22)).cell? ⟨b1, 5, none⟩ = some (.int .i64 (va 5)) := by simp [go_sem, ac5, hy3]
  replace zc5 : (w2.alloc (.cells (PC vb) 22)).cell? ⟨w.heap.size, 5, none⟩ = some (.int .i64 0) := by simp [go_sem, zc5, hy2]
  replace zf5 : (w2.alloc (.cells (PC vb) 22)).frozen? ⟨w.heap.size, 5, none⟩ = false := by simp [go_sem, zf5, hy2]
  have hB : Hx (Below w.heap.size w (w2.alloc (.cells (PC vb) 22))) := ⟨hB.out.alloc hB.out.size _⟩
  have hl2 : w.heap.size < (w2.alloc (.cells (PC vb) 22)).heap.size := by simp; omega
  have hl3 : w2.heap.size < (w2.alloc (.cells (PC vb) 22)).heap.size := by simp
  generalize (w2.alloc (.cells (PC vb) 22)) = W5 at *
  generalize w2.heap.size = b2 at *
  clear hz2 hl1
  by_cases hr : ra = rb
  · subst hr
    obtain ⟨s, hs⟩ : ∃ s : Nat → Int, s = fun i => va i - vb i := ⟨_, rfl⟩
    have H3 := Hx.mk (fun w => sum_any va vb s (-1) w ⟨fun i hi => by have := HF1.out.low i hi; omega⟩ ⟨fun i hi => by have := HF2.out.low i hi; simp only; omega⟩ ⟨fun i hi => by rw [hs]; simp only; omega⟩)
    have HS := Hx.mk hs
    clear hs
    go_wp2_with fail
    refine (H3.out _).mono ?_
    rintro e w3 ⟨rfl, hb⟩
    have hz3 := hb.size
    have hB : Hx (Below w.heap.size w w3) := ⟨hB.out.trans (hb.mono (by omega))⟩
    replace zc0 := (hb.cell (p := ⟨w.heap.size, 0, none⟩) (by show w.heap.size < _; omega)).trans zc0
    replace zf0 := (hb.frozen (p := ⟨w.heap.size, 0, none⟩) (by show w.heap.size < _; omega)).trans zf0
    replace zc1 := (hb.cell (p := ⟨w.heap.size, 1, none⟩) (by show w.heap.size < _; omega)).trans zc1
    replace zf1 := (hb.frozen (p := ⟨w.heap.size, 1, none⟩) (by show w.heap.size < _; omega)).trans zf1
    replace zc2 := (hb.cell (p := ⟨w.heap.size, 2, none⟩) (by show w.heap.size < _; omega)).trans zc2
    replace zf2 := (hb.frozen (p := ⟨w.heap.size, 2, none⟩) (by show w.heap.size < _; omega)).trans zf2
    replace zc3 := (hb.cell (p := ⟨w.heap.size, 3, none⟩) (by show w.heap.size < _; omega)).trans zc3
    replace zf3 := (hb.frozen (p := ⟨w.heap.size, 3, none⟩) (by show w.heap.size < _; omega)).trans zf3
    replace zc4 := (hb.cell (p := ⟨w.heap.size, 4, none⟩) (by show w.heap.size < _; omega)).trans zc4
    replace zf4 := (hb.frozen (p := ⟨w.heap.size, 4, none⟩) (by show w.heap.size < _; omega)).trans zf4
    replace zc5 := (hb.cell (p := ⟨w.heap.size, 5, none⟩) (by show w.heap.size < _; omega)).trans zc5
    replace zf5 := (hb.frozen (p := ⟨w.heap.size, 5, none⟩) (by show w.heap.size < _; omega)).trans zf5
    clear hb
    go_wp2_with fail
    refine bodyPost_ret_by (v := .tuple #[PV s, .int .i64 0]) (by simp [results, Tryz.results27, go_sem, zc0, zc1, zc2, zc3, zc4, zc5]) rfl ?_
    exact ⟨⟨va, vb, s, ra, ra, HF1.out, HF2.out, .inl ⟨rfl, fun i hi => by rw [HS.out], rfl⟩⟩, (by repeat (first | with_reducible exact hB.out | with_reducible exact Below.refl _ _ | (with_reducible refine Below.setCell ?_ ?side _; case side => (first | omega | (simp <;> omega))) | (with_reducible refine Below.alloc ?_ ?side _; case side => (first | omega | (simp <;> omega))) | with_reducible apply below_drewN))⟩
  · have hrr : ((ra : Int) == (rb : Int)) = false := beq_eq_false_iff_ne.2 (by omega)
    have hrn : ((ra : Int) != (rb : Int)) = true := by rw [bne_iff_ne]; omega
    have HR := Hx.mk hr
    clear hr
    go_wp2_with fail
    refine bodyPost_ret_by (v := .tuple #[PV fun _ => 0, .int .i64 9]) (by simp [results, Tryz.results27, go_sem, zc0, zc1, zc2, zc3, zc4, zc5]) rfl ?_
    exact ⟨⟨va, vb, fun _ => 0, ra, rb, HF1.out, HF2.out, .inr ⟨HR.out, rfl⟩⟩, (by repeat (first | with_reducible exact hB.out | with_reducible exact Below.refl _ _ | (with_reducible refine Below.setCell ?_ ?side _; case side => (first | omega | (simp <;> omega))) | (with_reducible refine Below.alloc ?_ ?side _; case side => (first | omega | (simp <;> omega))) | with_reducible apply below_drewN))⟩
theorem ratio_n0 (n d : Int) (w : World) (h1 : n < 1) : Calls Tryz.prog 27 #[.int .i64 n, .int .i64 d] w (OutV w (fun _ => 0) 1) := by
  go_enter Tryz.func27, Tryz.ntmps27
  go_wp2_with fail
  refine bodyPost_ret_by (v := .tuple #[PV fun _ => 0, .int .i64 1]) (by simp [results, Tryz.results27, go_sem]) rfl ?_
  exact ⟨rfl, (by repeat (first | with_reducible exact Below.refl _ _ | with_reducible exact Below.refl _ _ | (with_reducible refine Below.setCell ?_ ?side _; case side => (first | omega | (simp <;> omega))) | (with_reducible refine Below.alloc ?_ ?side _; case side => (first | omega | (simp <;> omega))) | with_reducible apply below_drewN))⟩
theorem ratio_n1 (n d : Int) (w : World) (h0 : 1 ≤ n) (h1 : 1000000000 < n) : Calls Tryz.prog 27 #[.int .i64 n, .int .i64 d] w (OutV w (fun _ => 0) 1) := by
  go_enter Tryz.func27, Tryz.ntmps27
  go_wp2_with fail
  refine bodyPost_ret_by (v := .tuple #[PV fun _ => 0, .int .i64 1]) (by simp [results, Tryz.results27, go_sem]) rfl ?_
  exact ⟨rfl, (by repeat (first | with_reducible exact Below.refl _ _ | with_reducible exact Below.refl _ _ | (with_reducible refine Below.setCell ?_ ?side _; case side => (first | omega | (simp <;> omega))) | (with_reducible refine Below.alloc ?_ ?side _; case side => (first | omega | (simp <;> omega))) | with_reducible apply below_drewN))⟩
theorem ratio_d0 (n d : Int) (w : World) (h0 : 1 ≤ n) (h01 : n ≤ 1000000000) (h1 : d < 1) : Calls Tryz.prog 27 #[.int .i64 n, .int .i64 d] w (OutV w (fun _ => 0) 1) := by
  go_enter Tryz.func27, Tryz.ntmps27
  go_wp2_with fail
  refine bodyPost_ret_by (v := .tuple #[PV fun _ => 0, .int .i64 1]) (by simp [results, Tryz.results27, go_sem]) rfl ?_
  exact ⟨rfl, (by repeat (first | with_reducible exact Below.refl _ _ | with_reducible exact Below.refl _ _ | (with_reducible refine Below.setCell ?_ ?side _; case side => (first | omega | (simp <;> omega))) | (with_reducible refine Below.alloc ?_ ?side _; case side => (first | omega | (simp <;> omega))) | with_reducible apply below_drewN))⟩
theorem ratio_d1 (n d : Int) (w : World) (h0 : 1 ≤ n) (h01 : n ≤ 1000000000) (h02 : 1 ≤ d) (h1 : 1000000000 < d) : Calls Tryz.prog 27 #[.int .i64 n, .int .i64 d] w (OutV w (fun _ => 0) 1) := by
  go_enter Tryz.func27, Tryz.ntmps27
  go_wp2_with fail
  refine bodyPost_ret_by (v := .tuple #[PV fun _ => 0, .int .i64 1]) (by simp [results, Tryz.results27, go_sem]) rfl ?_
  exact ⟨rfl, (by repeat (first | with_reducible exact Below.refl _ _ | with_reducible exact Below.refl _ _ | (with_reducible refine Below.setCell ?_ ?side _; case side => (first | omega | (simp <;> omega))) | (with_reducible refine Below.alloc ?_ ?side _; case side => (first | omega | (simp <;> omega))) | with_reducible apply below_drewN))⟩
end Go.Proofs.YtlfngdbpnhaphaaGreatDoor

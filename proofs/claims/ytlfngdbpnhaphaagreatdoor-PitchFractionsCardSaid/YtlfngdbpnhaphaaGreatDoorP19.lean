/- pitch.Text, Parse; the reference's Valid, Interval. -/
import Derived.Test.YtlfngdbpnhaphaaGreatDoorQText
import Derived.Test.YtlfngdbpnhaphaaGreatDoorQM2
import Derived.Test.YtlfngdbpnhaphaaGreatDoorP20
namespace Go.Proofs.YtlfngdbpnhaphaaGreatDoor
open Go.RowKit M
theorem Gv.later {w0 w : World} (h : Gv w0) (hb : Hx (Below w0.heap.size w0 w)) : Gv w := h.keep hb.out
theorem ptextF_ok (v : Nat → Int) (w : World) (hG : Gv w) (h : bdB v 576 = true) :
    Calls Tryz.prog 32 #[PV v] w fun e w' => e = .returned (.tuple #[.string (strL (textL v)), .int .i64 0]) ∧ Below w.heap.size w w' := by
  have HG := Hx.mk hG
  have H1 := Hx.mk (fun w => pvalid_any v w true h)
  have H2 : Hx (Lim 576 v) := ⟨bdB_yes.1 h⟩
  clear h hG
  go_enter Tryz.func32, Tryz.ntmps32
  go_wp2_with fail
  refine (H1.out _).mono ?_
  rintro e w1 ⟨rfl, hb⟩
  obtain ⟨hc1, hf1⟩ := bcell hb
  have hz1 := hb.size
  (try simp at hz1)
  have hB : Hx (Below w.heap.size w w1) := ⟨Below.trans (by repeat (first | with_reducible exact hB.out | with_reducible exact Below.refl _ _ | (with_reducible refine Below.setCell ?_ ?side _; case side => (first | omega | (simp <;> omega))) | (with_reducible refine Below.alloc ?_ ?side _; case side => (first | omega | (simp <;> omega))) | with_reducible apply below_drewN)) (hb.mono (by first | omega | (simp <;> omega)))⟩
  clear hb
  have hy1_0 : w.heap.size < w1.heap.size := by omega
  have hG1 := Hx.mk (HG.out.later hB)
  go_wp2_with fail
  refine (ptext_any v _ H2 hG1.out.pm hG1.out.tb).mono ?_
  rintro e w2 ⟨rfl, hb⟩
  obtain ⟨hc2, hf2⟩ := bcell hb
  have hz2 := hb.size
  (try simp at hz2)
  have hB : Hx (Below w.heap.size w w2) := ⟨Below.trans (by repeat (first | with_reducible exact hB.out | with_reducible exact Below.refl _ _ | (with_reducible refine Below.setCell ?_ ?side _; case side => (first | omega | (simp <;> omega))) | (with_reducible refine Below.alloc ?_ ?side _; case side => (first | omega | (simp <;> omega))) | with_reducible apply below_drewN)) (hb.mono (by first | omega | (simp <;> omega)))⟩
  clear hb
  have hy2_0 : w.heap.size < w2.heap.size := by omega
  go_wp2_with fail
  go_ret2
  exact ⟨rfl, (by repeat (first | with_reducible exact hB.out | with_reducible exact Below.refl _ _ | (with_reducible refine Below.setCell ?_ ?side _; case side => (first | omega | (simp <;> omega))) | (with_reducible refine Below.alloc ?_ ?side _; case side => (first | omega | (simp <;> omega))) | with_reducible apply below_drewN))⟩
theorem ptextF_no (v : Nat → Int) (w : World) (h : bdB v 576 = false) :
    Calls Tryz.prog 32 #[PV v] w fun e w' => e = .returned (.tuple #[.string ⟨#[]⟩, .int .i64 1]) ∧ Below w.heap.size w w' := by
  have H1 := Hx.mk (fun w => pvalid_any v w false h)
  clear h
  go_enter Tryz.func32, Tryz.ntmps32
  go_wp2_with fail
  refine (H1.out _).mono ?_
  rintro e w1 ⟨rfl, hb⟩
  obtain ⟨hc1, hf1⟩ := bcell hb
  have hz1 := hb.size
  (try simp at hz1)
  have hB : Hx (Below w.heap.size w w1) := ⟨Below.trans (by repeat (first | with_reducible exact hB.out | with_reducible exact Below.refl _ _ | (with_reducible refine Below.setCell ?_ ?side _; case side => (first | omega | (simp <;> omega))) | (with_reducible refine Below.alloc ?_ ?side _; case side => (first | omega | (simp <;> omega))) | with_reducible apply below_drewN)) (hb.mono (by first | omega | (simp <;> omega)))⟩
  clear hb
  have hy1_0 : w.heap.size < w1.heap.size := by omega
  go_wp2_with fail
  go_ret2
  exact ⟨rfl, (by repeat (first | with_reducible exact hB.out | with_reducible exact Below.refl _ _ | (with_reducible refine Below.setCell ?_ ?side _; case side => (first | omega | (simp <;> omega))) | (with_reducible refine Below.alloc ?_ ?side _; case side => (first | omega | (simp <;> omega))) | with_reducible apply below_drewN))⟩
set_option maxHeartbeats 2000000 in
theorem pparse_ok (l : List UInt8) (w : World) (hg : Gv w) (hl : l.length ≤ 281474976710656) (q : Nat → Int) (h : readV l = (q, true)) : Calls Tryz.prog 34 #[.string (strL l)] w (OutV w (q) 0) := by
  have HG := Hx.mk hg
  have H1 : Hx (∀ w, Gv w → Calls Tryz.prog 53 #[.string (strL l)] w fun e w' => e = .returned (.tuple #[PV q, .bool true]) ∧ Below w.heap.size w w') := ⟨fun w hg => by
    have := read_any l w hg hl
    unfold OutRd at this
    rw [h] at this
    exact this⟩
  clear h hg hl
  go_enter Tryz.func34, Tryz.ntmps34
  go_wp2_with fail
  refine (H1.out _ (HG.out.keep ((Below.refl _ _).alloc (Nat.le_refl _) _))).mono ?_
  rintro e w1 ⟨rfl, hb⟩
  obtain ⟨hc1, hf1⟩ := bcell hb
  have hz1 := hb.size
  (try simp at hz1)
  have hB : Hx (Below w.heap.size w w1) := ⟨Below.trans (by repeat (first | with_reducible exact hB.out | with_reducible exact Below.refl _ _ | (with_reducible refine Below.setCell ?_ ?side _; case side => (first | omega | (simp <;> omega))) | (with_reducible refine Below.alloc ?_ ?side _; case side => (first | omega | (simp <;> omega))) | with_reducible apply below_drewN)) (hb.mono (by first | omega | (simp <;> omega)))⟩
  clear hb
  have hy1_0 : w.heap.size < w1.heap.size := by omega
  go_upto_region 4 with fail
  have uc0 : (w1.alloc (.cells #[.int .i64 (q 0), .int .i64 (q 1), .int .i64 (q 2), .int .i64 (q 3), .int .i64 (q 4), .int .i64 (q 5)] 23)).cell? ⟨w1.heap.size, 0, none⟩ = some (.int .i64 (q 0)) := by simp [go_sem]
  have zc0 : (w1.alloc (.cells #[.int .i64 (q 0), .int .i64 (q 1), .int .i64 (q 2), .int .i64 (q 3), .int .i64 (q 4), .int .i64 (q 5)] 23)).cell? ⟨w.heap.size, 0, none⟩ = some (.int .i64 0) := by simp [go_sem, hc1, hy1_0]
  have zf0 : (w1.alloc (.cells #[.int .i64 (q 0), .int .i64 (q 1), .int .i64 (q 2), .int .i64 (q 3), .int .i64 (q 4), .int .i64 (q 5)] 23)).frozen? ⟨w.heap.size, 0, none⟩ = false := by simp [go_sem, hf1, hy1_0]
  have uc1 : (w1.alloc (.cells #[.int .i64 (q 0), .int .i64 (q 1), .int .i64 (q 2), .int .i64 (q 3), .int .i64 (q 4), .int .i64 (q 5)] 23)).cell? ⟨w1.heap.size, 1, none⟩ = some (.int .i64 (q 1)) := by simp [go_sem]
  have zc1 : (w1.alloc (.cells #[.int .i64 (q 0), .int .i64 (q 1), .int .i64 (q 2), .int .i64 (q 3), .int .i64 (q 4), .int .i64 (q 5)] 23)).cell? ⟨w.heap.size, 1, none⟩ = some (.int .i64 0) := by simp [go_sem, hc1, hy1_0]
  have zf1 : (w1.alloc (.cells #[.int .i64 (q 0), .int .i64 (q 1), .int .i64 (q 2), .int .i64 (q 3), .int .i64 (q 4), .int .i64 (q 5)] 23)).frozen? ⟨w.heap.size, 1, none⟩ = false := by simp [go_sem, hf1, hy1_0]
  have uc2 : (w1.alloc (.cells #[.int .i64 (q 0), .int .i64 (q 1), .int .i64 (q 2), .int .i64 (q 3), .int .i64 (q 4), .int .i64 (q 5)] 23)).cell? ⟨w1.heap.size, 2, none⟩ = some (.int .i64 (q 2)) := by simp [go_sem]
  have zc2 : (w1.alloc (.cells #[.int .i64 (q 0), .int .i64 (q 1), .int .i64 (q 2), .int .i64 (q 3), .int .i64 (q 4), .int .i64 (q 5)] 23)).cell? ⟨w.heap.size, 2, none⟩ = some (.int .i64 0) := by simp [go_sem, hc1, hy1_0]
  have zf2 : (w1.alloc (.cells #[.int .i64 (q 0), .int .i64 (q 1), .int .i64 (q 2), .int .i64 (q 3), .int .i64 (q 4), .int .i64 (q 5)] 23)).frozen? ⟨w.heap.size, 2, none⟩ = false := by simp [go_sem, hf1, hy1_0]
  have uc3 : (w1.alloc (.cells #[.int .i64 (q 0), .int .i64 (q 1), .int .i64 (q 2), .int .i64 (q 3), .int .i64 (q 4), .int .i64 (q 5)] 23)).cell? ⟨w1.heap.size, 3, none⟩ = some (.int .i64 (q 3)) := by simp [go_sem]
  have zc3 : (w1.alloc (.cells #[.int .i64 (q 0), .int .i64 (q 1), .int .i64 (q 2), .int .i64 (q 3), .int .i64 (q 4), .int .i64 (q 5)] 23)).cell? ⟨w.heap.size, 3, none⟩ = some (.int .i64 0) := by simp [go_sem, hc1, hy1_0]
  have zf3 : (w1.alloc (.cells #[.int .i64 (q 0), .int .i64 (q 1), .int .i64 (q 2), .int .i64 (q 3), .int .i64 (q 4), .int .i64 (q 5)] 23)).frozen? ⟨w.heap.size, 3, none⟩ = false := by simp [go_sem, hf1, hy1_0]
  have uc4 : (w1.alloc (.cells #[.int .i64 (q 0), .int .i64 (q 1), .int .i64 (q 2), .int .i64 (q 3), .int .i64 (q 4), .int .i64 (q 5)] 23)).cell? ⟨w1.heap.size, 4, none⟩ = some (.int .i64 (q 4)) := by simp [go_sem]
  have zc4 : (w1.alloc (.cells #[.int .i64 (q 0), .int .i64 (q 1), .int .i64 (q 2), .int .i64 (q 3), .int .i64 (q 4), .int .i64 (q 5)] 23)).cell? ⟨w.heap.size, 4, none⟩ = some (.int .i64 0) := by simp [go_sem, hc1, hy1_0]
  have zf4 : (w1.alloc (.cells #[.int .i64 (q 0), .int .i64 (q 1), .int .i64 (q 2), .int .i64 (q 3), .int .i64 (q 4), .int .i64 (q 5)] 23)).frozen? ⟨w.heap.size, 4, none⟩ = false := by simp [go_sem, hf1, hy1_0]
  have uc5 : (w1.alloc (.cells #[.int .i64 (q 0), .int .i64 (q 1), .int .i64 (q 2), .int .i64 (q 3), .int .i64 (q 4), .int .i64 (q 5)] 23)).cell? ⟨w1.heap.size, 5, none⟩ = some (.int .i64 (q 5)) := by simp [go_sem]
  have zc5 : (w1.alloc (.cells #[.int .i64 (q 0), .int .i64 (q 1), .int .i64 (q 2), .int .i64 (q 3), .int .i64 (q 4), .int .i64 (q 5)] 23)).cell? ⟨w.heap.size, 5, none⟩ = some (.int .i64 0) := by simp [go_sem, hc1, hy1_0]
  have zf5 : (w1.alloc (.cells #[.int .i64 (q 0), .int .i64 (q 1), .int .i64 (q 2), .int .i64 (q 3), .int .i64 (q 4), .int .i64 (q 5)] 23)).frozen? ⟨w.heap.size, 5, none⟩ = false := by simp [go_sem, hf1, hy1_0]
  have hB : Hx (Below w.heap.size w (w1.alloc (.cells #[.int .i64 (q 0), .int .i64 (q 1), .int .i64 (q 2), .int .i64 (q 3), .int .i64 (q 4), .int .i64 (q 5)] 23))) := ⟨hB.out.alloc hB.out.size _⟩
  have hne1 : ¬ w1.heap.size = w.heap.size := by omega
  have hne2 : ¬ w.heap.size = w1.heap.size := by omega
  clear hc1 hf1
  generalize (w1.alloc (.cells #[.int .i64 (q 0), .int .i64 (q 1), .int .i64 (q 2), .int .i64 (q 3), .int .i64 (q 4), .int .i64 (q 5)] 23)) = W3 at *
  generalize w1.heap.size = b2 at *
  clear hy1_0 hz1
  go_wp2_with fail
  refine bodyPost_ret_by (v := .tuple #[PV q, .int .i64 0]) (by simp [results, Tryz.results34, go_sem, zc0, zc1, zc2, zc3, zc4, zc5]) rfl ?_
  exact ⟨rfl, (by repeat (first | with_reducible exact hB.out | with_reducible exact Below.refl _ _ | (with_reducible refine Below.setCell ?_ ?side _; case side => (first | omega | (simp <;> omega))) | (with_reducible refine Below.alloc ?_ ?side _; case side => (first | omega | (simp <;> omega))) | with_reducible apply below_drewN))⟩
set_option maxHeartbeats 2000000 in
theorem pparse_no (l : List UInt8) (w : World) (hg : Gv w) (hl : l.length ≤ 281474976710656) (h : (readV l).2 = false) : Calls Tryz.prog 34 #[.string (strL l)] w (OutV w (fun _ => 0) 8) := by
  have HG := Hx.mk hg
  have H1 : Hx (∀ w, Gv w → Calls Tryz.prog 53 #[.string (strL l)] w fun e w' => e = .returned (.tuple #[PV (fun _ => 0), .bool false]) ∧ Below w.heap.size w w') := ⟨fun w hg => by
    have := read_any l w hg hl
    unfold OutRd at this
    rw [readV_no h, h] at this
    exact this⟩
  clear h hg hl
  go_enter Tryz.func34, Tryz.ntmps34
  go_wp2_with fail
  refine (H1.out _ (HG.out.keep ((Below.refl _ _).alloc (Nat.le_refl _) _))).mono ?_
  rintro e w1 ⟨rfl, hb⟩
  obtain ⟨hc1, hf1⟩ := bcell hb
  have hz1 := hb.size
  (try simp at hz1)
  have hB : Hx (Below w.heap.size w w1) := ⟨Below.trans (by repeat (first | with_reducible exact hB.out | with_reducible exact Below.refl _ _ | (with_reducible refine Below.setCell ?_ ?side _; case side => (first | omega | (simp <;> omega))) | (with_reducible refine Below.alloc ?_ ?side _; case side => (first | omega | (simp <;> omega))) | with_reducible apply below_drewN)) (hb.mono (by first | omega | (simp <;> omega)))⟩
  clear hb
  have hy1_0 : w.heap.size < w1.heap.size := by omega
  go_upto_region 3 with fail
  have uc0 : (w1.alloc (.cells #[.int .i64 0, .int .i64 0, .int .i64 0, .int .i64 0, .int .i64 0, .int .i64 0] 23)).cell? ⟨w1.heap.size, 0, none⟩ = some (.int .i64 0) := by simp [go_sem]
  have zc0 : (w1.alloc (.cells #[.int .i64 0, .int .i64 0, .int .i64 0, .int .i64 0, .int .i64 0, .int .i64 0] 23)).cell? ⟨w.heap.size, 0, none⟩ = some (.int .i64 0) := by simp [go_sem, hc1, hy1_0]
  have zf0 : (w1.alloc (.cells #[.int .i64 0, .int .i64 0, .int .i64 0, .int .i64 0, .int .i64 0, .int .i64 0] 23)).frozen? ⟨w.heap.size, 0, none⟩ = false := by simp [go_sem, hf1, hy1_0]
  have uc1 : (w1.alloc (.cells #[.int .i64 0, .int .i64 0, .int .i64 0, .int .i64 0, .int .i64 0, .int .i64 0] 23)).cell? ⟨w1.heap.size, 1, none⟩ = some (.int .i64 0) := by simp [go_sem]
  have zc1 : (w1.alloc (.cells #[.int .i64 0, .int .i64 0, .int .i64 0, .int .i64 0, .int .i64 0, .int .i64 0] 23)).cell? ⟨w.heap.size, 1, none⟩ = some (.int .i64 0) := by simp [go_sem, hc1, hy1_0]
  have zf1 : (w1.alloc (.cells #[.int .i64 0, .int .i64 0, .int .i64 0, .int .i64 0, .int .i64 0, .int .i64 0] 23)).frozen? ⟨w.heap.size, 1, none⟩ = false := by simp [go_sem, hf1, hy1_0]
  have uc2 : (w1.alloc (.cells #[.int .i64 0, .int .i64 0, .int .i64 0, .int .i64 0, .int .i64 0, .int .i64 0] 23)).cell? ⟨w1.heap.size, 2, none⟩ = some (.int .i64 0) := by simp [go_sem]
  have zc2 : (w1.alloc (.cells #[.int .i64 0, .int .i64 0, .int .i64 0, .int .i64 0, .int .i64 0, .int .i64 0] 23)).cell? ⟨w.heap.size, 2, none⟩ = some (.int .i64 0) := by simp [go_sem, hc1, hy1_0]
  have zf2 : (w1.alloc (.cells #[.int .i64 0, .int .i64 0, .int .i64 0, .int .i64 0, .int .i64 0, .int .i64 0] 23)).frozen? ⟨w.heap.size, 2, none⟩ = false := by simp [go_sem, hf1, hy1_0]
  have uc3 : (w1.alloc (.cells #[.int .i64 0, .int .i64 0, .int .i64 0, .int .i64 0, .int .i64 0, .int .i64 0] 23)).cell? ⟨w1.heap.size, 3, none⟩ = some (.int .i64 0) := by simp [go_sem]
  have zc3 : (w1.alloc (.cells #[.int .i64 0, .int .i64 0, .int .i64 0, .int .i64 0, .int .i64 0, .int .i64 0] 23)).cell? ⟨w.heap.size, 3, none⟩ = some (.int .i64 0) := by simp [go_sem, hc1, hy1_0]
  have zf3 : (w1.alloc (.cells #[.int .i64 0, .int .i64 0, .int .i64 0, .int .i64 0, .int .i64 0, .int .i64 0] 23)).frozen? ⟨w.heap.size, 3, none⟩ = false := by simp [go_sem, hf1, hy1_0]
  have uc4 : (w1.alloc (.cells #[.int .i64 0, .int .i64 0, .int .i64 0, .int .i64 0, .int .i64 0, .int .i64 0] 23)).cell? ⟨w1.heap.size, 4, none⟩ = some (.int .i64 0) := by simp [go_sem]
  have zc4 : (w1.alloc (.cells #[.int .i64 0, .int .i64 0, .int .i64 0, .int .i64 0, .int .i64 0, .int .i64 0] 23)).cell? ⟨w.heap.size, 4, none⟩ = some (.int .i64 0) := by simp [go_sem, hc1, hy1_0]
  have zf4 : (w1.alloc (.cells #[.int .i64 0, .int .i64 0, .int .i64 0, .int .i64 0, .int .i64 0, .int .i64 0] 23)).frozen? ⟨w.heap.size, 4, none⟩ = false := by simp [go_sem, hf1, hy1_0]
  have uc5 : (w1.alloc (.cells #[.int .i64 0, .int .i64 0, .int .i64 0, .int .i64 0, .int .i64 0, .int .i64 0] 23)).cell? ⟨w1.heap.size, 5, none⟩ = some (.int .i64 0) := by simp [go_sem]
  have zc5 : (w1.alloc (.cells #[.int .i64 0, .int .i64 0, .int .i64 0, .int .i64 0, .int .i64 0, .int .i64 0] 23)).cell? ⟨w.heap.size, 5, none⟩ = some (.int .i64 0) := by simp [go_sem, hc1, hy1_0]
  have zf5 : (w1.alloc (.cells #[.int .i64 0, .int .i64 0, .int .i64 0, .int .i64 0, .int .i64 0, .int .i64 0] 23)).frozen? ⟨w.heap.size, 5, none⟩ = false := by simp [go_sem, hf1, hy1_0]
  have hB : Hx (Below w.heap.size w (w1.alloc (.cells #[.int .i64 0, .int .i64 0, .int .i64 0, .int .i64 0, .int .i64 0, .int .i64 0] 23))) := ⟨hB.out.alloc hB.out.size _⟩
  have hne1 : ¬ w1.heap.size = w.heap.size := by omega
  have hne2 : ¬ w.heap.size = w1.heap.size := by omega
  clear hc1 hf1
  generalize (w1.alloc (.cells #[.int .i64 0, .int .i64 0, .int .i64 0, .int .i64 0, .int .i64 0, .int .i64 0] 23)) = W3 at *
  generalize w1.heap.size = b2 at *
  clear hy1_0 hz1
  go_wp2_with fail
  refine bodyPost_ret_by (v := .tuple #[PV fun _ => 0, .int .i64 8]) (by simp [results, Tryz.results34, go_sem, zc0, zc1, zc2, zc3, zc4, zc5]) rfl ?_
  exact ⟨rfl, (by repeat (first | with_reducible exact hB.out | with_reducible exact Below.refl _ _ | (with_reducible refine Below.setCell ?_ ?side _; case side => (first | omega | (simp <;> omega))) | (with_reducible refine Below.alloc ?_ ?side _; case side => (first | omega | (simp <;> omega))) | with_reducible apply below_drewN))⟩
end Go.Proofs.YtlfngdbpnhaphaaGreatDoor

/- pitch's exported functions, and what they call: Valid, Interval, checked, combine, Mul, Div, Of, Whole. -/
import Derived.Test.YtomgihlkbmaleaaDoorP9
namespace Go.Proofs.YtomgihlkbmaleaaDoor
open Go.RowKit M
def OutV (w : World) (v : Nat → Int) (c : Int) (e : Ending) (w' : World) : Prop := e = .returned (.tuple #[PV v, .int .i64 c]) ∧ Below w.heap.size w w'
theorem pvalid_any (v : Nat → Int) (w : World) (b : Bool) (h : bdB v 576 = b) : Calls Tryd.prog 11 #[PV v] w fun e w' => e = .returned (.bool b) ∧ Below w.heap.size w w' := by
  have H := Hx.mk (fun w => bounded_any v 576 w (by omega) (by omega) b h)
  clear h
  go_enter Tryd.func11, Tryd.ntmps11
  go_wp2_with fail
  refine (H.out _).mono ?_
  rintro e w1 ⟨rfl, hb⟩
  obtain ⟨hc1, hf1⟩ := bcell hb
  have hz1 := hb.size
  (try simp at hz1)
  have hB : Hx (Below w.heap.size w w1) := ⟨Below.trans (by repeat (first | with_reducible exact hB.out | with_reducible exact Below.refl _ _ | (with_reducible refine Below.setCell ?_ ?side _; case side => (first | omega | (simp <;> omega))) | (with_reducible refine Below.alloc ?_ ?side _; case side => (first | omega | (simp <;> omega))) | with_reducible apply below_drewN)) (hb.mono (by first | omega | (simp <;> omega)))⟩
  clear hb
  go_wp2_with fail
  go_ret
  exact ⟨rfl, (by repeat (first | with_reducible exact hB.out | with_reducible exact Below.refl _ _ | (with_reducible refine Below.setCell ?_ ?side _; case side => (first | omega | (simp <;> omega))) | (with_reducible refine Below.alloc ?_ ?side _; case side => (first | omega | (simp <;> omega))) | with_reducible apply below_drewN))⟩
theorem checked_ok (v : Nat → Int) (w : World) (h : bdB v 576 = true) : Calls Tryd.prog 54 #[PV v] w (OutV w v 0) := by
  have H := Hx.mk (fun w => pvalid_any v w true h)
  clear h
  go_enter Tryd.func54, Tryd.ntmps54
  go_wp2_with fail
  refine (H.out _).mono ?_
  rintro e w1 ⟨rfl, hb⟩
  obtain ⟨hc1, hf1⟩ := bcell hb
  have hz1 := hb.size
  (try simp at hz1)
  have hB : Hx (Below w.heap.size w w1) := ⟨Below.trans (by repeat (first | with_reducible exact hB.out | with_reducible exact Below.refl _ _ | (with_reducible refine Below.setCell ?_ ?side _; case side => (first | omega | (simp <;> omega))) | (with_reducible refine Below.alloc ?_ ?side _; case side => (first | omega | (simp <;> omega))) | with_reducible apply below_drewN)) (hb.mono (by first | omega | (simp <;> omega)))⟩
  clear hb
  have hy1_0 : w.heap.size < w1.heap.size := by omega
  have hy1_1 : w.heap.size + 1 < w1.heap.size := by omega
  go_wp2_with fail
  refine bodyPost_ret_by (v := .tuple #[PV v, .int .i64 0]) (by simp [results, Tryd.results54, go_sem, hc1, hf1, hz1, hy1_0, hy1_1]) rfl ?_
  exact ⟨rfl, (by repeat (first | with_reducible exact hB.out | with_reducible exact Below.refl _ _ | (with_reducible refine Below.setCell ?_ ?side _; case side => (first | omega | (simp <;> omega))) | (with_reducible refine Below.alloc ?_ ?side _; case side => (first | omega | (simp <;> omega))) | with_reducible apply below_drewN))⟩
theorem checked_no (v : Nat → Int) (w : World) (h : bdB v 576 = false) : Calls Tryd.prog 54 #[PV v] w (OutV w (fun _ => 0) 3) := by
  have H := Hx.mk (fun w => pvalid_any v w false h)
  clear h
  go_enter Tryd.func54, Tryd.ntmps54
  go_wp2_with fail
  refine (H.out _).mono ?_
  rintro e w1 ⟨rfl, hb⟩
  obtain ⟨hc1, hf1⟩ := bcell hb
  have hz1 := hb.size
  (try simp at hz1)
  have hB : Hx (Below w.heap.size w w1) := ⟨Below.trans (by repeat (first | with_reducible exact hB.out | with_reducible exact Below.refl _ _ | (with_reducible refine Below.setCell ?_ ?side _; case side => (first | omega | (simp <;> omega))) | (with_reducible refine Below.alloc ?_ ?side _; case side => (first | omega | (simp <;> omega))) | with_reducible apply below_drewN)) (hb.mono (by first | omega | (simp <;> omega)))⟩
  clear hb
  have hy1_0 : w.heap.size < w1.heap.size := by omega
  have hy1_1 : w.heap.size + 1 < w1.heap.size := by omega
  go_wp2_with fail
  refine bodyPost_ret_by (v := .tuple #[PV fun _ => 0, .int .i64 3]) (by simp [results, Tryd.results54, go_sem, hc1, hf1, hz1, hy1_0, hy1_1]) rfl ?_
  exact ⟨rfl, (by repeat (first | with_reducible exact hB.out | with_reducible exact Below.refl _ _ | (with_reducible refine Below.setCell ?_ ?side _; case side => (first | omega | (simp <;> omega))) | (with_reducible refine Below.alloc ?_ ?side _; case side => (first | omega | (simp <;> omega))) | with_reducible apply below_drewN))⟩
/-- What checked hands back. -/
def chkV (v : Nat → Int) : Nat → Int := if bdB v 576 then v else fun _ => 0
def chkE (v : Nat → Int) : Int := if bdB v 576 then 0 else 3
theorem checked_any (v : Nat → Int) (w : World) : Calls Tryd.prog 54 #[PV v] w (OutV w (chkV v) (chkE v)) := by
  by_cases h : bdB v 576 = true
  · have e1 : chkV v = v := by simp [chkV, h]
    have e2 : chkE v = 0 := by simp [chkE, h]
    rw [e1, e2]; exact checked_ok v w h
  · have e1 : chkV v = fun _ => 0 := by simp [chkV, h]
    have e2 : chkE v = 3 := by simp [chkE, h]
    rw [e1, e2]; exact checked_no v w (by simpa using h)
theorem combine_ok (a b s r : Nat → Int) (n c : Int) (w : World) (ha : bdB a 576 = true) (hb0 : bdB b 576 = true) (hn0 : -1 ≤ n) (hn1 : n ≤ 1) (hs : ∀ i, i < 6 → s i = a i + n * b i) (hr : chkV s = r) (hc : chkE s = c) :
    Calls Tryd.prog 35 #[PV a, PV b, .int .i64 n] w (OutV w r c) := by
  have H1 := Hx.mk (fun w => pvalid_any a w true ha)
  have H2 := Hx.mk (fun w => pvalid_any b w true hb0)
  have H3 := Hx.mk (fun w => sum_any a b s n w ⟨fun i hi => by have := bdB_yes.1 ha i hi; omega⟩ ⟨fun i hi => by
    have h1 := bdB_yes.1 hb0 i hi
    have : n = -1 ∨ n = 0 ∨ n = 1 := by omega
    rcases this with rfl | rfl | rfl <;> simp <;> omega⟩ ⟨hs⟩)
  have H4 := Hx.mk (fun w => checked_any s w)
  rw [hr, hc] at H4
  clear ha hb0 hs hr hc
  go_enter Tryd.func35, Tryd.ntmps35
  go_wp2_with fail
  refine (H1.out _).mono ?_
  rintro e w1 ⟨rfl, hb⟩
  obtain ⟨hc1, hf1⟩ := bcell hb
  have hz1 := hb.size
  (try simp at hz1)
  have hB : Hx (Below w.heap.size w w1) := ⟨Below.trans (by repeat (first | with_reducible exact hB.out | with_reducible exact Below.refl _ _ | (with_reducible refine Below.setCell ?_ ?side _; case side => (first | omega | (simp <;> omega))) | (with_reducible refine Below.alloc ?_ ?side _; case side => (first | omega | (simp <;> omega))) | with_reducible apply below_drewN)) (hb.mono (by first | omega | (simp <;> omega)))⟩
  clear hb
  have hy1_0 : w.heap.size < w1.heap.size := by omega
  have hy1_1 : w.heap.size + 1 < w1.heap.size := by omega
  have hy1_2 : w.heap.size + 1 + 1 < w1.heap.size := by omega
  go_wp2_with fail
  refine (H2.out _).mono ?_
  rintro e w2 ⟨rfl, hb⟩
  obtain ⟨hc2, hf2⟩ := bcell hb
  have hz2 := hb.size
  (try simp at hz2)
  have hB : Hx (Below w.heap.size w w2) := ⟨Below.trans (by repeat (first | with_reducible exact hB.out | with_reducible exact Below.refl _ _ | (with_reducible refine Below.setCell ?_ ?side _; case side => (first | omega | (simp <;> omega))) | (with_reducible refine Below.alloc ?_ ?side _; case side => (first | omega | (simp <;> omega))) | with_reducible apply below_drewN)) (hb.mono (by first | omega | (simp <;> omega)))⟩
  clear hb
  have hy2_0 : w.heap.size < w2.heap.size := by omega
  have hy2_1 : w.heap.size + 1 < w2.heap.size := by omega
  have hy2_2 : w.heap.size + 1 + 1 < w2.heap.size := by omega
  go_wp2_with fail
  refine (H3.out _).mono ?_
  rintro e w3 ⟨rfl, hb⟩
  obtain ⟨hc3, hf3⟩ := bcell hb
  have hz3 := hb.size
  (try simp at hz3)
  have hB : Hx (Below w.heap.size w w3) := ⟨Below.trans (by repeat (first | with_reducible exact hB.out | with_reducible exact Below.refl _ _ | (with_reducible refine Below.setCell ?_ ?side _; case side => (first | omega | (simp <;> omega))) | (with_reducible refine Below.alloc ?_ ?side _; case side => (first | omega | (simp <;> omega))) | with_reducible apply below_drewN)) (hb.mono (by first | omega | (simp <;> omega)))⟩
  clear hb
  have hy3_0 : w.heap.size < w3.heap.size := by omega
  have hy3_1 : w.heap.size + 1 < w3.heap.size := by omega
  have hy3_2 : w.heap.size + 1 + 1 < w3.heap.size := by omega
  go_wp2_with fail
  refine (H4.out _).mono ?_
  rintro e w4 ⟨rfl, hb⟩
  obtain ⟨hc4, hf4⟩ := bcell hb
  have hz4 := hb.size
  (try simp at hz4)
  have hB : Hx (Below w.heap.size w w4) := ⟨Below.trans (by repeat (first | with_reducible exact hB.out | with_reducible exact Below.refl _ _ | (with_reducible refine Below.setCell ?_ ?side _; case side => (first | omega | (simp <;> omega))) | (with_reducible refine Below.alloc ?_ ?side _; case side => (first | omega | (simp <;> omega))) | with_reducible apply below_drewN)) (hb.mono (by first | omega | (simp <;> omega)))⟩
  clear hb
  have hy4_0 : w.heap.size < w4.heap.size := by omega
  have hy4_1 : w.heap.size + 1 < w4.heap.size := by omega
  have hy4_2 : w.heap.size + 1 + 1 < w4.heap.size := by omega
  go_wp2_with fail
  refine bodyPost_ret_by (v := .tuple #[PV r, .int .i64 c]) (by simp [results, Tryd.results35, go_sem, hc1, hf1, hz1, hy1_0, hy1_1, hy1_2, hc2, hf2, hz2, hy2_0, hy2_1, hy2_2, hc3, hf3, hz3, hy3_0, hy3_1, hy3_2, hc4, hf4, hz4, hy4_0, hy4_1, hy4_2]) rfl ?_
  exact ⟨rfl, (by repeat (first | with_reducible exact hB.out | with_reducible exact Below.refl _ _ | (with_reducible refine Below.setCell ?_ ?side _; case side => (first | omega | (simp <;> omega))) | (with_reducible refine Below.alloc ?_ ?side _; case side => (first | omega | (simp <;> omega))) | with_reducible apply below_drewN))⟩
theorem combine_a (a b : Nat → Int) (n : Int) (w : World) (ha : bdB a 576 = false) : Calls Tryd.prog 35 #[PV a, PV b, .int .i64 n] w (OutV w (fun _ => 0) 1) := by
  have H1 := Hx.mk (fun w => pvalid_any a w false ha)
  clear ha
  go_enter Tryd.func35, Tryd.ntmps35
  go_wp2_with fail
  refine (H1.out _).mono ?_
  rintro e w1 ⟨rfl, hb⟩
  obtain ⟨hc1, hf1⟩ := bcell hb
  have hz1 := hb.size
  (try simp at hz1)
  have hB : Hx (Below w.heap.size w w1) := ⟨Below.trans (by repeat (first | with_reducible exact hB.out | with_reducible exact Below.refl _ _ | (with_reducible refine Below.setCell ?_ ?side _; case side => (first | omega | (simp <;> omega))) | (with_reducible refine Below.alloc ?_ ?side _; case side => (first | omega | (simp <;> omega))) | with_reducible apply below_drewN)) (hb.mono (by first | omega | (simp <;> omega)))⟩
  clear hb
  have hy1_0 : w.heap.size < w1.heap.size := by omega
  have hy1_1 : w.heap.size + 1 < w1.heap.size := by omega
  have hy1_2 : w.heap.size + 1 + 1 < w1.heap.size := by omega
  go_wp2_with fail
  refine bodyPost_ret_by (v := .tuple #[PV fun _ => 0, .int .i64 1]) (by simp [results, Tryd.results35, go_sem, hc1, hf1, hz1, hy1_0, hy1_1, hy1_2]) rfl ?_
  exact ⟨rfl, (by repeat (first | with_reducible exact hB.out | with_reducible exact Below.refl _ _ | (with_reducible refine Below.setCell ?_ ?side _; case side => (first | omega | (simp <;> omega))) | (with_reducible refine Below.alloc ?_ ?side _; case side => (first | omega | (simp <;> omega))) | with_reducible apply below_drewN))⟩
theorem combine_b (a b : Nat → Int) (n : Int) (w : World) (ha : bdB a 576 = true) (hb0 : bdB b 576 = false) : Calls Tryd.prog 35 #[PV a, PV b, .int .i64 n] w (OutV w (fun _ => 0) 1) := by
  have H1 := Hx.mk (fun w => pvalid_any a w true ha)
  have H2 := Hx.mk (fun w => pvalid_any b w false hb0)
  clear ha hb0
  go_enter Tryd.func35, Tryd.ntmps35
  go_wp2_with fail
  refine (H1.out _).mono ?_
  rintro e w1 ⟨rfl, hb⟩
  obtain ⟨hc1, hf1⟩ := bcell hb
  have hz1 := hb.size
  (try simp at hz1)
  have hB : Hx (Below w.heap.size w w1) := ⟨Below.trans (by repeat (first | with_reducible exact hB.out | with_reducible exact Below.refl _ _ | (with_reducible refine Below.setCell ?_ ?side _; case side => (first | omega | (simp <;> omega))) | (with_reducible refine Below.alloc ?_ ?side _; case side => (first | omega | (simp <;> omega))) | with_reducible apply below_drewN)) (hb.mono (by first | omega | (simp <;> omega)))⟩
  clear hb
  have hy1_0 : w.heap.size < w1.heap.size := by omega
  have hy1_1 : w.heap.size + 1 < w1.heap.size := by omega
  have hy1_2 : w.heap.size + 1 + 1 < w1.heap.size := by omega
  go_wp2_with fail
  refine (H2.out _).mono ?_
  rintro e w2 ⟨rfl, hb⟩
  obtain ⟨hc2, hf2⟩ := bcell hb
  have hz2 := hb.size
  (try simp at hz2)
  have hB : Hx (Below w.heap.size w w2) := ⟨Below.trans (by repeat (first | with_reducible exact hB.out | with_reducible exact Below.refl _ _ | (with_reducible refine Below.setCell ?_ ?side _; case side => (first | omega | (simp <;> omega))) | (with_reducible refine Below.alloc ?_ ?side _; case side => (first | omega | (simp <;> omega))) | with_reducible apply below_drewN)) (hb.mono (by first | omega | (simp <;> omega)))⟩
  clear hb
  have hy2_0 : w.heap.size < w2.heap.size := by omega
  have hy2_1 : w.heap.size + 1 < w2.heap.size := by omega
  have hy2_2 : w.heap.size + 1 + 1 < w2.heap.size := by omega
  go_wp2_with fail
  refine bodyPost_ret_by (v := .tuple #[PV fun _ => 0, .int .i64 1]) (by simp [results, Tryd.results35, go_sem, hc1, hf1, hz1, hy1_0, hy1_1, hy1_2, hc2, hf2, hz2, hy2_0, hy2_1, hy2_2]) rfl ?_
  exact ⟨rfl, (by repeat (first | with_reducible exact hB.out | with_reducible exact Below.refl _ _ | (with_reducible refine Below.setCell ?_ ?side _; case side => (first | omega | (simp <;> omega))) | (with_reducible refine Below.alloc ?_ ?side _; case side => (first | omega | (simp <;> omega))) | with_reducible apply below_drewN))⟩
/-- What Mul (n is 1) and Div (n is -1) hand back. -/
def comV (a b : Nat → Int) (n : Int) : Nat → Int := if bdB a 576 && bdB b 576 then chkV (fun i => a i + n * b i) else fun _ => 0
def comE (a b : Nat → Int) (n : Int) : Int := if bdB a 576 && bdB b 576 then chkE (fun i => a i + n * b i) else 1
theorem combine_any (a b : Nat → Int) (n : Int) (w : World) (hn0 : -1 ≤ n) (hn1 : n ≤ 1) : Calls Tryd.prog 35 #[PV a, PV b, .int .i64 n] w (OutV w (comV a b n) (comE a b n)) := by
  by_cases ha : bdB a 576 = true
  · by_cases hb : bdB b 576 = true
    · have e1 : chkV (fun i => a i + n * b i) = comV a b n := by simp [comV, ha, hb]
      have e2 : chkE (fun i => a i + n * b i) = comE a b n := by simp [comE, ha, hb]
      exact combine_ok a b _ _ n _ w ha hb hn0 hn1 (fun _ _ => rfl) e1 e2
    · have e1 : comV a b n = fun _ => 0 := by simp [comV, hb]
      have e2 : comE a b n = 1 := by simp [comE, hb]
      rw [e1, e2]; exact combine_b a b n w ha (by simpa using hb)
  · have e1 : comV a b n = fun _ => 0 := by simp [comV, ha]
    have e2 : comE a b n = 1 := by simp [comE, ha]
    rw [e1, e2]; exact combine_a a b n w (by simpa using ha)
theorem pmul_any (a b r : Nat → Int) (c : Int) (w : World) (hr : comV a b 1 = r) (hc : comE a b 1 = c) : Calls Tryd.prog 15 #[PV a, PV b] w (OutV w r c) := by
  have H := Hx.mk (fun w => combine_any a b 1 w (by omega) (by omega))
  rw [hr, hc] at H
  clear hr hc
  go_enter Tryd.func15, Tryd.ntmps15
  go_wp2_with fail
  refine (H.out _).mono ?_
  rintro e w1 ⟨rfl, hb⟩
  obtain ⟨hc1, hf1⟩ := bcell hb
  have hz1 := hb.size
  (try simp at hz1)
  have hB : Hx (Below w.heap.size w w1) := ⟨Below.trans (by repeat (first | with_reducible exact hB.out | with_reducible exact Below.refl _ _ | (with_reducible refine Below.setCell ?_ ?side _; case side => (first | omega | (simp <;> omega))) | (with_reducible refine Below.alloc ?_ ?side _; case side => (first | omega | (simp <;> omega))) | with_reducible apply below_drewN)) (hb.mono (by first | omega | (simp <;> omega)))⟩
  clear hb
  have hy1_0 : w.heap.size < w1.heap.size := by omega
  have hy1_1 : w.heap.size + 1 < w1.heap.size := by omega
  have hy1_2 : w.heap.size + 1 + 1 < w1.heap.size := by omega
  go_wp2_with fail
  refine bodyPost_ret_by (v := .tuple #[PV r, .int .i64 c]) (by simp [results, Tryd.results15, go_sem, hc1, hf1, hz1, hy1_0, hy1_1, hy1_2]) rfl ?_
  exact ⟨rfl, (by repeat (first | with_reducible exact hB.out | with_reducible exact Below.refl _ _ | (with_reducible refine Below.setCell ?_ ?side _; case side => (first | omega | (simp <;> omega))) | (with_reducible refine Below.alloc ?_ ?side _; case side => (first | omega | (simp <;> omega))) | with_reducible apply below_drewN))⟩
end Go.Proofs.YtomgihlkbmaleaaDoor

/- the reference's Fits, Times, Cmp, Surely, Within, Meet of sizes. -/
import Derived.Test.YtdlfnonlalkjdaaDoorSR1
namespace Go.Proofs.YtdlfnonlalkjdaaDoor
open Go.RowKit M
theorem fits_any (x n : Int) (w : World) (hx0 : -100000000000000 ≤ x) (hx1 : x ≤ 100000000000000) (b : Bool) (h : muB x n = b) : Calls Tryd.prog 49 #[.int .i64 x, .int .i64 n] w fun e w' => e = .returned (.bool b) ∧ Below w.heap.size w w' := by
  by_cases h0 : x = 0
  · subst h0
    obtain rfl : b = true := by rw [← h, muB_yes]; simp
    clear h
    go_enter Tryd.func49, Tryd.ntmps49
    go_wp2_with fail
    go_ret
    exact ⟨rfl, (by repeat (first | with_reducible exact Below.refl _ _ | (with_reducible refine Below.setCell ?_ ?side _; case side => (first | omega | (simp <;> omega))) | (with_reducible refine Below.alloc ?_ ?side _; case side => (first | omega | (simp <;> omega))) | with_reducible apply below_drewN))⟩
  · obtain ⟨m, hm⟩ : ∃ m, m = 100000000000000 / (if x < 0 then -x else x) := ⟨_, rfl⟩
    have hq := mu_quo (n := n) h0 hm
    have hmx : Hx (max x (-x) = (if x < 0 then -x else x)) := ⟨by split <;> omega⟩
    obtain ⟨y, hy, hy0⟩ : ∃ y : Int, (if x < 0 then -x else x) = y ∧ 0 < y := by
      by_cases h : x < 0
      · exact ⟨-x, if_pos h, by omega⟩
      · exact ⟨x, if_neg h, by omega⟩
    rw [hy] at hm hmx
    have hmm := hmx.out
    have hm0 : 0 ≤ m := by rw [hm]; exact Int.ediv_nonneg (by omega) (by omega)
    have hm1 : m ≤ 100000000000000 := by rw [hm]; exact Int.ediv_le_self _ (by omega)
    have htd : (100000000000000 : Int).tdiv y = m := by rw [hm]; exact Int.tdiv_eq_ediv_of_nonneg (by omega)
    have hB : Hx (muB x n = b) := ⟨h⟩
    clear h hm
    by_cases h1 : -m ≤ n
    · by_cases h2 : n ≤ m
      · obtain rfl : b = true := by rw [← hB.out, muB_yes]; exact hq.1 ⟨h1, h2⟩
        clear hq hB hmx
        go_enter Tryd.func49, Tryd.ntmps49
        go_wp2_with fail
        go_ret
        exact ⟨rfl, (by repeat (first | with_reducible exact Below.refl _ _ | (with_reducible refine Below.setCell ?_ ?side _; case side => (first | omega | (simp <;> omega))) | (with_reducible refine Below.alloc ?_ ?side _; case side => (first | omega | (simp <;> omega))) | with_reducible apply below_drewN))⟩
      · obtain rfl : b = false := by
          rw [← hB.out]; exact Bool.eq_false_iff.2 fun k => h2 (hq.2 (muB_yes.1 k)).2
        clear hq hB hmx
        go_enter Tryd.func49, Tryd.ntmps49
        go_wp2_with fail
        go_ret
        exact ⟨rfl, (by repeat (first | with_reducible exact Below.refl _ _ | (with_reducible refine Below.setCell ?_ ?side _; case side => (first | omega | (simp <;> omega))) | (with_reducible refine Below.alloc ?_ ?side _; case side => (first | omega | (simp <;> omega))) | with_reducible apply below_drewN))⟩
    · obtain rfl : b = false := by
        rw [← hB.out]; exact Bool.eq_false_iff.2 fun k => h1 (hq.2 (muB_yes.1 k)).1
      clear hq hB hmx
      go_enter Tryd.func49, Tryd.ntmps49
      go_wp2_with fail
      go_ret
      exact ⟨rfl, (by repeat (first | with_reducible exact Below.refl _ _ | (with_reducible refine Below.setCell ?_ ?side _; case side => (first | omega | (simp <;> omega))) | (with_reducible refine Below.alloc ?_ ?side _; case side => (first | omega | (simp <;> omega))) | with_reducible apply below_drewN))⟩
theorem rtimes_arg (a b n : Int) (ha : szB a b = false) (w : World) : Calls Tryd.prog 24 #[SV a b, .int .i64 n] w (OutZ w 0 0 1) := by
  have H1 := Hx.mk (fun w => rvalid_any a b w false ha)
  clear ha
  go_enter Tryd.func24, Tryd.ntmps24
  go_wp2_with fail
  refine (H1.out _).mono ?_
  rintro e w1 ⟨rfl, hb⟩
  obtain ⟨hc1, hf1⟩ := bcell hb
  have hz1 := hb.size
  (try simp at hz1)
  have hB : Hx (Below w.heap.size w w1) := ⟨Below.trans (by repeat (first | with_reducible exact hB.out | with_reducible exact Below.refl _ _ | (with_reducible refine Below.setCell ?_ ?side _; case side => (first | omega | (simp <;> omega))) | (with_reducible refine Below.alloc ?_ ?side _; case side => (first | omega | (simp <;> omega))) | with_reducible apply below_drewN)) (hb.mono (by first | omega | (simp <;> omega)))⟩
  clear hb
  have hy1_0 : w.heap.size < w1.heap.size := by omega
  have hy1_1 : w.heap.size + 1 < w1.heap.size := by omega
  go_wp2_with fail
  refine bodyPost_ret_by (v := .tuple #[SV 0 0, .int .i64 1]) (by simp [results, Tryd.results24, go_sem, hc1]) rfl ?_
  exact ⟨rfl, (by repeat (first | with_reducible exact hB.out | with_reducible exact Below.refl _ _ | (with_reducible refine Below.setCell ?_ ?side _; case side => (first | omega | (simp <;> omega))) | (with_reducible refine Below.alloc ?_ ?side _; case side => (first | omega | (simp <;> omega))) | with_reducible apply below_drewN))⟩
theorem rtimes_r1 (a b n : Int) (ha : szB a b = true) (h1 : muB a n = false) (w : World) : Calls Tryd.prog 24 #[SV a b, .int .i64 n] w (OutZ w 0 0 3) := by
  have H1 := Hx.mk (fun w => rvalid_any a b w true ha)
  have M1 := Hx.mk (fun w => fits_any a n w (by have := szB_yes.1 ha; omega) (by have := szB_yes.1 ha; omega) false h1)
  clear ha h1
  go_enter Tryd.func24, Tryd.ntmps24
  go_wp2_with fail
  refine (H1.out _).mono ?_
  rintro e w1 ⟨rfl, hb⟩
  obtain ⟨hc1, hf1⟩ := bcell hb
  have hz1 := hb.size
  (try simp at hz1)
  have hB : Hx (Below w.heap.size w w1) := ⟨Below.trans (by repeat (first | with_reducible exact hB.out | with_reducible exact Below.refl _ _ | (with_reducible refine Below.setCell ?_ ?side _; case side => (first | omega | (simp <;> omega))) | (with_reducible refine Below.alloc ?_ ?side _; case side => (first | omega | (simp <;> omega))) | with_reducible apply below_drewN)) (hb.mono (by first | omega | (simp <;> omega)))⟩
  clear hb
  have hy1_0 : w.heap.size < w1.heap.size := by omega
  have hy1_1 : w.heap.size + 1 < w1.heap.size := by omega
  go_wp2_with fail
  refine (M1.out _).mono ?_
  rintro e w2 ⟨rfl, hb⟩
  obtain ⟨hc2, hf2⟩ := bcell hb
  have hz2 := hb.size
  (try simp at hz2)
  have hB : Hx (Below w.heap.size w w2) := ⟨Below.trans (by repeat (first | with_reducible exact hB.out | with_reducible exact Below.refl _ _ | (with_reducible refine Below.setCell ?_ ?side _; case side => (first | omega | (simp <;> omega))) | (with_reducible refine Below.alloc ?_ ?side _; case side => (first | omega | (simp <;> omega))) | with_reducible apply below_drewN)) (hb.mono (by first | omega | (simp <;> omega)))⟩
  clear hb
  have hy2_0 : w.heap.size < w2.heap.size := by omega
  have hy2_1 : w.heap.size + 1 < w2.heap.size := by omega
  go_wp2_with fail
  refine bodyPost_ret_by (v := .tuple #[SV 0 0, .int .i64 3]) (by simp [results, Tryd.results24, go_sem, hc1, hy1_1, hc2]) rfl ?_
  exact ⟨rfl, (by repeat (first | with_reducible exact hB.out | with_reducible exact Below.refl _ _ | (with_reducible refine Below.setCell ?_ ?side _; case side => (first | omega | (simp <;> omega))) | (with_reducible refine Below.alloc ?_ ?side _; case side => (first | omega | (simp <;> omega))) | with_reducible apply below_drewN))⟩
theorem rtimes_r2 (a b n : Int) (ha : szB a b = true) (h1 : muB a n = true) (h2 : muB b n = false) (w : World) : Calls Tryd.prog 24 #[SV a b, .int .i64 n] w (OutZ w 0 0 3) := by
  have H1 := Hx.mk (fun w => rvalid_any a b w true ha)
  have M1 := Hx.mk (fun w => fits_any a n w (by have := szB_yes.1 ha; omega) (by have := szB_yes.1 ha; omega) true h1)
  have M2 := Hx.mk (fun w => fits_any b n w (by have := szB_yes.1 ha; omega) (by have := szB_yes.1 ha; omega) false h2)
  clear ha h1 h2
  go_enter Tryd.func24, Tryd.ntmps24
  go_wp2_with fail
  refine (H1.out _).mono ?_
  rintro e w1 ⟨rfl, hb⟩
  obtain ⟨hc1, hf1⟩ := bcell hb
  have hz1 := hb.size
  (try simp at hz1)
  have hB : Hx (Below w.heap.size w w1) := ⟨Below.trans (by repeat (first | with_reducible exact hB.out | with_reducible exact Below.refl _ _ | (with_reducible refine Below.setCell ?_ ?side _; case side => (first | omega | (simp <;> omega))) | (with_reducible refine Below.alloc ?_ ?side _; case side => (first | omega | (simp <;> omega))) | with_reducible apply below_drewN)) (hb.mono (by first | omega | (simp <;> omega)))⟩
  clear hb
  have hy1_0 : w.heap.size < w1.heap.size := by omega
  have hy1_1 : w.heap.size + 1 < w1.heap.size := by omega
  go_wp2_with fail
  refine (M1.out _).mono ?_
  rintro e w2 ⟨rfl, hb⟩
  obtain ⟨hc2, hf2⟩ := bcell hb
  have hz2 := hb.size
  (try simp at hz2)
  have hB : Hx (Below w.heap.size w w2) := ⟨Below.trans (by repeat (first | with_reducible exact hB.out | with_reducible exact Below.refl _ _ | (with_reducible refine Below.setCell ?_ ?side _; case side => (first | omega | (simp <;> omega))) | (with_reducible refine Below.alloc ?_ ?side _; case side => (first | omega | (simp <;> omega))) | with_reducible apply below_drewN)) (hb.mono (by first | omega | (simp <;> omega)))⟩
  clear hb
  have hy2_0 : w.heap.size < w2.heap.size := by omega
  have hy2_1 : w.heap.size + 1 < w2.heap.size := by omega
  go_wp2_with fail
  refine (M2.out _).mono ?_
  rintro e w3 ⟨rfl, hb⟩
  obtain ⟨hc3, hf3⟩ := bcell hb
  have hz3 := hb.size
  (try simp at hz3)
  have hB : Hx (Below w.heap.size w w3) := ⟨Below.trans (by repeat (first | with_reducible exact hB.out | with_reducible exact Below.refl _ _ | (with_reducible refine Below.setCell ?_ ?side _; case side => (first | omega | (simp <;> omega))) | (with_reducible refine Below.alloc ?_ ?side _; case side => (first | omega | (simp <;> omega))) | with_reducible apply below_drewN)) (hb.mono (by first | omega | (simp <;> omega)))⟩
  clear hb
  have hy3_0 : w.heap.size < w3.heap.size := by omega
  have hy3_1 : w.heap.size + 1 < w3.heap.size := by omega
  go_wp2_with fail
  refine bodyPost_ret_by (v := .tuple #[SV 0 0, .int .i64 3]) (by simp [results, Tryd.results24, go_sem, hc1, hy1_1, hc2, hy2_1, hc3]) rfl ?_
  exact ⟨rfl, (by repeat (first | with_reducible exact hB.out | with_reducible exact Below.refl _ _ | (with_reducible refine Below.setCell ?_ ?side _; case side => (first | omega | (simp <;> omega))) | (with_reducible refine Below.alloc ?_ ?side _; case side => (first | omega | (simp <;> omega))) | with_reducible apply below_drewN))⟩
theorem mm_of {a b n x y : Int} (hab : a ≤ b) (hx : (if n < 0 then n * b else n * a) = x) (hy : (if n < 0 then n * a else n * b) = y) : min (n * a) (n * b) = x ∧ max (n * a) (n * b) = y := by
  by_cases h : n < 0
  · have : n * b ≤ n * a := Int.mul_le_mul_of_nonpos_left (by omega) hab
    rw [if_pos h] at hx hy; omega
  · have : n * a ≤ n * b := Int.mul_le_mul_of_nonneg_left hab (by omega)
    rw [if_neg h] at hx hy; omega
set_option maxHeartbeats 1000000 in
theorem rtimes_fit (a b n x y p q : Int) (ha : szB a b = true) (h1 : muB a n = true) (h2 : muB b n = true) (hp : n * a = p) (hq : n * b = q) (hx : min p q = x) (hy : max p q = y) (w : World) : Calls Tryd.prog 24 #[SV a b, .int .i64 n] w (OutZ w x y 0) := by
  have H1 := Hx.mk (fun w => rvalid_any a b w true ha)
  have M1 := Hx.mk (fun w => fits_any a n w (by have := szB_yes.1 ha; omega) (by have := szB_yes.1 ha; omega) true h1)
  have M2 := Hx.mk (fun w => fits_any b n w (by have := szB_yes.1 ha; omega) (by have := szB_yes.1 ha; omega) true h2)
  have e1 := muB_yes.1 h1
  have e2 := muB_yes.1 h2
  rw [hp] at e1
  rw [hq] at e2
  obtain ⟨e3, e4⟩ := e1
  obtain ⟨e5, e6⟩ := e2
  clear ha h1 h2
  go_enter Tryd.func24, Tryd.ntmps24
  go_wp2_with fail
  refine (H1.out _).mono ?_
  rintro e w1 ⟨rfl, hb⟩
  obtain ⟨hc1, hf1⟩ := bcell hb
  have hz1 := hb.size
  (try simp at hz1)
  have hB : Hx (Below w.heap.size w w1) := ⟨Below.trans (by repeat (first | with_reducible exact hB.out | with_reducible exact Below.refl _ _ | (with_reducible refine Below.setCell ?_ ?side _; case side => (first | omega | (simp <;> omega))) | (with_reducible refine Below.alloc ?_ ?side _; case side => (first | omega | (simp <;> omega))) | with_reducible apply below_drewN)) (hb.mono (by first | omega | (simp <;> omega)))⟩
  clear hb
  have hy1_0 : w.heap.size < w1.heap.size := by omega
  have hy1_1 : w.heap.size + 1 < w1.heap.size := by omega
  go_wp2_with fail
  refine (M1.out _).mono ?_
  rintro e w2 ⟨rfl, hb⟩
  obtain ⟨hc2, hf2⟩ := bcell hb
  have hz2 := hb.size
  (try simp at hz2)
  have hB : Hx (Below w.heap.size w w2) := ⟨Below.trans (by repeat (first | with_reducible exact hB.out | with_reducible exact Below.refl _ _ | (with_reducible refine Below.setCell ?_ ?side _; case side => (first | omega | (simp <;> omega))) | (with_reducible refine Below.alloc ?_ ?side _; case side => (first | omega | (simp <;> omega))) | with_reducible apply below_drewN)) (hb.mono (by first | omega | (simp <;> omega)))⟩
  clear hb
  have hy2_0 : w.heap.size < w2.heap.size := by omega
  have hy2_1 : w.heap.size + 1 < w2.heap.size := by omega
  go_wp2_with fail
  refine (M2.out _).mono ?_
  rintro e w3 ⟨rfl, hb⟩
  obtain ⟨hc3, hf3⟩ := bcell hb
  have hz3 := hb.size
  (try simp at hz3)
  have hB : Hx (Below w.heap.size w w3) := ⟨Below.trans (by repeat (first | with_reducible exact hB.out | with_reducible exact Below.refl _ _ | (with_reducible refine Below.setCell ?_ ?side _; case side => (first | omega | (simp <;> omega))) | (with_reducible refine Below.alloc ?_ ?side _; case side => (first | omega | (simp <;> omega))) | with_reducible apply below_drewN)) (hb.mono (by first | omega | (simp <;> omega)))⟩
  clear hb
  have hy3_0 : w.heap.size < w3.heap.size := by omega
  have hy3_1 : w.heap.size + 1 < w3.heap.size := by omega
  go_wp2_with fail
  (try go_quiet (fail))
  go_wp2_with fail
  refine bodyPost_ret_by (v := .tuple #[SV x y, .int .i64 0]) (by simp [results, Tryd.results24, go_sem, hc1, hy1_1, hc2, hy2_1, hc3]) rfl ?_
  exact ⟨rfl, (by repeat (first | with_reducible exact hB.out | with_reducible exact Below.refl _ _ | (with_reducible refine Below.setCell ?_ ?side _; case side => (first | omega | (simp <;> omega))) | (with_reducible refine Below.alloc ?_ ?side _; case side => (first | omega | (simp <;> omega))) | with_reducible apply below_drewN))⟩
theorem rtimes_any (a b n x y k : Int) (h : tmR a b n = (x, y, k)) (w : World) : Calls Tryd.prog 24 #[SV a b, .int .i64 n] w (OutZ w x y k) := by
  unfold tmR at h
  cases ha : szB a b
  · rw [ha] at h; simp at h; obtain ⟨rfl, rfl, rfl⟩ := h; exact rtimes_arg a b n ha w
  · cases h1 : muB a n
    · rw [ha, h1] at h; simp at h; obtain ⟨rfl, rfl, rfl⟩ := h; exact rtimes_r1 a b n ha h1 w
    · cases h2 : muB b n
      · rw [ha, h1, h2] at h; simp at h; obtain ⟨rfl, rfl, rfl⟩ := h; exact rtimes_r2 a b n ha h1 h2 w
      · rw [ha, h1, h2] at h; simp only [Bool.and_self, if_true, Prod.mk.injEq] at h; obtain ⟨hx, hy, rfl⟩ := h
        have hm := mm_of (szB_yes.1 ha).2.1 hx hy
        exact rtimes_fit a b n x y _ _ ha h1 h2 rfl rfl hm.1 hm.2 w
theorem rcmp_arg (a b c d : Int) (hv : (szB a b && szB c d) = false) (w : World) : Calls Tryd.prog 28 #[SV a b, SV c d] w (OutI w 0 1) := by
  have H1 := Hx.mk (rboth_any a b c d false hv)
  clear hv
  go_enter Tryd.func28, Tryd.ntmps28
  go_wp2_with fail
  refine (H1.out _).mono ?_
  rintro e w1 ⟨rfl, hb⟩
  obtain ⟨hc1, hf1⟩ := bcell hb
  have hz1 := hb.size
  (try simp at hz1)
  have hB : Hx (Below w.heap.size w w1) := ⟨Below.trans (by repeat (first | with_reducible exact hB.out | with_reducible exact Below.refl _ _ | (with_reducible refine Below.setCell ?_ ?side _; case side => (first | omega | (simp <;> omega))) | (with_reducible refine Below.alloc ?_ ?side _; case side => (first | omega | (simp <;> omega))) | with_reducible apply below_drewN)) (hb.mono (by first | omega | (simp <;> omega)))⟩
  clear hb
  have hy1_0 : w.heap.size < w1.heap.size := by omega
  have hy1_1 : w.heap.size + 1 < w1.heap.size := by omega
  go_wp2_with fail
  go_ret2
  exact ⟨rfl, (by repeat (first | with_reducible exact hB.out | with_reducible exact Below.refl _ _ | (with_reducible refine Below.setCell ?_ ?side _; case side => (first | omega | (simp <;> omega))) | (with_reducible refine Below.alloc ?_ ?side _; case side => (first | omega | (simp <;> omega))) | with_reducible apply below_drewN))⟩
theorem rcmp_lt (a b c d : Int) (hv : (szB a b && szB c d) = true) (hq : b < c) (w : World) : Calls Tryd.prog 28 #[SV a b, SV c d] w (OutI w (-1) 0) := by
  have H1 := Hx.mk (rboth_any a b c d true hv)
  clear hv
  go_enter Tryd.func28, Tryd.ntmps28
  go_wp2_with fail
  refine (H1.out _).mono ?_
  rintro e w1 ⟨rfl, hb⟩
  obtain ⟨hc1, hf1⟩ := bcell hb
  have hz1 := hb.size
  (try simp at hz1)
  have hB : Hx (Below w.heap.size w w1) := ⟨Below.trans (by repeat (first | with_reducible exact hB.out | with_reducible exact Below.refl _ _ | (with_reducible refine Below.setCell ?_ ?side _; case side => (first | omega | (simp <;> omega))) | (with_reducible refine Below.alloc ?_ ?side _; case side => (first | omega | (simp <;> omega))) | with_reducible apply below_drewN)) (hb.mono (by first | omega | (simp <;> omega)))⟩
  clear hb
  have hy1_0 : w.heap.size < w1.heap.size := by omega
  have hy1_1 : w.heap.size + 1 < w1.heap.size := by omega
  go_wp2_with fail
  go_ret2
  exact ⟨rfl, (by repeat (first | with_reducible exact hB.out | with_reducible exact Below.refl _ _ | (with_reducible refine Below.setCell ?_ ?side _; case side => (first | omega | (simp <;> omega))) | (with_reducible refine Below.alloc ?_ ?side _; case side => (first | omega | (simp <;> omega))) | with_reducible apply below_drewN))⟩
theorem rcmp_gt (a b c d : Int) (hv : (szB a b && szB c d) = true) (hq : ¬ b < c) (hr : d < a) (w : World) : Calls Tryd.prog 28 #[SV a b, SV c d] w (OutI w 1 0) := by
  have H1 := Hx.mk (rboth_any a b c d true hv)
  clear hv
  go_enter Tryd.func28, Tryd.ntmps28
  go_wp2_with fail
  refine (H1.out _).mono ?_
  rintro e w1 ⟨rfl, hb⟩
  obtain ⟨hc1, hf1⟩ := bcell hb
  have hz1 := hb.size
  (try simp at hz1)
  have hB : Hx (Below w.heap.size w w1) := ⟨Below.trans (by repeat (first | with_reducible exact hB.out | with_reducible exact Below.refl _ _ | (with_reducible refine Below.setCell ?_ ?side _; case side => (first | omega | (simp <;> omega))) | (with_reducible refine Below.alloc ?_ ?side _; case side => (first | omega | (simp <;> omega))) | with_reducible apply below_drewN)) (hb.mono (by first | omega | (simp <;> omega)))⟩
  clear hb
  have hy1_0 : w.heap.size < w1.heap.size := by omega
  have hy1_1 : w.heap.size + 1 < w1.heap.size := by omega
  go_wp2_with fail
  go_ret2
  exact ⟨rfl, (by repeat (first | with_reducible exact hB.out | with_reducible exact Below.refl _ _ | (with_reducible refine Below.setCell ?_ ?side _; case side => (first | omega | (simp <;> omega))) | (with_reducible refine Below.alloc ?_ ?side _; case side => (first | omega | (simp <;> omega))) | with_reducible apply below_drewN))⟩
theorem rcmp_eq (a b c d : Int) (hv : (szB a b && szB c d) = true) (hq : ¬ b < c) (hr : ¬ d < a) (w : World) : Calls Tryd.prog 28 #[SV a b, SV c d] w (OutI w 0 0) := by
  have H1 := Hx.mk (rboth_any a b c d true hv)
  clear hv
  go_enter Tryd.func28, Tryd.ntmps28
  go_wp2_with fail
  refine (H1.out _).mono ?_
  rintro e w1 ⟨rfl, hb⟩
  obtain ⟨hc1, hf1⟩ := bcell hb
  have hz1 := hb.size
  (try simp at hz1)
  have hB : Hx (Below w.heap.size w w1) := ⟨Below.trans (by repeat (first | with_reducible exact hB.out | with_reducible exact Below.refl _ _ | (with_reducible refine Below.setCell ?_ ?side _; case side => (first | omega | (simp <;> omega))) | (with_reducible refine Below.alloc ?_ ?side _; case side => (first | omega | (simp <;> omega))) | with_reducible apply below_drewN)) (hb.mono (by first | omega | (simp <;> omega)))⟩
  clear hb
  have hy1_0 : w.heap.size < w1.heap.size := by omega
  have hy1_1 : w.heap.size + 1 < w1.heap.size := by omega
  go_wp2_with fail
  go_ret2
  exact ⟨rfl, (by repeat (first | with_reducible exact hB.out | with_reducible exact Below.refl _ _ | (with_reducible refine Below.setCell ?_ ?side _; case side => (first | omega | (simp <;> omega))) | (with_reducible refine Below.alloc ?_ ?side _; case side => (first | omega | (simp <;> omega))) | with_reducible apply below_drewN))⟩
theorem rcmp_any (a b c d x k : Int) (h : cmR a b c d = (x, k)) (w : World) : Calls Tryd.prog 28 #[SV a b, SV c d] w (OutI w x k) := by
  unfold cmR at h
  cases hv : (szB a b && szB c d)
  · rw [hv] at h; simp at h; obtain ⟨rfl, rfl⟩ := h; exact rcmp_arg a b c d hv w
  · rw [hv] at h; simp only [if_true, Prod.mk.injEq] at h; obtain ⟨hx, rfl⟩ := h
    by_cases hq : b < c
    · rw [if_pos hq] at hx; subst hx; exact rcmp_lt a b c d hv hq w
    · rw [if_neg hq] at hx
      by_cases hr : d < a
      · rw [if_pos hr] at hx; subst hx; exact rcmp_gt a b c d hv hq hr w
      · rw [if_neg hr] at hx; subst hx; exact rcmp_eq a b c d hv hq hr w
theorem surely_in (a b l h : Int) (h1 : l ≤ a) (h2 : b ≤ h) (w : World) : Calls Tryd.prog 50 #[SV a b, .int .i64 l, .int .i64 h] w fun e w' => e = .returned (.int .i64 1) ∧ Below w.heap.size w w' := by
  go_enter Tryd.func50, Tryd.ntmps50
  go_wp2_with fail
  go_ret
  exact ⟨rfl, (by repeat (first | with_reducible exact Below.refl _ _ | (with_reducible refine Below.setCell ?_ ?side _; case side => (first | omega | (simp <;> omega))) | (with_reducible refine Below.alloc ?_ ?side _; case side => (first | omega | (simp <;> omega))) | with_reducible apply below_drewN))⟩
theorem surely_lo (a b l h : Int) (h1 : ¬ l ≤ a) (h3 : b < l) (w : World) : Calls Tryd.prog 50 #[SV a b, .int .i64 l, .int .i64 h] w fun e w' => e = .returned (.int .i64 (-1)) ∧ Below w.heap.size w w' := by
  go_enter Tryd.func50, Tryd.ntmps50
  go_wp2_with fail
  go_ret
  exact ⟨rfl, (by repeat (first | with_reducible exact Below.refl _ _ | (with_reducible refine Below.setCell ?_ ?side _; case side => (first | omega | (simp <;> omega))) | (with_reducible refine Below.alloc ?_ ?side _; case side => (first | omega | (simp <;> omega))) | with_reducible apply below_drewN))⟩
theorem surely_lo2 (a b l h : Int) (h1 : ¬ l ≤ a) (h3 : ¬ b < l) (h4 : h < a) (w : World) : Calls Tryd.prog 50 #[SV a b, .int .i64 l, .int .i64 h] w fun e w' => e = .returned (.int .i64 (-1)) ∧ Below w.heap.size w w' := by
  go_enter Tryd.func50, Tryd.ntmps50
  go_wp2_with fail
  go_ret
  exact ⟨rfl, (by repeat (first | with_reducible exact Below.refl _ _ | (with_reducible refine Below.setCell ?_ ?side _; case side => (first | omega | (simp <;> omega))) | (with_reducible refine Below.alloc ?_ ?side _; case side => (first | omega | (simp <;> omega))) | with_reducible apply below_drewN))⟩
theorem surely_mid (a b l h : Int) (h1 : ¬ l ≤ a) (h3 : ¬ b < l) (h4 : ¬ h < a) (w : World) : Calls Tryd.prog 50 #[SV a b, .int .i64 l, .int .i64 h] w fun e w' => e = .returned (.int .i64 0) ∧ Below w.heap.size w w' := by
  go_enter Tryd.func50, Tryd.ntmps50
  go_wp2_with fail
  go_ret
  exact ⟨rfl, (by repeat (first | with_reducible exact Below.refl _ _ | (with_reducible refine Below.setCell ?_ ?side _; case side => (first | omega | (simp <;> omega))) | (with_reducible refine Below.alloc ?_ ?side _; case side => (first | omega | (simp <;> omega))) | with_reducible apply below_drewN))⟩
theorem surely_hi (a b l h : Int) (h1 : l ≤ a) (h2 : ¬ b ≤ h) (h3 : b < l) (w : World) : Calls Tryd.prog 50 #[SV a b, .int .i64 l, .int .i64 h] w fun e w' => e = .returned (.int .i64 (-1)) ∧ Below w.heap.size w w' := by
  go_enter Tryd.func50, Tryd.ntmps50
  go_wp2_with fail
  go_ret
  exact ⟨rfl, (by repeat (first | with_reducible exact Below.refl _ _ | (with_reducible refine Below.setCell ?_ ?side _; case side => (first | omega | (simp <;> omega))) | (with_reducible refine Below.alloc ?_ ?side _; case side => (first | omega | (simp <;> omega))) | with_reducible apply below_drewN))⟩
theorem surely_hi2 (a b l h : Int) (h1 : l ≤ a) (h2 : ¬ b ≤ h) (h3 : ¬ b < l) (h4 : h < a) (w : World) : Calls Tryd.prog 50 #[SV a b, .int .i64 l, .int .i64 h] w fun e w' => e = .returned (.int .i64 (-1)) ∧ Below w.heap.size w w' := by
  go_enter Tryd.func50, Tryd.ntmps50
  go_wp2_with fail
  go_ret
  exact ⟨rfl, (by repeat (first | with_reducible exact Below.refl _ _ | (with_reducible refine Below.setCell ?_ ?side _; case side => (first | omega | (simp <;> omega))) | (with_reducible refine Below.alloc ?_ ?side _; case side => (first | omega | (simp <;> omega))) | with_reducible apply below_drewN))⟩
theorem surely_mid2 (a b l h : Int) (h1 : l ≤ a) (h2 : ¬ b ≤ h) (h3 : ¬ b < l) (h4 : ¬ h < a) (w : World) : Calls Tryd.prog 50 #[SV a b, .int .i64 l, .int .i64 h] w fun e w' => e = .returned (.int .i64 0) ∧ Below w.heap.size w w' := by
  go_enter Tryd.func50, Tryd.ntmps50
  go_wp2_with fail
  go_ret
  exact ⟨rfl, (by repeat (first | with_reducible exact Below.refl _ _ | (with_reducible refine Below.setCell ?_ ?side _; case side => (first | omega | (simp <;> omega))) | (with_reducible refine Below.alloc ?_ ?side _; case side => (first | omega | (simp <;> omega))) | with_reducible apply below_drewN))⟩
theorem surely_any (a b l h x : Int) (hx : (if l ≤ a ∧ b ≤ h then (1 : Int) else if b < l ∨ h < a then -1 else 0) = x) (w : World) : Calls Tryd.prog 50 #[SV a b, .int .i64 l, .int .i64 h] w fun e w' => e = .returned (.int .i64 x) ∧ Below w.heap.size w w' := by
  by_cases h1 : l ≤ a
  · by_cases h2 : b ≤ h
    · rw [if_pos ⟨h1, h2⟩] at hx; subst hx; exact surely_in a b l h h1 h2 w
    · rw [if_neg (fun k => h2 k.2)] at hx
      by_cases h3 : b < l
      · rw [if_pos (.inl h3)] at hx; subst hx; exact surely_hi a b l h h1 h2 h3 w
      · by_cases h4 : h < a
        · rw [if_pos (.inr h4)] at hx; subst hx; exact surely_hi2 a b l h h1 h2 h3 h4 w
        · rw [if_neg (by omega)] at hx; subst hx; exact surely_mid2 a b l h h1 h2 h3 h4 w
  · rw [if_neg (fun k => h1 k.1)] at hx
    by_cases h3 : b < l
    · rw [if_pos (.inl h3)] at hx; subst hx; exact surely_lo a b l h h1 h3 w
    · by_cases h4 : h < a
      · rw [if_pos (.inr h4)] at hx; subst hx; exact surely_lo2 a b l h h1 h3 h4 w
      · rw [if_neg (by omega)] at hx; subst hx; exact surely_mid a b l h h1 h3 h4 w
theorem rwithin_a (a b l h : Int) (ha : szB a b = false) (w : World) : Calls Tryd.prog 30 #[SV a b, .int .i64 l, .int .i64 h] w (OutI w 0 1) := by
  have H1 := Hx.mk (fun w => rvalid_any a b w false ha)
  clear ha
  go_enter Tryd.func30, Tryd.ntmps30
  go_wp2_with fail
  refine (H1.out _).mono ?_
  rintro e w1 ⟨rfl, hb⟩
  obtain ⟨hc1, hf1⟩ := bcell hb
  have hz1 := hb.size
  (try simp at hz1)
  have hB : Hx (Below w.heap.size w w1) := ⟨Below.trans (by repeat (first | with_reducible exact hB.out | with_reducible exact Below.refl _ _ | (with_reducible refine Below.setCell ?_ ?side _; case side => (first | omega | (simp <;> omega))) | (with_reducible refine Below.alloc ?_ ?side _; case side => (first | omega | (simp <;> omega))) | with_reducible apply below_drewN)) (hb.mono (by first | omega | (simp <;> omega)))⟩
  clear hb
  have hy1_0 : w.heap.size < w1.heap.size := by omega
  go_wp2_with fail
  go_ret2
  exact ⟨rfl, (by repeat (first | with_reducible exact hB.out | with_reducible exact Below.refl _ _ | (with_reducible refine Below.setCell ?_ ?side _; case side => (first | omega | (simp <;> omega))) | (with_reducible refine Below.alloc ?_ ?side _; case side => (first | omega | (simp <;> omega))) | with_reducible apply below_drewN))⟩
theorem rwithin_b (a b l h : Int) (ha : szB a b = true) (hq : h < l) (w : World) : Calls Tryd.prog 30 #[SV a b, .int .i64 l, .int .i64 h] w (OutI w 0 1) := by
  have H1 := Hx.mk (fun w => rvalid_any a b w true ha)
  clear ha
  go_enter Tryd.func30, Tryd.ntmps30
  go_wp2_with fail
  refine (H1.out _).mono ?_
  rintro e w1 ⟨rfl, hb⟩
  obtain ⟨hc1, hf1⟩ := bcell hb
  have hz1 := hb.size
  (try simp at hz1)
  have hB : Hx (Below w.heap.size w w1) := ⟨Below.trans (by repeat (first | with_reducible exact hB.out | with_reducible exact Below.refl _ _ | (with_reducible refine Below.setCell ?_ ?side _; case side => (first | omega | (simp <;> omega))) | (with_reducible refine Below.alloc ?_ ?side _; case side => (first | omega | (simp <;> omega))) | with_reducible apply below_drewN)) (hb.mono (by first | omega | (simp <;> omega)))⟩
  clear hb
  have hy1_0 : w.heap.size < w1.heap.size := by omega
  go_wp2_with fail
  go_ret2
  exact ⟨rfl, (by repeat (first | with_reducible exact hB.out | with_reducible exact Below.refl _ _ | (with_reducible refine Below.setCell ?_ ?side _; case side => (first | omega | (simp <;> omega))) | (with_reducible refine Below.alloc ?_ ?side _; case side => (first | omega | (simp <;> omega))) | with_reducible apply below_drewN))⟩
theorem rwithin_c (a b l h x : Int) (ha : szB a b = true) (hq : ¬ h < l) (hx : (if l ≤ a ∧ b ≤ h then (1 : Int) else if b < l ∨ h < a then -1 else 0) = x) (w : World) : Calls Tryd.prog 30 #[SV a b, .int .i64 l, .int .i64 h] w (OutI w x 0) := by
  have H1 := Hx.mk (fun w => rvalid_any a b w true ha)
  have H2 := Hx.mk (surely_any a b l h x hx)
  clear ha hx
  go_enter Tryd.func30, Tryd.ntmps30
  go_wp2_with fail
  refine (H1.out _).mono ?_
  rintro e w1 ⟨rfl, hb⟩
  obtain ⟨hc1, hf1⟩ := bcell hb
  have hz1 := hb.size
  (try simp at hz1)
  have hB : Hx (Below w.heap.size w w1) := ⟨Below.trans (by repeat (first | with_reducible exact hB.out | with_reducible exact Below.refl _ _ | (with_reducible refine Below.setCell ?_ ?side _; case side => (first | omega | (simp <;> omega))) | (with_reducible refine Below.alloc ?_ ?side _; case side => (first | omega | (simp <;> omega))) | with_reducible apply below_drewN)) (hb.mono (by first | omega | (simp <;> omega)))⟩
  clear hb
  have hy1_0 : w.heap.size < w1.heap.size := by omega
  go_wp2_with fail
  refine (H2.out _).mono ?_
  rintro e w2 ⟨rfl, hb⟩
  obtain ⟨hc2, hf2⟩ := bcell hb
  have hz2 := hb.size
  (try simp at hz2)
  have hB : Hx (Below w.heap.size w w2) := ⟨Below.trans (by repeat (first | with_reducible exact hB.out | with_reducible exact Below.refl _ _ | (with_reducible refine Below.setCell ?_ ?side _; case side => (first | omega | (simp <;> omega))) | (with_reducible refine Below.alloc ?_ ?side _; case side => (first | omega | (simp <;> omega))) | with_reducible apply below_drewN)) (hb.mono (by first | omega | (simp <;> omega)))⟩
  clear hb
  have hy2_0 : w.heap.size < w2.heap.size := by omega
  go_wp2_with fail
  go_ret2
  exact ⟨rfl, (by repeat (first | with_reducible exact hB.out | with_reducible exact Below.refl _ _ | (with_reducible refine Below.setCell ?_ ?side _; case side => (first | omega | (simp <;> omega))) | (with_reducible refine Below.alloc ?_ ?side _; case side => (first | omega | (simp <;> omega))) | with_reducible apply below_drewN))⟩
theorem rwithin_any (a b l h x k : Int) (hh : wiR a b l h = (x, k)) (w : World) : Calls Tryd.prog 30 #[SV a b, .int .i64 l, .int .i64 h] w (OutI w x k) := by
  unfold wiR at hh
  cases ha : szB a b
  · rw [ha] at hh; simp at hh; obtain ⟨rfl, rfl⟩ := hh; exact rwithin_a a b l h ha w
  · rw [ha] at hh; simp only [if_true] at hh
    by_cases hq : h < l
    · rw [if_pos hq] at hh; simp only [Prod.mk.injEq] at hh; obtain ⟨rfl, rfl⟩ := hh; exact rwithin_b a b l h ha hq w
    · rw [if_neg hq] at hh; simp only [Prod.mk.injEq] at hh; obtain ⟨hx, rfl⟩ := hh; exact rwithin_c a b l h x ha hq hx w
theorem rmeet_arg (a b c d : Int) (hv : (szB a b && szB c d) = false) (w : World) : Calls Tryd.prog 26 #[SV a b, SV c d] w (OutZ w 0 0 1) := by
  have H1 := Hx.mk (rboth_any a b c d false hv)
  clear hv
  go_enter Tryd.func26, Tryd.ntmps26
  go_wp2_with fail
  refine (H1.out _).mono ?_
  rintro e w1 ⟨rfl, hb⟩
  obtain ⟨hc1, hf1⟩ := bcell hb
  have hz1 := hb.size
  (try simp at hz1)
  have hB : Hx (Below w.heap.size w w1) := ⟨Below.trans (by repeat (first | with_reducible exact hB.out | with_reducible exact Below.refl _ _ | (with_reducible refine Below.setCell ?_ ?side _; case side => (first | omega | (simp <;> omega))) | (with_reducible refine Below.alloc ?_ ?side _; case side => (first | omega | (simp <;> omega))) | with_reducible apply below_drewN)) (hb.mono (by first | omega | (simp <;> omega)))⟩
  clear hb
  have hy1_0 : w.heap.size < w1.heap.size := by omega
  have hy1_1 : w.heap.size + 1 < w1.heap.size := by omega
  have hy1_2 : w.heap.size + 1 + 1 < w1.heap.size := by omega
  go_wp2_with fail
  refine bodyPost_ret_by (v := .tuple #[SV 0 0, .int .i64 1]) (by simp [results, Tryd.results26, go_sem, hc1]) rfl ?_
  exact ⟨rfl, (by repeat (first | with_reducible exact hB.out | with_reducible exact Below.refl _ _ | (with_reducible refine Below.setCell ?_ ?side _; case side => (first | omega | (simp <;> omega))) | (with_reducible refine Below.alloc ?_ ?side _; case side => (first | omega | (simp <;> omega))) | with_reducible apply below_drewN))⟩
theorem rmeet_no (a b c d l h : Int) (hv : (szB a b && szB c d) = true) (hl : max a c = l) (hh : min b d = h) (hq : h < l) (w : World) : Calls Tryd.prog 26 #[SV a b, SV c d] w (OutZ w 0 0 4) := by
  have H1 := Hx.mk (rboth_any a b c d true hv)
  clear hv
  go_enter Tryd.func26, Tryd.ntmps26
  go_wp2_with fail
  refine (H1.out _).mono ?_
  rintro e w1 ⟨rfl, hb⟩
  obtain ⟨hc1, hf1⟩ := bcell hb
  have hz1 := hb.size
  (try simp at hz1)
  have hB : Hx (Below w.heap.size w w1) := ⟨Below.trans (by repeat (first | with_reducible exact hB.out | with_reducible exact Below.refl _ _ | (with_reducible refine Below.setCell ?_ ?side _; case side => (first | omega | (simp <;> omega))) | (with_reducible refine Below.alloc ?_ ?side _; case side => (first | omega | (simp <;> omega))) | with_reducible apply below_drewN)) (hb.mono (by first | omega | (simp <;> omega)))⟩
  clear hb
  have hy1_0 : w.heap.size < w1.heap.size := by omega
  have hy1_1 : w.heap.size + 1 < w1.heap.size := by omega
  have hy1_2 : w.heap.size + 1 + 1 < w1.heap.size := by omega
  go_wp2_with fail
  (try go_quiet (fail))
  go_wp2_with fail
  refine bodyPost_ret_by (v := .tuple #[SV 0 0, .int .i64 4]) (by simp [results, Tryd.results26, go_sem, hc1, hy1_2]) rfl ?_
  exact ⟨rfl, (by repeat (first | with_reducible exact hB.out | with_reducible exact Below.refl _ _ | (with_reducible refine Below.setCell ?_ ?side _; case side => (first | omega | (simp <;> omega))) | (with_reducible refine Below.alloc ?_ ?side _; case side => (first | omega | (simp <;> omega))) | with_reducible apply below_drewN))⟩
theorem rmeet_ok (a b c d l h : Int) (hv : (szB a b && szB c d) = true) (hl : max a c = l) (hh : min b d = h) (hq : ¬ h < l) (w : World) : Calls Tryd.prog 26 #[SV a b, SV c d] w (OutZ w l h 0) := by
  have H1 := Hx.mk (rboth_any a b c d true hv)
  clear hv
  go_enter Tryd.func26, Tryd.ntmps26
  go_wp2_with fail
  refine (H1.out _).mono ?_
  rintro e w1 ⟨rfl, hb⟩
  obtain ⟨hc1, hf1⟩ := bcell hb
  have hz1 := hb.size
  (try simp at hz1)
  have hB : Hx (Below w.heap.size w w1) := ⟨Below.trans (by repeat (first | with_reducible exact hB.out | with_reducible exact Below.refl _ _ | (with_reducible refine Below.setCell ?_ ?side _; case side => (first | omega | (simp <;> omega))) | (with_reducible refine Below.alloc ?_ ?side _; case side => (first | omega | (simp <;> omega))) | with_reducible apply below_drewN)) (hb.mono (by first | omega | (simp <;> omega)))⟩
  clear hb
  have hy1_0 : w.heap.size < w1.heap.size := by omega
  have hy1_1 : w.heap.size + 1 < w1.heap.size := by omega
  have hy1_2 : w.heap.size + 1 + 1 < w1.heap.size := by omega
  go_wp2_with fail
  (try go_quiet (fail))
  go_wp2_with fail
  refine bodyPost_ret_by (v := .tuple #[SV l h, .int .i64 0]) (by simp [results, Tryd.results26, go_sem, hc1, hy1_2]) rfl ?_
  exact ⟨rfl, (by repeat (first | with_reducible exact hB.out | with_reducible exact Below.refl _ _ | (with_reducible refine Below.setCell ?_ ?side _; case side => (first | omega | (simp <;> omega))) | (with_reducible refine Below.alloc ?_ ?side _; case side => (first | omega | (simp <;> omega))) | with_reducible apply below_drewN))⟩
theorem rmeet_any (a b c d x y k : Int) (h : meR a b c d = (x, y, k)) (w : World) : Calls Tryd.prog 26 #[SV a b, SV c d] w (OutZ w x y k) := by
  unfold meR at h
  cases hv : (szB a b && szB c d)
  · rw [hv] at h; simp at h; obtain ⟨rfl, rfl, rfl⟩ := h; exact rmeet_arg a b c d hv w
  · rw [hv] at h; simp only [if_true] at h
    by_cases hq : min b d < max a c
    · rw [if_pos hq] at h; simp only [Prod.mk.injEq] at h; obtain ⟨rfl, rfl, rfl⟩ := h; exact rmeet_no a b c d _ _ hv rfl rfl hq w
    · rw [if_neg hq] at h; simp only [Prod.mk.injEq] at h; obtain ⟨rfl, rfl, rfl⟩ := h; exact rmeet_ok a b c d _ _ hv rfl rfl hq w
end Go.Proofs.YtdlfnonlalkjdaaDoor

/- size.Times, Cmp, Within, Meet. -/
import Derived.Test.YtdlfnonlalkjdaaDoorSD
namespace Go.Proofs.YtdlfnonlalkjdaaDoor
open Go.RowKit M
/-- What Times returns. -/
def tmR (a b n : Int) : Int × Int × Int := if szB a b then if muB a n && muB b n then (if n < 0 then n * b else n * a, if n < 0 then n * a else n * b, 0) else (0, 0, 3) else (0, 0, 1)
theorem times_arg (a b n : Int) (ha : szB a b = false) (w : World) : Calls Tryd.prog 23 #[SV a b, .int .i64 n] w (OutZ w 0 0 1) := by
  have H1 := Hx.mk (fun w => svalid_any a b w false ha)
  clear ha
  go_enter Tryd.func23, Tryd.ntmps23
  go_wp2_with fail
  refine (H1.out _).mono ?_
  rintro e w1 ⟨rfl, hb⟩
  obtain ⟨hc1, hf1⟩ := bcell hb
  have hz1 := hb.size
  (try simp at hz1)
  have hB : Hx (Below w.heap.size w w1) := ⟨Below.trans (by repeat (first | with_reducible exact hB.out | with_reducible exact Below.refl _ _ | (with_reducible refine Below.setCell ?_ ?side _; case side => (first | omega | (simp <;> omega))) | (with_reducible refine Below.alloc ?_ ?side _; case side => (first | omega | (simp <;> omega))) | with_reducible apply below_drewN)) (hb.mono (by first | omega | (simp <;> omega)))⟩
  clear hb
  have hy1_0 : w.heap.size < w1.heap.size := by omega
  have hy1_1 : w.heap.size + 1 < w1.heap.size := by omega
  go_wp2_with fail
  refine bodyPost_ret_by (v := .tuple #[SV 0 0, .int .i64 1]) (by simp [results, Tryd.results23, go_sem, hc1]) rfl ?_
  exact ⟨rfl, (by repeat (first | with_reducible exact hB.out | with_reducible exact Below.refl _ _ | (with_reducible refine Below.setCell ?_ ?side _; case side => (first | omega | (simp <;> omega))) | (with_reducible refine Below.alloc ?_ ?side _; case side => (first | omega | (simp <;> omega))) | with_reducible apply below_drewN))⟩
theorem times_r1 (a b n : Int) (ha : szB a b = true) (ha' : muB a n = false) (w : World) : Calls Tryd.prog 23 #[SV a b, .int .i64 n] w (OutZ w 0 0 3) := by
  have H1 := Hx.mk (fun w => svalid_any a b w true ha)
  have M1 := Hx.mk (fun w => multiplies_any a n w (by have := szB_yes.1 ha; omega) (by have := szB_yes.1 ha; omega) false ha')
  clear ha ha'
  go_enter Tryd.func23, Tryd.ntmps23
  go_wp2_with fail
  refine (H1.out _).mono ?_
  rintro e w1 ⟨rfl, hb⟩
  obtain ⟨hc1, hf1⟩ := bcell hb
  have hz1 := hb.size
  (try simp at hz1)
  have hB : Hx (Below w.heap.size w w1) := ⟨Below.trans (by repeat (first | with_reducible exact hB.out | with_reducible exact Below.refl _ _ | (with_reducible refine Below.setCell ?_ ?side _; case side => (first | omega | (simp <;> omega))) | (with_reducible refine Below.alloc ?_ ?side _; case side => (first | omega | (simp <;> omega))) | with_reducible apply below_drewN)) (hb.mono (by first | omega | (simp <;> omega)))⟩
  clear hb
  have hy1_0 : w.heap.size < w1.heap.size := by omega
  have hy1_1 : w.heap.size + 1 < w1.heap.size := by omega
  go_wp2_with fail
  refine (M1.out _).mono ?_
  rintro e w2 ⟨rfl, hb⟩
  obtain ⟨hc2, hf2⟩ := bcell hb
  have hz2 := hb.size
  (try simp at hz2)
  have hB : Hx (Below w.heap.size w w2) := ⟨Below.trans (by repeat (first | with_reducible exact hB.out | with_reducible exact Below.refl _ _ | (with_reducible refine Below.setCell ?_ ?side _; case side => (first | omega | (simp <;> omega))) | (with_reducible refine Below.alloc ?_ ?side _; case side => (first | omega | (simp <;> omega))) | with_reducible apply below_drewN)) (hb.mono (by first | omega | (simp <;> omega)))⟩
  clear hb
  have hy2_0 : w.heap.size < w2.heap.size := by omega
  have hy2_1 : w.heap.size + 1 < w2.heap.size := by omega
  go_wp2_with fail
  refine bodyPost_ret_by (v := .tuple #[SV 0 0, .int .i64 3]) (by simp [results, Tryd.results23, go_sem, hc1, hy1_1, hc2]) rfl ?_
  exact ⟨rfl, (by repeat (first | with_reducible exact hB.out | with_reducible exact Below.refl _ _ | (with_reducible refine Below.setCell ?_ ?side _; case side => (first | omega | (simp <;> omega))) | (with_reducible refine Below.alloc ?_ ?side _; case side => (first | omega | (simp <;> omega))) | with_reducible apply below_drewN))⟩
theorem times_r2 (a b n : Int) (ha : szB a b = true) (h1 : muB a n = true) (h2 : muB b n = false) (w : World) : Calls Tryd.prog 23 #[SV a b, .int .i64 n] w (OutZ w 0 0 3) := by
  have H1 := Hx.mk (fun w => svalid_any a b w true ha)
  have M1 := Hx.mk (fun w => multiplies_any a n w (by have := szB_yes.1 ha; omega) (by have := szB_yes.1 ha; omega) true h1)
  have M2 := Hx.mk (fun w => multiplies_any b n w (by have := szB_yes.1 ha; omega) (by have := szB_yes.1 ha; omega) false h2)
  clear ha h1 h2
  go_enter Tryd.func23, Tryd.ntmps23
  go_wp2_with fail
  refine (H1.out _).mono ?_
  rintro e w1 ⟨rfl, hb⟩
  obtain ⟨hc1, hf1⟩ := bcell hb
  have hz1 := hb.size
  (try simp at hz1)
  have hB : Hx (Below w.heap.size w w1) := ⟨Below.trans (by repeat (first | with_reducible exact hB.out | with_reducible exact Below.refl _ _ | (with_reducible refine Below.setCell ?_ ?side _; case side => (first | omega | (simp <;> omega))) | (with_reducible refine Below.alloc ?_ ?side _; case side => (first | omega | (simp <;> omega))) | with_reducible apply below_drewN)) (hb.mono (by first | omega | (simp <;> omega)))⟩
  clear hb
  have hy1_0 : w.heap.size < w1.heap.size := by omega
  have hy1_1 : w.heap.size + 1 < w1.heap.size := by omega
  go_wp2_with fail
  refine (M1.out _).mono ?_
  rintro e w2 ⟨rfl, hb⟩
  obtain ⟨hc2, hf2⟩ := bcell hb
  have hz2 := hb.size
  (try simp at hz2)
  have hB : Hx (Below w.heap.size w w2) := ⟨Below.trans (by repeat (first | with_reducible exact hB.out | with_reducible exact Below.refl _ _ | (with_reducible refine Below.setCell ?_ ?side _; case side => (first | omega | (simp <;> omega))) | (with_reducible refine Below.alloc ?_ ?side _; case side => (first | omega | (simp <;> omega))) | with_reducible apply below_drewN)) (hb.mono (by first | omega | (simp <;> omega)))⟩
  clear hb
  have hy2_0 : w.heap.size < w2.heap.size := by omega
  have hy2_1 : w.heap.size + 1 < w2.heap.size := by omega
  go_wp2_with fail
  refine (M2.out _).mono ?_
  rintro e w3 ⟨rfl, hb⟩
  obtain ⟨hc3, hf3⟩ := bcell hb
  have hz3 := hb.size
  (try simp at hz3)
  have hB : Hx (Below w.heap.size w w3) := ⟨Below.trans (by repeat (first | with_reducible exact hB.out | with_reducible exact Below.refl _ _ | (with_reducible refine Below.setCell ?_ ?side _; case side => (first | omega | (simp <;> omega))) | (with_reducible refine Below.alloc ?_ ?side _; case side => (first | omega | (simp <;> omega))) | with_reducible apply below_drewN)) (hb.mono (by first | omega | (simp <;> omega)))⟩
  clear hb
  have hy3_0 : w.heap.size < w3.heap.size := by omega
  have hy3_1 : w.heap.size + 1 < w3.heap.size := by omega
  go_wp2_with fail
  refine bodyPost_ret_by (v := .tuple #[SV 0 0, .int .i64 3]) (by simp [results, Tryd.results23, go_sem, hc1, hy1_1, hc2, hy2_1, hc3]) rfl ?_
  exact ⟨rfl, (by repeat (first | with_reducible exact hB.out | with_reducible exact Below.refl _ _ | (with_reducible refine Below.setCell ?_ ?side _; case side => (first | omega | (simp <;> omega))) | (with_reducible refine Below.alloc ?_ ?side _; case side => (first | omega | (simp <;> omega))) | with_reducible apply below_drewN))⟩
theorem times_fit (a b n x y : Int) (ha : szB a b = true) (h1 : muB a n = true) (h2 : muB b n = true) (hx : (if n < 0 then n * b else n * a) = x) (hy : (if n < 0 then n * a else n * b) = y) (w : World) : Calls Tryd.prog 23 #[SV a b, .int .i64 n] w (OutZ w x y 0) := by
  have H1 := Hx.mk (fun w => svalid_any a b w true ha)
  have M1 := Hx.mk (fun w => multiplies_any a n w (by have := szB_yes.1 ha; omega) (by have := szB_yes.1 ha; omega) true h1)
  have M2 := Hx.mk (fun w => multiplies_any b n w (by have := szB_yes.1 ha; omega) (by have := szB_yes.1 ha; omega) true h2)
  have T := Hx.mk (fun w => times_any a b n w (by have := muB_yes.1 h1; omega) (by have := muB_yes.1 h1; omega) (by have := muB_yes.1 h2; omega) (by have := muB_yes.1 h2; omega) x y hx hy)
  clear ha h1 h2 hx hy
  go_enter Tryd.func23, Tryd.ntmps23
  go_wp2_with fail
  refine (H1.out _).mono ?_
  rintro e w1 ⟨rfl, hb⟩
  obtain ⟨hc1, hf1⟩ := bcell hb
  have hz1 := hb.size
  (try simp at hz1)
  have hB : Hx (Below w.heap.size w w1) := ⟨Below.trans (by repeat (first | with_reducible exact hB.out | with_reducible exact Below.refl _ _ | (with_reducible refine Below.setCell ?_ ?side _; case side => (first | omega | (simp <;> omega))) | (with_reducible refine Below.alloc ?_ ?side _; case side => (first | omega | (simp <;> omega))) | with_reducible apply below_drewN)) (hb.mono (by first | omega | (simp <;> omega)))⟩
  clear hb
  have hy1_0 : w.heap.size < w1.heap.size := by omega
  have hy1_1 : w.heap.size + 1 < w1.heap.size := by omega
  go_wp2_with fail
  refine (M1.out _).mono ?_
  rintro e w2 ⟨rfl, hb⟩
  obtain ⟨hc2, hf2⟩ := bcell hb
  have hz2 := hb.size
  (try simp at hz2)
  have hB : Hx (Below w.heap.size w w2) := ⟨Below.trans (by repeat (first | with_reducible exact hB.out | with_reducible exact Below.refl _ _ | (with_reducible refine Below.setCell ?_ ?side _; case side => (first | omega | (simp <;> omega))) | (with_reducible refine Below.alloc ?_ ?side _; case side => (first | omega | (simp <;> omega))) | with_reducible apply below_drewN)) (hb.mono (by first | omega | (simp <;> omega)))⟩
  clear hb
  have hy2_0 : w.heap.size < w2.heap.size := by omega
  have hy2_1 : w.heap.size + 1 < w2.heap.size := by omega
  go_wp2_with fail
  refine (M2.out _).mono ?_
  rintro e w3 ⟨rfl, hb⟩
  obtain ⟨hc3, hf3⟩ := bcell hb
  have hz3 := hb.size
  (try simp at hz3)
  have hB : Hx (Below w.heap.size w w3) := ⟨Below.trans (by repeat (first | with_reducible exact hB.out | with_reducible exact Below.refl _ _ | (with_reducible refine Below.setCell ?_ ?side _; case side => (first | omega | (simp <;> omega))) | (with_reducible refine Below.alloc ?_ ?side _; case side => (first | omega | (simp <;> omega))) | with_reducible apply below_drewN)) (hb.mono (by first | omega | (simp <;> omega)))⟩
  clear hb
  have hy3_0 : w.heap.size < w3.heap.size := by omega
  have hy3_1 : w.heap.size + 1 < w3.heap.size := by omega
  go_wp2_with fail
  refine (T.out _).mono ?_
  rintro e w4 ⟨rfl, hb⟩
  obtain ⟨hc4, hf4⟩ := bcell hb
  have hz4 := hb.size
  (try simp at hz4)
  have hB : Hx (Below w.heap.size w w4) := ⟨Below.trans (by repeat (first | with_reducible exact hB.out | with_reducible exact Below.refl _ _ | (with_reducible refine Below.setCell ?_ ?side _; case side => (first | omega | (simp <;> omega))) | (with_reducible refine Below.alloc ?_ ?side _; case side => (first | omega | (simp <;> omega))) | with_reducible apply below_drewN)) (hb.mono (by first | omega | (simp <;> omega)))⟩
  clear hb
  have hy4_0 : w.heap.size < w4.heap.size := by omega
  have hy4_1 : w.heap.size + 1 < w4.heap.size := by omega
  go_wp2_with fail
  refine bodyPost_ret_by (v := .tuple #[SV x y, .int .i64 0]) (by simp [results, Tryd.results23, go_sem, hc1, hy1_1, hc2, hy2_1, hc3, hy3_1, hc4]) rfl ?_
  exact ⟨rfl, (by repeat (first | with_reducible exact hB.out | with_reducible exact Below.refl _ _ | (with_reducible refine Below.setCell ?_ ?side _; case side => (first | omega | (simp <;> omega))) | (with_reducible refine Below.alloc ?_ ?side _; case side => (first | omega | (simp <;> omega))) | with_reducible apply below_drewN))⟩
theorem stimes_any (a b n x y k : Int) (h : tmR a b n = (x, y, k)) (w : World) : Calls Tryd.prog 23 #[SV a b, .int .i64 n] w (OutZ w x y k) := by
  unfold tmR at h
  cases ha : szB a b
  · rw [ha] at h; simp at h; obtain ⟨rfl, rfl, rfl⟩ := h; exact times_arg a b n ha w
  · cases h1 : muB a n
    · rw [ha, h1] at h; simp at h; obtain ⟨rfl, rfl, rfl⟩ := h; exact times_r1 a b n ha h1 w
    · cases h2 : muB b n
      · rw [ha, h1, h2] at h; simp at h; obtain ⟨rfl, rfl, rfl⟩ := h; exact times_r2 a b n ha h1 h2 w
      · rw [ha, h1, h2] at h; simp only [Bool.and_self, if_true, Prod.mk.injEq] at h; obtain ⟨hx, hy, rfl⟩ := h; exact times_fit a b n x y ha h1 h2 hx hy w
/-- What Cmp returns. -/
def cmR (a b c d : Int) : Int × Int := if szB a b && szB c d then (if b < c then -1 else if a > d then 1 else 0, 0) else (0, 1)
def OutI (w : World) (x c : Int) (e : Ending) (w' : World) : Prop := e = .returned (.tuple #[.int .i64 x, .int .i64 c]) ∧ Below w.heap.size w w'
theorem scmp_a (a b c d : Int) (ha : szB a b = false) (w : World) : Calls Tryd.prog 27 #[SV a b, SV c d] w (OutI w 0 1) := by
  have H1 := Hx.mk (fun w => svalid_any a b w false ha)
  clear ha
  go_enter Tryd.func27, Tryd.ntmps27
  go_wp2_with fail
  refine (H1.out _).mono ?_
  rintro e w1 ⟨rfl, hb⟩
  obtain ⟨hc1, hf1⟩ := bcell hb
  have hz1 := hb.size
  (try simp at hz1)
  have hB : Hx (Below w.heap.size w w1) := ⟨Below.trans (by repeat (first | with_reducible exact hB.out | with_reducible exact Below.refl _ _ | (with_reducible refine Below.setCell ?_ ?side _; case side => (first | omega | (simp <;> omega))) | (with_reducible refine Below.alloc ?_ ?side _; case side => (first | omega | (simp <;> omega))) | with_reducible apply below_drewN)) (hb.mono (by first | omega | (simp <;> omega)))⟩
  clear hb
  have hy1_0 : w.heap.size < w1.heap.size := by omega
  have hy1_1 : w.heap.size + 1 < w1.heap.size := by omega
  go_wp2_with fail
  go_ret2
  exact ⟨rfl, (by repeat (first | with_reducible exact hB.out | with_reducible exact Below.refl _ _ | (with_reducible refine Below.setCell ?_ ?side _; case side => (first | omega | (simp <;> omega))) | (with_reducible refine Below.alloc ?_ ?side _; case side => (first | omega | (simp <;> omega))) | with_reducible apply below_drewN))⟩
theorem scmp_b (a b c d : Int) (ha : szB a b = true) (hc : szB c d = false) (w : World) : Calls Tryd.prog 27 #[SV a b, SV c d] w (OutI w 0 1) := by
  have H1 := Hx.mk (fun w => svalid_any a b w true ha)
  have H2 := Hx.mk (fun w => svalid_any c d w false hc)
  clear ha hc
  go_enter Tryd.func27, Tryd.ntmps27
  go_wp2_with fail
  refine (H1.out _).mono ?_
  rintro e w1 ⟨rfl, hb⟩
  obtain ⟨hc1, hf1⟩ := bcell hb
  have hz1 := hb.size
  (try simp at hz1)
  have hB : Hx (Below w.heap.size w w1) := ⟨Below.trans (by repeat (first | with_reducible exact hB.out | with_reducible exact Below.refl _ _ | (with_reducible refine Below.setCell ?_ ?side _; case side => (first | omega | (simp <;> omega))) | (with_reducible refine Below.alloc ?_ ?side _; case side => (first | omega | (simp <;> omega))) | with_reducible apply below_drewN)) (hb.mono (by first | omega | (simp <;> omega)))⟩
  clear hb
  have hy1_0 : w.heap.size < w1.heap.size := by omega
  have hy1_1 : w.heap.size + 1 < w1.heap.size := by omega
  go_wp2_with fail
  refine (H2.out _).mono ?_
  rintro e w2 ⟨rfl, hb⟩
  obtain ⟨hc2, hf2⟩ := bcell hb
  have hz2 := hb.size
  (try simp at hz2)
  have hB : Hx (Below w.heap.size w w2) := ⟨Below.trans (by repeat (first | with_reducible exact hB.out | with_reducible exact Below.refl _ _ | (with_reducible refine Below.setCell ?_ ?side _; case side => (first | omega | (simp <;> omega))) | (with_reducible refine Below.alloc ?_ ?side _; case side => (first | omega | (simp <;> omega))) | with_reducible apply below_drewN)) (hb.mono (by first | omega | (simp <;> omega)))⟩
  clear hb
  have hy2_0 : w.heap.size < w2.heap.size := by omega
  have hy2_1 : w.heap.size + 1 < w2.heap.size := by omega
  go_wp2_with fail
  go_ret2
  exact ⟨rfl, (by repeat (first | with_reducible exact hB.out | with_reducible exact Below.refl _ _ | (with_reducible refine Below.setCell ?_ ?side _; case side => (first | omega | (simp <;> omega))) | (with_reducible refine Below.alloc ?_ ?side _; case side => (first | omega | (simp <;> omega))) | with_reducible apply below_drewN))⟩
theorem scmp_lt (a b c d : Int) (ha : szB a b = true) (hc : szB c d = true) (hq : b < c) (w : World) : Calls Tryd.prog 27 #[SV a b, SV c d] w (OutI w (-1) 0) := by
  have H1 := Hx.mk (fun w => svalid_any a b w true ha)
  have H2 := Hx.mk (fun w => svalid_any c d w true hc)
  clear ha hc
  go_enter Tryd.func27, Tryd.ntmps27
  go_wp2_with fail
  refine (H1.out _).mono ?_
  rintro e w1 ⟨rfl, hb⟩
  obtain ⟨hc1, hf1⟩ := bcell hb
  have hz1 := hb.size
  (try simp at hz1)
  have hB : Hx (Below w.heap.size w w1) := ⟨Below.trans (by repeat (first | with_reducible exact hB.out | with_reducible exact Below.refl _ _ | (with_reducible refine Below.setCell ?_ ?side _; case side => (first | omega | (simp <;> omega))) | (with_reducible refine Below.alloc ?_ ?side _; case side => (first | omega | (simp <;> omega))) | with_reducible apply below_drewN)) (hb.mono (by first | omega | (simp <;> omega)))⟩
  clear hb
  have hy1_0 : w.heap.size < w1.heap.size := by omega
  have hy1_1 : w.heap.size + 1 < w1.heap.size := by omega
  go_wp2_with fail
  refine (H2.out _).mono ?_
  rintro e w2 ⟨rfl, hb⟩
  obtain ⟨hc2, hf2⟩ := bcell hb
  have hz2 := hb.size
  (try simp at hz2)
  have hB : Hx (Below w.heap.size w w2) := ⟨Below.trans (by repeat (first | with_reducible exact hB.out | with_reducible exact Below.refl _ _ | (with_reducible refine Below.setCell ?_ ?side _; case side => (first | omega | (simp <;> omega))) | (with_reducible refine Below.alloc ?_ ?side _; case side => (first | omega | (simp <;> omega))) | with_reducible apply below_drewN)) (hb.mono (by first | omega | (simp <;> omega)))⟩
  clear hb
  have hy2_0 : w.heap.size < w2.heap.size := by omega
  have hy2_1 : w.heap.size + 1 < w2.heap.size := by omega
  go_wp2_with fail
  go_ret2
  exact ⟨rfl, (by repeat (first | with_reducible exact hB.out | with_reducible exact Below.refl _ _ | (with_reducible refine Below.setCell ?_ ?side _; case side => (first | omega | (simp <;> omega))) | (with_reducible refine Below.alloc ?_ ?side _; case side => (first | omega | (simp <;> omega))) | with_reducible apply below_drewN))⟩
theorem scmp_gt (a b c d : Int) (ha : szB a b = true) (hc : szB c d = true) (hq : ¬ b < c) (hr : d < a) (w : World) : Calls Tryd.prog 27 #[SV a b, SV c d] w (OutI w 1 0) := by
  have H1 := Hx.mk (fun w => svalid_any a b w true ha)
  have H2 := Hx.mk (fun w => svalid_any c d w true hc)
  clear ha hc
  go_enter Tryd.func27, Tryd.ntmps27
  go_wp2_with fail
  refine (H1.out _).mono ?_
  rintro e w1 ⟨rfl, hb⟩
  obtain ⟨hc1, hf1⟩ := bcell hb
  have hz1 := hb.size
  (try simp at hz1)
  have hB : Hx (Below w.heap.size w w1) := ⟨Below.trans (by repeat (first | with_reducible exact hB.out | with_reducible exact Below.refl _ _ | (with_reducible refine Below.setCell ?_ ?side _; case side => (first | omega | (simp <;> omega))) | (with_reducible refine Below.alloc ?_ ?side _; case side => (first | omega | (simp <;> omega))) | with_reducible apply below_drewN)) (hb.mono (by first | omega | (simp <;> omega)))⟩
  clear hb
  have hy1_0 : w.heap.size < w1.heap.size := by omega
  have hy1_1 : w.heap.size + 1 < w1.heap.size := by omega
  go_wp2_with fail
  refine (H2.out _).mono ?_
  rintro e w2 ⟨rfl, hb⟩
  obtain ⟨hc2, hf2⟩ := bcell hb
  have hz2 := hb.size
  (try simp at hz2)
  have hB : Hx (Below w.heap.size w w2) := ⟨Below.trans (by repeat (first | with_reducible exact hB.out | with_reducible exact Below.refl _ _ | (with_reducible refine Below.setCell ?_ ?side _; case side => (first | omega | (simp <;> omega))) | (with_reducible refine Below.alloc ?_ ?side _; case side => (first | omega | (simp <;> omega))) | with_reducible apply below_drewN)) (hb.mono (by first | omega | (simp <;> omega)))⟩
  clear hb
  have hy2_0 : w.heap.size < w2.heap.size := by omega
  have hy2_1 : w.heap.size + 1 < w2.heap.size := by omega
  go_wp2_with fail
  go_ret2
  exact ⟨rfl, (by repeat (first | with_reducible exact hB.out | with_reducible exact Below.refl _ _ | (with_reducible refine Below.setCell ?_ ?side _; case side => (first | omega | (simp <;> omega))) | (with_reducible refine Below.alloc ?_ ?side _; case side => (first | omega | (simp <;> omega))) | with_reducible apply below_drewN))⟩
theorem scmp_eq (a b c d : Int) (ha : szB a b = true) (hc : szB c d = true) (hq : ¬ b < c) (hr : ¬ d < a) (w : World) : Calls Tryd.prog 27 #[SV a b, SV c d] w (OutI w 0 0) := by
  have H1 := Hx.mk (fun w => svalid_any a b w true ha)
  have H2 := Hx.mk (fun w => svalid_any c d w true hc)
  clear ha hc
  go_enter Tryd.func27, Tryd.ntmps27
  go_wp2_with fail
  refine (H1.out _).mono ?_
  rintro e w1 ⟨rfl, hb⟩
  obtain ⟨hc1, hf1⟩ := bcell hb
  have hz1 := hb.size
  (try simp at hz1)
  have hB : Hx (Below w.heap.size w w1) := ⟨Below.trans (by repeat (first | with_reducible exact hB.out | with_reducible exact Below.refl _ _ | (with_reducible refine Below.setCell ?_ ?side _; case side => (first | omega | (simp <;> omega))) | (with_reducible refine Below.alloc ?_ ?side _; case side => (first | omega | (simp <;> omega))) | with_reducible apply below_drewN)) (hb.mono (by first | omega | (simp <;> omega)))⟩
  clear hb
  have hy1_0 : w.heap.size < w1.heap.size := by omega
  have hy1_1 : w.heap.size + 1 < w1.heap.size := by omega
  go_wp2_with fail
  refine (H2.out _).mono ?_
  rintro e w2 ⟨rfl, hb⟩
  obtain ⟨hc2, hf2⟩ := bcell hb
  have hz2 := hb.size
  (try simp at hz2)
  have hB : Hx (Below w.heap.size w w2) := ⟨Below.trans (by repeat (first | with_reducible exact hB.out | with_reducible exact Below.refl _ _ | (with_reducible refine Below.setCell ?_ ?side _; case side => (first | omega | (simp <;> omega))) | (with_reducible refine Below.alloc ?_ ?side _; case side => (first | omega | (simp <;> omega))) | with_reducible apply below_drewN)) (hb.mono (by first | omega | (simp <;> omega)))⟩
  clear hb
  have hy2_0 : w.heap.size < w2.heap.size := by omega
  have hy2_1 : w.heap.size + 1 < w2.heap.size := by omega
  go_wp2_with fail
  go_ret2
  exact ⟨rfl, (by repeat (first | with_reducible exact hB.out | with_reducible exact Below.refl _ _ | (with_reducible refine Below.setCell ?_ ?side _; case side => (first | omega | (simp <;> omega))) | (with_reducible refine Below.alloc ?_ ?side _; case side => (first | omega | (simp <;> omega))) | with_reducible apply below_drewN))⟩
theorem scmp_any (a b c d x k : Int) (h : cmR a b c d = (x, k)) (w : World) : Calls Tryd.prog 27 #[SV a b, SV c d] w (OutI w x k) := by
  unfold cmR at h
  cases ha : szB a b
  · rw [ha] at h; simp at h; obtain ⟨rfl, rfl⟩ := h; exact scmp_a a b c d ha w
  · cases hc : szB c d
    · rw [ha, hc] at h; simp at h; obtain ⟨rfl, rfl⟩ := h; exact scmp_b a b c d ha hc w
    · rw [ha, hc] at h; simp only [Bool.and_self, if_true, Prod.mk.injEq] at h; obtain ⟨hx, rfl⟩ := h
      by_cases hq : b < c
      · rw [if_pos hq] at hx; subst hx; exact scmp_lt a b c d ha hc hq w
      · rw [if_neg hq] at hx
        by_cases hr : d < a
        · rw [if_pos hr] at hx; subst hx; exact scmp_gt a b c d ha hc hq hr w
        · rw [if_neg hr] at hx; subst hx; exact scmp_eq a b c d ha hc hq hr w
/-- What Meet returns. -/
def meR (a b c d : Int) : Int × Int × Int := if szB a b && szB c d then (if min b d < max a c then (0, 0, 4) else (max a c, min b d, 0)) else (0, 0, 1)
theorem smeet_a (a b c d : Int) (ha : szB a b = false) (w : World) : Calls Tryd.prog 25 #[SV a b, SV c d] w (OutZ w 0 0 1) := by
  have H1 := Hx.mk (fun w => svalid_any a b w false ha)
  clear ha
  go_enter Tryd.func25, Tryd.ntmps25
  go_wp2_with fail
  refine (H1.out _).mono ?_
  rintro e w1 ⟨rfl, hb⟩
  obtain ⟨hc1, hf1⟩ := bcell hb
  have hz1 := hb.size
  (try simp at hz1)
  have hB : Hx (Below w.heap.size w w1) := ⟨Below.trans (by repeat (first | with_reducible exact hB.out | with_reducible exact Below.refl _ _ | (with_reducible refine Below.setCell ?_ ?side _; case side => (first | omega | (simp <;> omega))) | (with_reducible refine Below.alloc ?_ ?side _; case side => (first | omega | (simp <;> omega))) | with_reducible apply below_drewN)) (hb.mono (by first | omega | (simp <;> omega)))⟩
  clear hb
  have hy1_0 : w.heap.size < w1.heap.size := by omega
  have hy1_1 : w.heap.size + 1 < w1.heap.size := by omega
  have hy1_2 : w.heap.size + 1 + 1 < w1.heap.size := by omega
  go_wp2_with fail
  refine bodyPost_ret_by (v := .tuple #[SV 0 0, .int .i64 1]) (by simp [results, Tryd.results25, go_sem, hc1]) rfl ?_
  exact ⟨rfl, (by repeat (first | with_reducible exact hB.out | with_reducible exact Below.refl _ _ | (with_reducible refine Below.setCell ?_ ?side _; case side => (first | omega | (simp <;> omega))) | (with_reducible refine Below.alloc ?_ ?side _; case side => (first | omega | (simp <;> omega))) | with_reducible apply below_drewN))⟩
theorem smeet_b (a b c d : Int) (ha : szB a b = true) (hc : szB c d = false) (w : World) : Calls Tryd.prog 25 #[SV a b, SV c d] w (OutZ w 0 0 1) := by
  have H1 := Hx.mk (fun w => svalid_any a b w true ha)
  have H2 := Hx.mk (fun w => svalid_any c d w false hc)
  clear ha hc
  go_enter Tryd.func25, Tryd.ntmps25
  go_wp2_with fail
  refine (H1.out _).mono ?_
  rintro e w1 ⟨rfl, hb⟩
  obtain ⟨hc1, hf1⟩ := bcell hb
  have hz1 := hb.size
  (try simp at hz1)
  have hB : Hx (Below w.heap.size w w1) := ⟨Below.trans (by repeat (first | with_reducible exact hB.out | with_reducible exact Below.refl _ _ | (with_reducible refine Below.setCell ?_ ?side _; case side => (first | omega | (simp <;> omega))) | (with_reducible refine Below.alloc ?_ ?side _; case side => (first | omega | (simp <;> omega))) | with_reducible apply below_drewN)) (hb.mono (by first | omega | (simp <;> omega)))⟩
  clear hb
  have hy1_0 : w.heap.size < w1.heap.size := by omega
  have hy1_1 : w.heap.size + 1 < w1.heap.size := by omega
  have hy1_2 : w.heap.size + 1 + 1 < w1.heap.size := by omega
  go_wp2_with fail
  refine (H2.out _).mono ?_
  rintro e w2 ⟨rfl, hb⟩
  obtain ⟨hc2, hf2⟩ := bcell hb
  have hz2 := hb.size
  (try simp at hz2)
  have hB : Hx (Below w.heap.size w w2) := ⟨Below.trans (by repeat (first | with_reducible exact hB.out | with_reducible exact Below.refl _ _ | (with_reducible refine Below.setCell ?_ ?side _; case side => (first | omega | (simp <;> omega))) | (with_reducible refine Below.alloc ?_ ?side _; case side => (first | omega | (simp <;> omega))) | with_reducible apply below_drewN)) (hb.mono (by first | omega | (simp <;> omega)))⟩
  clear hb
  have hy2_0 : w.heap.size < w2.heap.size := by omega
  have hy2_1 : w.heap.size + 1 < w2.heap.size := by omega
  have hy2_2 : w.heap.size + 1 + 1 < w2.heap.size := by omega
  go_wp2_with fail
  refine bodyPost_ret_by (v := .tuple #[SV 0 0, .int .i64 1]) (by simp [results, Tryd.results25, go_sem, hc1, hy1_2, hc2]) rfl ?_
  exact ⟨rfl, (by repeat (first | with_reducible exact hB.out | with_reducible exact Below.refl _ _ | (with_reducible refine Below.setCell ?_ ?side _; case side => (first | omega | (simp <;> omega))) | (with_reducible refine Below.alloc ?_ ?side _; case side => (first | omega | (simp <;> omega))) | with_reducible apply below_drewN))⟩
theorem smeet_no (a b c d l h : Int) (ha : szB a b = true) (hc : szB c d = true) (hl : max a c = l) (hh : min b d = h) (hq : h < l) (w : World) : Calls Tryd.prog 25 #[SV a b, SV c d] w (OutZ w 0 0 4) := by
  have H1 := Hx.mk (fun w => svalid_any a b w true ha)
  have H2 := Hx.mk (fun w => svalid_any c d w true hc)
  clear ha hc
  go_enter Tryd.func25, Tryd.ntmps25
  go_wp2_with fail
  refine (H1.out _).mono ?_
  rintro e w1 ⟨rfl, hb⟩
  obtain ⟨hc1, hf1⟩ := bcell hb
  have hz1 := hb.size
  (try simp at hz1)
  have hB : Hx (Below w.heap.size w w1) := ⟨Below.trans (by repeat (first | with_reducible exact hB.out | with_reducible exact Below.refl _ _ | (with_reducible refine Below.setCell ?_ ?side _; case side => (first | omega | (simp <;> omega))) | (with_reducible refine Below.alloc ?_ ?side _; case side => (first | omega | (simp <;> omega))) | with_reducible apply below_drewN)) (hb.mono (by first | omega | (simp <;> omega)))⟩
  clear hb
  have hy1_0 : w.heap.size < w1.heap.size := by omega
  have hy1_1 : w.heap.size + 1 < w1.heap.size := by omega
  have hy1_2 : w.heap.size + 1 + 1 < w1.heap.size := by omega
  go_wp2_with fail
  refine (H2.out _).mono ?_
  rintro e w2 ⟨rfl, hb⟩
  obtain ⟨hc2, hf2⟩ := bcell hb
  have hz2 := hb.size
  (try simp at hz2)
  have hB : Hx (Below w.heap.size w w2) := ⟨Below.trans (by repeat (first | with_reducible exact hB.out | with_reducible exact Below.refl _ _ | (with_reducible refine Below.setCell ?_ ?side _; case side => (first | omega | (simp <;> omega))) | (with_reducible refine Below.alloc ?_ ?side _; case side => (first | omega | (simp <;> omega))) | with_reducible apply below_drewN)) (hb.mono (by first | omega | (simp <;> omega)))⟩
  clear hb
  have hy2_0 : w.heap.size < w2.heap.size := by omega
  have hy2_1 : w.heap.size + 1 < w2.heap.size := by omega
  have hy2_2 : w.heap.size + 1 + 1 < w2.heap.size := by omega
  go_wp2_with fail
  go_quiet (fail)
  go_wp2_with fail
  refine bodyPost_ret_by (v := .tuple #[SV 0 0, .int .i64 4]) (by simp [results, Tryd.results25, go_sem, hc1, hy1_2, hc2]) rfl ?_
  exact ⟨rfl, (by repeat (first | with_reducible exact hB.out | with_reducible exact Below.refl _ _ | (with_reducible refine Below.setCell ?_ ?side _; case side => (first | omega | (simp <;> omega))) | (with_reducible refine Below.alloc ?_ ?side _; case side => (first | omega | (simp <;> omega))) | with_reducible apply below_drewN))⟩
theorem smeet_ok (a b c d l h : Int) (ha : szB a b = true) (hc : szB c d = true) (hl : max a c = l) (hh : min b d = h) (hq : ¬ h < l) (w : World) : Calls Tryd.prog 25 #[SV a b, SV c d] w (OutZ w l h 0) := by
  have H1 := Hx.mk (fun w => svalid_any a b w true ha)
  have H2 := Hx.mk (fun w => svalid_any c d w true hc)
  clear ha hc
  go_enter Tryd.func25, Tryd.ntmps25
  go_wp2_with fail
  refine (H1.out _).mono ?_
  rintro e w1 ⟨rfl, hb⟩
  obtain ⟨hc1, hf1⟩ := bcell hb
  have hz1 := hb.size
  (try simp at hz1)
  have hB : Hx (Below w.heap.size w w1) := ⟨Below.trans (by repeat (first | with_reducible exact hB.out | with_reducible exact Below.refl _ _ | (with_reducible refine Below.setCell ?_ ?side _; case side => (first | omega | (simp <;> omega))) | (with_reducible refine Below.alloc ?_ ?side _; case side => (first | omega | (simp <;> omega))) | with_reducible apply below_drewN)) (hb.mono (by first | omega | (simp <;> omega)))⟩
  clear hb
  have hy1_0 : w.heap.size < w1.heap.size := by omega
  have hy1_1 : w.heap.size + 1 < w1.heap.size := by omega
  have hy1_2 : w.heap.size + 1 + 1 < w1.heap.size := by omega
  go_wp2_with fail
  refine (H2.out _).mono ?_
  rintro e w2 ⟨rfl, hb⟩
  obtain ⟨hc2, hf2⟩ := bcell hb
  have hz2 := hb.size
  (try simp at hz2)
  have hB : Hx (Below w.heap.size w w2) := ⟨Below.trans (by repeat (first | with_reducible exact hB.out | with_reducible exact Below.refl _ _ | (with_reducible refine Below.setCell ?_ ?side _; case side => (first | omega | (simp <;> omega))) | (with_reducible refine Below.alloc ?_ ?side _; case side => (first | omega | (simp <;> omega))) | with_reducible apply below_drewN)) (hb.mono (by first | omega | (simp <;> omega)))⟩
  clear hb
  have hy2_0 : w.heap.size < w2.heap.size := by omega
  have hy2_1 : w.heap.size + 1 < w2.heap.size := by omega
  have hy2_2 : w.heap.size + 1 + 1 < w2.heap.size := by omega
  go_wp2_with fail
  go_quiet (fail)
  go_wp2_with fail
  refine bodyPost_ret_by (v := .tuple #[SV l h, .int .i64 0]) (by simp [results, Tryd.results25, go_sem, hc1, hy1_2, hc2]) rfl ?_
  exact ⟨rfl, (by repeat (first | with_reducible exact hB.out | with_reducible exact Below.refl _ _ | (with_reducible refine Below.setCell ?_ ?side _; case side => (first | omega | (simp <;> omega))) | (with_reducible refine Below.alloc ?_ ?side _; case side => (first | omega | (simp <;> omega))) | with_reducible apply below_drewN))⟩
theorem smeet_any (a b c d x y k : Int) (h : meR a b c d = (x, y, k)) (w : World) : Calls Tryd.prog 25 #[SV a b, SV c d] w (OutZ w x y k) := by
  unfold meR at h
  cases ha : szB a b
  · rw [ha] at h; simp at h; obtain ⟨rfl, rfl, rfl⟩ := h; exact smeet_a a b c d ha w
  · cases hc : szB c d
    · rw [ha, hc] at h; simp at h; obtain ⟨rfl, rfl, rfl⟩ := h; exact smeet_b a b c d ha hc w
    · rw [ha, hc] at h; simp only [Bool.and_self, if_true] at h
      by_cases hq : min b d < max a c
      · rw [if_pos hq] at h; simp only [Prod.mk.injEq] at h; obtain ⟨rfl, rfl, rfl⟩ := h; exact smeet_no a b c d _ _ ha hc rfl rfl hq w
      · rw [if_neg hq] at h; simp only [Prod.mk.injEq] at h; obtain ⟨rfl, rfl, rfl⟩ := h; exact smeet_ok a b c d _ _ ha hc rfl rfl hq w
/-- What Within returns. -/
def wiR (a b l h : Int) : Int × Int := if szB a b then (if h < l then (0, 1) else (if l ≤ a ∧ b ≤ h then 1 else if b < l ∨ h < a then -1 else 0, 0)) else (0, 1)
theorem swithin_a (a b l h : Int) (ha : szB a b = false) (w : World) : Calls Tryd.prog 29 #[SV a b, .int .i64 l, .int .i64 h] w (OutI w 0 1) := by
  have H1 := Hx.mk (fun w => svalid_any a b w false ha)
  clear ha
  go_enter Tryd.func29, Tryd.ntmps29
  go_wp2_with fail
  refine (H1.out _).mono ?_
  rintro e w1 ⟨rfl, hb⟩
  obtain ⟨hc1, hf1⟩ := bcell hb
  have hz1 := hb.size
  (try simp at hz1)
  have hB : Hx (Below w.heap.size w w1) := ⟨Below.trans (by repeat (first | with_reducible exact hB.out | with_reducible exact Below.refl _ _ | (with_reducible refine Below.setCell ?_ ?side _; case side => (first | omega | (simp <;> omega))) | (with_reducible refine Below.alloc ?_ ?side _; case side => (first | omega | (simp <;> omega))) | with_reducible apply below_drewN)) (hb.mono (by first | omega | (simp <;> omega)))⟩
  clear hb
  have hy1_0 : w.heap.size < w1.heap.size := by omega
  go_wp2_with fail
  go_ret2
  exact ⟨rfl, (by repeat (first | with_reducible exact hB.out | with_reducible exact Below.refl _ _ | (with_reducible refine Below.setCell ?_ ?side _; case side => (first | omega | (simp <;> omega))) | (with_reducible refine Below.alloc ?_ ?side _; case side => (first | omega | (simp <;> omega))) | with_reducible apply below_drewN))⟩
theorem swithin_b (a b l h : Int) (ha : szB a b = true) (hq : h < l) (w : World) : Calls Tryd.prog 29 #[SV a b, .int .i64 l, .int .i64 h] w (OutI w 0 1) := by
  have H1 := Hx.mk (fun w => svalid_any a b w true ha)
  clear ha
  go_enter Tryd.func29, Tryd.ntmps29
  go_wp2_with fail
  refine (H1.out _).mono ?_
  rintro e w1 ⟨rfl, hb⟩
  obtain ⟨hc1, hf1⟩ := bcell hb
  have hz1 := hb.size
  (try simp at hz1)
  have hB : Hx (Below w.heap.size w w1) := ⟨Below.trans (by repeat (first | with_reducible exact hB.out | with_reducible exact Below.refl _ _ | (with_reducible refine Below.setCell ?_ ?side _; case side => (first | omega | (simp <;> omega))) | (with_reducible refine Below.alloc ?_ ?side _; case side => (first | omega | (simp <;> omega))) | with_reducible apply below_drewN)) (hb.mono (by first | omega | (simp <;> omega)))⟩
  clear hb
  have hy1_0 : w.heap.size < w1.heap.size := by omega
  go_wp2_with fail
  go_ret2
  exact ⟨rfl, (by repeat (first | with_reducible exact hB.out | with_reducible exact Below.refl _ _ | (with_reducible refine Below.setCell ?_ ?side _; case side => (first | omega | (simp <;> omega))) | (with_reducible refine Below.alloc ?_ ?side _; case side => (first | omega | (simp <;> omega))) | with_reducible apply below_drewN))⟩
theorem swithin_in (a b l h : Int) (ha : szB a b = true) (hq : ¬ h < l) (h1 : l ≤ a) (h2 : b ≤ h) (w : World) : Calls Tryd.prog 29 #[SV a b, .int .i64 l, .int .i64 h] w (OutI w 1 0) := by
  have H1 := Hx.mk (fun w => svalid_any a b w true ha)
  clear ha
  go_enter Tryd.func29, Tryd.ntmps29
  go_wp2_with fail
  refine (H1.out _).mono ?_
  rintro e w1 ⟨rfl, hb⟩
  obtain ⟨hc1, hf1⟩ := bcell hb
  have hz1 := hb.size
  (try simp at hz1)
  have hB : Hx (Below w.heap.size w w1) := ⟨Below.trans (by repeat (first | with_reducible exact hB.out | with_reducible exact Below.refl _ _ | (with_reducible refine Below.setCell ?_ ?side _; case side => (first | omega | (simp <;> omega))) | (with_reducible refine Below.alloc ?_ ?side _; case side => (first | omega | (simp <;> omega))) | with_reducible apply below_drewN)) (hb.mono (by first | omega | (simp <;> omega)))⟩
  clear hb
  have hy1_0 : w.heap.size < w1.heap.size := by omega
  go_wp2_with fail
  go_ret2
  exact ⟨rfl, (by repeat (first | with_reducible exact hB.out | with_reducible exact Below.refl _ _ | (with_reducible refine Below.setCell ?_ ?side _; case side => (first | omega | (simp <;> omega))) | (with_reducible refine Below.alloc ?_ ?side _; case side => (first | omega | (simp <;> omega))) | with_reducible apply below_drewN))⟩
theorem swithin_lo (a b l h : Int) (ha : szB a b = true) (hq : ¬ h < l) (h1 : ¬ l ≤ a) (h3 : b < l) (w : World) : Calls Tryd.prog 29 #[SV a b, .int .i64 l, .int .i64 h] w (OutI w (-1) 0) := by
  have H1 := Hx.mk (fun w => svalid_any a b w true ha)
  clear ha
  go_enter Tryd.func29, Tryd.ntmps29
  go_wp2_with fail
  refine (H1.out _).mono ?_
  rintro e w1 ⟨rfl, hb⟩
  obtain ⟨hc1, hf1⟩ := bcell hb
  have hz1 := hb.size
  (try simp at hz1)
  have hB : Hx (Below w.heap.size w w1) := ⟨Below.trans (by repeat (first | with_reducible exact hB.out | with_reducible exact Below.refl _ _ | (with_reducible refine Below.setCell ?_ ?side _; case side => (first | omega | (simp <;> omega))) | (with_reducible refine Below.alloc ?_ ?side _; case side => (first | omega | (simp <;> omega))) | with_reducible apply below_drewN)) (hb.mono (by first | omega | (simp <;> omega)))⟩
  clear hb
  have hy1_0 : w.heap.size < w1.heap.size := by omega
  go_wp2_with fail
  go_ret2
  exact ⟨rfl, (by repeat (first | with_reducible exact hB.out | with_reducible exact Below.refl _ _ | (with_reducible refine Below.setCell ?_ ?side _; case side => (first | omega | (simp <;> omega))) | (with_reducible refine Below.alloc ?_ ?side _; case side => (first | omega | (simp <;> omega))) | with_reducible apply below_drewN))⟩
theorem swithin_lo2 (a b l h : Int) (ha : szB a b = true) (hq : ¬ h < l) (h1 : ¬ l ≤ a) (h3 : ¬ b < l) (h4 : h < a) (w : World) : Calls Tryd.prog 29 #[SV a b, .int .i64 l, .int .i64 h] w (OutI w (-1) 0) := by
  have H1 := Hx.mk (fun w => svalid_any a b w true ha)
  clear ha
  exact absurd h4 (by omega)
theorem swithin_mid (a b l h : Int) (ha : szB a b = true) (hq : ¬ h < l) (h1 : ¬ l ≤ a) (h3 : ¬ b < l) (h4 : ¬ h < a) (w : World) : Calls Tryd.prog 29 #[SV a b, .int .i64 l, .int .i64 h] w (OutI w 0 0) := by
  have H1 := Hx.mk (fun w => svalid_any a b w true ha)
  clear ha
  go_enter Tryd.func29, Tryd.ntmps29
  go_wp2_with fail
  refine (H1.out _).mono ?_
  rintro e w1 ⟨rfl, hb⟩
  obtain ⟨hc1, hf1⟩ := bcell hb
  have hz1 := hb.size
  (try simp at hz1)
  have hB : Hx (Below w.heap.size w w1) := ⟨Below.trans (by repeat (first | with_reducible exact hB.out | with_reducible exact Below.refl _ _ | (with_reducible refine Below.setCell ?_ ?side _; case side => (first | omega | (simp <;> omega))) | (with_reducible refine Below.alloc ?_ ?side _; case side => (first | omega | (simp <;> omega))) | with_reducible apply below_drewN)) (hb.mono (by first | omega | (simp <;> omega)))⟩
  clear hb
  have hy1_0 : w.heap.size < w1.heap.size := by omega
  go_wp2_with fail
  go_ret2
  exact ⟨rfl, (by repeat (first | with_reducible exact hB.out | with_reducible exact Below.refl _ _ | (with_reducible refine Below.setCell ?_ ?side _; case side => (first | omega | (simp <;> omega))) | (with_reducible refine Below.alloc ?_ ?side _; case side => (first | omega | (simp <;> omega))) | with_reducible apply below_drewN))⟩
theorem swithin_hi (a b l h : Int) (ha : szB a b = true) (hq : ¬ h < l) (h1 : l ≤ a) (h2 : ¬ b ≤ h) (h3 : b < l) (w : World) : Calls Tryd.prog 29 #[SV a b, .int .i64 l, .int .i64 h] w (OutI w (-1) 0) := by
  have H1 := Hx.mk (fun w => svalid_any a b w true ha)
  clear ha
  exact absurd h3 (by omega)
theorem swithin_hi2 (a b l h : Int) (ha : szB a b = true) (hq : ¬ h < l) (h1 : l ≤ a) (h2 : ¬ b ≤ h) (h3 : ¬ b < l) (h4 : h < a) (w : World) : Calls Tryd.prog 29 #[SV a b, .int .i64 l, .int .i64 h] w (OutI w (-1) 0) := by
  have H1 := Hx.mk (fun w => svalid_any a b w true ha)
  clear ha
  go_enter Tryd.func29, Tryd.ntmps29
  go_wp2_with fail
  refine (H1.out _).mono ?_
  rintro e w1 ⟨rfl, hb⟩
  obtain ⟨hc1, hf1⟩ := bcell hb
  have hz1 := hb.size
  (try simp at hz1)
  have hB : Hx (Below w.heap.size w w1) := ⟨Below.trans (by repeat (first | with_reducible exact hB.out | with_reducible exact Below.refl _ _ | (with_reducible refine Below.setCell ?_ ?side _; case side => (first | omega | (simp <;> omega))) | (with_reducible refine Below.alloc ?_ ?side _; case side => (first | omega | (simp <;> omega))) | with_reducible apply below_drewN)) (hb.mono (by first | omega | (simp <;> omega)))⟩
  clear hb
  have hy1_0 : w.heap.size < w1.heap.size := by omega
  go_wp2_with fail
  go_ret2
  exact ⟨rfl, (by repeat (first | with_reducible exact hB.out | with_reducible exact Below.refl _ _ | (with_reducible refine Below.setCell ?_ ?side _; case side => (first | omega | (simp <;> omega))) | (with_reducible refine Below.alloc ?_ ?side _; case side => (first | omega | (simp <;> omega))) | with_reducible apply below_drewN))⟩
theorem swithin_mid2 (a b l h : Int) (ha : szB a b = true) (hq : ¬ h < l) (h1 : l ≤ a) (h2 : ¬ b ≤ h) (h3 : ¬ b < l) (h4 : ¬ h < a) (w : World) : Calls Tryd.prog 29 #[SV a b, .int .i64 l, .int .i64 h] w (OutI w 0 0) := by
  have H1 := Hx.mk (fun w => svalid_any a b w true ha)
  clear ha
  go_enter Tryd.func29, Tryd.ntmps29
  go_wp2_with fail
  refine (H1.out _).mono ?_
  rintro e w1 ⟨rfl, hb⟩
  obtain ⟨hc1, hf1⟩ := bcell hb
  have hz1 := hb.size
  (try simp at hz1)
  have hB : Hx (Below w.heap.size w w1) := ⟨Below.trans (by repeat (first | with_reducible exact hB.out | with_reducible exact Below.refl _ _ | (with_reducible refine Below.setCell ?_ ?side _; case side => (first | omega | (simp <;> omega))) | (with_reducible refine Below.alloc ?_ ?side _; case side => (first | omega | (simp <;> omega))) | with_reducible apply below_drewN)) (hb.mono (by first | omega | (simp <;> omega)))⟩
  clear hb
  have hy1_0 : w.heap.size < w1.heap.size := by omega
  go_wp2_with fail
  go_ret2
  exact ⟨rfl, (by repeat (first | with_reducible exact hB.out | with_reducible exact Below.refl _ _ | (with_reducible refine Below.setCell ?_ ?side _; case side => (first | omega | (simp <;> omega))) | (with_reducible refine Below.alloc ?_ ?side _; case side => (first | omega | (simp <;> omega))) | with_reducible apply below_drewN))⟩
theorem swithin_any (a b l h x k : Int) (hh : wiR a b l h = (x, k)) (w : World) : Calls Tryd.prog 29 #[SV a b, .int .i64 l, .int .i64 h] w (OutI w x k) := by
  unfold wiR at hh
  cases ha : szB a b
  · rw [ha] at hh; simp at hh; obtain ⟨rfl, rfl⟩ := hh; exact swithin_a a b l h ha w
  · rw [ha] at hh; simp only [if_true] at hh
    by_cases hq : h < l
    · rw [if_pos hq] at hh; simp only [Prod.mk.injEq] at hh; obtain ⟨rfl, rfl⟩ := hh; exact swithin_b a b l h ha hq w
    · rw [if_neg hq] at hh; simp only [Prod.mk.injEq] at hh; obtain ⟨hx, rfl⟩ := hh
      by_cases h1 : l ≤ a
      · by_cases h2 : b ≤ h
        · rw [if_pos ⟨h1, h2⟩] at hx; subst hx; exact swithin_in a b l h ha hq h1 h2 w
        · rw [if_neg (fun k => h2 k.2)] at hx
          by_cases h3 : b < l
          · rw [if_pos (.inl h3)] at hx; subst hx; exact swithin_hi a b l h ha hq h1 h2 h3 w
          · by_cases h4 : h < a
            · rw [if_pos (.inr h4)] at hx; subst hx; exact swithin_hi2 a b l h ha hq h1 h2 h3 h4 w
            · rw [if_neg (by omega)] at hx; subst hx; exact swithin_mid2 a b l h ha hq h1 h2 h3 h4 w
      · rw [if_neg (fun k => h1 k.1)] at hx
        by_cases h3 : b < l
        · rw [if_pos (.inl h3)] at hx; subst hx; exact swithin_lo a b l h ha hq h1 h3 w
        · by_cases h4 : h < a
          · rw [if_pos (.inr h4)] at hx; subst hx; exact swithin_lo2 a b l h ha hq h1 h3 h4 w
          · rw [if_neg (by omega)] at hx; subst hx; exact swithin_mid a b l h ha hq h1 h3 h4 w
end Go.Proofs.YtdlfnonlalkjdaaDoor

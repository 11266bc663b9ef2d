/- the reference's Near of pitches. -/
import Derived.Test.YtdlfnonlalkjdaaDoorSR4
namespace Go.Proofs.YtdlfnonlalkjdaaDoor
open Go.RowKit M
theorem rnear_gap (a b : Nat → Int) (n : Int) (x y k : Int) (hk : ¬ k = 0) (hg : gpR a b = (x, y, k)) (w : World) : Calls Tryd.prog 32 #[PV a, PV b, .int .i64 n] w (OutI w 0 1) := by
  have H := Hx.mk (rgap_any a b x y k hg)
  clear hg
  go_enter Tryd.func32, Tryd.ntmps32
  go_wp2_with fail
  refine (H.out _).mono ?_
  rintro e w1 ⟨rfl, hb⟩
  obtain ⟨hc1, hf1⟩ := bcell hb
  have hz1 := hb.size
  (try simp at hz1)
  have hB : Hx (Below w.heap.size w w1) := ⟨Below.trans (by repeat (first | with_reducible exact hB.out | with_reducible exact Below.refl _ _ | (with_reducible refine Below.setCell ?_ ?side _; case side => (first | omega | (simp <;> omega))) | (with_reducible refine Below.alloc ?_ ?side _; case side => (first | omega | (simp <;> omega))) | with_reducible apply below_drewN)) (hb.mono (by first | omega | (simp <;> omega)))⟩
  clear hb
  have hy1_0 : w.heap.size < w1.heap.size := by omega
  go_wp2_with fail
  go_ret2
  exact ⟨rfl, (by repeat (first | with_reducible exact hB.out | with_reducible exact Below.refl _ _ | (with_reducible refine Below.setCell ?_ ?side _; case side => (first | omega | (simp <;> omega))) | (with_reducible refine Below.alloc ?_ ?side _; case side => (first | omega | (simp <;> omega))) | with_reducible apply below_drewN))⟩
theorem rnear_lo (a b : Nat → Int) (n : Int) (x y : Int) (hg : gpR a b = (x, y, 0)) (h0 : n < 0) (w : World) : Calls Tryd.prog 32 #[PV a, PV b, .int .i64 n] w (OutI w 0 1) := by
  have H := Hx.mk (rgap_any a b x y 0 hg)
  clear hg
  go_enter Tryd.func32, Tryd.ntmps32
  go_wp2_with fail
  refine (H.out _).mono ?_
  rintro e w1 ⟨rfl, hb⟩
  obtain ⟨hc1, hf1⟩ := bcell hb
  have hz1 := hb.size
  (try simp at hz1)
  have hB : Hx (Below w.heap.size w w1) := ⟨Below.trans (by repeat (first | with_reducible exact hB.out | with_reducible exact Below.refl _ _ | (with_reducible refine Below.setCell ?_ ?side _; case side => (first | omega | (simp <;> omega))) | (with_reducible refine Below.alloc ?_ ?side _; case side => (first | omega | (simp <;> omega))) | with_reducible apply below_drewN)) (hb.mono (by first | omega | (simp <;> omega)))⟩
  clear hb
  have hy1_0 : w.heap.size < w1.heap.size := by omega
  go_wp2_with fail
  go_ret2
  exact ⟨rfl, (by repeat (first | with_reducible exact hB.out | with_reducible exact Below.refl _ _ | (with_reducible refine Below.setCell ?_ ?side _; case side => (first | omega | (simp <;> omega))) | (with_reducible refine Below.alloc ?_ ?side _; case side => (first | omega | (simp <;> omega))) | with_reducible apply below_drewN))⟩
theorem rnear_hi (a b : Nat → Int) (n : Int) (x y : Int) (hg : gpR a b = (x, y, 0)) (h0 : ¬ n < 0) (h1 : 2400000 < n) (w : World) : Calls Tryd.prog 32 #[PV a, PV b, .int .i64 n] w (OutI w 0 1) := by
  have H := Hx.mk (rgap_any a b x y 0 hg)
  clear hg
  go_enter Tryd.func32, Tryd.ntmps32
  go_wp2_with fail
  refine (H.out _).mono ?_
  rintro e w1 ⟨rfl, hb⟩
  obtain ⟨hc1, hf1⟩ := bcell hb
  have hz1 := hb.size
  (try simp at hz1)
  have hB : Hx (Below w.heap.size w w1) := ⟨Below.trans (by repeat (first | with_reducible exact hB.out | with_reducible exact Below.refl _ _ | (with_reducible refine Below.setCell ?_ ?side _; case side => (first | omega | (simp <;> omega))) | (with_reducible refine Below.alloc ?_ ?side _; case side => (first | omega | (simp <;> omega))) | with_reducible apply below_drewN)) (hb.mono (by first | omega | (simp <;> omega)))⟩
  clear hb
  have hy1_0 : w.heap.size < w1.heap.size := by omega
  go_wp2_with fail
  go_ret2
  exact ⟨rfl, (by repeat (first | with_reducible exact hB.out | with_reducible exact Below.refl _ _ | (with_reducible refine Below.setCell ?_ ?side _; case side => (first | omega | (simp <;> omega))) | (with_reducible refine Below.alloc ?_ ?side _; case side => (first | omega | (simp <;> omega))) | with_reducible apply below_drewN))⟩
theorem rnear_ok (a b : Nat → Int) (n : Int) (x y r : Int) (hg : gpR a b = (x, y, 0)) (h0 : ¬ n < 0) (h1 : ¬ 2400000 < n) (hr : (if -10000 * n ≤ x ∧ y ≤ 10000 * n then (1 : Int) else if y < -10000 * n ∨ 10000 * n < x then -1 else 0) = r) (w : World) : Calls Tryd.prog 32 #[PV a, PV b, .int .i64 n] w (OutI w r 0) := by
  have H := Hx.mk (rgap_any a b x y 0 hg)
  have H2 := Hx.mk (surely_any x y (-10000 * n) (10000 * n) r hr)
  clear hg hr
  go_enter Tryd.func32, Tryd.ntmps32
  go_wp2_with fail
  refine (H.out _).mono ?_
  rintro e w1 ⟨rfl, hb⟩
  obtain ⟨hc1, hf1⟩ := bcell hb
  have hz1 := hb.size
  (try simp at hz1)
  have hB : Hx (Below w.heap.size w w1) := ⟨Below.trans (by repeat (first | with_reducible exact hB.out | with_reducible exact Below.refl _ _ | (with_reducible refine Below.setCell ?_ ?side _; case side => (first | omega | (simp <;> omega))) | (with_reducible refine Below.alloc ?_ ?side _; case side => (first | omega | (simp <;> omega))) | with_reducible apply below_drewN)) (hb.mono (by first | omega | (simp <;> omega)))⟩
  clear hb
  have hy1_0 : w.heap.size < w1.heap.size := by omega
  go_wp2_with fail
  refine (H2.out _).mono ?_
  rintro e w2 ⟨rfl, hb⟩
  obtain ⟨hc2, hf2⟩ := bcell hb
  have hz2 := hb.size
  (try simp at hz2)
  have hB : Hx (Below w.heap.size w w2) := ⟨Below.trans (by repeat (first | with_reducible exact hB.out | with_reducible exact Below.refl _ _ | (with_reducible refine Below.setCell ?_ ?side _; case side => (first | omega | (simp <;> omega))) | (with_reducible refine Below.alloc ?_ ?side _; case side => (first | omega | (simp <;> omega))) | with_reducible apply below_drewN)) (hb.mono (by first | omega | (simp <;> omega)))⟩
  clear hb
  have hy2_0 : w.heap.size < w2.heap.size := by omega
  go_wp2_with fail
  go_ret2
  exact ⟨rfl, (by repeat (first | with_reducible exact hB.out | with_reducible exact Below.refl _ _ | (with_reducible refine Below.setCell ?_ ?side _; case side => (first | omega | (simp <;> omega))) | (with_reducible refine Below.alloc ?_ ?side _; case side => (first | omega | (simp <;> omega))) | with_reducible apply below_drewN))⟩
theorem rnear_any (a b : Nat → Int) (n r k : Int) (h : neR a b n = (r, k)) (w : World) : Calls Tryd.prog 32 #[PV a, PV b, .int .i64 n] w (OutI w r k) := by
  obtain ⟨x, y, c, hg⟩ : ∃ x y c, gpR a b = (x, y, c) := ⟨_, _, _, rfl⟩
  have hg' := hg
  unfold gpR at hg'
  unfold neR at h
  cases hv : (bdB a 576 && bdB b 576)
  · rw [hv] at hg' h
    simp only [Bool.false_eq_true, if_false, Prod.mk.injEq] at hg' h
    obtain ⟨rfl, rfl, rfl⟩ := hg'
    have : r = 0 ∧ k = 1 := by split at h <;> (simp only [Prod.mk.injEq] at h; omega)
    obtain ⟨rfl, rfl⟩ := this
    exact rnear_gap a b n 0 0 1 (by omega) hg w
  · rw [hv] at hg' h
    simp only [if_true, Prod.mk.injEq] at hg' h
    obtain ⟨rfl, rfl, rfl⟩ := hg'
    by_cases h0 : n < 0
    · rw [if_pos (.inl h0)] at h; simp only [Prod.mk.injEq] at h; obtain ⟨rfl, rfl⟩ := h; exact rnear_lo a b n _ _ hg h0 w
    · by_cases h1 : 2400000 < n
      · rw [if_pos (.inr h1)] at h; simp only [Prod.mk.injEq] at h; obtain ⟨rfl, rfl⟩ := h; exact rnear_hi a b n _ _ hg h0 h1 w
      · rw [if_neg (by omega)] at h; simp only [Prod.mk.injEq] at h; obtain ⟨rfl, rfl⟩ := h
        refine rnear_ok a b n _ _ _ hg h0 h1 ?_ w
        unfold neV
        have e1 : -10000 * n = -n * 10000 := by omega
        have e2 : 10000 * n = n * 10000 := by omega
        rw [e1, e2]
end Go.Proofs.YtdlfnonlalkjdaaDoor

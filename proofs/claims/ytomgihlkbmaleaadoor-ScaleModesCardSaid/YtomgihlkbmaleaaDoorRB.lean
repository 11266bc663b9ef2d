/- The reference's Valid, of scale: walked. -/
import Derived.Test.YtomgihlkbmaleaaDoorRA
namespace Go.Proofs.YtomgihlkbmaleaaDoor
open Go.RowKit M
set_option maxRecDepth 100000 in
theorem rv_none (ao : Option Addr) (n c : Nat) (w : World) (hn : n = 0) : Calls Tryd.prog 16 #[.slice ao n c] w fun e w' => e = .returned (.bool false) ∧ Below w.heap.size w w' := by
  subst hn
  go_enter Tryd.func16, Tryd.ntmps16
  go_wp2_with fail
  all_goals go_ret
  all_goals exact ⟨rfl, Below.refl _ _⟩
set_option maxRecDepth 100000 in
theorem rv_long (ao : Option Addr) (n c : Nat) (w : World) (hn : 64 < n) (hn2 : n ≤ 4611686018427387904) : Calls Tryd.prog 16 #[.slice ao n c] w fun e w' => e = .returned (.bool false) ∧ Below w.heap.size w w' := by
  have h1 : decide ((n : Int) < 1) = false := by simp; omega
  have h2 : decide ((64 : Int) < (n : Int)) = true := by simp; omega
  go_enter Tryd.func16, Tryd.ntmps16
  go_wp2_with fail
  all_goals go_ret
  all_goals exact ⟨rfl, Below.refl _ _⟩
set_option maxRecDepth 100000 in
theorem rv_first (ao : Option Addr) (n c : Nat) (M : Nat → Nat → Int) (w : World) (hn0 : 0 < n) (hn : n ≤ 64) (hcn : n ≤ c) (hS : CV w ao n M) (hz : ¬ ∀ j, j < 6 → M 0 j = 0) : Calls Tryd.prog 16 #[.slice ao n c] w fun e w' => e = .returned (.bool false) ∧ Below w.heap.size w w' := by
  obtain ⟨b, o, rfl, hb, hcr⟩ := hS hn0
  have HC := Bx.mk hcr
  obtain ⟨a0, a1, a2, a3, a4, a5⟩ := row_six hcr hb (Below.refl _ w) hn0
  obtain ⟨x, hx⟩ : ∃ x, M 0 = x := ⟨_, rfl⟩
  rw [hx] at a0 a1 a2 a3 a4 a5
  have E := eq6_is 23 und_pitch x (fun _ => 0) false (by rw [← hx]; exact ⟨(fun h => by cases h), fun h => absurd h hz⟩)
  unfold PV at E
  have h0 : decide ((n : Int) < 1) = false := by simp; omega
  have h1 : decide ((64 : Int) < (n : Int)) = false := by simp; omega
  have h2 : (0 : Int) < (n : Int) := by omega
  simp only [Nat.zero_mul, Nat.add_zero] at a0 a1 a2 a3 a4 a5
  clear hcr hS hz hx
  go_enter Tryd.func16, Tryd.ntmps16
  go_wp2_with fail
  all_goals go_ret
  all_goals exact ⟨rfl, Below.refl _ _⟩
set_option maxRecDepth 100000 in
set_option maxHeartbeats 8000000 in
theorem rv_loop (ao : Option Addr) (n c : Nat) (M : Nat → Nat → Int) (w : World) (hn0 : 0 < n) (hn : n ≤ 64) (hcn : n ≤ c) (hS : CV w ao n M) (hz : ∀ j, j < 6 → M 0 j = 0) (p : Nat) (hp0 : 1 ≤ p) (hp : p ≤ n) (hok : ∀ j, 1 ≤ j → j < p → bdB (M j) 576 = true ∧ cm (M (j - 1)) (M j) < 0) (hbad : p < n → bdB (M p) 576 = false ∨ (bdB (M p) 576 = true ∧ 0 ≤ cm (M (p - 1)) (M p)))
    (r : Bool) (hI : p = n → ∀ w, Calls Tryd.prog 38 #[PV (M (n - 1))] w fun e w' => e = .returned (.bool r) ∧ Below w.heap.size w w') (hr : p < n → r = false) : Calls Tryd.prog 16 #[.slice ao n c] w fun e w' => e = .returned (.bool r) ∧ Below w.heap.size w w' := by
  obtain ⟨b, o, rfl, hb, hcr⟩ := hS hn0
  have HC := Bx.mk hcr
  obtain ⟨a0, a1, a2, a3, a4, a5⟩ := row_six hcr hb (Below.refl _ w) hn0
  obtain ⟨x, hx⟩ : ∃ x, M 0 = x := ⟨_, rfl⟩
  rw [hx] at a0 a1 a2 a3 a4 a5
  have E := eq6_is 23 und_pitch x (fun _ => 0) true (by rw [← hx]; exact ⟨fun _ => hz, fun _ => rfl⟩)
  unfold PV at E
  have h0 : decide ((n : Int) < 1) = false := by simp; omega
  have h1 : decide ((64 : Int) < (n : Int)) = false := by simp; omega
  have h2 : (0 : Int) < (n : Int) := by omega
  simp only [Nat.zero_mul, Nat.add_zero] at a0 a1 a2 a3 a4 a5
  have HK := Bx.mk hok
  have HB := Bx.mk hbad
  have HR := Bx.mk hr
  have HI := Bx.mk hI
  clear hcr hS hz hx hok hbad hr hI
  go_enter Tryd.func16, Tryd.ntmps16
  go_wp2_with fail
  clear a0 a1 a2 a3 a4 a5 E
  go_loopw [3] (fun ix wr => ∃ q : Nat, q + 1 ≤ p ∧ (∃ k : Nat, k = q + 1 ∧ ix = .int .i64 k) ∧ Bx (Below w.heap.size w wr)) (fun ix _ => n + 1 - (intOf ix).toNat)
  case atStart => exact ⟨0, by omega, ⟨1, rfl, rfl⟩, ⟨Below.refl _ _⟩⟩
  case round =>
    obtain ⟨q, hq, ⟨k, hk, rfl⟩, HW⟩ := hrel
    have hw1 : IntKind.i64.wrap ((k : Int) - 1) = (q : Int) := by rw [show (k : Int) - 1 = q by omega]; exact IntWalk.i64_in _ ⟨by omega, by omega⟩
    by_cases hin : k < n
    · have hin' : (k : Int) < (n : Int) := by omega
      have hqn : (q : Int) < (n : Int) := by omega
      obtain ⟨a0, a1, a2, a3, a4, a5⟩ := row_six HC.out hb HW.out hin
      obtain ⟨x, hx⟩ : ∃ x, M k = x := ⟨_, rfl⟩
      obtain ⟨y, hy⟩ : ∃ y, M q = y := ⟨_, rfl⟩
      rw [hx] at a0 a1 a2 a3 a4 a5
      have HX := Bx.mk hx
      have HY := Bx.mk hy
      have HKQ := Bx.mk hk
      obtain ⟨kc, hkc⟩ : ∃ kc, cm y x = kc := ⟨_, rfl⟩
      by_cases hv : bdB x 576 = true
      · have V1 := fun w => rp_valid x w true hv
        clear hx hy hk
        go_wp2_with (refine (V1 _).mono ?_; rintro e w1 ⟨rfl, hb1⟩; have HB1 := Bx.mk (HW.out.trans (hb1.mono HW.out.size)); obtain ⟨x0, x1, x2, x3, x4, x5⟩ := row_six HC.out hb HB1.out hin; obtain ⟨y0, y1, y2, y3, y4, y5⟩ := row_six HC.out hb HB1.out (i := q) (by omega); rw [HX.out] at x0 x1 x2 x3 x4 x5; rw [HY.out] at y0 y1 y2 y3 y4 y5; clear a0 a1 a2 a3 a4 a5 hb1)
        by_cases hkp : k < p
        · have hneg : decide (0 ≤ kc) = false := by
            have h := (HK.out k (by have := HKQ.out; omega) hkp).2
            rw [show k - 1 = q by have := HKQ.out; omega, HX.out, HY.out, hkc] at h
            simp; omega
          have N1 : ∀ d os, Calls Tryd.prog 37 #[PV y, PV x] (Sort.grow (redrawn w1 d) os) fun e w' => e = .returned (.int .i64 kc) ∧ ∃ p : Regrown, w' = Sort.grow (redrawn w1 p.d) p.os :=
            fun d os => Calls.regrown_of (rcmp_any y x kc hkc _)
          unfold PV at N1
          have u0 := cell_regrown x0
          have v0 := cell_regrown y0
          have u1 := cell_regrown x1
          have v1 := cell_regrown y1
          have u2 := cell_regrown x2
          have v2 := cell_regrown y2
          have u3 := cell_regrown x3
          have v3 := cell_regrown y3
          have u4 := cell_regrown x4
          have v4 := cell_regrown y4
          have u5 := cell_regrown x5
          have v5 := cell_regrown y5
          clear x0 x1 x2 x3 x4 x5 y0 y1 y2 y3 y4 y5
          have mixed : Tryd.prog.follows .mixedOrders = true := by kernel_rfl
          refine wp_region_quiet_below mixed (by kernel_rfl) ?_
          repeat (quiet_step (first | exact N1 _ _))
          refine wpQuiet_nil ?_
          intro wq hbq'
          have hbq := below_of_regrown hbq'
          clear hbq'
          go_wp2_with fail
          exact ⟨⟨k, by have := HKQ.out; omega, ⟨k + 1, rfl, by go_num⟩, ⟨HB1.out.trans (hbq.mono HB1.out.size)⟩⟩, by simp [intOf]; omega⟩
        · have hpos : decide (0 ≤ kc) = true := by
            have hkp' : k = p := by have := HKQ.out; omega
            rcases HB.out (by omega) with h | ⟨_, h⟩
            · rw [← hkp', HX.out, hv] at h; cases h
            · rw [← hkp', show k - 1 = q by have := HKQ.out; omega, HX.out, HY.out, hkc] at h
              simpa using h
          have hr0 : r = false := HR.out (by have := HKQ.out; omega)
          subst hr0
          have N1 : ∀ d os, Calls Tryd.prog 37 #[PV y, PV x] (Sort.grow (redrawn w1 d) os) fun e w' => e = .returned (.int .i64 kc) ∧ ∃ p : Regrown, w' = Sort.grow (redrawn w1 p.d) p.os :=
            fun d os => Calls.regrown_of (rcmp_any y x kc hkc _)
          unfold PV at N1
          have u0 := cell_regrown x0
          have v0 := cell_regrown y0
          have u1 := cell_regrown x1
          have v1 := cell_regrown y1
          have u2 := cell_regrown x2
          have v2 := cell_regrown y2
          have u3 := cell_regrown x3
          have v3 := cell_regrown y3
          have u4 := cell_regrown x4
          have v4 := cell_regrown y4
          have u5 := cell_regrown x5
          have v5 := cell_regrown y5
          clear x0 x1 x2 x3 x4 x5 y0 y1 y2 y3 y4 y5
          have mixed : Tryd.prog.follows .mixedOrders = true := by kernel_rfl
          refine wp_region_quiet_below mixed (by kernel_rfl) ?_
          repeat (quiet_step (first | exact N1 _ _))
          refine wpQuiet_nil ?_
          intro wq hbq'
          have hbq := below_of_regrown hbq'
          clear hbq'
          go_wp2_with fail
          go_ret
          exact ⟨rfl, HB1.out.trans (hbq.mono HB1.out.size)⟩
      · have hv' : bdB x 576 = false := by simpa using hv
        have V1 := fun w => rp_valid x w false hv'
        have hkp : ¬ k < p := fun h => by
          have := (HK.out k (by omega) h).1
          rw [hx, hv'] at this; cases this
        have hr0 : r = false := HR.out (by omega)
        subst hr0
        clear hx hy hk
        go_wp2_with (refine (V1 _).mono ?_; rintro e w1 ⟨rfl, hb1⟩; have HB1 := Bx.mk (HW.out.trans (hb1.mono HW.out.size)); clear hb1)
        go_ret
        exact ⟨rfl, HB1.out⟩
    · have hkn : k = n := by omega
      obtain ⟨a0, a1, a2, a3, a4, a5⟩ := row_six HC.out hb HW.out (i := q) (by omega)
      have I1 := HI.out (by omega)
      rw [show n - 1 = q by omega] at I1
      have hw2 : IntKind.i64.wrap ((n : Int) - 1) = (q : Int) := by rw [show (n : Int) - 1 = q by omega]; exact IntWalk.i64_in _ ⟨by omega, by omega⟩
      have hqn : (q : Int) < (n : Int) := by omega
      have hkn' : ¬ (k : Int) < (n : Int) := by omega
      obtain ⟨y, hy⟩ : ∃ y, M q = y := ⟨_, rfl⟩
      rw [hy] at a0 a1 a2 a3 a4 a5 I1
      clear hy hk
      go_wp2_with (refine (I1 _).mono ?_; rintro e w1 ⟨rfl, hb1⟩)
      go_ret
      exact ⟨rfl, HW.out.trans (hb1.mono HW.out.size)⟩
end Go.Proofs.YtomgihlkbmaleaaDoor

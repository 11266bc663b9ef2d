/- The program's scale: Valid. -/
import Derived.Test.YtomgihlkbmaleaaDoorQF
namespace Go.Proofs.YtomgihlkbmaleaaDoor
open Go.RowKit M
/-- a is lower than b. -/
def lwB (a b : Nat → Int) : Bool := decide (cm a b < 0)
theorem lwB_iff {a b : Nat → Int} : lwB a b = true ↔ bdB a 576 = true ∧ bdB b 576 = true ∧ sg (subV a b) < 0 := by
  unfold lwB
  rw [decide_eq_true_eq]
  by_cases h : (bdB a 576 && bdB b 576) = true
  · have h' := h; rw [Bool.and_eq_true] at h'
    rw [cm_ok h'.1 h'.2]; exact ⟨fun k => ⟨h'.1, h'.2, k⟩, fun k => k.2.2⟩
  · unfold cm; rw [if_neg h]
    rw [Bool.and_eq_true] at h
    exact ⟨fun k => by omega, fun k => absurd ⟨k.1, k.2.1⟩ h⟩
/-- A valid scale. -/
structure SV (M : Nat → Nat → Int) (n : Nat) : Prop where
  pos : 0 < n
  le : n ≤ 64
  zero : ∀ j, j < 6 → M 0 j = 0
  up : ∀ i, i < n → lwB (M i) (nx M n i) = true
theorem bool_of (P : Prop) : ∃ b : Bool, b = true ↔ P := by
  by_cases h : P
  · exact ⟨true, by simp [h]⟩
  · exact ⟨false, by simp [h]⟩
theorem und_pitch : Tryd.prog.underlying 23 = some (.array 6 3) := by kernel_rfl
set_option maxRecDepth 100000 in
set_option maxHeartbeats 4000000 in
theorem valid_none (ao : Option Addr) (n c : Nat) (w : World) (hn : n = 0) : Calls Tryd.prog 19 #[.slice ao n c] w fun e w' => e = .returned (.bool false) ∧ Below w.heap.size w w' := by
  subst hn
  go_enter Tryd.func19, Tryd.ntmps19
  go_wp2
  go_region
  all_goals go_wp2
  all_goals go_ret
  all_goals exact ⟨rfl, (Below.refl _ _).drew⟩
set_option maxRecDepth 100000 in
set_option maxHeartbeats 4000000 in
theorem valid_long (ao : Option Addr) (n c : Nat) (w : World) (hn : 64 < n) (hn2 : n ≤ 4611686018427387904) : Calls Tryd.prog 19 #[.slice ao n c] w fun e w' => e = .returned (.bool false) ∧ Below w.heap.size w w' := by
  have h0 : ((n : Int) == 0) = false := by simp; omega
  have h1 : (64 : Int) < (n : Int) := by omega
  go_enter Tryd.func19, Tryd.ntmps19
  go_wp2
  go_region
  all_goals go_wp2
  all_goals go_ret
  all_goals exact ⟨rfl, (Below.refl _ _).drew⟩
set_option maxRecDepth 100000 in
set_option maxHeartbeats 4000000 in
theorem valid_first (ao : Option Addr) (n c : Nat) (M : Nat → Nat → Int) (w : World) (hn0 : 0 < n) (hn : n ≤ 64) (hcn : n ≤ c) (hS : CV w ao n M) (hs : Sm w) (hz : ¬ ∀ j, j < 6 → M 0 j = 0) : Calls Tryd.prog 19 #[.slice ao n c] w fun e w' => e = .returned (.bool false) ∧ Below w.heap.size w w' := by
  obtain ⟨b, o, rfl, hb, hcr⟩ := hS hn0
  obtain ⟨a0, a1, a2, a3, a4, a5⟩ := row_six hcr hb (Below.refl _ _).drew hn0
  obtain ⟨x, hx⟩ : ∃ x, M 0 = x := ⟨_, rfl⟩
  rw [hx] at a0 a1 a2 a3 a4 a5 hz
  have E := eq6_is 23 und_pitch x (fun _ => 0) false (by constructor; (intro h; cases h); exact fun h => absurd h hz)
  unfold PV at E
  have g0 : w.drew.cell? ⟨0, 0, none⟩ = some (.int .i64 0) := hs.u0
  have g1 : w.drew.cell? ⟨0, 1, none⟩ = some (.int .i64 0) := hs.u1
  have g2 : w.drew.cell? ⟨0, 2, none⟩ = some (.int .i64 0) := hs.u2
  have g3 : w.drew.cell? ⟨0, 3, none⟩ = some (.int .i64 0) := hs.u3
  have g4 : w.drew.cell? ⟨0, 4, none⟩ = some (.int .i64 0) := hs.u4
  have g5 : w.drew.cell? ⟨0, 5, none⟩ = some (.int .i64 0) := hs.u5
  have h0 : ((n : Int) == 0) = false := by simp; omega
  have h1 : decide ((64 : Int) < (n : Int)) = false := by simp; omega
  have h2 : (0 : Int) < (n : Int) := by omega
  simp only [Nat.zero_mul, Nat.add_zero] at a0 a1 a2 a3 a4 a5
  clear hcr hS hs hz hx
  go_enter Tryd.func19, Tryd.ntmps19
  go_wp2
  go_region
  all_goals go_wp2
  all_goals go_ret
  all_goals exact ⟨rfl, (Below.refl _ _).drew⟩
theorem first_bad (f : Nat → Bool) : ∀ n, ∃ p, p ≤ n ∧ (∀ j, j < p → f j = true) ∧ (p < n → f p = false)
  | 0 => ⟨0, Nat.le_refl _, fun j hj => by omega, fun h => by omega⟩
  | n + 1 => by
    obtain ⟨p, a, b, c⟩ := first_bad f n
    by_cases e : p < n
    · exact ⟨p, by omega, b, fun _ => c e⟩
    · obtain rfl : p = n := by omega
      cases x : f p with
      | true =>
        refine ⟨p + 1, by omega, fun j hj => ?_, fun h => by omega⟩
        by_cases y : j = p
        · rw [y]; exact x
        · exact b j (by omega)
      | false => exact ⟨p, by omega, b, fun _ => x⟩
set_option maxRecDepth 100000 in
set_option maxHeartbeats 4000000 in
theorem valid_loop (ao : Option Addr) (n c : Nat) (M : Nat → Nat → Int) (w : World) (hn0 : 0 < n) (hn : n ≤ 64) (hcn : n ≤ c) (hS : CV w ao n M) (hs : Sm w) (hz : ∀ j, j < 6 → M 0 j = 0) (p : Nat) (hp : p ≤ n) (hok : ∀ j, j < p → lwB (M j) (nx M n j) = true) (hbad : p < n → lwB (M p) (nx M n p) = false) (r : Bool) (hr : decide (p = n) = r) : Calls Tryd.prog 19 #[.slice ao n c] w fun e w' => e = .returned (.bool r) ∧ Below w.heap.size w w' := by
  have HS := Bx.mk hS
  have HM := Bx.mk hs
  have HK := Bx.mk hok
  have HB := Bx.mk hbad
  have HR := Bx.mk hr
  obtain ⟨b, o, rfl, hb, hcr⟩ := hS hn0
  have HC := Bx.mk hcr
  obtain ⟨a0, a1, a2, a3, a4, a5⟩ := row_six hcr hb (Below.refl _ _).drew hn0
  obtain ⟨x, hx⟩ : ∃ x, M 0 = x := ⟨_, rfl⟩
  rw [hx] at a0 a1 a2 a3 a4 a5
  have E := eq6_is 23 und_pitch x (fun _ => 0) true (by rw [← hx]; exact ⟨fun _ => hz, fun _ => rfl⟩)
  unfold PV at E
  have g0 : w.drew.cell? ⟨0, 0, none⟩ = some (.int .i64 0) := hs.u0
  have g1 : w.drew.cell? ⟨0, 1, none⟩ = some (.int .i64 0) := hs.u1
  have g2 : w.drew.cell? ⟨0, 2, none⟩ = some (.int .i64 0) := hs.u2
  have g3 : w.drew.cell? ⟨0, 3, none⟩ = some (.int .i64 0) := hs.u3
  have g4 : w.drew.cell? ⟨0, 4, none⟩ = some (.int .i64 0) := hs.u4
  have g5 : w.drew.cell? ⟨0, 5, none⟩ = some (.int .i64 0) := hs.u5
  have h0 : ((n : Int) == 0) = false := by simp; omega
  have h1 : decide ((64 : Int) < (n : Int)) = false := by simp; omega
  have h2 : (0 : Int) < (n : Int) := by omega
  simp only [Nat.zero_mul, Nat.add_zero] at a0 a1 a2 a3 a4 a5
  clear hcr hS hs hz hx hok hbad hr
  go_enter Tryd.func19, Tryd.ntmps19
  go_wp2
  go_region
  go_wp2
  clear a0 a1 a2 a3 a4 a5 E g0 g1 g2 g3 g4 g5
  go_loopw [22] (fun ix wr => ∃ i : Nat, i ≤ p ∧ ix = .int .i64 i ∧ Bx (Below w.heap.size w wr)) (fun ix _ => n + 1 - (intOf ix).toNat)
  case atStart => exact ⟨0, by omega, rfl, ⟨(Below.refl _ _).drew⟩⟩
  case round =>
    obtain ⟨i, hi, rfl, HW⟩ := hrel
    by_cases hin : i < n
    · have hin' : (i : Int) < (n : Int) := by omega
      obtain ⟨a0, a1, a2, a3, a4, a5⟩ := row_six HC.out hb HW.out hin
      obtain ⟨x, hx⟩ : ∃ x, M i = x := ⟨_, rfl⟩
      rw [hx] at a0 a1 a2 a3 a4 a5
      have HX := Bx.mk hx
      obtain ⟨y, hy⟩ : ∃ y, nx M n i = y := ⟨_, rfl⟩
      have HY := Bx.mk hy
      clear hx
      go_wp2_with fail
      clear a0 a1 a2 a3 a4 a5
      generalize hW1 : World.alloc wr _ = W1
      have b1 : Below w.heap.size w W1 := hW1 ▸ HW.out.alloc HW.out.size _
      have p1 : ∀ k, k < 6 → W1.cell? ⟨wr.heap.size, k, none⟩ = some (.int .i64 (x k)) := by
        subst hW1
        exact six (by simp) (by simp) (by simp) (by simp) (by simp) (by simp)
      clear hW1
      have k0 := cell_regrown (p1 0 (by omega))
      have k1 := cell_regrown (p1 1 (by omega))
      have k2 := cell_regrown (p1 2 (by omega))
      have k3 := cell_regrown (p1 3 (by omega))
      have k4 := cell_regrown (p1 4 (by omega))
      have k5 := cell_regrown (p1 5 (by omega))
      clear p1
      by_cases hip : i < p
      · have hq := HK.out i hip
        rw [HX.out, HY.out] at hq
        have hq' : lwB x y = true := hq
        have N1 : ∀ d os, Calls Tryd.prog 33 #[.slice (some ⟨b, o, none⟩) n c, .int .i64 i] (Sort.grow (redrawn W1 d) os) fun e w' => e = .returned (PV y) ∧ ∃ p : Regrown, w' = Sort.grow (redrawn W1 p.d) p.os :=
          fun d os => Calls.regrown_of (next_any _ n c i M y hy (by omega) hcn hin _ ((HS.out.keep b1).keep (below_regrown W1 d os)) ((HM.out.keep b1).keep (below_regrown W1 d os)))
        have L1 : ∀ d os, Calls Tryd.prog 24 #[PV x, PV y] (Sort.grow (redrawn W1 d) os) fun e w' => e = .returned (.bool true) ∧ ∃ p : Regrown, w' = Sort.grow (redrawn W1 p.d) p.os :=
          fun d os => Calls.regrown_of (qlow_any x y true hq' _ ((HM.out.keep b1).keep (below_regrown W1 d os)))
        unfold PV at N1 L1
        clear hq hq' hy
        have mixed : Tryd.prog.follows .mixedOrders = true := by kernel_rfl
        refine wp_region_quiet_below mixed (by kernel_rfl) ?_
        repeat (quiet_step (first | exact N1 _ _ | exact L1 _ _))
        refine wpQuiet_nil ?_
        intro wq hbq'
        have hbq := below_of_regrown hbq'
        clear hbq'
        go_wp2_with fail
        have hB2 := Bx.mk (b1.trans (hbq.mono b1.size))
        exact ⟨⟨i + 1, by omega, by go_num, hB2⟩, by simp [intOf]; omega⟩
      · obtain rfl : i = p := by omega
        have hq := HB.out hin
        rw [HX.out, HY.out] at hq
        have hq' : lwB x y = false := hq
        have N1 : ∀ d os, Calls Tryd.prog 33 #[.slice (some ⟨b, o, none⟩) n c, .int .i64 i] (Sort.grow (redrawn W1 d) os) fun e w' => e = .returned (PV y) ∧ ∃ p : Regrown, w' = Sort.grow (redrawn W1 p.d) p.os :=
          fun d os => Calls.regrown_of (next_any _ n c i M y hy (by omega) hcn hin _ ((HS.out.keep b1).keep (below_regrown W1 d os)) ((HM.out.keep b1).keep (below_regrown W1 d os)))
        have L1 : ∀ d os, Calls Tryd.prog 24 #[PV x, PV y] (Sort.grow (redrawn W1 d) os) fun e w' => e = .returned (.bool false) ∧ ∃ p : Regrown, w' = Sort.grow (redrawn W1 p.d) p.os :=
          fun d os => Calls.regrown_of (qlow_any x y false hq' _ ((HM.out.keep b1).keep (below_regrown W1 d os)))
        unfold PV at N1 L1
        clear hq hq' hy
        have mixed : Tryd.prog.follows .mixedOrders = true := by kernel_rfl
        refine wp_region_quiet_below mixed (by kernel_rfl) ?_
        repeat (quiet_step (first | exact N1 _ _ | exact L1 _ _))
        refine wpQuiet_nil ?_
        intro wq hbq'
        have hbq := below_of_regrown hbq'
        clear hbq'
        go_wp2_with fail
        have hr0 : r = false := by rw [← HR.out, decide_eq_false_iff_not]; omega
        subst hr0
        go_ret
        exact ⟨rfl, b1.trans (hbq.mono b1.size)⟩
    · obtain rfl : i = p := by omega
      obtain rfl : i = n := by omega
      have hr0 : r = true := by rw [← HR.out]; simp
      subst hr0
      go_wp2_with fail
      go_ret
      exact ⟨rfl, HW.out⟩
theorem svalid_any (ao : Option Addr) (n c : Nat) (M : Nat → Nat → Int) (hn : n ≤ 4611686018427387904) (hcn : n ≤ c) (r : Bool) (hr : r = true ↔ SV M n) (w : World) (hS : CV w ao n M) (hs : Sm w) : Calls Tryd.prog 19 #[.slice ao n c] w fun e w' => e = .returned (.bool r) ∧ Below w.heap.size w w' := by
  by_cases h0 : n = 0
  · obtain rfl : r = false := by
      cases r with
      | false => rfl
      | true => exact absurd (hr.1 rfl).pos (by omega)
    exact valid_none ao n c w h0
  by_cases h1 : 64 < n
  · obtain rfl : r = false := by
      cases r with
      | false => rfl
      | true => exact absurd (hr.1 rfl).le (by omega)
    exact valid_long ao n c w h1 hn
  by_cases hz : ∀ j, j < 6 → M 0 j = 0
  · obtain ⟨p, hp, hok, hbad⟩ := first_bad (fun i => lwB (M i) (nx M n i)) n
    refine valid_loop ao n c M w (by omega) (by omega) hcn hS hs hz p hp hok hbad r ?_
    by_cases e : p = n
    · subst e
      rw [hr.2 ⟨by omega, by omega, hz, hok⟩]; simp
    · have : r = false := by
        cases r with
        | false => rfl
        | true => have := (hr.1 rfl).up p (by omega); rw [hbad (by omega)] at this; cases this
      rw [this]; simp [e]
  · obtain rfl : r = false := by
      cases r with
      | false => rfl
      | true => exact absurd (hr.1 rfl).zero hz
    exact valid_first ao n c M w (by omega) (by omega) hcn hS hs hz
end Go.Proofs.YtomgihlkbmaleaaDoor

/- ScaleDegrees, walked. -/
import Derived.Test.YtomgihlkbmaleaaDoorRB
import Derived.Test.YtomgihlkbmaleaaDoorQX
namespace Go.Proofs.YtomgihlkbmaleaaDoor
open Go.RowKit M
theorem rvalid_any (ao : Option Addr) (n c : Nat) (M : Nat → Nat → Int) (hn : n ≤ 4611686018427387904) (hcn : n ≤ c) (r : Bool) (hr : r = true ↔ SV M n) (w : World) (hS : CV w ao n M) : Calls Tryd.prog 16 #[.slice ao n c] w fun e w' => e = .returned (.bool r) ∧ Below w.heap.size w w' := by
  have no : ¬ SV M n → r = false := fun h => by
    cases r with
    | false => rfl
    | true => exact absurd (hr.1 rfl) h
  by_cases h0 : n = 0
  · rw [no fun h => absurd h.pos (by omega)]; exact rv_none ao n c w h0
  by_cases h64 : 64 < n
  · rw [no fun h => absurd h.le (by omega)]; exact rv_long ao n c w h64 hn
  by_cases hz : ∀ j, j < 6 → M 0 j = 0
  · have v0 : bdB (M 0) 576 = true := bdB_yes.2 fun i hi => by rw [hz i hi]; omega
    obtain ⟨p, hp, hok, hbad⟩ := first_bad (fun j => bdB (M (j + 1)) 576 && decide (cm (M j) (M (j + 1)) < 0)) (n - 1)
    have hok' : ∀ j, 1 ≤ j → j < p + 1 → bdB (M j) 576 = true ∧ cm (M (j - 1)) (M j) < 0 := fun j h1 h2 => by
      have h := hok (j - 1) (by omega)
      rw [show j - 1 + 1 = j by omega, Bool.and_eq_true, decide_eq_true_eq] at h
      exact h
    have val : ∀ j, j < p + 1 → bdB (M j) 576 = true := fun j hj => by
      rcases Nat.eq_zero_or_pos j with rfl | h
      · exact v0
      · exact (hok' j h hj).1
    have lt : ∀ j, j < p → lwB (M j) (M (j + 1)) = true := fun j hj => by
      have h := (hok' (j + 1) (by omega) (by omega)).2
      rw [show j + 1 - 1 = j by omega] at h
      unfold lwB; exact decide_eq_true h
    by_cases e : p + 1 = n
    · have hge : 0 ≤ cm (M (n - 1)) (fun _ => 0) := by
        rw [cm_ok (val _ (by omega)) u_val]
        have pos : ∀ j, j < p + 1 → 0 ≤ sg (M j) := fun j => by
          induction j with
          | zero => intro _; rw [sg_zero.2 hz]; omega
          | succ j ih =>
            intro hj
            have h1 := ih (by omega)
            have h2 := (lwB_iff.1 (lt j (by omega))).2.2
            rw [show sg (subV (M j) (M (j + 1))) = -sg (subV (M (j + 1)) (M j)) from sg_anti fun i _ => by simp only [subV]; omega] at h2
            exact sg_ge_sum h1 (show 0 ≤ sg (subV (M (j + 1)) (M j)) by omega) fun i _ => by simp only [subV]; omega
        rw [show sg (subV (M (n - 1)) fun _ => 0) = sg (M (n - 1)) from sg_congr fun i _ => by simp [subV]]
        exact pos _ (by omega)
      obtain ⟨b, hb⟩ : ∃ b, decide (cm (M (n - 1)) (oc 1) < 0) = b := ⟨_, rfl⟩
      have hrb : r = b := by
        cases b with
        | false =>
          refine no fun h => ?_
          have := h.up (n - 1) (by omega)
          unfold nx lwB at this
          rw [if_pos (by omega), hb] at this; cases this
        | true =>
          refine hr.2 ⟨by omega, by omega, hz, fun i hi => ?_⟩
          unfold nx
          by_cases e2 : i + 1 = n
          · rw [if_pos e2, show i = n - 1 by omega]; unfold lwB; exact hb
          · rw [if_neg e2]; exact lt i (by omega)
      rw [hrb]
      exact rv_loop ao n c M w (by omega) (by omega) hcn hS hz n (by omega) (Nat.le_refl _) (fun j h1 h2 => hok' j h1 (by omega)) (fun h => by omega) b (fun _ w => rin_ok _ _ _ b hge rfl rfl hb w) (fun h => by omega)
    · have hb := hbad (by omega)
      have hns : ¬ SV M n := fun h => by
        have := h.up p (by omega)
        unfold nx at this
        rw [if_neg e] at this
        obtain ⟨_, h2, _⟩ := lwB_iff.1 this
        unfold lwB at this
        rw [h2, this] at hb; cases hb
      rw [no hns]
      refine rv_loop ao n c M w (by omega) (by omega) hcn hS hz (p + 1) (by omega) (by omega) hok' (fun _ => ?_) false (fun h => by omega) (fun _ => rfl)
      cases hv : bdB (M (p + 1)) 576 with
      | false => exact .inl rfl
      | true =>
        right
        refine ⟨rfl, ?_⟩
        rw [hv, Bool.true_and, decide_eq_false_iff_not] at hb
        rw [show p + 1 - 1 = p by omega]; omega
  · rw [no fun h => hz h.zero]; exact rv_first ao n c M w (by omega) (by omega) hcn hS hz
theorem sv_in1 {M : Nat → Nat → Int} {n : Nat} (h : SV M n) {i : Nat} (hi : i < n) : In1 (M i) := by
  refine ⟨?_, ?_⟩
  · rcases Nat.eq_zero_or_pos i with rfl | h0
    · rw [sg_zero.2 h.zero]; omega
    · have := sv_lt h 0 i h0 hi
      rw [show sg (subV (M 0) (M i)) = -sg (M i) from sg_anti fun j hj => by simp only [subV]; rw [h.zero j hj]; omega] at this
      omega
  · have hl : sg (subV (M (n - 1)) (oc 1)) < 0 := by
      have := h.up (n - 1) (by omega)
      unfold nx at this
      rw [if_pos (by omega)] at this
      exact (lwB_iff.1 this).2.2
    by_cases e : i = n - 1
    · rw [e]; exact hl
    · exact sg_lt_sum (sv_lt h i (n - 1) (by omega) (by omega)) (show sg (subV (M (n - 1)) (oc 1)) ≤ 0 by omega) fun j _ => by simp only [subV]; omega
theorem lwB_sv {M : Nat → Nat → Int} {n : Nat} (h : SV M n) {i j : Nat} (hi : i < n) (hj : j < n) : lwB (M i) (M j) = true ↔ i < j := by
  rw [lwB_iff]
  refine ⟨fun k => ?_, fun k => ⟨sv_val h hi, sv_val h hj, sv_lt h i j k hj⟩⟩
  rcases Nat.lt_trichotomy i j with g | g | g
  · exact g
  · subst g
    have := k.2.2
    rw [sg_zero.2 fun j _ => by simp [subV]] at this; omega
  · exact (sg_asym k.2.2 (sv_lt h j i g hi)).elim
theorem na_at {M : Nat → Nat → Int} {n : Nat} (h : SV M n) {i : Nat} (hi : i < n) : naI M n (M i) = i + 1 := by
  obtain ⟨c, h1, h2, h3, h4⟩ := count_mono (fun j => lwB (M i) (M j)) n (fun a b hab hb k => na_mono h (M i) (sv_val h hi) a b hab hb k)
  unfold naI
  rw [h1]
  have a : i < c := by
    refine Nat.lt_of_not_le fun g => ?_
    have := (lwB_sv h hi (by omega)).1 (h4 (by omega))
    omega
  have b : ¬ i + 1 < c := fun g => by
    have k := h3 (i + 1) g
    rw [(lwB_sv h hi (show i + 1 < n by omega)).2 (by omega)] at k; cases k
  omega
/-- A degree is found again in each octave. -/
theorem deg_at (ao : Option Addr) (n c : Nat) (M : Nat → Nat → Int) (hn : n ≤ 64) (hcn : n ≤ c) (hv : SV M n) (i : Nat) (hi : i < n) (o : Int) (ho : -20 ≤ o ∧ o ≤ 20) (x p : Nat → Int) (hx : M i = x) (hp : p = fun j => if j = 0 then x 0 + 12 * o else x j) (hb : bdB p 576 = true) :
    (∀ w, CV w ao n M → Sm w → Calls Tryd.prog 20 #[.slice ao n c, .agg #[.int .i64 (x 0 + 12 * o), .int .i64 (x 1), .int .i64 (x 2), .int .i64 (x 3), .int .i64 (x 4), .int .i64 (x 5)]] w fun e w' => e = .returned (.tuple #[.int .i64 i, .int .i64 o, .int .i64 0]) ∧ Below w.heap.size w w') ∧ ((∀ w, CV w ao n M → Sm w → Calls Tryd.prog 21 #[.slice ao n c, .agg #[.int .i64 (x 0 + 12 * o), .int .i64 (x 1), .int .i64 (x 2), .int .i64 (x 3), .int .i64 (x 4), .int .i64 (x 5)]] w fun e w' => e = .returned (.tuple #[.int .i64 i, .int .i64 o, .int .i64 0]) ∧ Below w.heap.size w w') ∨ ∀ w, CV w ao n M → Sm w → Calls Tryd.prog 21 #[.slice ao n c, .agg #[.int .i64 (x 0 + 12 * o), .int .i64 (x 1), .int .i64 (x 2), .int .i64 (x 3), .int .i64 (x 4), .int .i64 (x 5)]] w fun e w' => e = .returned (.tuple #[.int .i64 0, .int .i64 0, .int .i64 3]) ∧ Below w.heap.size w w') := by
  have H : Oct p x o := ⟨by rw [← hx]; exact sv_val hv hi, by rw [← hx]; exact sv_in1 hv hi, fun j hj => by
    rw [hp]
    by_cases e : j = 0
    · subst e; simp only [oc, if_pos]; omega
    · simp only [oc, if_neg e]; omega⟩
  have O := oct_is hb H
  have e : PV p = .agg #[.int .i64 (x 0 + 12 * o), .int .i64 (x 1), .int .i64 (x 2), .int .i64 (x 3), .int .i64 (x 4), .int .i64 (x 5)] := by rw [hp]; rfl
  have D := fun w (hS : CV w ao n M) (hs : Sm w) => degree_hit ao n c M p w (by omega) hcn hS hs hv x o i hi (fun j _ => by rw [hx]) (fun k hk g => by
    have h := sv_lt hv k i hk hi
    rw [sg_zero.2 fun j hj => by simp only [subV]; rw [← g j hj, hx]; omega] at h; omega) ⟨O⟩
  rw [e] at D
  refine ⟨D, ?_⟩
  have hq : bdB x 576 = true := by rw [← hx]; exact sv_val hv hi
  have na : naI M n x = i + 1 := by rw [← hx]; exact na_at hv hi
  have hz : bdB (fun _ => 0) 576 = true := u_val
  cases hg : bdB (stp M n i) 576 with
  | true =>
    left
    have N := fun w (hS : CV w ao n M) (hs : Sm w) => nearest_low ao n c M p x (fun _ => 0) (stp M n i) o i w hcn hS hs hv hq na hi ⟨O⟩ (fun j _ => by rw [hx]; omega) (fun j _ => by rw [← hx]; rfl) ⟨hz, hg⟩ (by
      have k := (lwB_iff.1 (hv.up i hi)).2.2
      rw [show sg (subV (M i) (nx M n i)) = -sg (stp M n i) from sg_anti fun j _ => by simp only [subV, stp]; omega] at k
      cases hl : lwB (stp M n i) fun _ => 0 with
      | false => rfl
      | true =>
        have h := (lwB_iff.1 hl).2.2
        rw [show sg (subV (stp M n i) fun _ => 0) = sg (stp M n i) from sg_congr fun j _ => by simp [subV]] at h
        omega)
    rw [e] at N
    exact N
  | false =>
    right
    have N := fun w (hS : CV w ao n M) (hs : Sm w) => nearest_gap ao n c M p x (fun _ => 0) (stp M n i) o i w hcn hS hs hv hq na hi ⟨O⟩ (fun j _ => by rw [hx]; omega) (fun j _ => by rw [← hx]; rfl) (by rw [hg]; simp)
    rw [e] at N
    exact N
set_option maxRecDepth 100000 in
set_option maxHeartbeats 8000000 in
theorem sdeg_n (ao : Option Addr) (n c dg : Nat) (o : Int) (M : Nat → Nat → Int) (w : World) (hs : Sm w) (hn : n ≤ 9223372036854775807) (hS : CV w ao n M) (h : 16 < n) :
    Calls Tryd.prog 7 #[.slice ao n c, .int .u8 (dg : Nat), .int .i64 o] w fun e w' => e = .returned (.bool true) ∧ Below w.heap.size w w' := by
  have d0 : decide ((16 : Int) < (n : Int)) = true := by simp; omega
  have HS := Bx.mk hS
  have S : Bx (SS w w []) := ⟨SS.start w hs⟩
  go_enter Tryd.func7, Tryd.ntmps7
  go_wp2_with fail
  refine (shead_any _ S.out.sm).mono ?_
  rintro e w1 ⟨rfl, hb⟩
  replace S := Bx.mk (S.out.call hb)
  clear hb
  go_wp2_with fail
  go_ret
  exact ⟨rfl, S.out.bl⟩
set_option maxRecDepth 100000 in
set_option maxHeartbeats 8000000 in
theorem sdeg_lo (ao : Option Addr) (n c dg : Nat) (o : Int) (M : Nat → Nat → Int) (w : World) (hs : Sm w) (hn : n ≤ 9223372036854775807) (hS : CV w ao n M) (h : ¬ 16 < n) (h2 : o < -20) :
    Calls Tryd.prog 7 #[.slice ao n c, .int .u8 (dg : Nat), .int .i64 o] w fun e w' => e = .returned (.bool true) ∧ Below w.heap.size w w' := by
  have d1 : decide (o < -20) = true := by simp; omega
  have d0 : decide ((16 : Int) < (n : Int)) = false := by simp; omega
  have HS := Bx.mk hS
  have S : Bx (SS w w []) := ⟨SS.start w hs⟩
  go_enter Tryd.func7, Tryd.ntmps7
  go_wp2_with fail
  refine (shead_any _ S.out.sm).mono ?_
  rintro e w1 ⟨rfl, hb⟩
  replace S := Bx.mk (S.out.call hb)
  clear hb
  go_wp2_with fail
  go_ret
  exact ⟨rfl, S.out.bl⟩
set_option maxRecDepth 100000 in
set_option maxHeartbeats 8000000 in
theorem sdeg_hi (ao : Option Addr) (n c dg : Nat) (o : Int) (M : Nat → Nat → Int) (w : World) (hs : Sm w) (hn : n ≤ 9223372036854775807) (hS : CV w ao n M) (h : ¬ 16 < n) (h2 : ¬ o < -20) (h3 : 20 < o) :
    Calls Tryd.prog 7 #[.slice ao n c, .int .u8 (dg : Nat), .int .i64 o] w fun e w' => e = .returned (.bool true) ∧ Below w.heap.size w w' := by
  have d2 : decide (20 < o) = true := by simp; omega
  have d1 : decide (o < -20) = false := by simp; omega
  have d0 : decide ((16 : Int) < (n : Int)) = false := by simp; omega
  have HS := Bx.mk hS
  have S : Bx (SS w w []) := ⟨SS.start w hs⟩
  go_enter Tryd.func7, Tryd.ntmps7
  go_wp2_with fail
  refine (shead_any _ S.out.sm).mono ?_
  rintro e w1 ⟨rfl, hb⟩
  replace S := Bx.mk (S.out.call hb)
  clear hb
  go_wp2_with fail
  go_ret
  exact ⟨rfl, S.out.bl⟩
set_option maxRecDepth 100000 in
set_option maxHeartbeats 8000000 in
theorem sdeg_nv (ao : Option Addr) (n c dg : Nat) (o : Int) (M : Nat → Nat → Int) (w : World) (hs : Sm w) (hn : n ≤ 9223372036854775807) (hS : CV w ao n M) (h : ¬ 16 < n) (h2 : ¬ o < -20) (h3 : ¬ 20 < o) (H1 : Hx (∀ w, CV w ao n M → Calls Tryd.prog 16 #[.slice ao n c] w fun e w' => e = .returned (.bool false) ∧ Below w.heap.size w w')) :
    Calls Tryd.prog 7 #[.slice ao n c, .int .u8 (dg : Nat), .int .i64 o] w fun e w' => e = .returned (.bool true) ∧ Below w.heap.size w w' := by
  have d2 : decide (20 < o) = false := by simp; omega
  have d1 : decide (o < -20) = false := by simp; omega
  have d0 : decide ((16 : Int) < (n : Int)) = false := by simp; omega
  have HS := Bx.mk hS
  have S : Bx (SS w w []) := ⟨SS.start w hs⟩
  go_enter Tryd.func7, Tryd.ntmps7
  go_wp2_with fail
  refine (shead_any _ S.out.sm).mono ?_
  rintro e w1 ⟨rfl, hb⟩
  replace S := Bx.mk (S.out.call hb)
  clear hb
  go_wp2_with fail
  refine (H1.out _ (HS.out.keep S.out.bl)).mono ?_
  rintro e w2 ⟨rfl, hb⟩
  replace S := Bx.mk (S.out.call hb)
  clear hb
  go_wp2_with fail
  go_ret
  exact ⟨rfl, S.out.bl⟩
set_option maxRecDepth 100000 in
set_option maxHeartbeats 8000000 in
theorem sdeg_pv (ao : Option Addr) (n c dg : Nat) (o : Int) (M : Nat → Nat → Int) (w : World) (hs : Sm w) (hn : n ≤ 9223372036854775807) (hS : CV w ao n M) (h : ¬ 16 < n) (h2 : ¬ o < -20) (h3 : ¬ 20 < o) (H1 : Hx (∀ w, CV w ao n M → Calls Tryd.prog 16 #[.slice ao n c] w fun e w' => e = .returned (.bool true) ∧ Below w.heap.size w w')) (hn0 : 0 < n) (i : Nat) (hi : i < n) (hd : dg ≤ 255) (hrem : (dg : Int) % (n : Int) = (i : Int)) (x : Nat → Int) (hx : M i = x) (x0 : -576 ≤ x 0) (x1 : x 0 ≤ 576) (V1 : Hx (∀ w, Calls Tryd.prog 11 #[.agg #[.int .i64 (x 0 + 12 * o), .int .i64 (x 1), .int .i64 (x 2), .int .i64 (x 3), .int .i64 (x 4), .int .i64 (x 5)]] w fun e w' => e = .returned (.bool false) ∧ Below w.heap.size w w')) :
    Calls Tryd.prog 7 #[.slice ao n c, .int .u8 (dg : Nat), .int .i64 o] w fun e w' => e = .returned (.bool true) ∧ Below w.heap.size w w' := by
  have d2 : decide (20 < o) = false := by simp; omega
  have d1 : decide (o < -20) = false := by simp; omega
  have d0 : decide ((16 : Int) < (n : Int)) = false := by simp; omega
  have HS := Bx.mk hS
  have S : Bx (SS w w []) := ⟨SS.start w hs⟩
  go_enter Tryd.func7, Tryd.ntmps7
  go_wp2_with fail
  refine (shead_any _ S.out.sm).mono ?_
  rintro e w1 ⟨rfl, hb⟩
  replace S := Bx.mk (S.out.call hb)
  clear hb
  go_wp2_with fail
  refine (H1.out _ (HS.out.keep S.out.bl)).mono ?_
  rintro e w2 ⟨rfl, hb⟩
  replace S := Bx.mk (S.out.call hb)
  clear hb
  obtain ⟨b, ob, rfl, hb, hcr⟩ := HS.out hn0
  obtain ⟨a0, a1, a2, a3, a4, a5⟩ := row_six hcr hb S.out.bl hi
  rw [hx] at a0 a1 a2 a3 a4 a5
  have hin' : (i : Int) < (n : Int) := by omega
  have hn1 : ((n : Int) == 0) = false := by simp; omega
  have HX := Bx.mk hx
  clear hx hcr
  go_wp2_with fail
  clear a0 a1 a2 a3 a4 a5
  replace S := Bx.mk (S.out.push #[.int .i64 (x 0 + 12 * o), .int .i64 (x 1), .int .i64 (x 2), .int .i64 (x 3), .int .i64 (x 4), .int .i64 (x 5)] 23)
  refine (V1.out _).mono ?_
  rintro e w3 ⟨rfl, hb⟩
  replace S := Bx.mk (S.out.call hb)
  clear hb
  go_wp2_with fail
  go_ret
  exact ⟨rfl, S.out.bl⟩
set_option maxRecDepth 100000 in
set_option maxHeartbeats 8000000 in
theorem sdeg_ok (ao : Option Addr) (n c dg : Nat) (o : Int) (M : Nat → Nat → Int) (w : World) (hs : Sm w) (hn : n ≤ 9223372036854775807) (hS : CV w ao n M) (h : ¬ 16 < n) (h2 : ¬ o < -20) (h3 : ¬ 20 < o) (H1 : Hx (∀ w, CV w ao n M → Calls Tryd.prog 16 #[.slice ao n c] w fun e w' => e = .returned (.bool true) ∧ Below w.heap.size w w')) (hn0 : 0 < n) (i : Nat) (hi : i < n) (hd : dg ≤ 255) (hrem : (dg : Int) % (n : Int) = (i : Int)) (x : Nat → Int) (hx : M i = x) (x0 : -576 ≤ x 0) (x1 : x 0 ≤ 576) (V1 : Hx (∀ w, Calls Tryd.prog 11 #[.agg #[.int .i64 (x 0 + 12 * o), .int .i64 (x 1), .int .i64 (x 2), .int .i64 (x 3), .int .i64 (x 4), .int .i64 (x 5)]] w fun e w' => e = .returned (.bool true) ∧ Below w.heap.size w w')) (D1 : Hx (∀ w, CV w ao n M → Sm w → Calls Tryd.prog 20 #[.slice ao n c, .agg #[.int .i64 (x 0 + 12 * o), .int .i64 (x 1), .int .i64 (x 2), .int .i64 (x 3), .int .i64 (x 4), .int .i64 (x 5)]] w fun e w' => e = .returned (.tuple #[.int .i64 i, .int .i64 o, .int .i64 0]) ∧ Below w.heap.size w w')) (N1 : Hx (∀ w, CV w ao n M → Sm w → Calls Tryd.prog 21 #[.slice ao n c, .agg #[.int .i64 (x 0 + 12 * o), .int .i64 (x 1), .int .i64 (x 2), .int .i64 (x 3), .int .i64 (x 4), .int .i64 (x 5)]] w fun e w' => e = .returned (.tuple #[.int .i64 i, .int .i64 o, .int .i64 0]) ∧ Below w.heap.size w w')) :
    Calls Tryd.prog 7 #[.slice ao n c, .int .u8 (dg : Nat), .int .i64 o] w fun e w' => e = .returned (.bool true) ∧ Below w.heap.size w w' := by
  have d2 : decide (20 < o) = false := by simp; omega
  have d1 : decide (o < -20) = false := by simp; omega
  have d0 : decide ((16 : Int) < (n : Int)) = false := by simp; omega
  have HS := Bx.mk hS
  have S : Bx (SS w w []) := ⟨SS.start w hs⟩
  go_enter Tryd.func7, Tryd.ntmps7
  go_wp2_with fail
  refine (shead_any _ S.out.sm).mono ?_
  rintro e w1 ⟨rfl, hb⟩
  replace S := Bx.mk (S.out.call hb)
  clear hb
  go_wp2_with fail
  refine (H1.out _ (HS.out.keep S.out.bl)).mono ?_
  rintro e w2 ⟨rfl, hb⟩
  replace S := Bx.mk (S.out.call hb)
  clear hb
  obtain ⟨b, ob, rfl, hb, hcr⟩ := HS.out hn0
  obtain ⟨a0, a1, a2, a3, a4, a5⟩ := row_six hcr hb S.out.bl hi
  rw [hx] at a0 a1 a2 a3 a4 a5
  have hin' : (i : Int) < (n : Int) := by omega
  have hn1 : ((n : Int) == 0) = false := by simp; omega
  have HX := Bx.mk hx
  clear hx hcr
  go_wp2_with fail
  clear a0 a1 a2 a3 a4 a5
  replace S := Bx.mk (S.out.push #[.int .i64 (x 0 + 12 * o), .int .i64 (x 1), .int .i64 (x 2), .int .i64 (x 3), .int .i64 (x 4), .int .i64 (x 5)] 23)
  refine (V1.out _).mono ?_
  rintro e w3 ⟨rfl, hb⟩
  replace S := Bx.mk (S.out.call hb)
  clear hb
  obtain ⟨c0_0, c0_1, c0_2, c0_3, c0_4, c0_5, z0⟩ := S.out.six w2.heap.size 23 (.int .i64 (x 0 + 12 * o)) (.int .i64 (x 1)) (.int .i64 (x 2)) (.int .i64 (x 3)) (.int .i64 (x 4)) (.int .i64 (x 5)) List.mem_cons_self
  go_wp2_with fail
  refine (D1.out _ (HS.out.keep S.out.bl) S.out.sm).mono ?_
  rintro e w4 ⟨rfl, hb⟩
  replace S := Bx.mk (S.out.call hb)
  clear hb
  clear c0_0 c0_1 c0_2 c0_3 c0_4 c0_5 z0
  obtain ⟨c0_0, c0_1, c0_2, c0_3, c0_4, c0_5, z0⟩ := S.out.six w2.heap.size 23 (.int .i64 (x 0 + 12 * o)) (.int .i64 (x 1)) (.int .i64 (x 2)) (.int .i64 (x 3)) (.int .i64 (x 4)) (.int .i64 (x 5)) List.mem_cons_self
  go_wp2_with fail
  refine (N1.out _ (HS.out.keep S.out.bl) S.out.sm).mono ?_
  rintro e w5 ⟨rfl, hb⟩
  replace S := Bx.mk (S.out.call hb)
  clear hb
  clear c0_0 c0_1 c0_2 c0_3 c0_4 c0_5 z0
  go_wp2_with fail
  go_ret
  exact ⟨rfl, S.out.bl⟩
set_option maxRecDepth 100000 in
set_option maxHeartbeats 8000000 in
theorem sdeg_gap (ao : Option Addr) (n c dg : Nat) (o : Int) (M : Nat → Nat → Int) (w : World) (hs : Sm w) (hn : n ≤ 9223372036854775807) (hS : CV w ao n M) (h : ¬ 16 < n) (h2 : ¬ o < -20) (h3 : ¬ 20 < o) (H1 : Hx (∀ w, CV w ao n M → Calls Tryd.prog 16 #[.slice ao n c] w fun e w' => e = .returned (.bool true) ∧ Below w.heap.size w w')) (hn0 : 0 < n) (i : Nat) (hi : i < n) (hd : dg ≤ 255) (hrem : (dg : Int) % (n : Int) = (i : Int)) (x : Nat → Int) (hx : M i = x) (x0 : -576 ≤ x 0) (x1 : x 0 ≤ 576) (V1 : Hx (∀ w, Calls Tryd.prog 11 #[.agg #[.int .i64 (x 0 + 12 * o), .int .i64 (x 1), .int .i64 (x 2), .int .i64 (x 3), .int .i64 (x 4), .int .i64 (x 5)]] w fun e w' => e = .returned (.bool true) ∧ Below w.heap.size w w')) (D1 : Hx (∀ w, CV w ao n M → Sm w → Calls Tryd.prog 20 #[.slice ao n c, .agg #[.int .i64 (x 0 + 12 * o), .int .i64 (x 1), .int .i64 (x 2), .int .i64 (x 3), .int .i64 (x 4), .int .i64 (x 5)]] w fun e w' => e = .returned (.tuple #[.int .i64 i, .int .i64 o, .int .i64 0]) ∧ Below w.heap.size w w')) (N1 : Hx (∀ w, CV w ao n M → Sm w → Calls Tryd.prog 21 #[.slice ao n c, .agg #[.int .i64 (x 0 + 12 * o), .int .i64 (x 1), .int .i64 (x 2), .int .i64 (x 3), .int .i64 (x 4), .int .i64 (x 5)]] w fun e w' => e = .returned (.tuple #[.int .i64 0, .int .i64 0, .int .i64 3]) ∧ Below w.heap.size w w')) :
    Calls Tryd.prog 7 #[.slice ao n c, .int .u8 (dg : Nat), .int .i64 o] w fun e w' => e = .returned (.bool true) ∧ Below w.heap.size w w' := by
  have d2 : decide (20 < o) = false := by simp; omega
  have d1 : decide (o < -20) = false := by simp; omega
  have d0 : decide ((16 : Int) < (n : Int)) = false := by simp; omega
  have HS := Bx.mk hS
  have S : Bx (SS w w []) := ⟨SS.start w hs⟩
  go_enter Tryd.func7, Tryd.ntmps7
  go_wp2_with fail
  refine (shead_any _ S.out.sm).mono ?_
  rintro e w1 ⟨rfl, hb⟩
  replace S := Bx.mk (S.out.call hb)
  clear hb
  go_wp2_with fail
  refine (H1.out _ (HS.out.keep S.out.bl)).mono ?_
  rintro e w2 ⟨rfl, hb⟩
  replace S := Bx.mk (S.out.call hb)
  clear hb
  obtain ⟨b, ob, rfl, hb, hcr⟩ := HS.out hn0
  obtain ⟨a0, a1, a2, a3, a4, a5⟩ := row_six hcr hb S.out.bl hi
  rw [hx] at a0 a1 a2 a3 a4 a5
  have hin' : (i : Int) < (n : Int) := by omega
  have hn1 : ((n : Int) == 0) = false := by simp; omega
  have HX := Bx.mk hx
  clear hx hcr
  go_wp2_with fail
  clear a0 a1 a2 a3 a4 a5
  replace S := Bx.mk (S.out.push #[.int .i64 (x 0 + 12 * o), .int .i64 (x 1), .int .i64 (x 2), .int .i64 (x 3), .int .i64 (x 4), .int .i64 (x 5)] 23)
  refine (V1.out _).mono ?_
  rintro e w3 ⟨rfl, hb⟩
  replace S := Bx.mk (S.out.call hb)
  clear hb
  obtain ⟨c0_0, c0_1, c0_2, c0_3, c0_4, c0_5, z0⟩ := S.out.six w2.heap.size 23 (.int .i64 (x 0 + 12 * o)) (.int .i64 (x 1)) (.int .i64 (x 2)) (.int .i64 (x 3)) (.int .i64 (x 4)) (.int .i64 (x 5)) List.mem_cons_self
  go_wp2_with fail
  refine (D1.out _ (HS.out.keep S.out.bl) S.out.sm).mono ?_
  rintro e w4 ⟨rfl, hb⟩
  replace S := Bx.mk (S.out.call hb)
  clear hb
  clear c0_0 c0_1 c0_2 c0_3 c0_4 c0_5 z0
  obtain ⟨c0_0, c0_1, c0_2, c0_3, c0_4, c0_5, z0⟩ := S.out.six w2.heap.size 23 (.int .i64 (x 0 + 12 * o)) (.int .i64 (x 1)) (.int .i64 (x 2)) (.int .i64 (x 3)) (.int .i64 (x 4)) (.int .i64 (x 5)) List.mem_cons_self
  go_wp2_with fail
  refine (N1.out _ (HS.out.keep S.out.bl) S.out.sm).mono ?_
  rintro e w5 ⟨rfl, hb⟩
  replace S := Bx.mk (S.out.call hb)
  clear hb
  clear c0_0 c0_1 c0_2 c0_3 c0_4 c0_5 z0
  go_wp2_with fail
  go_ret
  exact ⟨rfl, S.out.bl⟩
theorem sdegrees_all (ao : Option Addr) (n c dg : Nat) (o : Int) (M : Nat → Nat → Int) (w : World) (hs : Sm w) (hn : n ≤ 9223372036854775807) (hcn : n ≤ c) (hd : dg ≤ 255) (hS : CV w ao n M) :
    Calls Tryd.prog 7 #[.slice ao n c, .int .u8 (dg : Nat), .int .i64 o] w fun e w' => e = .returned (.bool true) ∧ Below w.heap.size w w' := by
  by_cases h : 16 < n
  · exact sdeg_n ao n c dg o M w hs hn hS h
  by_cases h2 : o < -20
  · exact sdeg_lo ao n c dg o M w hs hn hS h h2
  by_cases h3 : 20 < o
  · exact sdeg_hi ao n c dg o M w hs hn hS h h2 h3
  obtain ⟨r, hr⟩ := bool_of (SV M n)
  cases r with
  | false => exact sdeg_nv ao n c dg o M w hs hn hS h h2 h3 ⟨fun w hS => rvalid_any ao n c M (by omega) hcn false hr w hS⟩
  | true =>
    have hv := hr.1 rfl
    have hi : dg % n < n := Nat.mod_lt _ hv.pos
    have b := bdB_yes.1 (sv_val hv hi) 0 (by omega)
    obtain ⟨p, hp⟩ : ∃ p : Nat → Int, p = fun j => if j = 0 then M (dg % n) 0 + 12 * o else M (dg % n) j := ⟨_, rfl⟩
    have V := fun w => pvalid_any p w _ rfl
    rw [show PV p = .agg #[.int .i64 ((M (dg % n)) 0 + 12 * o), .int .i64 ((M (dg % n)) 1), .int .i64 ((M (dg % n)) 2), .int .i64 ((M (dg % n)) 3), .int .i64 ((M (dg % n)) 4), .int .i64 ((M (dg % n)) 5)] by rw [hp]; rfl] at V
    cases hb : bdB p 576 with
    | false =>
      rw [hb] at V
      exact sdeg_pv ao n c dg o M w hs hn hS h h2 h3 ⟨fun w hS => rvalid_any ao n c M (by omega) hcn true hr w hS⟩ hv.pos _ hi hd (by omega) _ rfl b.1 b.2 ⟨V⟩
    | true =>
      rw [hb] at V
      obtain ⟨D, N⟩ := deg_at ao n c M (by omega) hcn hv _ hi o ⟨by omega, by omega⟩ _ p rfl hp hb
      rcases N with N | N
      · exact sdeg_ok ao n c dg o M w hs hn hS h h2 h3 ⟨fun w hS => rvalid_any ao n c M (by omega) hcn true hr w hS⟩ hv.pos _ hi hd (by omega) _ rfl b.1 b.2 ⟨V⟩ ⟨D⟩ ⟨N⟩
      · exact sdeg_gap ao n c dg o M w hs hn hS h h2 h3 ⟨fun w hS => rvalid_any ao n c M (by omega) hcn true hr w hS⟩ hv.pos _ hi hd (by omega) _ rfl b.1 b.2 ⟨V⟩ ⟨D⟩ ⟨N⟩
end Go.Proofs.YtomgihlkbmaleaaDoor

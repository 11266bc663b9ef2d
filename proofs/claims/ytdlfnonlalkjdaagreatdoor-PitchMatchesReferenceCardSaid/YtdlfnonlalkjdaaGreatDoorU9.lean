/- the reference's Text of pitches. -/
import Derived.Test.YtdlfnonlalkjdaaGreatDoorU8
namespace Go.Proofs.YtdlfnonlalkjdaaGreatDoor
open Go.RowKit M
/-- The terms of the first n primes, joined. -/
def jn (v : Nat → Int) (n : Nat) : List UInt8 := Lib.join (termsL v (ixs v n)) [42]
theorem jn_skip {v : Nat → Int} {n : Nat} (h : v n = 0) : jn v (n + 1) = jn v n := by unfold jn; rw [ixs_skip h]
theorem join_snoc : ∀ (l : List (List UInt8)) (x : List UInt8), l ≠ [] → Lib.join (l ++ [x]) [42] = Lib.join l [42] ++ 42 :: x
  | [], _, h => absurd rfl h
  | y :: r, x, _ => by
    rw [List.cons_append, Lib.join_cons, Lib.join_cons]
    simp [Lib.joinTail]
theorem jn_first {v : Nat → Int} {n : Nat} (h : ixs v n = []) (hn : n < 6) (hv : v n ≠ 0) : jn v (n + 1) = termL (pr n) (v n) := by
  unfold jn; rw [ixs_take ⟨hn, hv⟩, h]; simp [termsL, Lib.join, List.intercalate]
theorem jn_next {v : Nat → Int} {n : Nat} (h : ixs v n ≠ []) (hn : n < 6) (hv : v n ≠ 0) : jn v (n + 1) = jn v n ++ 42 :: termL (pr n) (v n) := by
  unfold jn
  rw [ixs_take ⟨hn, hv⟩]
  have : termsL v (ixs v n ++ [⟨n, hn, hv⟩]) = termsL v (ixs v n) ++ [termL (pr n) (v n)] := by simp [termsL]
  rw [this, join_snoc _ _ (fun e => h (terms_nil.1 e))]
theorem jn_nil {v : Nat → Int} {n : Nat} (h : ixs v n = []) : jn v n = [] := by unfold jn; rw [h]; rfl
theorem termL_pos (p : Nat) (e : Int) : 0 < (termL p e).length := by
  unfold termL
  rw [List.length_append]
  have : Lib.itoa (p : Int) ≠ [] := by rw [itoa_nat]; exact decDigits_ne p
  have := List.length_pos_iff.2 this
  omega
theorem jn_pos {v : Nat → Int} {n : Nat} (h : ixs v n ≠ []) : 0 < (jn v n).length := by
  unfold jn
  cases hl : ixs v n with
  | nil => exact absurd hl h
  | cons x l =>
    have : termsL v (x :: l) = termL (pr x.i) (v x.i) :: termsL v l := rfl
    rw [this, Lib.join_cons, List.length_append]
    have := termL_pos (pr x.i) (v x.i)
    omega
theorem pr13 (i : Nat) : pr i ≤ 13 := by
  unfold pr
  repeat' split
  all_goals omega
theorem jn_len {v : Nat → Int} (hv : ∀ i, i < 6 → -576 ≤ v i ∧ v i ≤ 576) : ∀ n, n ≤ 6 → (jn v n).length ≤ 41 * n
  | 0, _ => by simp [jn, ixs, termsL, Lib.join, List.intercalate]
  | n + 1, h => by
    have ih := jn_len hv n (by omega)
    by_cases h0 : v n = 0
    · rw [jn_skip h0]; omega
    · have ht := termL_len (pr n) (v n) (pr13 n) (hv n (by omega)).1 (hv n (by omega)).2
      by_cases hi : ixs v n = []
      · rw [jn_first hi (by omega) h0]; omega
      · rw [jn_next hi (by omega) h0, List.length_append, List.length_cons]; omega
set_option maxHeartbeats 4000000 in
theorem refTextF_ok (v : Nat → Int) (w : World) (h : bdB v 576 = true) :
    Calls Tryz.prog 27 #[PV v] w fun e w' => e = .returned (.tuple #[.string (strL (textL v)), .int .i64 0]) ∧ Below w.heap.size w w' := by
  have H1 := Hx.mk (fun w => refValid_any v w true h)
  have HV := Hx.mk (bdB_yes.1 h)
  clear h
  go_enter Tryz.func27, Tryz.ntmps27
  go_wp2_with fail
  refine (H1.out _).mono ?_
  rintro e w1 ⟨rfl, hb⟩
  obtain ⟨hc1, hf1⟩ := bcell hb
  have hz1 := hb.size
  (try simp at hz1)
  have hB : Hx (Below w.heap.size w w1) := ⟨Below.trans (by repeat (first | with_reducible exact hB.out | with_reducible exact Below.refl _ _ | (with_reducible refine Below.setCell ?_ ?side _; case side => (first | omega | (simp <;> omega))) | (with_reducible refine Below.alloc ?_ ?side _; case side => (first | omega | (simp <;> omega))) | with_reducible apply below_drewN)) (hb.mono (by first | omega | (simp <;> omega)))⟩
  clear hb
  have hy1_0 : w.heap.size < w1.heap.size := by omega
  have HC : Hx (Cel (w.heap.size) w1 (v)) := by refine ⟨⟨six ?_ ?_ ?_ ?_ ?_ ?_, six ?_ ?_ ?_ ?_ ?_ ?_⟩⟩ <;> simp [go_sem, hc1, hf1]
  clear hc1 hf1
  go_wp2_with fail
  go_loopw [5, 6] (fun sv iv wr => ∃ k : Int, 0 ≤ k ∧ k ≤ 6 ∧ iv = .int .i64 k ∧ sv = .string (strL (jn v k.toNat)) ∧ Hx (Cel w.heap.size wr v) ∧ Hx (Below w.heap.size w wr) ∧ w.heap.size < wr.heap.size) (fun _ iv _ => 6 - (intOf iv).toNat)
  case atStart => exact ⟨0, by omega, by omega, rfl, rfl, HC, hB, by omega⟩
  case round =>
    clear HC hB
    obtain ⟨k, hk0, hk, rfl, rfl, HC, hB, hsz⟩ := hrel
    have : k = 0 ∨ k = 1 ∨ k = 2 ∨ k = 3 ∨ k = 4 ∨ k = 5 ∨ k = 6 := by omega
    rcases this with rfl | rfl | rfl | rfl | rfl | rfl | rfl
    · have cHC := HC.out.cell 0 (by omega)
      have hb := HV.out 0 (by omega)
      have hl : (strL (jn v 0)).size ≤ 246 := by rw [strL_len]; have := jn_len HV.out 0 (by omega); omega
      by_cases h0 : v 0 = 0
      · have hj := jn_skip (n := 0) h0
        rw [h0] at cHC
        have HJ := Hx.mk hj
        clear hj h0 hb
        go_wp2
        go_roundw
        case rel => exact ⟨1, by omega, by omega, rfl, by rw [show (((1 : Int)).toNat) = 0 + 1 from rfl, HJ.out]; rfl, HC, hB, hsz⟩
        case measure => simp [intOf]
      · have HTM0 := Hx.mk (fun w => refTerm_any 2 (v 0) w (by omega) hb.1 hb.2 h0)
        have ht : (strL (termL 2 (v 0))).size ≤ 40 := by rw [strL_len]; exact termL_len _ _ (by omega) hb.1 hb.2
        obtain ⟨T, hT⟩ : ∃ T, strL (termL 2 (v 0)) = T := ⟨_, rfl⟩
        rw [hT] at HTM0 ht
        obtain ⟨x, hx⟩ : ∃ x, v 0 = x := ⟨_, rfl⟩
        have hz : (x == 0) = false := beq_eq_false_iff_ne.2 (by omega)
        have hzn : (x != 0) = true := by rw [bne_iff_ne]; omega
        have HTM : Hx (∀ w, Calls Tryz.prog 42 #[.int .i64 2, .int .i64 x] w fun e' w' => e' = .returned (.string T) ∧ Below w.heap.size w w') := by rw [← hx]; exact HTM0
        rw [hx] at cHC hb
        clear HTM0
        by_cases hi : ixs v 0 = []
        · have hj := jn_nil hi
          have HJ : Hx (strL (jn v 0) ++ T = strL (jn v 1)) := ⟨by rw [hj, jn_first hi (by omega) h0, ← hT, strL_append]; rfl⟩
          have hS0 : (strL (jn v 0)).size = 0 := by rw [hj]; rfl
          clear hi hj h0 hT hx
          obtain ⟨S, hS⟩ : ∃ S, strL (jn v 0) = S := ⟨_, rfl⟩
          rw [show jn v ((0 : Int).toNat) = jn v 0 from rfl, hS]
          rw [hS] at HJ hS0 hl
          have hS1 : (S.size : Int) = 0 := by omega
          have y1 : ¬ 9223372036854775807 < S.size + T.size := by omega
          clear hS
          go_wp2_with fail
          go_region_with (first
            | (go_at_call 39; (with_reducible refine (refPrime_0 _).mono ?_); rintro e w2 ⟨rfl, rfl⟩)
            | (go_at_call 42; (with_reducible refine (HTM.out _).mono ?_); rintro e w3 ⟨rfl, hb3⟩; have HB3 : Hx (Below wr.heap.size wr w3) := ⟨((Below.refl _ _).drew).trans (hb3.mono (Nat.le_refl _))⟩; clear hb3))
          all_goals
            go_wp2
            go_roundw
            case rel => exact ⟨1, by omega, by omega, rfl, congrArg Value.string HJ.out, ⟨HC.out.later HB3.out hsz⟩, ⟨hB.out.trans (HB3.out.mono hB.out.size)⟩, Nat.lt_of_lt_of_le hsz HB3.out.size⟩
            case measure => simp [intOf]
        · have hj := jn_pos hi
          have HJ : Hx (strL (jn v 0) ++ strL [42] ++ T = strL (jn v 1)) := ⟨by rw [jn_next hi (by omega) h0, ← hT, strL_append, strL_append, List.append_assoc]; rfl⟩
          have hS0 : 0 < (strL (jn v 0)).size := by rw [strL_len]; exact hj
          clear hi hj h0 hT hx
          obtain ⟨S, hS⟩ : ∃ S, strL (jn v 0) = S := ⟨_, rfl⟩
          rw [show jn v ((0 : Int).toNat) = jn v 0 from rfl, hS]
          rw [hS] at HJ hS0 hl
          have hS1 : (0 : Int) < (S.size : Int) := by omega
          have y0 : ¬ 9223372036854775807 < S.size + 1 := by omega
          have y1 : ¬ 9223372036854775807 < S.size + 1 + T.size := by omega
          clear hS
          go_wp2_with fail
          go_region_with (first
            | (go_at_call 39; (with_reducible refine (refPrime_0 _).mono ?_); rintro e w2 ⟨rfl, rfl⟩)
            | (go_at_call 42; (with_reducible refine (HTM.out _).mono ?_); rintro e w3 ⟨rfl, hb3⟩; have HB3 : Hx (Below wr.heap.size wr w3) := ⟨((Below.refl _ _).drew).trans (hb3.mono (Nat.le_refl _))⟩; clear hb3))
          all_goals
            go_wp2
            go_roundw
            case rel => exact ⟨1, by omega, by omega, rfl, congrArg Value.string HJ.out, ⟨HC.out.later HB3.out hsz⟩, ⟨hB.out.trans (HB3.out.mono hB.out.size)⟩, Nat.lt_of_lt_of_le hsz HB3.out.size⟩
            case measure => simp [intOf]
    · have cHC := HC.out.cell 1 (by omega)
      have hb := HV.out 1 (by omega)
      have hl : (strL (jn v 1)).size ≤ 246 := by rw [strL_len]; have := jn_len HV.out 1 (by omega); omega
      by_cases h0 : v 1 = 0
      · have hj := jn_skip (n := 1) h0
        rw [h0] at cHC
        have HJ := Hx.mk hj
        clear hj h0 hb
        go_wp2
        go_roundw
        case rel => exact ⟨2, by omega, by omega, rfl, by rw [show (((2 : Int)).toNat) = 1 + 1 from rfl, HJ.out]; rfl, HC, hB, hsz⟩
        case measure => simp [intOf]
      · have HTM0 := Hx.mk (fun w => refTerm_any 3 (v 1) w (by omega) hb.1 hb.2 h0)
        have ht : (strL (termL 3 (v 1))).size ≤ 40 := by rw [strL_len]; exact termL_len _ _ (by omega) hb.1 hb.2
        obtain ⟨T, hT⟩ : ∃ T, strL (termL 3 (v 1)) = T := ⟨_, rfl⟩
        rw [hT] at HTM0 ht
        obtain ⟨x, hx⟩ : ∃ x, v 1 = x := ⟨_, rfl⟩
        have hz : (x == 0) = false := beq_eq_false_iff_ne.2 (by omega)
        have hzn : (x != 0) = true := by rw [bne_iff_ne]; omega
        have HTM : Hx (∀ w, Calls Tryz.prog 42 #[.int .i64 3, .int .i64 x] w fun e' w' => e' = .returned (.string T) ∧ Below w.heap.size w w') := by rw [← hx]; exact HTM0
        rw [hx] at cHC hb
        clear HTM0
        by_cases hi : ixs v 1 = []
        · have hj := jn_nil hi
          have HJ : Hx (strL (jn v 1) ++ T = strL (jn v 2)) := ⟨by rw [hj, jn_first hi (by omega) h0, ← hT, strL_append]; rfl⟩
          have hS0 : (strL (jn v 1)).size = 0 := by rw [hj]; rfl
          clear hi hj h0 hT hx
          obtain ⟨S, hS⟩ : ∃ S, strL (jn v 1) = S := ⟨_, rfl⟩
          rw [show jn v ((1 : Int).toNat) = jn v 1 from rfl, hS]
          rw [hS] at HJ hS0 hl
          have hS1 : (S.size : Int) = 0 := by omega
          have y1 : ¬ 9223372036854775807 < S.size + T.size := by omega
          clear hS
          go_wp2_with fail
          go_region_with (first
            | (go_at_call 39; (with_reducible refine (refPrime_1 _).mono ?_); rintro e w2 ⟨rfl, rfl⟩)
            | (go_at_call 42; (with_reducible refine (HTM.out _).mono ?_); rintro e w3 ⟨rfl, hb3⟩; have HB3 : Hx (Below wr.heap.size wr w3) := ⟨((Below.refl _ _).drew).trans (hb3.mono (Nat.le_refl _))⟩; clear hb3))
          all_goals
            go_wp2
            go_roundw
            case rel => exact ⟨2, by omega, by omega, rfl, congrArg Value.string HJ.out, ⟨HC.out.later HB3.out hsz⟩, ⟨hB.out.trans (HB3.out.mono hB.out.size)⟩, Nat.lt_of_lt_of_le hsz HB3.out.size⟩
            case measure => simp [intOf]
        · have hj := jn_pos hi
          have HJ : Hx (strL (jn v 1) ++ strL [42] ++ T = strL (jn v 2)) := ⟨by rw [jn_next hi (by omega) h0, ← hT, strL_append, strL_append, List.append_assoc]; rfl⟩
          have hS0 : 0 < (strL (jn v 1)).size := by rw [strL_len]; exact hj
          clear hi hj h0 hT hx
          obtain ⟨S, hS⟩ : ∃ S, strL (jn v 1) = S := ⟨_, rfl⟩
          rw [show jn v ((1 : Int).toNat) = jn v 1 from rfl, hS]
          rw [hS] at HJ hS0 hl
          have hS1 : (0 : Int) < (S.size : Int) := by omega
          have y0 : ¬ 9223372036854775807 < S.size + 1 := by omega
          have y1 : ¬ 9223372036854775807 < S.size + 1 + T.size := by omega
          clear hS
          go_wp2_with fail
          go_region_with (first
            | (go_at_call 39; (with_reducible refine (refPrime_1 _).mono ?_); rintro e w2 ⟨rfl, rfl⟩)
            | (go_at_call 42; (with_reducible refine (HTM.out _).mono ?_); rintro e w3 ⟨rfl, hb3⟩; have HB3 : Hx (Below wr.heap.size wr w3) := ⟨((Below.refl _ _).drew).trans (hb3.mono (Nat.le_refl _))⟩; clear hb3))
          all_goals
            go_wp2
            go_roundw
            case rel => exact ⟨2, by omega, by omega, rfl, congrArg Value.string HJ.out, ⟨HC.out.later HB3.out hsz⟩, ⟨hB.out.trans (HB3.out.mono hB.out.size)⟩, Nat.lt_of_lt_of_le hsz HB3.out.size⟩
            case measure => simp [intOf]
    · have cHC := HC.out.cell 2 (by omega)
      have hb := HV.out 2 (by omega)
      have hl : (strL (jn v 2)).size ≤ 246 := by rw [strL_len]; have := jn_len HV.out 2 (by omega); omega
      by_cases h0 : v 2 = 0
      · have hj := jn_skip (n := 2) h0
        rw [h0] at cHC
        have HJ := Hx.mk hj
        clear hj h0 hb
        go_wp2
        go_roundw
        case rel => exact ⟨3, by omega, by omega, rfl, by rw [show (((3 : Int)).toNat) = 2 + 1 from rfl, HJ.out]; rfl, HC, hB, hsz⟩
        case measure => simp [intOf]
      · have HTM0 := Hx.mk (fun w => refTerm_any 5 (v 2) w (by omega) hb.1 hb.2 h0)
        have ht : (strL (termL 5 (v 2))).size ≤ 40 := by rw [strL_len]; exact termL_len _ _ (by omega) hb.1 hb.2
        obtain ⟨T, hT⟩ : ∃ T, strL (termL 5 (v 2)) = T := ⟨_, rfl⟩
        rw [hT] at HTM0 ht
        obtain ⟨x, hx⟩ : ∃ x, v 2 = x := ⟨_, rfl⟩
        have hz : (x == 0) = false := beq_eq_false_iff_ne.2 (by omega)
        have hzn : (x != 0) = true := by rw [bne_iff_ne]; omega
        have HTM : Hx (∀ w, Calls Tryz.prog 42 #[.int .i64 5, .int .i64 x] w fun e' w' => e' = .returned (.string T) ∧ Below w.heap.size w w') := by rw [← hx]; exact HTM0
        rw [hx] at cHC hb
        clear HTM0
        by_cases hi : ixs v 2 = []
        · have hj := jn_nil hi
          have HJ : Hx (strL (jn v 2) ++ T = strL (jn v 3)) := ⟨by rw [hj, jn_first hi (by omega) h0, ← hT, strL_append]; rfl⟩
          have hS0 : (strL (jn v 2)).size = 0 := by rw [hj]; rfl
          clear hi hj h0 hT hx
          obtain ⟨S, hS⟩ : ∃ S, strL (jn v 2) = S := ⟨_, rfl⟩
          rw [show jn v ((2 : Int).toNat) = jn v 2 from rfl, hS]
          rw [hS] at HJ hS0 hl
          have hS1 : (S.size : Int) = 0 := by omega
          have y1 : ¬ 9223372036854775807 < S.size + T.size := by omega
          clear hS
          go_wp2_with fail
          go_region_with (first
            | (go_at_call 39; (with_reducible refine (refPrime_2 _).mono ?_); rintro e w2 ⟨rfl, rfl⟩)
            | (go_at_call 42; (with_reducible refine (HTM.out _).mono ?_); rintro e w3 ⟨rfl, hb3⟩; have HB3 : Hx (Below wr.heap.size wr w3) := ⟨((Below.refl _ _).drew).trans (hb3.mono (Nat.le_refl _))⟩; clear hb3))
          all_goals
            go_wp2
            go_roundw
            case rel => exact ⟨3, by omega, by omega, rfl, congrArg Value.string HJ.out, ⟨HC.out.later HB3.out hsz⟩, ⟨hB.out.trans (HB3.out.mono hB.out.size)⟩, Nat.lt_of_lt_of_le hsz HB3.out.size⟩
            case measure => simp [intOf]
        · have hj := jn_pos hi
          have HJ : Hx (strL (jn v 2) ++ strL [42] ++ T = strL (jn v 3)) := ⟨by rw [jn_next hi (by omega) h0, ← hT, strL_append, strL_append, List.append_assoc]; rfl⟩
          have hS0 : 0 < (strL (jn v 2)).size := by rw [strL_len]; exact hj
          clear hi hj h0 hT hx
          obtain ⟨S, hS⟩ : ∃ S, strL (jn v 2) = S := ⟨_, rfl⟩
          rw [show jn v ((2 : Int).toNat) = jn v 2 from rfl, hS]
          rw [hS] at HJ hS0 hl
          have hS1 : (0 : Int) < (S.size : Int) := by omega
          have y0 : ¬ 9223372036854775807 < S.size + 1 := by omega
          have y1 : ¬ 9223372036854775807 < S.size + 1 + T.size := by omega
          clear hS
          go_wp2_with fail
          go_region_with (first
            | (go_at_call 39; (with_reducible refine (refPrime_2 _).mono ?_); rintro e w2 ⟨rfl, rfl⟩)
            | (go_at_call 42; (with_reducible refine (HTM.out _).mono ?_); rintro e w3 ⟨rfl, hb3⟩; have HB3 : Hx (Below wr.heap.size wr w3) := ⟨((Below.refl _ _).drew).trans (hb3.mono (Nat.le_refl _))⟩; clear hb3))
          all_goals
            go_wp2
            go_roundw
            case rel => exact ⟨3, by omega, by omega, rfl, congrArg Value.string HJ.out, ⟨HC.out.later HB3.out hsz⟩, ⟨hB.out.trans (HB3.out.mono hB.out.size)⟩, Nat.lt_of_lt_of_le hsz HB3.out.size⟩
            case measure => simp [intOf]
    · have cHC := HC.out.cell 3 (by omega)
      have hb := HV.out 3 (by omega)
      have hl : (strL (jn v 3)).size ≤ 246 := by rw [strL_len]; have := jn_len HV.out 3 (by omega); omega
      by_cases h0 : v 3 = 0
      · have hj := jn_skip (n := 3) h0
        rw [h0] at cHC
        have HJ := Hx.mk hj
        clear hj h0 hb
        go_wp2
        go_roundw
        case rel => exact ⟨4, by omega, by omega, rfl, by rw [show (((4 : Int)).toNat) = 3 + 1 from rfl, HJ.out]; rfl, HC, hB, hsz⟩
        case measure => simp [intOf]
      · have HTM0 := Hx.mk (fun w => refTerm_any 7 (v 3) w (by omega) hb.1 hb.2 h0)
        have ht : (strL (termL 7 (v 3))).size ≤ 40 := by rw [strL_len]; exact termL_len _ _ (by omega) hb.1 hb.2
        obtain ⟨T, hT⟩ : ∃ T, strL (termL 7 (v 3)) = T := ⟨_, rfl⟩
        rw [hT] at HTM0 ht
        obtain ⟨x, hx⟩ : ∃ x, v 3 = x := ⟨_, rfl⟩
        have hz : (x == 0) = false := beq_eq_false_iff_ne.2 (by omega)
        have hzn : (x != 0) = true := by rw [bne_iff_ne]; omega
        have HTM : Hx (∀ w, Calls Tryz.prog 42 #[.int .i64 7, .int .i64 x] w fun e' w' => e' = .returned (.string T) ∧ Below w.heap.size w w') := by rw [← hx]; exact HTM0
        rw [hx] at cHC hb
        clear HTM0
        by_cases hi : ixs v 3 = []
        · have hj := jn_nil hi
          have HJ : Hx (strL (jn v 3) ++ T = strL (jn v 4)) := ⟨by rw [hj, jn_first hi (by omega) h0, ← hT, strL_append]; rfl⟩
          have hS0 : (strL (jn v 3)).size = 0 := by rw [hj]; rfl
          clear hi hj h0 hT hx
          obtain ⟨S, hS⟩ : ∃ S, strL (jn v 3) = S := ⟨_, rfl⟩
          rw [show jn v ((3 : Int).toNat) = jn v 3 from rfl, hS]
          rw [hS] at HJ hS0 hl
          have hS1 : (S.size : Int) = 0 := by omega
          have y1 : ¬ 9223372036854775807 < S.size + T.size := by omega
          clear hS
          go_wp2_with fail
          go_region_with (first
            | (go_at_call 39; (with_reducible refine (refPrime_3 _).mono ?_); rintro e w2 ⟨rfl, rfl⟩)
            | (go_at_call 42; (with_reducible refine (HTM.out _).mono ?_); rintro e w3 ⟨rfl, hb3⟩; have HB3 : Hx (Below wr.heap.size wr w3) := ⟨((Below.refl _ _).drew).trans (hb3.mono (Nat.le_refl _))⟩; clear hb3))
          all_goals
            go_wp2
            go_roundw
            case rel => exact ⟨4, by omega, by omega, rfl, congrArg Value.string HJ.out, ⟨HC.out.later HB3.out hsz⟩, ⟨hB.out.trans (HB3.out.mono hB.out.size)⟩, Nat.lt_of_lt_of_le hsz HB3.out.size⟩
            case measure => simp [intOf]
        · have hj := jn_pos hi
          have HJ : Hx (strL (jn v 3) ++ strL [42] ++ T = strL (jn v 4)) := ⟨by rw [jn_next hi (by omega) h0, ← hT, strL_append, strL_append, List.append_assoc]; rfl⟩
          have hS0 : 0 < (strL (jn v 3)).size := by rw [strL_len]; exact hj
          clear hi hj h0 hT hx
          obtain ⟨S, hS⟩ : ∃ S, strL (jn v 3) = S := ⟨_, rfl⟩
          rw [show jn v ((3 : Int).toNat) = jn v 3 from rfl, hS]
          rw [hS] at HJ hS0 hl
          have hS1 : (0 : Int) < (S.size : Int) := by omega
          have y0 : ¬ 9223372036854775807 < S.size + 1 := by omega
          have y1 : ¬ 9223372036854775807 < S.size + 1 + T.size := by omega
          clear hS
          go_wp2_with fail
          go_region_with (first
            | (go_at_call 39; (with_reducible refine (refPrime_3 _).mono ?_); rintro e w2 ⟨rfl, rfl⟩)
            | (go_at_call 42; (with_reducible refine (HTM.out _).mono ?_); rintro e w3 ⟨rfl, hb3⟩; have HB3 : Hx (Below wr.heap.size wr w3) := ⟨((Below.refl _ _).drew).trans (hb3.mono (Nat.le_refl _))⟩; clear hb3))
          all_goals
            go_wp2
            go_roundw
            case rel => exact ⟨4, by omega, by omega, rfl, congrArg Value.string HJ.out, ⟨HC.out.later HB3.out hsz⟩, ⟨hB.out.trans (HB3.out.mono hB.out.size)⟩, Nat.lt_of_lt_of_le hsz HB3.out.size⟩
            case measure => simp [intOf]
    · have cHC := HC.out.cell 4 (by omega)
      have hb := HV.out 4 (by omega)
      have hl : (strL (jn v 4)).size ≤ 246 := by rw [strL_len]; have := jn_len HV.out 4 (by omega); omega
      by_cases h0 : v 4 = 0
      · have hj := jn_skip (n := 4) h0
        rw [h0] at cHC
        have HJ := Hx.mk hj
        clear hj h0 hb
        go_wp2
        go_roundw
        case rel => exact ⟨5, by omega, by omega, rfl, by rw [show (((5 : Int)).toNat) = 4 + 1 from rfl, HJ.out]; rfl, HC, hB, hsz⟩
        case measure => simp [intOf]
      · have HTM0 := Hx.mk (fun w => refTerm_any 11 (v 4) w (by omega) hb.1 hb.2 h0)
        have ht : (strL (termL 11 (v 4))).size ≤ 40 := by rw [strL_len]; exact termL_len _ _ (by omega) hb.1 hb.2
        obtain ⟨T, hT⟩ : ∃ T, strL (termL 11 (v 4)) = T := ⟨_, rfl⟩
        rw [hT] at HTM0 ht
        obtain ⟨x, hx⟩ : ∃ x, v 4 = x := ⟨_, rfl⟩
        have hz : (x == 0) = false := beq_eq_false_iff_ne.2 (by omega)
        have hzn : (x != 0) = true := by rw [bne_iff_ne]; omega
        have HTM : Hx (∀ w, Calls Tryz.prog 42 #[.int .i64 11, .int .i64 x] w fun e' w' => e' = .returned (.string T) ∧ Below w.heap.size w w') := by rw [← hx]; exact HTM0
        rw [hx] at cHC hb
        clear HTM0
        by_cases hi : ixs v 4 = []
        · have hj := jn_nil hi
          have HJ : Hx (strL (jn v 4) ++ T = strL (jn v 5)) := ⟨by rw [hj, jn_first hi (by omega) h0, ← hT, strL_append]; rfl⟩
          have hS0 : (strL (jn v 4)).size = 0 := by rw [hj]; rfl
          clear hi hj h0 hT hx
          obtain ⟨S, hS⟩ : ∃ S, strL (jn v 4) = S := ⟨_, rfl⟩
          rw [show jn v ((4 : Int).toNat) = jn v 4 from rfl, hS]
          rw [hS] at HJ hS0 hl
          have hS1 : (S.size : Int) = 0 := by omega
          have y1 : ¬ 9223372036854775807 < S.size + T.size := by omega
          clear hS
          go_wp2_with fail
          go_region_with (first
            | (go_at_call 39; (with_reducible refine (refPrime_4 _).mono ?_); rintro e w2 ⟨rfl, rfl⟩)
            | (go_at_call 42; (with_reducible refine (HTM.out _).mono ?_); rintro e w3 ⟨rfl, hb3⟩; have HB3 : Hx (Below wr.heap.size wr w3) := ⟨((Below.refl _ _).drew).trans (hb3.mono (Nat.le_refl _))⟩; clear hb3))
          all_goals
            go_wp2
            go_roundw
            case rel => exact ⟨5, by omega, by omega, rfl, congrArg Value.string HJ.out, ⟨HC.out.later HB3.out hsz⟩, ⟨hB.out.trans (HB3.out.mono hB.out.size)⟩, Nat.lt_of_lt_of_le hsz HB3.out.size⟩
            case measure => simp [intOf]
        · have hj := jn_pos hi
          have HJ : Hx (strL (jn v 4) ++ strL [42] ++ T = strL (jn v 5)) := ⟨by rw [jn_next hi (by omega) h0, ← hT, strL_append, strL_append, List.append_assoc]; rfl⟩
          have hS0 : 0 < (strL (jn v 4)).size := by rw [strL_len]; exact hj
          clear hi hj h0 hT hx
          obtain ⟨S, hS⟩ : ∃ S, strL (jn v 4) = S := ⟨_, rfl⟩
          rw [show jn v ((4 : Int).toNat) = jn v 4 from rfl, hS]
          rw [hS] at HJ hS0 hl
          have hS1 : (0 : Int) < (S.size : Int) := by omega
          have y0 : ¬ 9223372036854775807 < S.size + 1 := by omega
          have y1 : ¬ 9223372036854775807 < S.size + 1 + T.size := by omega
          clear hS
          go_wp2_with fail
          go_region_with (first
            | (go_at_call 39; (with_reducible refine (refPrime_4 _).mono ?_); rintro e w2 ⟨rfl, rfl⟩)
            | (go_at_call 42; (with_reducible refine (HTM.out _).mono ?_); rintro e w3 ⟨rfl, hb3⟩; have HB3 : Hx (Below wr.heap.size wr w3) := ⟨((Below.refl _ _).drew).trans (hb3.mono (Nat.le_refl _))⟩; clear hb3))
          all_goals
            go_wp2
            go_roundw
            case rel => exact ⟨5, by omega, by omega, rfl, congrArg Value.string HJ.out, ⟨HC.out.later HB3.out hsz⟩, ⟨hB.out.trans (HB3.out.mono hB.out.size)⟩, Nat.lt_of_lt_of_le hsz HB3.out.size⟩
            case measure => simp [intOf]
    · have cHC := HC.out.cell 5 (by omega)
      have hb := HV.out 5 (by omega)
      have hl : (strL (jn v 5)).size ≤ 246 := by rw [strL_len]; have := jn_len HV.out 5 (by omega); omega
      by_cases h0 : v 5 = 0
      · have hj := jn_skip (n := 5) h0
        rw [h0] at cHC
        have HJ := Hx.mk hj
        clear hj h0 hb
        go_wp2
        go_roundw
        case rel => exact ⟨6, by omega, by omega, rfl, by rw [show (((6 : Int)).toNat) = 5 + 1 from rfl, HJ.out]; rfl, HC, hB, hsz⟩
        case measure => simp [intOf]
      · have HTM0 := Hx.mk (fun w => refTerm_any 13 (v 5) w (by omega) hb.1 hb.2 h0)
        have ht : (strL (termL 13 (v 5))).size ≤ 40 := by rw [strL_len]; exact termL_len _ _ (by omega) hb.1 hb.2
        obtain ⟨T, hT⟩ : ∃ T, strL (termL 13 (v 5)) = T := ⟨_, rfl⟩
        rw [hT] at HTM0 ht
        obtain ⟨x, hx⟩ : ∃ x, v 5 = x := ⟨_, rfl⟩
        have hz : (x == 0) = false := beq_eq_false_iff_ne.2 (by omega)
        have hzn : (x != 0) = true := by rw [bne_iff_ne]; omega
        have HTM : Hx (∀ w, Calls Tryz.prog 42 #[.int .i64 13, .int .i64 x] w fun e' w' => e' = .returned (.string T) ∧ Below w.heap.size w w') := by rw [← hx]; exact HTM0
        rw [hx] at cHC hb
        clear HTM0
        by_cases hi : ixs v 5 = []
        · have hj := jn_nil hi
          have HJ : Hx (strL (jn v 5) ++ T = strL (jn v 6)) := ⟨by rw [hj, jn_first hi (by omega) h0, ← hT, strL_append]; rfl⟩
          have hS0 : (strL (jn v 5)).size = 0 := by rw [hj]; rfl
          clear hi hj h0 hT hx
          obtain ⟨S, hS⟩ : ∃ S, strL (jn v 5) = S := ⟨_, rfl⟩
          rw [show jn v ((5 : Int).toNat) = jn v 5 from rfl, hS]
          rw [hS] at HJ hS0 hl
          have hS1 : (S.size : Int) = 0 := by omega
          have y1 : ¬ 9223372036854775807 < S.size + T.size := by omega
          clear hS
          go_wp2_with fail
          go_region_with (first
            | (go_at_call 39; (with_reducible refine (refPrime_5 _).mono ?_); rintro e w2 ⟨rfl, rfl⟩)
            | (go_at_call 42; (with_reducible refine (HTM.out _).mono ?_); rintro e w3 ⟨rfl, hb3⟩; have HB3 : Hx (Below wr.heap.size wr w3) := ⟨((Below.refl _ _).drew).trans (hb3.mono (Nat.le_refl _))⟩; clear hb3))
          all_goals
            go_wp2
            go_roundw
            case rel => exact ⟨6, by omega, by omega, rfl, congrArg Value.string HJ.out, ⟨HC.out.later HB3.out hsz⟩, ⟨hB.out.trans (HB3.out.mono hB.out.size)⟩, Nat.lt_of_lt_of_le hsz HB3.out.size⟩
            case measure => simp [intOf]
        · have hj := jn_pos hi
          have HJ : Hx (strL (jn v 5) ++ strL [42] ++ T = strL (jn v 6)) := ⟨by rw [jn_next hi (by omega) h0, ← hT, strL_append, strL_append, List.append_assoc]; rfl⟩
          have hS0 : 0 < (strL (jn v 5)).size := by rw [strL_len]; exact hj
          clear hi hj h0 hT hx
          obtain ⟨S, hS⟩ : ∃ S, strL (jn v 5) = S := ⟨_, rfl⟩
          rw [show jn v ((5 : Int).toNat) = jn v 5 from rfl, hS]
          rw [hS] at HJ hS0 hl
          have hS1 : (0 : Int) < (S.size : Int) := by omega
          have y0 : ¬ 9223372036854775807 < S.size + 1 := by omega
          have y1 : ¬ 9223372036854775807 < S.size + 1 + T.size := by omega
          clear hS
          go_wp2_with fail
          go_region_with (first
            | (go_at_call 39; (with_reducible refine (refPrime_5 _).mono ?_); rintro e w2 ⟨rfl, rfl⟩)
            | (go_at_call 42; (with_reducible refine (HTM.out _).mono ?_); rintro e w3 ⟨rfl, hb3⟩; have HB3 : Hx (Below wr.heap.size wr w3) := ⟨((Below.refl _ _).drew).trans (hb3.mono (Nat.le_refl _))⟩; clear hb3))
          all_goals
            go_wp2
            go_roundw
            case rel => exact ⟨6, by omega, by omega, rfl, congrArg Value.string HJ.out, ⟨HC.out.later HB3.out hsz⟩, ⟨hB.out.trans (HB3.out.mono hB.out.size)⟩, Nat.lt_of_lt_of_le hsz HB3.out.size⟩
            case measure => simp [intOf]
    · have hl : (strL (jn v 6)).size ≤ 246 := by rw [strL_len]; have := jn_len HV.out 6 (by omega); omega
      by_cases hi : ixs v 6 = []
      · have hS0 : (strL (jn v 6)).size = 0 := by rw [jn_nil hi]; rfl
        have HT : Hx (strL (textL v) = ⟨#[49]⟩) := ⟨by unfold textL; rw [if_pos hi]⟩
        clear hi
        obtain ⟨S, hS⟩ : ∃ S, strL (jn v 6) = S := ⟨_, rfl⟩
        rw [show jn v ((6 : Int).toNat) = jn v 6 from rfl, hS]
        rw [hS] at hS0 hl
        have hz : ((S.size : Int) == 0) = true := by rw [beq_iff_eq]; omega
        clear hS
        go_wp2
        go_ret2
        exact ⟨by rw [HT.out]; rfl, hB.out⟩
      · have hS0 : 0 < (strL (jn v 6)).size := by rw [strL_len]; exact jn_pos hi
        have HT : Hx (strL (textL v) = strL (jn v 6)) := ⟨by unfold textL; rw [if_neg hi]; rfl⟩
        clear hi
        obtain ⟨S, hS⟩ : ∃ S, strL (jn v 6) = S := ⟨_, rfl⟩
        rw [show jn v ((6 : Int).toNat) = jn v 6 from rfl, hS]
        rw [hS] at hS0 hl HT
        have hz : ((S.size : Int) == 0) = false := beq_eq_false_iff_ne.2 (by omega)
        clear hS
        go_wp2
        go_ret2
        exact ⟨by rw [HT.out]; rfl, hB.out⟩
theorem refTextF_no (v : Nat → Int) (w : World) (h : bdB v 576 = false) :
    Calls Tryz.prog 27 #[PV v] w fun e w' => e = .returned (.tuple #[.string ⟨#[]⟩, .int .i64 1]) ∧ Below w.heap.size w w' := by
  have H1 := Hx.mk (fun w => refValid_any v w false h)
  clear h
  go_enter Tryz.func27, Tryz.ntmps27
  go_wp2_with fail
  refine (H1.out _).mono ?_
  rintro e w1 ⟨rfl, hb⟩
  obtain ⟨hc1, hf1⟩ := bcell hb
  have hz1 := hb.size
  (try simp at hz1)
  have hB : Hx (Below w.heap.size w w1) := ⟨Below.trans (by repeat (first | with_reducible exact hB.out | with_reducible exact Below.refl _ _ | (with_reducible refine Below.setCell ?_ ?side _; case side => (first | omega | (simp <;> omega))) | (with_reducible refine Below.alloc ?_ ?side _; case side => (first | omega | (simp <;> omega))) | with_reducible apply below_drewN)) (hb.mono (by first | omega | (simp <;> omega)))⟩
  clear hb
  have hy1_0 : w.heap.size < w1.heap.size := by omega
  go_wp2_with fail
  go_ret2
  exact ⟨rfl, (by repeat (first | with_reducible exact hB.out | with_reducible exact Below.refl _ _ | (with_reducible refine Below.setCell ?_ ?side _; case side => (first | omega | (simp <;> omega))) | (with_reducible refine Below.alloc ?_ ?side _; case side => (first | omega | (simp <;> omega))) | with_reducible apply below_drewN))⟩
end Go.Proofs.YtdlfnonlalkjdaaGreatDoor

/- ScaleLonger, walked. -/
import Derived.Test.YtomgihlkbmaleaaDoorQX
import Derived.BigQuiet
import Derived.Deep.QuietTactic
namespace Go.Proofs.YtomgihlkbmaleaaDoor
open Go.RowKit M
theorem pws {M : Nat → Nat → Int} {n : Nat} (hM : ∀ i j, i < j → j < n → sg (subV (M i) (M j)) < 0) : (lsM M n).Pairwise fun a b => sg (subV a b) < 0 := by
  unfold lsM
  rw [List.pairwise_map, List.pairwise_iff_getElem]
  simp only [List.length_range, List.getElem_range]
  exact fun i j _ hj hij => hM i j hij hj
/-- A is B without the pitch d. -/
structure Less1 (d n : Nat) (A B : Nat → Nat → Int) : Prop where
  le : d ≤ n
  lo : ∀ i, i < d → A i = B i
  hi : ∀ i, d ≤ i → i < n → A i = B (i + 1)
theorem lsM_at {M : Nat → Nat → Int} {n i : Nat} (h : i < n) : (lsM M n)[i]? = some (M i) := by simp [lsM, List.getElem?_range, h]
theorem chain_less {M N Q : Nat → Nat → Int} {n : Nat} (p : (lsM M n).Perm (lsM Q n)) (r : (lsM N (n + 1)).Perm (lsM Q (n + 1))) (hM : ∀ i j, i < j → j < n → sg (subV (M i) (M j)) < 0) (hN : ∀ i j, i < j → j < n + 1 → sg (subV (N i) (N j)) < 0) : ∃ d, Less1 d n M N := by
  have e : lsM Q (n + 1) = lsM Q n ++ [Q n] := by simp [lsM, List.range_succ]
  rw [e] at r
  have r2 : (lsM N (n + 1)).Perm (Q n :: lsM M n) := r.trans ((List.perm_append_singleton _ _).trans (p.symm.cons _))
  have hm : Q n ∈ lsM N (n + 1) := r2.mem_iff.2 List.mem_cons_self
  obtain ⟨d, hd, hq⟩ := List.mem_map.1 hm
  have hd := List.mem_range.1 hd
  have hl : d < (lsM N (n + 1)).length := by simp [lsM]; omega
  have hg : (lsM N (n + 1))[d] = Q n := by simp [lsM, hq]
  have r3 : (Q n :: (lsM N (n + 1)).eraseIdx d).Perm (lsM N (n + 1)) := by
    rw [List.eraseIdx_eq_take_drop_succ, ← hg]
    refine List.perm_middle.symm.trans ?_
    rw [List.getElem_cons_drop, List.take_append_drop]
  have r4 := (r3.trans r2).cons_inv
  have eq := r4.eq_of_pairwise (fun a b _ _ h k => (sg_asym h k).elim) ((pws hN).sublist (List.eraseIdx_sublist _ _)) (pws hM)
  refine ⟨d, by omega, fun i hi => ?_, fun i h1 h2 => ?_⟩
  · have h := congrArg (fun l => l[i]?) eq
    simp only [List.getElem?_eraseIdx, if_pos hi] at h
    rw [lsM_at (by omega), lsM_at (by omega)] at h
    exact (Option.some.inj h).symm
  · have h := congrArg (fun l => l[i]?) eq
    simp only [List.getElem?_eraseIdx, if_neg (Nat.not_lt.2 h1)] at h
    rw [lsM_at (by omega), lsM_at (by omega)] at h
    exact (Option.some.inj h).symm
theorem least_bad {P : Nat → Prop} : ∀ n, (¬ ∀ i, i < n → P i) → ∃ p, p < n ∧ (∀ i, i < p → P i) ∧ ¬ P p
  | 0, h => absurd (fun i hi => by omega) h
  | n + 1, h => by
    by_cases k : ∀ i, i < n → P i
    · exact ⟨n, by omega, k, fun e => h fun i hi => by
        rcases Nat.lt_or_ge i n with g | g
        · exact k i g
        · obtain rfl : i = n := by omega
          exact e⟩
    · obtain ⟨p, a, b, c⟩ := least_bad n k
      exact ⟨p, by omega, b, c⟩
/-- The powers of a generator, as far as they are pitches within the octave. -/
theorem chain_cases (g : Nat → Int) : ∃ Q : Nat → Nat → Int, ∀ n, (∀ i, i < n → InCh g Q i) ∨ ∃ p, p < n ∧ (∀ i, i < p → InCh g Q i) ∧ NoCh g p := by
  obtain ⟨Q, hQ⟩ := Classical.axiomOfChoice (r := fun (i : Nat) (q : Nat → Int) => (∃ q' o, Oct (mu g i) q' o) → ∃ o, Oct (mu g i) q o) fun i => by
    by_cases h : ∃ q' o, Oct (mu g i) q' o
    · obtain ⟨q, o, h⟩ := h; exact ⟨q, fun _ => ⟨o, h⟩⟩
    · exact ⟨fun _ => 0, fun k => absurd k h⟩
  refine ⟨Q, fun n => ?_⟩
  by_cases h : ∀ i, i < n → InCh g Q i
  · exact .inl h
  · obtain ⟨p, a, b, c⟩ := least_bad n h
    refine .inr ⟨p, a, b, ?_⟩
    cases hb : bdB (mu g p) 576 with
    | false => exact .inl hb
    | true => exact .inr ⟨hb, fun q o k => c ⟨hb, hQ p ⟨q, o, k⟩⟩⟩
/-- What Chain returns. -/
inductive ChR (g : Nat → Int) (n : Int) : Prop
  | err (c : Int) : c ≠ 0 → (∀ w, Sm w → Calls Tryd.prog 13 #[PV g, .int .i64 n] w (NilR w c)) → ChR g n
  | ok (m : Nat) (Q : Nat → Nat → Int) : n = m → 0 < m → m ≤ 64 → bdB g 576 = true → (∀ i, i < m → InCh g Q i) → (∀ i j, i < j → j < m → Df (Q i) (Q j)) → ChR g n
theorem chain_any (g : Nat → Int) (n : Int) : ChR g n := by
  cases hg : bdB g 576 with
  | false => exact .err 1 (by decide) fun w hs => chain_bad1 g n w hs hg
  | true =>
    by_cases h1 : n < 1
    · exact .err 1 (by decide) fun w hs => chain_bad2 g n w hs hg h1
    by_cases h2 : 64 < n
    · exact .err 1 (by decide) fun w hs => chain_bad3 g n w hs hg h1 h2
    obtain ⟨m, rfl⟩ := Int.eq_ofNat_of_zero_le (show 0 ≤ n by omega)
    obtain ⟨Q, hQ⟩ := chain_cases g
    rcases hQ m with h | ⟨p, a, b, c⟩
    · by_cases hd : ∀ i j, i < j → j < m → Df (Q i) (Q j)
      · exact .ok m Q rfl (by omega) (by omega) hg h hd
      · exact .err 5 (by decide) fun w hs => chain_twice g m Q w hs hg (by omega) (by omega) h hd
    · exact .err 3 (by decide) fun w hs => chain_no g m Q w hs hg (by omega) (by omega) p a b c
set_option maxRecDepth 100000 in
set_option maxHeartbeats 4000000 in
theorem slong_lo (g : Nat → Int) (w : World) (hs : Sm w) (n : Int) (h1 : n < 1) :
    Calls Tryd.prog 8 #[PV g, .int .i64 n] w fun e w' => e = .returned (.bool true) ∧ Below w.heap.size w w' := by
  have S : Bx (SS w w []) := ⟨SS.start w hs⟩
  replace S := Bx.mk (S.out.push #[.int .i64 (g 0), .int .i64 (g 1), .int .i64 (g 2), .int .i64 (g 3), .int .i64 (g 4), .int .i64 (g 5)] 23)
  go_enter Tryd.func8, Tryd.ntmps8
  go_wp2_with fail
  refine (shead_any _ S.out.sm).mono ?_
  rintro e w1 ⟨rfl, hb⟩
  replace S := Bx.mk (S.out.call hb)
  clear hb
  go_wp2_with fail
  go_ret
  exact ⟨rfl, S.out.bl⟩
set_option maxRecDepth 100000 in
set_option maxHeartbeats 4000000 in
theorem slong_hi (g : Nat → Int) (w : World) (hs : Sm w) (n : Int) (h1 : ¬ n < 1) (h2 : 15 < n) :
    Calls Tryd.prog 8 #[PV g, .int .i64 n] w fun e w' => e = .returned (.bool true) ∧ Below w.heap.size w w' := by
  have S : Bx (SS w w []) := ⟨SS.start w hs⟩
  replace S := Bx.mk (S.out.push #[.int .i64 (g 0), .int .i64 (g 1), .int .i64 (g 2), .int .i64 (g 3), .int .i64 (g 4), .int .i64 (g 5)] 23)
  go_enter Tryd.func8, Tryd.ntmps8
  go_wp2_with fail
  refine (shead_any _ S.out.sm).mono ?_
  rintro e w1 ⟨rfl, hb⟩
  replace S := Bx.mk (S.out.call hb)
  clear hb
  go_wp2_with fail
  go_ret
  exact ⟨rfl, S.out.bl⟩
set_option maxRecDepth 100000 in
set_option maxHeartbeats 4000000 in
theorem slong_err (g : Nat → Int) (w : World) (hs : Sm w) (n c : Int) (h1 : ¬ n < 1) (h2 : ¬ 15 < n) (hc : ¬ c = 0) (H1 : Hx (∀ w, Sm w → Calls Tryd.prog 13 #[PV g, .int .i64 (n + 1)] w (NilR w c))) :
    Calls Tryd.prog 8 #[PV g, .int .i64 n] w fun e w' => e = .returned (.bool true) ∧ Below w.heap.size w w' := by
  have S : Bx (SS w w []) := ⟨SS.start w hs⟩
  replace S := Bx.mk (S.out.push #[.int .i64 (g 0), .int .i64 (g 1), .int .i64 (g 2), .int .i64 (g 3), .int .i64 (g 4), .int .i64 (g 5)] 23)
  go_enter Tryd.func8, Tryd.ntmps8
  go_wp2_with fail
  refine (shead_any _ S.out.sm).mono ?_
  rintro e w1 ⟨rfl, hb⟩
  replace S := Bx.mk (S.out.call hb)
  clear hb
  obtain ⟨c0_0, c0_1, c0_2, c0_3, c0_4, c0_5, z0⟩ := S.out.six w.heap.size 23 (.int .i64 (g 0)) (.int .i64 (g 1)) (.int .i64 (g 2)) (.int .i64 (g 3)) (.int .i64 (g 4)) (.int .i64 (g 5)) List.mem_cons_self
  go_wp2_with fail
  refine (H1.out _ S.out.sm).mono ?_
  rintro e w2 ⟨rfl, hb⟩
  replace S := Bx.mk (S.out.call hb)
  clear hb
  clear c0_0 c0_1 c0_2 c0_3 c0_4 c0_5 z0
  go_wp2_with fail
  go_ret
  exact ⟨rfl, S.out.bl⟩
end Go.Proofs.YtomgihlkbmaleaaDoor

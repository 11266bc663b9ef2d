/- The program's lattice: vectors within their bounds; the first element that is not 0. -/
import Derived.Test.YtnbamjoadankmaaR13
import Derived.Test.YtnbamjoadankmaaKK
import Derived.Test.YtnbamjoadankmaaKB
namespace Go.Proofs.Ytnbamjoadankmaa
open Go.RowKit D
set_option maxHeartbeats 4000000 in
theorem lvalid1_any (x : Int) (w : World) (b : Bool) (hb : b = true ↔ (x < -1000000000 ∨ 1000000000 < x)) :
    Calls Try.prog 154 #[.int .i64 x] w fun e w' => e = .returned (.bool b) ∧ w' = w := by
  by_cases h1 : x < -1000000000
  · obtain rfl : b = true := hb.2 (.inl h1)
    have d1 : decide (x < -1000000000) = true := by simp [h1]
    go_enter Try.func154, Try.ntmps154
    go_wp2_with fail
    go_ret
    exact ⟨rfl, rfl⟩
  · have d1 : decide (x < -1000000000) = false := by simp; omega
    by_cases h2 : 1000000000 < x
    · obtain rfl : b = true := hb.2 (.inr h2)
      have d2 : decide (1000000000 < x) = true := by simp [h2]
      go_enter Try.func154, Try.ntmps154
      go_wp2_with fail
      go_ret
      exact ⟨rfl, rfl⟩
    · obtain rfl : b = false := by
        cases b with
        | false => rfl
        | true => exact absurd (hb.1 rfl) (by omega)
      have d2 : decide (1000000000 < x) = false := by simp; omega
      go_enter Try.func154, Try.ntmps154
      go_wp2_with fail
      go_ret
      exact ⟨rfl, rfl⟩
set_option maxHeartbeats 4000000 in
theorem nonzero_any (x : Int) (w : World) (b : Bool) (hb : b = true ↔ x ≠ 0) :
    Calls Try.prog 134 #[.int .i64 x] w fun e w' => e = .returned (.bool b) ∧ w' = w := by
  have h : (x != 0) = b := by
    cases b with
    | true => simpa using hb.1 rfl
    | false =>
      have : ¬ x ≠ 0 := fun h => by have := hb.2 h; cases this
      simpa using this
  go_enter Try.func134, Try.ntmps134
  go_wp2_with fail
  go_ret
  exact ⟨rfl, rfl⟩
set_option maxRecDepth 100000 in
set_option maxHeartbeats 8000000 in
theorem indexf_valid (bb o c : Nat) (v : Nat → Int) (w : World) (hc6 : 6 ≤ c) (hc : ∀ j, j < 6 → w.cell? ⟨bb, o + j, none⟩ = some (.int .i64 (v j))) (p : Nat) (hp : p ≤ 6) (h0 : ∀ j, j < p → ¬ (v j < -1000000000 ∨ 1000000000 < v j)) (h1 : p < 6 → (v p < -1000000000 ∨ 1000000000 < v p)) :
    Calls Try.prog 133 #[.slice (some ⟨bb, o, none⟩) 6 c, .func (.func 154) #[] #[]] w fun e w' => e = .returned (.int .i64 (if p < 6 then (p : Int) else -1)) ∧ w' = w := by
  have H0 := Bx.mk h0
  have H1 := Bx.mk h1
  have HC := Bx.mk hc
  clear h0 h1 hc
  go_enter Try.func133, Try.ntmps133
  go_wp2_with fail
  go_loopw [8] (fun ix wr => ∃ i : Nat, i ≤ p ∧ ix = .int .i64 i ∧ wr = w) (fun ix _ => 7 - (intOf ix).toNat)
  case atStart => exact ⟨0, by omega, rfl, rfl⟩
  case round =>
    obtain ⟨i, hi, rfl, rfl⟩ := hrel
    by_cases hi6 : i < 6
    · have c1 := HC.out i hi6
      by_cases hip : i < p
      · have PF := Bx.mk (fun w => lvalid1_any (v i) w false (by simp only [Bool.false_eq_true, false_iff]; exact H0.out i hip))
        go_wp2_with (go_at_call 154; refine (PF.out _).mono ?_; rintro e w2 ⟨rfl, rfl⟩)
        exact ⟨⟨i + 1, by omega, by go_num, by first | rfl | trivial⟩, by simp [intOf]; omega⟩
      · obtain rfl : i = p := by omega
        have PF := Bx.mk (fun w => lvalid1_any (v i) w true (by simp only [true_iff]; exact H1.out hi6))
        go_wp2_with (go_at_call 154; refine (PF.out _).mono ?_; rintro e w2 ⟨rfl, rfl⟩)
        go_ret
        exact ⟨by first | rfl | (rw [if_pos hi6]; rfl), rfl⟩
    · obtain rfl : i = p := by omega
      have hip6 : ¬ i < 6 := hi6
      go_wp2_with fail
      go_ret
      exact ⟨by first | rfl | (rw [if_neg hip6]; rfl), rfl⟩
set_option maxRecDepth 100000 in
set_option maxHeartbeats 8000000 in
theorem indexf_nonzero (bb o c : Nat) (v : Nat → Int) (w : World) (hc6 : 6 ≤ c) (hc : ∀ j, j < 6 → w.cell? ⟨bb, o + j, none⟩ = some (.int .i64 (v j))) (p : Nat) (hp : p ≤ 6) (h0 : ∀ j, j < p → ¬ v j ≠ 0) (h1 : p < 6 → v p ≠ 0) :
    Calls Try.prog 133 #[.slice (some ⟨bb, o, none⟩) 6 c, .func (.func 134) #[] #[]] w fun e w' => e = .returned (.int .i64 (if p < 6 then (p : Int) else -1)) ∧ w' = w := by
  have H0 := Bx.mk h0
  have H1 := Bx.mk h1
  have HC := Bx.mk hc
  clear h0 h1 hc
  go_enter Try.func133, Try.ntmps133
  go_wp2_with fail
  go_loopw [8] (fun ix wr => ∃ i : Nat, i ≤ p ∧ ix = .int .i64 i ∧ wr = w) (fun ix _ => 7 - (intOf ix).toNat)
  case atStart => exact ⟨0, by omega, rfl, rfl⟩
  case round =>
    obtain ⟨i, hi, rfl, rfl⟩ := hrel
    by_cases hi6 : i < 6
    · have c1 := HC.out i hi6
      by_cases hip : i < p
      · have PF := Bx.mk (fun w => nonzero_any (v i) w false (by simp only [Bool.false_eq_true, false_iff]; exact H0.out i hip))
        go_wp2_with (go_at_call 134; refine (PF.out _).mono ?_; rintro e w2 ⟨rfl, rfl⟩)
        exact ⟨⟨i + 1, by omega, by go_num, by first | rfl | trivial⟩, by simp [intOf]; omega⟩
      · obtain rfl : i = p := by omega
        have PF := Bx.mk (fun w => nonzero_any (v i) w true (by simp only [true_iff]; exact H1.out hi6))
        go_wp2_with (go_at_call 134; refine (PF.out _).mono ?_; rintro e w2 ⟨rfl, rfl⟩)
        go_ret
        exact ⟨by first | rfl | (rw [if_pos hi6]; rfl), rfl⟩
    · obtain rfl : i = p := by omega
      have hip6 : ¬ i < 6 := hi6
      go_wp2_with fail
      go_ret
      exact ⟨by first | rfl | (rw [if_neg hip6]; rfl), rfl⟩
set_option maxHeartbeats 4000000 in
theorem containsf_valid (bb o c : Nat) (v : Nat → Int) (w : World) (hc6 : 6 ≤ c) (hc : ∀ j, j < 6 → w.cell? ⟨bb, o + j, none⟩ = some (.int .i64 (v j))) (b : Bool) (hb : b = true ↔ ∀ j, j < 6 → -1000000000 ≤ v j ∧ v j ≤ 1000000000) :
    Calls Try.prog 137 #[.slice (some ⟨bb, o, none⟩) 6 c, .func (.func 154) #[] #[]] w fun e w' => e = .returned (.bool (!b)) ∧ w' = w := by
  have ⟨p, hp, h0, h1⟩ : ∃ p, p ≤ 6 ∧ (∀ j, j < p → ¬ (v j < -1000000000 ∨ 1000000000 < v j)) ∧ (p < 6 → (v p < -1000000000 ∨ 1000000000 < v p)) := by
    have : ∀ n, n ≤ 6 → ∃ p, p ≤ n ∧ (∀ j, j < p → ¬ (v j < -1000000000 ∨ 1000000000 < v j)) ∧ (p < n → (v p < -1000000000 ∨ 1000000000 < v p)) := by
      intro n
      induction n with
      | zero => intro _; exact ⟨0, by omega, fun j hj => by omega, fun h => by omega⟩
      | succ n ih =>
        intro hn
        obtain ⟨p, a, b, c⟩ := ih (by omega)
        by_cases e : p < n
        · exact ⟨p, by omega, b, fun _ => c e⟩
        · obtain rfl : p = n := by omega
          by_cases x : (v p < -1000000000 ∨ 1000000000 < v p)
          · exact ⟨p, by omega, b, fun _ => x⟩
          · refine ⟨p + 1, by omega, fun j hj => ?_, fun h => by omega⟩
            by_cases y : j = p
            · rw [y]; exact x
            · exact b j (by omega)
    exact this 6 (Nat.le_refl _)
  have PI := Bx.mk (indexf_valid bb o c v w hc6 hc p hp h0 h1)
  obtain ⟨q, hq⟩ : ∃ q : Int, (if p < 6 then (p : Int) else -1) = q := ⟨_, rfl⟩
  rw [hq] at PI
  have hbq : decide (0 ≤ q) = !b := by
    by_cases e : p < 6
    · have hb0 : b = false := by
        cases b with
        | false => rfl
        | true => have a1 := hb.1 rfl p e; have a2 := h1 e; omega
      rw [← hq, if_pos e, hb0]; simp
    · have hb1 : b = true := hb.2 fun j hj => by have := h0 j (by omega); omega
      rw [← hq, if_neg e, hb1]; simp
  have hbq' : decide (q ≥ 0) = !b := hbq
  clear h0 h1 hc hq hb
  go_enter Try.func137, Try.ntmps137
  go_wp2_with (go_at_call 133; refine PI.out.mono ?_; rintro e w2 ⟨rfl, rfl⟩)
  go_ret
  exact ⟨rfl, rfl⟩
set_option maxHeartbeats 4000000 in
theorem lvalid_any (v : Nat → Int) (w : World) (b : Bool) (hb : b = true ↔ ∀ j, j < 6 → -1000000000 ≤ v j ∧ v j ≤ 1000000000) :
    Calls Try.prog 126 #[PV v] w fun e w' => e = .returned (.bool b) ∧ Below w.heap.size w w' := by
  have PC := Bx.mk (fun W (h : ∀ j, j < 6 → W.cell? ⟨w.heap.size, 0 + j, none⟩ = some (.int .i64 (v j))) => containsf_valid w.heap.size 0 6 v W (Nat.le_refl _) h b hb)
  have HC := Bx.mk (box_cell w v 36)
  clear hb
  go_enter Try.func126, Try.ntmps126
  go_wp2_with (go_at_call 137; refine (PC.out _ (fun j hj => by rw [Nat.zero_add]; exact HC.out j hj)).mono ?_; rintro e w2 ⟨rfl, rfl⟩)
  go_ret
  exact ⟨by simp, (by repeat (first | with_reducible exact Below.refl _ _ | (with_reducible refine Below.alloc ?_ ?side _; case side => (first | omega | (simp <;> omega))) | with_reducible apply below_drewN | with_reducible apply below_drew))⟩
end Go.Proofs.Ytnbamjoadankmaa
/- The program's lattice: pivots, coefficients, multiples of rows. -/
namespace Go.Proofs.Ytnbamjoadankmaa
open Go.RowKit D
set_option maxRecDepth 100000 in
set_option maxHeartbeats 1000000 in
theorem ldivisor_any (a b : Int) (w : World) (ha : a.natAbs ≤ 1000000000) (hb : b.natAbs ≤ 1000000000) : Calls Try.prog 136 #[.int .i64 a, .int .i64 b] w fun e w' => e = .returned (.int .i64 (Int.gcd a b : Int)) ∧ Below w.heap.size w w' := by
  obtain ⟨g, hg⟩ : ∃ g, Int.gcd a b = g := ⟨_, rfl⟩
  rw [hg]
  have HG := Bx.mk hg
  clear hg
  go_enter Try.func136, Try.ntmps136
  go_wp2
  go_loopw [0, 1] (fun av bv wr => ∃ x y : Int, av = .int .i64 x ∧ bv = .int .i64 y ∧ x.natAbs ≤ 1000000000 ∧ y.natAbs ≤ 1000000000 ∧ Bx (Int.gcd x y = g) ∧ Below w.heap.size w wr) (fun _ bv _ => (intOf bv).natAbs)
  case atStart => exact ⟨a, b, rfl, rfl, ha, hb, HG, Below.refl _ _⟩
  case round =>
    clear ha hb
    obtain ⟨x, y, rfl, rfl, hx, hy, HXY, hB⟩ := hrel
    by_cases h0 : y = 0
    · subst h0
      have hgx : x.natAbs = g := by have := HXY.out; simpa using this
      have hn : IntKind.i64.wrap (-x) = -x := by rw [IntWalk.i64_in] <;> omega
      have h1 : -9223372036854775808 ≤ -x := by omega
      have h2 : -x ≤ 9223372036854775807 := by omega
      have HGX := Bx.mk hgx
      clear hgx
      rcases Int.le_total 0 x with h3 | h3
      · have e : x = (g : Int) := by have := HGX.out; omega
        have h4 : ¬ x < -x := by omega
        go_wp2
        all_goals go_ret
        all_goals refine ⟨?_, hB⟩
        all_goals first | (simp [e]; done) | (exfalso; omega) | (have h0 : x = 0 := by omega
                                                                 subst h0; simp at e; simp [← e])
      · have e : -x = (g : Int) := by have := HGX.out; omega
        go_wp2
        all_goals go_ret
        all_goals refine ⟨?_, hB⟩
        all_goals first | (simp [e]; done) | (exfalso; omega) | (have h0 : x = 0 := by omega
                                                                 subst h0; simp at e; simp [← e])
    · obtain ⟨s, hs⟩ : ∃ s, x.tmod y = s := ⟨_, rfl⟩
      have hsy : s.natAbs < y.natAbs := by rw [← hs, Int.natAbs_tmod]; exact Nat.mod_lt _ (by omega)
      have HR := Bx.mk (show Int.gcd y s = g from by rw [← HXY.out, ← hs]; show Nat.gcd y.natAbs (x.tmod y).natAbs = Nat.gcd x.natAbs y.natAbs; rw [Int.natAbs_tmod, Nat.gcd_comm, ← Nat.gcd_rec, Nat.gcd_comm])
      have hz : (y == 0) = false := beq_eq_false_iff_ne.2 (by omega)
      have hz' : (y != 0) = true := by simp [bne, hz]
      go_wp2_with fail
      go_region
      all_goals go_wp2_with fail
      all_goals (refine ⟨⟨y, s, rfl, rfl, hy, by omega, HR, (by repeat (first | with_reducible exact Below.refl _ _ | with_reducible exact hB | with_reducible apply below_drewN | with_reducible apply below_drew))⟩, ?_⟩)
      all_goals (simp [intOf]; omega)
/-- A basis as a value. -/
def BV (fo : Option Addr) (fc : Nat) (co : Option Addr) (cc q : Nat) : Value := .agg #[.slice fo q fc, .slice co q cc]
/-- What a basis reads as: rows and the columns of their pivots. -/
structure BS (w : World) (fo : Option Addr) (fc : Nat) (co : Option Addr) (cc q : Nat) (O : Nat → Nat → Int) (p : Nat → Nat) : Prop where
  rows : CV w fo q O
  cols : CN w co ((List.range q).map p)
  lf : q ≤ fc
  lc : q ≤ cc
  six : q ≤ 6
  lt : ∀ k, k < q → p k < 6
  pos : ∀ k, k < q → 0 < O k (p k)
  ent : ∀ k j, k < q → j < 6 → -6000000000 ≤ O k j ∧ O k j ≤ 6000000000
  piv : ∀ k, k < q → O k (p k) ≤ 1000000000
theorem BS.keep {w w' : World} {fo co : Option Addr} {fc cc q : Nat} {O : Nat → Nat → Int} {p : Nat → Nat} (h : BS w fo fc co cc q O p) (hB : Below w.heap.size w w') : BS w' fo fc co cc q O p :=
  ⟨h.rows.keep hB, h.cols.keep hB, h.lf, h.lc, h.six, h.lt, h.pos, h.ent, h.piv⟩
theorem BS.col {w : World} {fo co : Option Addr} {fc cc q : Nat} {O : Nat → Nat → Int} {p : Nat → Nat} (h : BS w fo fc co cc q O p) {i : Nat} (hi : i < q) : ∃ b o, co = some ⟨b, o, none⟩ ∧ b < w.heap.size ∧ w.cell? ⟨b, o + i, none⟩ = some (.int .i64 ((p i : Nat) : Int)) := by
  obtain ⟨b, o, e, hb, hc⟩ := h.cols (by intro e; have := congrArg List.length e; simp at this; omega)
  refine ⟨b, o, e, hb, ?_⟩
  rw [hc i (by simpa using hi)]
  simp [List.getD_eq_getElem?_getD, hi]
set_option maxRecDepth 100000 in
set_option maxHeartbeats 8000000 in
theorem pivot_at (fo co : Option Addr) (fc cc q : Nat) (O : Nat → Nat → Int) (p : Nat → Nat) (i : Nat) (w : World) (hS : BS w fo fc co cc q O p) (hi : i < q) :
    Calls Try.prog 135 #[.agg #[.slice fo q fc, .slice co q cc], .int .i64 i] w fun e w' => e = .returned (.int .i64 (O i (p i))) ∧ Below w.heap.size w w' := by
  obtain ⟨bf, of', rfl, hbf, hcf⟩ := hS.rows (by omega)
  obtain ⟨bc, oc, rfl, hbc, hcc⟩ := hS.col hi
  have hp6 := hS.lt i hi
  have r1 := hcf i (p i) hi hp6
  have l1 := hS.lf
  have l2 := hS.lc
  obtain ⟨c, hc⟩ : ∃ c, p i = c := ⟨_, rfl⟩
  rw [hc] at hcc hp6 r1 ⊢
  obtain ⟨x, hx⟩ : ∃ x, O i c = x := ⟨_, rfl⟩
  rw [hx] at r1 ⊢
  have r2 : (w.alloc (.cells #[.slice (some ⟨bf, of', none⟩) q fc, .slice (some ⟨bc, oc, none⟩) q cc] 100)).cell? ⟨bf, of' + i * 6 + c, none⟩ = some (.int .i64 x) := (((Below.refl _ w).alloc (Nat.le_refl _) _).cell (p := ⟨bf, of' + i * 6 + c, none⟩) hbf).trans r1
  have r3 : (w.alloc (.cells #[.slice (some ⟨bf, of', none⟩) q fc, .slice (some ⟨bc, oc, none⟩) q cc] 100)).cell? ⟨bc, oc + i, none⟩ = some (.int .i64 c) := (((Below.refl _ w).alloc (Nat.le_refl _) _).cell (p := ⟨bc, oc + i, none⟩) hbc).trans hcc
  have hc6 : (c : Int) < 6 := by omega
  have hiq : (i : Int) < (q : Int) := by omega
  clear hS hcf hc hx
  go_enter Try.func135, Try.ntmps135
  go_wp2_with fail
  go_region
  all_goals go_wp2_with fail
  all_goals go_ret
  all_goals exact ⟨rfl, (by repeat (first | with_reducible exact Below.refl _ _ | (with_reducible refine Below.alloc ?_ ?side _; case side => (first | omega | (simp <;> omega))) | with_reducible apply below_drewN | with_reducible apply below_drew))⟩
/-- Rounded down. -/
theorem floor_div {n P : Int} (hP : 0 < P) : n / P = if n.tmod P < 0 then n.tdiv P - 1 else n.tdiv P := by
  have h1 := Int.tmod_add_mul_tdiv n P
  have h2 := Int.emod_add_mul_ediv n P
  have h3 := Int.emod_nonneg n (show P ≠ 0 by omega)
  have h4 := Int.emod_lt_of_pos n hP
  have h5 := Int.tmod_lt_of_pos n hP
  have h6 : -P < n.tmod P := by
    by_cases z : 0 ≤ n
    · have := Int.tmod_nonneg P z; omega
    · have := Int.tmod_lt_of_pos (-n) hP
      rw [Int.neg_tmod] at this; omega
  have key : ∀ a b r s : Int, r + P * a = n → s + P * b = n → 0 ≤ r → r < P → -P < s → s < P → a = if s < 0 then b - 1 else b := by
    intro a b r s e1 e2 r0 r1 s0 s1
    have e : P * (a - b) = s - r := by rw [Int.mul_sub]; omega
    by_cases z : s < 0
    · rw [if_pos z]
      have a1 : P * (a - b) < P * 0 := by rw [e]; omega
      have a2 : P * (-2) < P * (a - b) := by rw [e]; omega
      have := Int.lt_of_mul_lt_mul_left a1 (by omega)
      have := Int.lt_of_mul_lt_mul_left a2 (by omega)
      omega
    · rw [if_neg z]
      have a1 : P * (a - b) < P * 1 := by rw [e]; omega
      have a2 : P * (-1) < P * (a - b) := by rw [e]; omega
      have := Int.lt_of_mul_lt_mul_left a1 (by omega)
      have := Int.lt_of_mul_lt_mul_left a2 (by omega)
      omega
  exact key _ _ _ _ h2 h1 h3 h4 h6 h5
end Go.Proofs.Ytnbamjoadankmaa
/- The program's lattice: coefficients, multiples of rows added, products of pivots. -/
namespace Go.Proofs.Ytnbamjoadankmaa
open Go.RowKit D
/-- Two boxes, one behind the other. -/
theorem two_boxes (w : World) (x y : Value) (v : Nat → Int) (t u : TypeId) : ∀ l, l < 6 → ((w.alloc (.cells #[x, y] u)).alloc (.cells #[.int .i64 (v 0), .int .i64 (v 1), .int .i64 (v 2), .int .i64 (v 3), .int .i64 (v 4), .int .i64 (v 5)] t)).cell? ⟨w.heap.size + 1, l, none⟩ = some (.int .i64 (v l)) := by
  have h := box_cell (w.alloc (.cells #[x, y] u)) v t
  rw [World.size_alloc] at h
  exact h
theorem boxes_kept {w w2 : World} {x y : Value} {v : Nat → Int} {t u : TypeId} (h : Below ((w.alloc (.cells #[x, y] u)).alloc (.cells #[.int .i64 (v 0), .int .i64 (v 1), .int .i64 (v 2), .int .i64 (v 3), .int .i64 (v 4), .int .i64 (v 5)] t)).heap.size ((w.alloc (.cells #[x, y] u)).alloc (.cells #[.int .i64 (v 0), .int .i64 (v 1), .int .i64 (v 2), .int .i64 (v 3), .int .i64 (v 4), .int .i64 (v 5)] t)) w2) :
    w2.cell? ⟨w.heap.size, 0, none⟩ = some x ∧ w2.cell? ⟨w.heap.size, 1, none⟩ = some y ∧ ∀ l, l < 6 → w2.cell? ⟨w.heap.size + 1, l, none⟩ = some (.int .i64 (v l)) := by
  have hs : w.heap.size + 2 = ((w.alloc (.cells #[x, y] u)).alloc (.cells #[.int .i64 (v 0), .int .i64 (v 1), .int .i64 (v 2), .int .i64 (v 3), .int .i64 (v 4), .int .i64 (v 5)] t)).heap.size := by simp
  refine ⟨?_, ?_, fun l hl => ?_⟩
  · rw [h.cell (p := ⟨w.heap.size, 0, none⟩) (by rw [← hs]; show w.heap.size < _; omega)]; simp [go_sem]
  · rw [h.cell (p := ⟨w.heap.size, 1, none⟩) (by rw [← hs]; show w.heap.size < _; omega)]; simp [go_sem]
  · rw [h.cell (p := ⟨w.heap.size + 1, l, none⟩) (by rw [← hs]; show w.heap.size + 1 < _; omega)]; exact two_boxes w x y v t u l hl
set_option maxRecDepth 100000 in
set_option maxHeartbeats 8000000 in
theorem coefficient_any (fo co : Option Addr) (fc cc q : Nat) (O : Nat → Nat → Int) (p : Nat → Nat) (i : Nat) (v : Nat → Int) (w : World) (hS : BS w fo fc co cc q O p) (hi : i < q) (hv : ∀ j, j < 6 → -1000000000 ≤ v j ∧ v j ≤ 1000000000) :
    Calls Try.prog 128 #[.agg #[.slice fo q fc, .slice co q cc], .int .i64 i, PV v] w fun e w' => e = .returned (.int .i64 (v (p i) / O i (p i))) ∧ Below w.heap.size w w' := by
  have PP := Bx.mk (fun w' (hb : Below w.heap.size w w') => pivot_at fo co fc cc q O p i w' (hS.keep hb) hi)
  obtain ⟨bc, oc, rfl, hbc, hcc⟩ := hS.col hi
  have hp6 := hS.lt i hi
  have hP := hS.pos i hi
  have hP2 := hS.piv i hi
  have hvp := hv (p i) hp6
  have l2 := hS.lc
  obtain ⟨c, hc⟩ : ∃ c, p i = c := ⟨_, rfl⟩
  rw [hc] at hcc hp6 hP hP2 hvp PP ⊢
  obtain ⟨P, hPe⟩ : ∃ P, O i c = P := ⟨_, rfl⟩
  rw [hPe] at hP hP2 PP ⊢
  have HC0 := two_boxes w (.slice fo q fc) (.slice (some ⟨bc, oc, none⟩) q cc) v 36 100 c hp6
  obtain ⟨n, hn⟩ : ∃ n, v c = n := ⟨_, rfl⟩
  rw [hn] at HC0 hvp ⊢
  have hB0 : Below w.heap.size w ((w.alloc (.cells #[.slice fo q fc, .slice (some ⟨bc, oc, none⟩) q cc] 100)).alloc (.cells #[.int .i64 (v 0), .int .i64 (v 1), .int .i64 (v 2), .int .i64 (v 3), .int .i64 (v 4), .int .i64 (v 5)] 36)) := ((Below.refl _ w).alloc (Nat.le_refl _) _).alloc (by simp) _
  have r3 := (hB0.cell (p := ⟨bc, oc + i, none⟩) hbc).trans hcc
  have hfd := floor_div (n := n) hP
  have hb1 : -1000000000 ≤ n.tdiv P ∧ n.tdiv P ≤ 1000000000 := by
    have h : (n.tdiv P).natAbs ≤ n.natAbs := by rw [Int.natAbs_tdiv]; exact Nat.div_le_self _ _
    omega
  obtain ⟨t, ht⟩ : ∃ t, n.tdiv P = t := ⟨_, rfl⟩
  obtain ⟨s, hs⟩ : ∃ s, n.tmod P = s := ⟨_, rfl⟩
  rw [ht, hs] at hfd
  rw [ht] at hb1
  rw [hfd]
  have hP0 : (P == 0) = false := by simp; omega
  have hw1 : IntKind.i64.wrap (t - 1) = t - 1 := by rw [IntWalk.i64_in] <;> omega
  have hc6 : (c : Int) < 6 := by omega
  have hiq : (i : Int) < (q : Int) := by omega
  have HB0 := Bx.mk hB0
  clear hS hn hfd hB0 hv hc hPe
  by_cases hs0 : s < 0
  · rw [if_pos hs0]
    have hd : decide (s < 0) = true := by simp [hs0]
    go_enter Try.func128, Try.ntmps128
    have M1 : Bx True := ⟨trivial⟩
    go_wp2_with (first
      | (clear M1; go_at_call 135; refine (PP.out _ HB0.out).mono ?_; rintro e w2 ⟨rfl, hb2⟩
         obtain ⟨s0, s1, _⟩ := boxes_kept hb2
         have HB2 := Bx.mk (HB0.out.trans (hb2.mono HB0.out.size)))
      | (go_at_call 135; refine (PP.out _ HB2.out).mono ?_; rintro e w3 ⟨rfl, hb3⟩
         have HB3 := Bx.mk (HB2.out.trans (hb3.mono HB2.out.size))))
    go_ret
    exact ⟨rfl, HB3.out⟩
  · rw [if_neg hs0]
    have hd : decide (s < 0) = false := by simp; omega
    go_enter Try.func128, Try.ntmps128
    have M1 : Bx True := ⟨trivial⟩
    go_wp2_with (first
      | (clear M1; go_at_call 135; refine (PP.out _ HB0.out).mono ?_; rintro e w2 ⟨rfl, hb2⟩
         obtain ⟨s0, s1, _⟩ := boxes_kept hb2
         have HB2 := Bx.mk (HB0.out.trans (hb2.mono HB0.out.size)))
      | (go_at_call 135; refine (PP.out _ HB2.out).mono ?_; rintro e w3 ⟨rfl, hb3⟩
         have HB3 := Bx.mk (HB2.out.trans (hb3.mono HB2.out.size))))
    go_ret
    exact ⟨rfl, HB3.out⟩
end Go.Proofs.Ytnbamjoadankmaa
/- The program's lattice: a multiple of a row added; the product of the pivots. -/
namespace Go.Proofs.Ytnbamjoadankmaa
open Go.RowKit D
set_option maxRecDepth 100000 in
set_option maxHeartbeats 8000000 in
theorem plus_any (v row : Nat → Int) (n : Int) (w : World) (hv : ∀ j, j < 6 → -1000000000000000000 ≤ v j ∧ v j ≤ 1000000000000000000) (hp : ∀ j, j < 6 → -8000000000000000000 ≤ n * row j ∧ n * row j ≤ 8000000000000000000) :
    Calls Try.prog 94 #[PV v, PV row, .int .i64 n] w fun e w' => e = .returned (PV fun j => v j + n * row j) ∧ Below w.heap.size w w' := by
  have HV := Bx.mk hv
  have HP := Bx.mk hp
  have HC := Bx.mk (box_cell3 w v row 36)
  clear hv hp
  go_enter Try.func94, Try.ntmps94
  go_wp2_with fail
  go_loopw [10] (fun ix wr => ∃ l : Nat, l ≤ 6 ∧ ix = .int .i64 l ∧ Bx (∀ t, t < 6 → wr.cell? ⟨w.heap.size, t, none⟩ = some (.int .i64 (if t < l then v t + n * row t else v t)) ∧ wr.frozen? ⟨w.heap.size, t, none⟩ = false) ∧ Bx (∀ t, t < 6 → wr.cell? ⟨w.heap.size + 1 + 1, t, none⟩ = some (.int .i64 0) ∧ wr.frozen? ⟨w.heap.size + 1 + 1, t, none⟩ = false) ∧ Bx (Below w.heap.size w wr)) (fun ix _ => 6 - (intOf ix).toNat)
  case atStart => exact ⟨0, by omega, rfl, ⟨fun t ht => HC.out.1 t ht⟩, ⟨fun t ht => HC.out.2.2 t ht⟩, ⟨(((Below.refl _ w).alloc (Nat.le_refl _) _).alloc (by simp) _).alloc (by simp; omega) _⟩⟩
  case round =>
    obtain ⟨l, hl6, rfl, HW, HR, HB⟩ := hrel
    by_cases hlt : l < 6
    · have e0 := (HW.out l hlt).1
      have e1 := (HW.out l hlt).2
      rw [if_neg (by omega)] at e0
      obtain ⟨x, hx⟩ : ∃ x, v l = x := ⟨_, rfl⟩
      obtain ⟨y, hy⟩ : ∃ y, row l = y := ⟨_, rfl⟩
      have b1 := HV.out l hlt
      have b2 := HP.out l hlt
      rw [hx] at e0 b1; rw [hy] at b2
      have hix := index_six row hlt y hy
      obtain ⟨P, hP⟩ : ∃ P, n * y = P := ⟨_, rfl⟩
      rw [hP] at b2
      have hwP : IntKind.i64.wrap P = P := by rw [IntWalk.i64_in] <;> omega
      have hwS : IntKind.i64.wrap (x + P) = x + P := by rw [IntWalk.i64_in] <;> omega
      have hl6' : (l : Int) < 6 := by omega
      have HL := Bx.mk (show x + P = v l + n * row l by rw [hx, hy, hP])
      clear hx hy
      go_wp2_with fail
      exact ⟨⟨l + 1, by omega, by go_num, ⟨cells_set HW.out hlt (h := fun t => if t < l + 1 then v t + n * row t else v t) (by simp only [if_pos (Nat.lt_succ_self l)]; exact HL.out) fun t ht hne => by
          by_cases z : t < l
          · simp only [if_pos z, if_pos (show t < l + 1 by omega)]
          · simp only [if_neg z, if_neg (show ¬ t < l + 1 by omega)]⟩, ⟨fun t ht => by
          refine ⟨?_, ?_⟩
          · rw [World.cell?_setCell_other _ _ _ _ (fun c => by have h : w.heap.size = w.heap.size + 1 + 1 := congrArg Addr.block c; omega)]; exact (HR.out t ht).1
          · rw [World.frozen?_setCell]; exact (HR.out t ht).2⟩, ⟨HB.out.setCell (p := ⟨w.heap.size, l, none⟩) (Nat.le_refl _) _⟩⟩, by simp [intOf]; omega⟩
    · obtain rfl : l = 6 := by omega
      have w0 := (HW.out 0 (by omega)).1
      have w1 := (HW.out 1 (by omega)).1
      have w2 := (HW.out 2 (by omega)).1
      have w3 := (HW.out 3 (by omega)).1
      have w4 := (HW.out 4 (by omega)).1
      have w5 := (HW.out 5 (by omega)).1
      simp only [Nat.reduceLT, if_true] at w0 w1 w2 w3 w4 w5
      have r0 := HR.out 0 (by omega)
      have r1 := HR.out 1 (by omega)
      have r2 := HR.out 2 (by omega)
      have r3 := HR.out 3 (by omega)
      have r4 := HR.out 4 (by omega)
      have r5 := HR.out 5 (by omega)
      obtain ⟨q0, k0⟩ := r0
      obtain ⟨q1, k1⟩ := r1
      obtain ⟨q2, k2⟩ := r2
      obtain ⟨q3, k3⟩ := r3
      obtain ⟨q4, k4⟩ := r4
      obtain ⟨q5, k5⟩ := r5
      have hB := HB.out
      go_wp2_with fail
      refine bodyPost_ret_by (v := PV fun j => v j + n * row j) (by simp [results, Try.results94, go_sem, q0, q1, q2, q3, q4, q5]) rfl ?_
      exact ⟨rfl, (by repeat (first | with_reducible exact hB | (with_reducible refine Below.setCell ?_ ?side _; case side => (first | omega | (simp <;> omega)))))⟩
def prodP (O : Nat → Nat → Int) (p : Nat → Nat) (k : Nat) : Int := pr (fun i => O i (p i)) k
set_option maxRecDepth 100000 in
set_option maxHeartbeats 8000000 in
theorem product_at (fo co : Option Addr) (fc cc q : Nat) (O : Nat → Nat → Int) (p : Nat → Nat) (w : World) (hS : BS w fo fc co cc q O p) (hb : ∀ k, k ≤ q → 0 ≤ pr (fun i => O i (p i)) k ∧ pr (fun i => O i (p i)) k ≤ 1000000000) :
    Calls Try.prog 90 #[.agg #[.slice fo q fc, .slice co q cc]] w fun e w' => e = .returned (.int .i64 (pr (fun i => O i (p i)) q)) ∧ Below w.heap.size w w' := by
  have HP := Bx.mk hb
  have hq6 := hS.six
  have HS := Bx.mk hS
  have PP := Bx.mk (fun i (hi : i < q) w' (hb : Below w.heap.size w w') => pivot_at fo co fc cc q O p i w' (hS.keep hb) hi)
  clear hb hS
  go_enter Try.func90, Try.ntmps90
  go_wp2_with fail
  go_loopw [3, 8] (fun nv ix wr => ∃ k : Nat, k ≤ q ∧ ix = .int .i64 k ∧ nv = .int .i64 (pr (fun i => O i (p i)) k) ∧ Bx (wr.cell? ⟨w.heap.size, 0, none⟩ = some (.slice fo q fc) ∧ wr.cell? ⟨w.heap.size, 1, none⟩ = some (.slice co q cc)) ∧ w.heap.size < wr.heap.size ∧ Bx (Below w.heap.size w wr)) (fun _ ix _ => q - (intOf ix).toNat)
  case atStart => exact ⟨0, by omega, rfl, rfl, ⟨by simp [go_sem], by simp [go_sem]⟩, by simp, ⟨(Below.refl _ w).alloc (Nat.le_refl _) _⟩⟩
  case round =>
    obtain ⟨k, hk, rfl, rfl, HC, hws, HB⟩ := hrel
    by_cases hlt : k < q
    · have c0 := HC.out.1
      have c1 := HC.out.2
      obtain ⟨N, hN⟩ : ∃ N, pr (fun i => O i (p i)) k = N := ⟨_, rfl⟩
      have PA := PP.out k hlt wr HB.out
      obtain ⟨x, hx⟩ : ∃ x, O k (p k) = x := ⟨_, rfl⟩
      have hs : pr (fun i => O i (p i)) (k + 1) = N * x := by rw [← hN, ← hx]; rfl
      have hbd := HP.out (k + 1) (by omega)
      rw [hs] at hbd
      rw [hx] at PA
      have HPA := Bx.mk PA
      have HSS := Bx.mk hs
      have hw1 : IntKind.i64.wrap (N * x) = N * x := by rw [IntWalk.i64_in] <;> omega
      rw [hN]
      clear PA hN hx hs
      go_wp2_with (go_at_call 135; refine HPA.out.mono ?_; rintro e w2 ⟨rfl, hb2⟩)
      exact ⟨⟨k + 1, by omega, by go_num, by rw [HSS.out], ⟨(hb2.cell (p := ⟨w.heap.size, 0, none⟩) hws).trans HC.out.1, (hb2.cell (p := ⟨w.heap.size, 1, none⟩) hws).trans HC.out.2⟩, Nat.lt_of_lt_of_le hws hb2.size, ⟨HB.out.trans (hb2.mono HB.out.size)⟩⟩, by simp [intOf]; omega⟩
    · obtain rfl : k = q := by omega
      go_wp2_with fail
      go_ret
      exact ⟨rfl, HB.out⟩
end Go.Proofs.Ytnbamjoadankmaa
/- The program's lattice: the step to the next remainder. -/
namespace Go.Proofs.Ytnbamjoadankmaa
open Go.RowKit D
theorem three_facts (w : World) (x y : Value) (v : Nat → Int) (t u : TypeId) (W : World) (hW : W = ((w.alloc (.cells #[x, y] u)).alloc (.cells #[.int .i64 (v 0), .int .i64 (v 1), .int .i64 (v 2), .int .i64 (v 3), .int .i64 (v 4), .int .i64 (v 5)] t)).alloc (.cells #[.int .i64 0, .int .i64 0, .int .i64 0, .int .i64 0, .int .i64 0, .int .i64 0] t)) :
    W.cell? ⟨w.heap.size, 0, none⟩ = some x ∧ W.cell? ⟨w.heap.size, 1, none⟩ = some y ∧ (∀ j, j < 6 → W.cell? ⟨w.heap.size + 1, j, none⟩ = some (.int .i64 (v j))) ∧ (∀ j, j < 6 → W.cell? ⟨w.heap.size + 2, j, none⟩ = some (.int .i64 0)) ∧ (∀ j, W.frozen? ⟨w.heap.size + 2, j, none⟩ = false) ∧ Below w.heap.size w W ∧ W.heap.size = w.heap.size + 3 := by
  obtain ⟨A, hA⟩ : ∃ A, A = (w.alloc (.cells #[x, y] u)).alloc (.cells #[.int .i64 (v 0), .int .i64 (v 1), .int .i64 (v 2), .int .i64 (v 3), .int .i64 (v 4), .int .i64 (v 5)] t) := ⟨_, rfl⟩
  have hs : A.heap.size = w.heap.size + 2 := by rw [hA]; simp
  have hk := boxes_kept (w := w) (x := x) (y := y) (v := v) (t := t) (u := u) (w2 := A) (by rw [← hA]; exact Below.refl _ _)
  have hW' : W = A.alloc (.cells #[.int .i64 0, .int .i64 0, .int .i64 0, .int .i64 0, .int .i64 0, .int .i64 0] t) := by rw [hW, hA]
  have hB : Below A.heap.size A W := by rw [hW']; exact (Below.refl _ A).alloc (Nat.le_refl _) _
  have hz := box_cell A (fun _ => 0) t
  refine ⟨?_, ?_, fun j hj => ?_, fun j hj => ?_, fun j => ?_, ?_, ?_⟩
  · rw [hB.cell (p := ⟨w.heap.size, 0, none⟩) (by rw [hs]; show w.heap.size < _; omega)]; exact hk.1
  · rw [hB.cell (p := ⟨w.heap.size, 1, none⟩) (by rw [hs]; show w.heap.size < _; omega)]; exact hk.2.1
  · rw [hB.cell (p := ⟨w.heap.size + 1, j, none⟩) (by rw [hs]; show w.heap.size + 1 < _; omega)]; exact hk.2.2 j hj
  · rw [hW', ← hs]; exact hz j hj
  · rw [hW', ← hs]; simp [go_sem]
  · refine Below.trans ?_ (hB.mono (by rw [hs]; omega))
    rw [hA]; exact ((Below.refl _ w).alloc (Nat.le_refl _) _).alloc (by simp) _
  · rw [hW']; simp [hs]
set_option maxRecDepth 100000 in
set_option maxHeartbeats 8000000 in
theorem remainder_at (fo co : Option Addr) (fc cc q : Nat) (O : Nat → Nat → Int) (p : Nat → Nat) (i : Nat) (v : Nat → Int) (w : World) (hS : BS w fo fc co cc q O p) (hi : i < q) (hv : ∀ j, j < 6 → -1000000000 ≤ v j ∧ v j ≤ 1000000000) :
    Calls Try.prog 86 #[.agg #[.slice fo q fc, .slice co q cc], .int .i64 i, PV v] w fun e w' => e = .returned (PV fun j => v j + -(v (p i) / O i (p i)) * O i j) ∧ Below w.heap.size w w' := by
  have hmx : Try.prog.follows .mixedOrders = true := by kernel_rfl
  obtain ⟨bf, of', rfl, hbf, hcf⟩ := hS.rows (by omega)
  have hP := hS.pos i hi
  have hp6 := hS.lt i hi
  have hvp := hv (p i) hp6
  have PC := fun w' (hb : Below w.heap.size w w') => coefficient_any (some ⟨bf, of', none⟩) co fc cc q O p i v w' (hS.keep hb) hi hv
  obtain ⟨c, hc⟩ : ∃ c, v (p i) / O i (p i) = c := ⟨_, rfl⟩
  have hcb : -1000000000 ≤ c ∧ c ≤ 1000000000 := by
    rw [← hc]
    have h1 : (v (p i) / O i (p i)).natAbs ≤ (v (p i)).natAbs := Int.natAbs_ediv_le_natAbs _ _
    omega
  rw [hc] at PC ⊢
  have PA := fun w' => plus_any v (O i) (-c) w' (fun j hj => by have := hv j hj; omega) (fun j hj => by
    have := hS.ent i j hi hj
    have h : (-c * O i j).natAbs ≤ 1000000000 * 6000000000 := by rw [Int.natAbs_mul]; exact Nat.mul_le_mul (by omega) (by omega)
    omega)
  have HPC := Bx.mk PC
  have HPA := Bx.mk PA
  unfold PV at HPC
  have hwn : IntKind.i64.wrap (-c) = -c := by rw [IntWalk.i64_in] <;> omega
  have l1 := hS.lf
  have hiq : (i : Int) < (q : Int) := by omega
  obtain ⟨w0, hw0⟩ : ∃ w0, w0 = ((w.alloc (.cells #[.slice (some ⟨bf, of', none⟩) q fc, .slice co q cc] 100)).alloc (.cells #[.int .i64 (v 0), .int .i64 (v 1), .int .i64 (v 2), .int .i64 (v 3), .int .i64 (v 4), .int .i64 (v 5)] 36)).alloc (.cells #[.int .i64 0, .int .i64 0, .int .i64 0, .int .i64 0, .int .i64 0, .int .i64 0] 36) := ⟨_, rfl⟩
  obtain ⟨s0, s1, hvb, hzb, hfz, hB0, hs⟩ := three_facts w _ _ v _ _ w0 hw0
  have hl0 : w.heap.size < w0.heap.size := by omega
  have hl1 : w.heap.size + 1 < w0.heap.size := by omega
  have hl2 : w.heap.size + 2 < w0.heap.size := by omega
  have hlf : bf < w0.heap.size := by omega
  have v0 := hvb 0 (by omega)
  have v1 := hvb 1 (by omega)
  have v2 := hvb 2 (by omega)
  have v3 := hvb 3 (by omega)
  have v4 := hvb 4 (by omega)
  have v5 := hvb 5 (by omega)
  have r0 : w0.cell? ⟨bf, of' + i * 6, none⟩ = some (.int .i64 (O i 0)) := (hB0.cell (p := ⟨bf, of' + i * 6, none⟩) hbf).trans (hcf i 0 hi (by omega))
  have r1 : w0.cell? ⟨bf, of' + i * 6 + 1, none⟩ = some (.int .i64 (O i 1)) := (hB0.cell (p := ⟨bf, of' + i * 6 + 1, none⟩) hbf).trans (hcf i 1 hi (by omega))
  have r2 : w0.cell? ⟨bf, of' + i * 6 + 2, none⟩ = some (.int .i64 (O i 2)) := (hB0.cell (p := ⟨bf, of' + i * 6 + 2, none⟩) hbf).trans (hcf i 2 hi (by omega))
  have r3 : w0.cell? ⟨bf, of' + i * 6 + 3, none⟩ = some (.int .i64 (O i 3)) := (hB0.cell (p := ⟨bf, of' + i * 6 + 3, none⟩) hbf).trans (hcf i 3 hi (by omega))
  have r4 : w0.cell? ⟨bf, of' + i * 6 + 4, none⟩ = some (.int .i64 (O i 4)) := (hB0.cell (p := ⟨bf, of' + i * 6 + 4, none⟩) hbf).trans (hcf i 4 hi (by omega))
  have r5 : w0.cell? ⟨bf, of' + i * 6 + 5, none⟩ = some (.int .i64 (O i 5)) := (hB0.cell (p := ⟨bf, of' + i * 6 + 5, none⟩) hbf).trans (hcf i 5 hi (by omega))
  have z0 := hzb 0 (by omega)
  have z1 := hzb 1 (by omega)
  have z2 := hzb 2 (by omega)
  have z3 := hzb 3 (by omega)
  have z4 := hzb 4 (by omega)
  have z5 := hzb 5 (by omega)
  have f0 := hfz 0
  have f1 := hfz 1
  have f2 := hfz 2
  have f3 := hfz 3
  have f4 := hfz 4
  have f5 := hfz 5
  have HB0 := Bx.mk hB0
  clear hS hcf PC PA hvb hzb hfz hv hc hP hB0
  go_enter Try.func86, Try.ntmps86
  go_wp2_with fail
  rw [← hw0]
  clear hw0
  have hn0 : ¬ w.heap.size + 1 + 1 = w.heap.size := by omega
  have hn1 : ¬ w.heap.size + 1 + 1 = w.heap.size + 1 := by omega
  have hnb : ¬ w.heap.size + 1 + 1 = bf := by omega
  go_region_held3 (fun w' => w'.cell? ⟨w.heap.size, 0, none⟩ = some (.slice (some ⟨bf, of', none⟩) q fc) ∧ w'.cell? ⟨w.heap.size, 1, none⟩ = some (.slice co q cc) ∧ w'.cell? ⟨w.heap.size + 1, 0, none⟩ = some (.int .i64 (v 0)) ∧ w'.cell? ⟨w.heap.size + 1, 1, none⟩ = some (.int .i64 (v 1)) ∧ w'.cell? ⟨w.heap.size + 1, 2, none⟩ = some (.int .i64 (v 2)) ∧ w'.cell? ⟨w.heap.size + 1, 3, none⟩ = some (.int .i64 (v 3)) ∧ w'.cell? ⟨w.heap.size + 1, 4, none⟩ = some (.int .i64 (v 4)) ∧ w'.cell? ⟨w.heap.size + 1, 5, none⟩ = some (.int .i64 (v 5)) ∧ w'.cell? ⟨bf, of' + i * 6, none⟩ = some (.int .i64 (O i 0)) ∧ w'.cell? ⟨bf, of' + i * 6 + 1, none⟩ = some (.int .i64 (O i 1)) ∧ w'.cell? ⟨bf, of' + i * 6 + 2, none⟩ = some (.int .i64 (O i 2)) ∧ w'.cell? ⟨bf, of' + i * 6 + 3, none⟩ = some (.int .i64 (O i 3)) ∧ w'.cell? ⟨bf, of' + i * 6 + 4, none⟩ = some (.int .i64 (O i 4)) ∧ w'.cell? ⟨bf, of' + i * 6 + 5, none⟩ = some (.int .i64 (O i 5)))
    (first
      | go_keep
      | exact HS2
      | exact HS3)
    (first
      | (go_at_call 128; refine (HPC.out _ (below_drew HB0.out)).mono ?_; rintro e w2 ⟨rfl, hb2⟩
         have HS2 : w2.cell? ⟨w.heap.size, 0, none⟩ = some (.slice (some ⟨bf, of', none⟩) q fc) ∧ w2.cell? ⟨w.heap.size, 1, none⟩ = some (.slice co q cc) ∧ w2.cell? ⟨w.heap.size + 1, 0, none⟩ = some (.int .i64 (v 0)) ∧ w2.cell? ⟨w.heap.size + 1, 1, none⟩ = some (.int .i64 (v 1)) ∧ w2.cell? ⟨w.heap.size + 1, 2, none⟩ = some (.int .i64 (v 2)) ∧ w2.cell? ⟨w.heap.size + 1, 3, none⟩ = some (.int .i64 (v 3)) ∧ w2.cell? ⟨w.heap.size + 1, 4, none⟩ = some (.int .i64 (v 4)) ∧ w2.cell? ⟨w.heap.size + 1, 5, none⟩ = some (.int .i64 (v 5)) ∧ w2.cell? ⟨bf, of' + i * 6, none⟩ = some (.int .i64 (O i 0)) ∧ w2.cell? ⟨bf, of' + i * 6 + 1, none⟩ = some (.int .i64 (O i 1)) ∧ w2.cell? ⟨bf, of' + i * 6 + 2, none⟩ = some (.int .i64 (O i 2)) ∧ w2.cell? ⟨bf, of' + i * 6 + 3, none⟩ = some (.int .i64 (O i 3)) ∧ w2.cell? ⟨bf, of' + i * 6 + 4, none⟩ = some (.int .i64 (O i 4)) ∧ w2.cell? ⟨bf, of' + i * 6 + 5, none⟩ = some (.int .i64 (O i 5)) := ⟨(hb2.cell (p := ⟨w.heap.size, 0, none⟩) hl0).trans s0, (hb2.cell (p := ⟨w.heap.size, 1, none⟩) hl0).trans s1, (hb2.cell (p := ⟨w.heap.size + 1, 0, none⟩) hl1).trans v0, (hb2.cell (p := ⟨w.heap.size + 1, 1, none⟩) hl1).trans v1, (hb2.cell (p := ⟨w.heap.size + 1, 2, none⟩) hl1).trans v2, (hb2.cell (p := ⟨w.heap.size + 1, 3, none⟩) hl1).trans v3, (hb2.cell (p := ⟨w.heap.size + 1, 4, none⟩) hl1).trans v4, (hb2.cell (p := ⟨w.heap.size + 1, 5, none⟩) hl1).trans v5, (hb2.cell (p := ⟨bf, of' + i * 6, none⟩) hlf).trans r0, (hb2.cell (p := ⟨bf, of' + i * 6 + 1, none⟩) hlf).trans r1, (hb2.cell (p := ⟨bf, of' + i * 6 + 2, none⟩) hlf).trans r2, (hb2.cell (p := ⟨bf, of' + i * 6 + 3, none⟩) hlf).trans r3, (hb2.cell (p := ⟨bf, of' + i * 6 + 4, none⟩) hlf).trans r4, (hb2.cell (p := ⟨bf, of' + i * 6 + 5, none⟩) hlf).trans r5⟩
         have az0 := (hb2.cell (p := ⟨w.heap.size + 2, 0, none⟩) hl2).trans z0
         have af0 := (hb2.frozen (p := ⟨w.heap.size + 2, 0, none⟩) hl2).trans f0
         have az1 := (hb2.cell (p := ⟨w.heap.size + 2, 1, none⟩) hl2).trans z1
         have af1 := (hb2.frozen (p := ⟨w.heap.size + 2, 1, none⟩) hl2).trans f1
         have az2 := (hb2.cell (p := ⟨w.heap.size + 2, 2, none⟩) hl2).trans z2
         have af2 := (hb2.frozen (p := ⟨w.heap.size + 2, 2, none⟩) hl2).trans f2
         have az3 := (hb2.cell (p := ⟨w.heap.size + 2, 3, none⟩) hl2).trans z3
         have af3 := (hb2.frozen (p := ⟨w.heap.size + 2, 3, none⟩) hl2).trans f3
         have az4 := (hb2.cell (p := ⟨w.heap.size + 2, 4, none⟩) hl2).trans z4
         have af4 := (hb2.frozen (p := ⟨w.heap.size + 2, 4, none⟩) hl2).trans f4
         have az5 := (hb2.cell (p := ⟨w.heap.size + 2, 5, none⟩) hl2).trans z5
         have af5 := (hb2.frozen (p := ⟨w.heap.size + 2, 5, none⟩) hl2).trans f5
         have HB2 := Bx.mk ((below_drew HB0.out).trans (hb2.mono (Nat.le_of_lt hl0))))
      | (go_at_call 94; refine (HPA.out _).mono ?_; rintro e w3 ⟨rfl, hb3⟩
         have hsz2 := hb2.size
         have HS3 : w3.cell? ⟨w.heap.size, 0, none⟩ = some (.slice (some ⟨bf, of', none⟩) q fc) ∧ w3.cell? ⟨w.heap.size, 1, none⟩ = some (.slice co q cc) ∧ w3.cell? ⟨w.heap.size + 1, 0, none⟩ = some (.int .i64 (v 0)) ∧ w3.cell? ⟨w.heap.size + 1, 1, none⟩ = some (.int .i64 (v 1)) ∧ w3.cell? ⟨w.heap.size + 1, 2, none⟩ = some (.int .i64 (v 2)) ∧ w3.cell? ⟨w.heap.size + 1, 3, none⟩ = some (.int .i64 (v 3)) ∧ w3.cell? ⟨w.heap.size + 1, 4, none⟩ = some (.int .i64 (v 4)) ∧ w3.cell? ⟨w.heap.size + 1, 5, none⟩ = some (.int .i64 (v 5)) ∧ w3.cell? ⟨bf, of' + i * 6, none⟩ = some (.int .i64 (O i 0)) ∧ w3.cell? ⟨bf, of' + i * 6 + 1, none⟩ = some (.int .i64 (O i 1)) ∧ w3.cell? ⟨bf, of' + i * 6 + 2, none⟩ = some (.int .i64 (O i 2)) ∧ w3.cell? ⟨bf, of' + i * 6 + 3, none⟩ = some (.int .i64 (O i 3)) ∧ w3.cell? ⟨bf, of' + i * 6 + 4, none⟩ = some (.int .i64 (O i 4)) ∧ w3.cell? ⟨bf, of' + i * 6 + 5, none⟩ = some (.int .i64 (O i 5)) := by
           obtain ⟨q0, q1, q2, q3, q4, q5, q6, q7, q8, q9, q10, q11, q12, q13⟩ := HS2
           exact ⟨(hb3.cell (p := ⟨w.heap.size, 0, none⟩) (Nat.lt_of_lt_of_le hl0 hsz2)).trans q0, (hb3.cell (p := ⟨w.heap.size, 1, none⟩) (Nat.lt_of_lt_of_le hl0 hsz2)).trans q1, (hb3.cell (p := ⟨w.heap.size + 1, 0, none⟩) (Nat.lt_of_lt_of_le hl1 hsz2)).trans q2, (hb3.cell (p := ⟨w.heap.size + 1, 1, none⟩) (Nat.lt_of_lt_of_le hl1 hsz2)).trans q3, (hb3.cell (p := ⟨w.heap.size + 1, 2, none⟩) (Nat.lt_of_lt_of_le hl1 hsz2)).trans q4, (hb3.cell (p := ⟨w.heap.size + 1, 3, none⟩) (Nat.lt_of_lt_of_le hl1 hsz2)).trans q5, (hb3.cell (p := ⟨w.heap.size + 1, 4, none⟩) (Nat.lt_of_lt_of_le hl1 hsz2)).trans q6, (hb3.cell (p := ⟨w.heap.size + 1, 5, none⟩) (Nat.lt_of_lt_of_le hl1 hsz2)).trans q7, (hb3.cell (p := ⟨bf, of' + i * 6, none⟩) (Nat.lt_of_lt_of_le hlf hsz2)).trans q8, (hb3.cell (p := ⟨bf, of' + i * 6 + 1, none⟩) (Nat.lt_of_lt_of_le hlf hsz2)).trans q9, (hb3.cell (p := ⟨bf, of' + i * 6 + 2, none⟩) (Nat.lt_of_lt_of_le hlf hsz2)).trans q10, (hb3.cell (p := ⟨bf, of' + i * 6 + 3, none⟩) (Nat.lt_of_lt_of_le hlf hsz2)).trans q11, (hb3.cell (p := ⟨bf, of' + i * 6 + 4, none⟩) (Nat.lt_of_lt_of_le hlf hsz2)).trans q12, (hb3.cell (p := ⟨bf, of' + i * 6 + 5, none⟩) (Nat.lt_of_lt_of_le hlf hsz2)).trans q13⟩
         have bz0 := (hb3.cell (p := ⟨w.heap.size + 2, 0, none⟩) (Nat.lt_of_lt_of_le hl2 hsz2)).trans az0
         have bf0 := (hb3.frozen (p := ⟨w.heap.size + 2, 0, none⟩) (Nat.lt_of_lt_of_le hl2 hsz2)).trans af0
         have bz1 := (hb3.cell (p := ⟨w.heap.size + 2, 1, none⟩) (Nat.lt_of_lt_of_le hl2 hsz2)).trans az1
         have bf1 := (hb3.frozen (p := ⟨w.heap.size + 2, 1, none⟩) (Nat.lt_of_lt_of_le hl2 hsz2)).trans af1
         have bz2 := (hb3.cell (p := ⟨w.heap.size + 2, 2, none⟩) (Nat.lt_of_lt_of_le hl2 hsz2)).trans az2
         have bf2 := (hb3.frozen (p := ⟨w.heap.size + 2, 2, none⟩) (Nat.lt_of_lt_of_le hl2 hsz2)).trans af2
         have bz3 := (hb3.cell (p := ⟨w.heap.size + 2, 3, none⟩) (Nat.lt_of_lt_of_le hl2 hsz2)).trans az3
         have bf3 := (hb3.frozen (p := ⟨w.heap.size + 2, 3, none⟩) (Nat.lt_of_lt_of_le hl2 hsz2)).trans af3
         have bz4 := (hb3.cell (p := ⟨w.heap.size + 2, 4, none⟩) (Nat.lt_of_lt_of_le hl2 hsz2)).trans az4
         have bf4 := (hb3.frozen (p := ⟨w.heap.size + 2, 4, none⟩) (Nat.lt_of_lt_of_le hl2 hsz2)).trans af4
         have bz5 := (hb3.cell (p := ⟨w.heap.size + 2, 5, none⟩) (Nat.lt_of_lt_of_le hl2 hsz2)).trans az5
         have bf5 := (hb3.frozen (p := ⟨w.heap.size + 2, 5, none⟩) (Nat.lt_of_lt_of_le hl2 hsz2)).trans af5
         have HB3 := Bx.mk (HB2.out.trans (hb3.mono HB2.out.size))))
  all_goals go_wp2_with fail
  all_goals refine bodyPost_ret_by (v := PV fun j => v j + -c * O i j) (by simp [results, Try.results86, go_sem, bz0, bz1, bz2, bz3, bz4, bz5]) rfl ?_
  all_goals exact ⟨rfl, (by repeat (first | with_reducible exact HB3.out | (with_reducible refine Below.setCell ?_ ?side _; case side => (first | omega | (simp <;> omega))) | with_reducible apply below_drewN | with_reducible apply below_drew))⟩
end Go.Proofs.Ytnbamjoadankmaa
/- The program's lattice: the least multiplier of a step of Order. -/
namespace Go.Proofs.Ytnbamjoadankmaa
open Go.RowKit D
set_option maxRecDepth 100000 in
set_option maxHeartbeats 8000000 in
theorem multiplier_at (fo co : Option Addr) (fc cc q : Nat) (O : Nat → Nat → Int) (p : Nat → Nat) (i : Nat) (v : Nat → Int) (w : World) (hS : BS w fo fc co cc q O p) (hi : i < q) (hv : ∀ j, j < 6 → -1000000000 ≤ v j ∧ v j ≤ 1000000000) :
    Calls Try.prog 93 #[.agg #[.slice fo q fc, .slice co q cc], .int .i64 i, PV v] w fun e w' => e = .returned (.int .i64 (O i (p i) / (Int.gcd (O i (p i)) (v (p i)) : Nat))) ∧ Below w.heap.size w w' := by
  have hmx : Try.prog.follows .mixedOrders = true := by kernel_rfl
  have PP := fun w' (hb : Below w.heap.size w w') => pivot_at fo co fc cc q O p i w' (hS.keep hb) hi
  obtain ⟨bc, oc, rfl, hbc, hcc⟩ := hS.col hi
  have hp6 := hS.lt i hi
  have hP := hS.pos i hi
  have hP2 := hS.piv i hi
  have hvp := hv (p i) hp6
  have l2 := hS.lc
  obtain ⟨c, hc⟩ : ∃ c, p i = c := ⟨_, rfl⟩
  rw [hc] at hcc hp6 hP hP2 hvp PP ⊢
  obtain ⟨P, hPe⟩ : ∃ P, O i c = P := ⟨_, rfl⟩
  rw [hPe] at hP hP2 PP ⊢
  obtain ⟨n, hn⟩ : ∃ n, v c = n := ⟨_, rfl⟩
  have PG := fun w' => ldivisor_any P n w' (by omega) (by omega)
  rw [hn] at hvp ⊢
  obtain ⟨g, hg⟩ : ∃ g, Int.gcd P n = g := ⟨_, rfl⟩
  rw [hg] at PG ⊢
  have hg1 : 0 < g := by rw [← hg]; exact Nat.pos_of_ne_zero (fun e => by have := Int.gcd_eq_zero_iff.1 e; omega)
  have hg0 : ((g : Int) == 0) = false := by simp; omega
  have hq : Int.tdiv P (g : Int) = P / (g : Int) := Int.tdiv_eq_ediv_of_nonneg (by omega)
  obtain ⟨m, hm⟩ : ∃ m, P / (g : Int) = m := ⟨_, rfl⟩
  have hm0 : 0 ≤ m ∧ m ≤ P := by rw [← hm]; exact ⟨Int.ediv_nonneg (by omega) (by omega), Int.ediv_le_self _ (by omega)⟩
  have hwm : wrap64 m = m := by unfold wrap64; omega
  rw [hm] at hq ⊢
  have hwi : IntKind.i64.wrap m = m := by rw [IntWalk.i64_in] <;> omega
  have hwq : IntKind.i64.wrap (Int.tdiv P (g : Int)) = m := by rw [hq]; exact hwi
  have hwq2 : wrap64 (Int.tdiv P (g : Int)) = m := by rw [hq]; exact hwm
  have hgi : ¬ ((g : Int) = 0) := by omega
  have HPP := Bx.mk PP
  have HPG := Bx.mk PG
  obtain ⟨w0, hw0⟩ : ∃ w0, w0 = ((w.alloc (.cells #[.slice fo q fc, .slice (some ⟨bc, oc, none⟩) q cc] 100)).alloc (.cells #[.int .i64 (v 0), .int .i64 (v 1), .int .i64 (v 2), .int .i64 (v 3), .int .i64 (v 4), .int .i64 (v 5)] 36)) := ⟨_, rfl⟩
  obtain ⟨s0, s1, hvb⟩ := boxes_kept (w := w) (x := .slice fo q fc) (y := .slice (some ⟨bc, oc, none⟩) q cc) (v := v) (t := 36) (u := 100) (w2 := w0) (by rw [← hw0]; exact Below.refl _ _)
  have hB0 : Below w.heap.size w w0 := by rw [hw0]; exact ((Below.refl _ w).alloc (Nat.le_refl _) _).alloc (by simp) _
  have hs : w0.heap.size = w.heap.size + 2 := by rw [hw0]; simp
  have hl0 : w.heap.size < w0.heap.size := by omega
  have hl1 : w.heap.size + 1 < w0.heap.size := by omega
  have hlc : bc < w0.heap.size := by omega
  have v0 := hvb c hp6
  rw [hn] at v0
  have r3 := (hB0.cell (p := ⟨bc, oc + i, none⟩) hbc).trans hcc
  have hc6 : (c : Int) < 6 := by omega
  have hiq : (i : Int) < (q : Int) := by omega
  have HB0 := Bx.mk hB0
  clear hS PP PG hvb hv hc hPe hn hg hm hB0
  go_enter Try.func93, Try.ntmps93
  go_wp2_with fail
  rw [← hw0]
  clear hw0
  have M1 : Bx True := ⟨trivial⟩
  go_region_held (fun w' => w'.cell? ⟨w.heap.size, 0, none⟩ = some (.slice fo q fc) ∧ w'.cell? ⟨w.heap.size, 1, none⟩ = some (.slice (some ⟨bc, oc, none⟩) q cc) ∧ w'.cell? ⟨w.heap.size + 1, c, none⟩ = some (.int .i64 n) ∧ w'.cell? ⟨bc, oc + i, none⟩ = some (.int .i64 c))
    (first
      | go_keep
      | exact HS2
      | exact HS3
      | exact HS4)
    (first
      | (clear M1; go_at_call 135; refine (HPP.out _ (below_drew HB0.out)).mono ?_; rintro e w2 ⟨rfl, hb2⟩
         have hz2 := hb2.size
         have HS2 : w2.cell? ⟨w.heap.size, 0, none⟩ = some (.slice fo q fc) ∧ w2.cell? ⟨w.heap.size, 1, none⟩ = some (.slice (some ⟨bc, oc, none⟩) q cc) ∧ w2.cell? ⟨w.heap.size + 1, c, none⟩ = some (.int .i64 n) ∧ w2.cell? ⟨bc, oc + i, none⟩ = some (.int .i64 c) := ⟨(hb2.cell (p := ⟨w.heap.size, 0, none⟩) hl0).trans s0, (hb2.cell (p := ⟨w.heap.size, 1, none⟩) hl0).trans s1, (hb2.cell (p := ⟨w.heap.size + 1, c, none⟩) hl1).trans v0, (hb2.cell (p := ⟨bc, oc + i, none⟩) hlc).trans r3⟩
         have HB2 := Bx.mk ((below_drew HB0.out).trans (hb2.mono (Nat.le_of_lt hl0))))
      | (go_at_call 135; refine (HPP.out _ HB2.out).mono ?_; rintro e w3 ⟨rfl, hb3⟩
         have hz3 := hb3.size
         have HS3 : w3.cell? ⟨w.heap.size, 0, none⟩ = some (.slice fo q fc) ∧ w3.cell? ⟨w.heap.size, 1, none⟩ = some (.slice (some ⟨bc, oc, none⟩) q cc) ∧ w3.cell? ⟨w.heap.size + 1, c, none⟩ = some (.int .i64 n) ∧ w3.cell? ⟨bc, oc + i, none⟩ = some (.int .i64 c) := ⟨(hb3.cell (p := ⟨w.heap.size, 0, none⟩) (Nat.lt_of_lt_of_le hl0 hz2)).trans HS2.1, (hb3.cell (p := ⟨w.heap.size, 1, none⟩) (Nat.lt_of_lt_of_le hl0 hz2)).trans HS2.2.1, (hb3.cell (p := ⟨w.heap.size + 1, c, none⟩) (Nat.lt_of_lt_of_le hl1 hz2)).trans HS2.2.2.1, (hb3.cell (p := ⟨bc, oc + i, none⟩) (Nat.lt_of_lt_of_le hlc hz2)).trans HS2.2.2.2⟩
         have HB3 := Bx.mk (HB2.out.trans (hb3.mono HB2.out.size)))
      | (go_at_call 136; refine (HPG.out _).mono ?_; rintro e w4 ⟨rfl, hb4⟩
         have HS4 : w4.cell? ⟨w.heap.size, 0, none⟩ = some (.slice fo q fc) ∧ w4.cell? ⟨w.heap.size, 1, none⟩ = some (.slice (some ⟨bc, oc, none⟩) q cc) ∧ w4.cell? ⟨w.heap.size + 1, c, none⟩ = some (.int .i64 n) ∧ w4.cell? ⟨bc, oc + i, none⟩ = some (.int .i64 c) := ⟨(hb4.cell (p := ⟨w.heap.size, 0, none⟩) (Nat.lt_of_lt_of_le (Nat.lt_of_lt_of_le hl0 hz2) hz3)).trans HS3.1, (hb4.cell (p := ⟨w.heap.size, 1, none⟩) (Nat.lt_of_lt_of_le (Nat.lt_of_lt_of_le hl0 hz2) hz3)).trans HS3.2.1, (hb4.cell (p := ⟨w.heap.size + 1, c, none⟩) (Nat.lt_of_lt_of_le (Nat.lt_of_lt_of_le hl1 hz2) hz3)).trans HS3.2.2.1, (hb4.cell (p := ⟨bc, oc + i, none⟩) (Nat.lt_of_lt_of_le (Nat.lt_of_lt_of_le hlc hz2) hz3)).trans HS3.2.2.2⟩
         have HB4 := Bx.mk (HB3.out.trans (hb4.mono HB3.out.size))))
  all_goals go_wp2_with fail
  all_goals go_ret
  all_goals exact ⟨by first | rfl | (simp [hwm]; done), (by repeat (first | with_reducible exact HB4.out | with_reducible apply below_drewN | with_reducible apply below_drew))⟩
end Go.Proofs.Ytnbamjoadankmaa

/- slices.Delete of one row. -/
import Derived.Test.YtmknbgiihhimfaaKE
import Derived.Test.YtmknbgiihhimfaaMC
namespace Go.Proofs.Ytmknbgiihhimfaa
open Go.RowKit D
/-- The cells of the first rows. -/
def rowsL (M : Nat → Nat → Int) (k : Nat) : List Value := (List.range (k * 6)).map fun t => .int .i64 (M (t / 6) (t % 6))
theorem rowsL_length (M : Nat → Nat → Int) (k : Nat) : (rowsL M k).length = k * 6 := by simp [rowsL]
theorem rowsL_get {M : Nat → Nat → Int} {k i j : Nat} (hi : i < k) (hj : j < 6) : (rowsL M k)[i * 6 + j]? = some (.int .i64 (M i j)) := by
  unfold rowsL
  rw [List.getElem?_map, List.getElem?_range (by omega)]
  simp [show (i * 6 + j) / 6 = i by omega, show (i * 6 + j) % 6 = j by omega]
theorem rowsL_one (M : Nat → Nat → Int) (k : Nat) : ∀ u ∈ rowsL M k, u.oneCell' = true := by
  intro u hu; obtain ⟨_, _, rfl⟩ := List.mem_map.1 hu; rfl
theorem RB.own {W : World} {b n cap base k : Nat} {M : Nat → Nat → Int} (h : RB W b n cap M) (hb : base ≤ b) (hm : cap ≤ maxLen) (hk : k ≤ n) : W.ownsRow base 37 6 (.slice (some ⟨b, 0, none⟩) k cap) k (rowsL M k) := by
  obtain ⟨cur, h1, h2, h3, h4⟩ := h
  refine ⟨rowsL_length M k, .inr ⟨b, cap, cur, rfl, hb, h1, by omega, hm, h2, ?_⟩⟩
  apply List.ext_getElem?
  intro t
  by_cases ht : t < k * 6
  · rw [List.getElem?_take_of_lt ht, Array.getElem?_toList]
    have := h4 (t / 6) (t % 6) (by omega) (by omega)
    rw [show t / 6 * 6 + t % 6 = t by omega] at this
    rw [this]
    have := rowsL_get (M := M) (k := k) (i := t / 6) (j := t % 6) (by omega) (by omega)
    rw [show t / 6 * 6 + t % 6 = t by omega] at this
    exact this.symm
  · rw [List.getElem?_eq_none (by simp; omega), List.getElem?_eq_none (by rw [rowsL_length]; omega)]
theorem RB.of_own {W : World} {b k cap base : Nat} {M : Nat → Nat → Int} {xs : List Value} (h : W.ownsRow base 37 6 (.slice (some ⟨b, 0, none⟩) k cap) k xs) (hx : ∀ i j, i < k → j < 6 → xs[i * 6 + j]? = some (.int .i64 (M i j))) : RB W b k cap M := by
  obtain ⟨h0, h⟩ := h
  rcases h with ⟨e, _⟩ | ⟨g, cap', cur, e, _, hg, hn, hm, hs, ht⟩
  · cases e
  · cases e
    refine ⟨cur, hg, hs, hn, fun i j hi hj => ?_⟩
    have := hx i j hi hj
    rw [← ht, List.getElem?_take_of_lt (by omega), Array.getElem?_toList] at this
    exact this
theorem RB.spare {W : World} {b n cap : Nat} {M : Nat → Nat → Int} (h : RB W b n cap M) {k : Nat} (hk : k < cap * 6) : ∃ x, W.cell? ⟨b, k, none⟩ = some x := by
  obtain ⟨cur, h1, h2, h3, h4⟩ := h
  simp only [World.cell?, h1]
  exact ⟨_, Array.getElem?_eq_getElem (by omega)⟩
theorem RB.away {W : World} {b n cap : Nat} {M : Nat → Nat → Int} (h : RB W b n cap M) {k : Nat} (hk : n * 6 ≤ k) (x : Value) : RB (W.setCell ⟨b, k, none⟩ x) b n cap M := by
  obtain ⟨cur, h1, h2, h3, h4⟩ := h
  refine ⟨cur.setIfInBounds k x, by simp [World.setCell, Array.getElem?_modify, h1], by simp [h2], h3, fun r s hr hs => ?_⟩
  rw [Array.getElem?_setIfInBounds_ne (by omega)]
  exact h4 r s hr hs
theorem But.grown {b : Nat} {x y : World} (h : x.grownBy y (some b)) : But b x y := ⟨h.os, h.tape, h.output, h.size, fun k hk hne => h.block k hk (by simpa using hne)⟩
/-- The rows without one of them. -/
def delR (M : Nat → Nat → Int) (i : Nat) : Nat → Nat → Int := fun r => if r < i then M r else M (r + 1)
theorem run_clear_row (P : Program) (w : World) (t e ty : TypeId) (ht : P.underlying t = some (.slice e)) (hv : ∀ w, (zeroValue e).run P w = .ok (.agg #[.int .i64 0, .int .i64 0, .int .i64 0, .int .i64 0, .int .i64 0, .int .i64 0]) w) (b o c : Nat) :
    (Builtin.clear_ #[t] ty #[.slice (some ⟨b, o, none⟩) 1 c]).run P w = (do storeCells ⟨b, o, none⟩ [.int .i64 0, .int .i64 0, .int .i64 0, .int .i64 0, .int .i64 0, .int .i64 0]; pure (Value.tuple #[]) : Sem Value).run P w := by
  have hzc : (Builtin.zeroCells (Value.agg #[.int .i64 0, .int .i64 0, .int .i64 0, .int .i64 0, .int .i64 0, .int .i64 0]).cells 1).toList = [.int .i64 0, .int .i64 0, .int .i64 0, .int .i64 0, .int .i64 0, .int .i64 0] := by
    apply List.ext_getElem
    · simp [Builtin.zeroCells, Value.cells]
    · intro i h1 h2
      have hi : i < 6 := by simpa using h2
      rcases six_cases' hi with rfl | rfl | rfl | rfl | rfl | rfl <;> simp [Builtin.zeroCells, Value.cells]
  simp [Builtin.clear_, run_underlying ht, hv, hzc, Sem.run_bind, Result.andThen]
theorem clear_vec (w : World) (ty : TypeId) (b o c : Nat) : (Builtin.clear_ #[22] ty #[.slice (some ⟨b, o, none⟩) 1 c]).run Try.prog w = (do storeCells ⟨b, o, none⟩ [.int .i64 0, .int .i64 0, .int .i64 0, .int .i64 0, .int .i64 0, .int .i64 0]; pure (Value.tuple #[]) : Sem Value).run Try.prog w :=
  run_clear_row _ w _ _ ty Try.underlying22 Try.zeroValue37 b o c
attribute [local go_sem] clear_vec
set_option maxRecDepth 100000 in
set_option maxHeartbeats 8000000 in
theorem delete_any (b n c1 i : Nat) (M : Nat → Nat → Int) (w : World) (hn : n ≤ 1000) (hi : i < n) (hc2 : c1 ≤ maxLen) (hR : RB w b n c1 M) :
    Calls Try.prog 57 #[.slice (some ⟨b, 0, none⟩) n c1, .int .i64 i, .int .i64 ((i + 1 : Nat) : Int)] w fun e w' => e = .returned (.slice (some ⟨b, 0, none⟩) (n - 1) c1) ∧ RB w' b (n - 1) c1 (delR M i) ∧ But b w w' := by
  have hmx : Try.prog.follows .mixedOrders = true := by kernel_rfl
  have hc1 : n ≤ c1 := by obtain ⟨_, _, _, h, _⟩ := hR; exact h
  have hbw := hR.lt
  have hij : (((i : Nat) : Int) == ((i + 1 : Nat) : Int)) = false := by simp; omega
  obtain ⟨ti, hti, hti2⟩ := Option.map_eq_some_iff.1 info_vec
  simp only [Prod.mk.injEq] at hti2
  have HR := Bx.mk hR
  have HTI := Bx.mk hti
  clear hR hti
  obtain ⟨co, hco⟩ : ∃ co : Option Addr, (if c1 = i + 1 then (some ⟨b, 0, none⟩ : Option Addr) else some ⟨b, (i + 1) * 6, none⟩) = co := ⟨_, rfl⟩
  have a1 : i ≤ c1 := by omega
  have a2 : i + 1 ≤ n := by omega
  have a3 : i + 1 ≤ c1 := by omega
  have a4 : (0 : Int) ≤ (i : Int) + 1 := by omega
  have a5 : (i : Int) + 1 ≤ (n : Int) := by omega
  have HCO := Bx.mk hco
  go_enter Try.func57, Try.ntmps57
  go_wp2_with fail
  refine wp_region_still_tail 6 hmx (by kernel_rfl) ?_
  simp only [List.take_succ_cons, List.take_zero, List.drop_succ_cons, List.drop_zero]
  change wpStill _ _ w.drew (fun a' => wpList _ _ _ _ a' w.drew) _ _
  still_step
  still_step
  still_step
  still_step
  still_step
  still_step
  refine wpStill_nil ?_
  have hrow : w.drew.ownsRow 0 37 6 (.slice (some ⟨b, 0, none⟩) i c1) i (rowsL M i) := RB.own (W := w.drew) HR.out (Nat.zero_le _) hc2 (by omega)
  have hnews : ∀ ad, co = some ad → ∀ j u, (rowsL (fun r => M (r + (i + 1))) (n - (i + 1)))[j]? = some u → w.drew.cell? (ad.add j) = some u := by
    intro ad had j u hj
    have hjl : j < (n - (i + 1)) * 6 := by have := (List.getElem?_eq_some_iff.1 hj).1; rwa [rowsL_length] at this
    rw [← HCO.out, if_neg (by omega)] at had
    cases had
    have e := rowsL_get (M := fun r => M (r + (i + 1))) (k := n - (i + 1)) (i := j / 6) (j := j % 6) (by omega) (by omega)
    rw [show j / 6 * 6 + j % 6 = j by omega, hj] at e
    rw [Addr.add_lit, e]
    have := HR.out.cell (i := j / 6 + (i + 1)) (j := j % 6) (by omega) (by omega)
    rw [show (j / 6 + (i + 1)) * 6 + j % 6 = (i + 1) * 6 + j by omega] at this
    exact this
  obtain ⟨ad, had⟩ : ∃ ad, co = some ad := by rw [← HCO.out]; split <;> exact ⟨_, rfl⟩
  have hnews' := hnews ad had
  subst had
  refine wpList_append_fits w.drew rfl (.tmp 22) (.tmp 25) 22 rfl 0 37 ti 6 Try.underlying22 HTI.out hti2.1 b i c1 (rowsL M i) rfl hrow ad (n - (i + 1)) _ _ rfl (rowsL_length _ _) hnews' (rowsL_one _ _) (by omega) ?_
  intro w2 hown2 hg2
  have HB2 : Bx (RB w2 b (n - 1) c1 (delR M i)) := ⟨by
    rw [show i + (n - (i + 1)) = n - 1 by omega] at hown2
    refine RB.of_own hown2 fun r s hr hs => ?_
    unfold delR
    by_cases h : r < i
    · rw [if_pos h, List.getElem?_append_left (by rw [rowsL_length]; omega)]; exact rowsL_get h hs
    · rw [if_neg h, List.getElem?_append_right (by rw [rowsL_length]; omega), rowsL_length]
      have := rowsL_get (M := fun r => M (r + (i + 1))) (k := n - (i + 1)) (i := r - i) (j := s) (by omega) hs
      rw [show (r - i) * 6 + s = r * 6 + s - i * 6 by omega] at this
      rw [this]; simp [show r - i + (i + 1) = r + 1 by omega]⟩
  have HG2 : Bx (But b w w2) := ⟨(But.of_below (x := w) (y := w.drew) (below_drew (Below.refl _ _))).trans (But.grown (x := w.drew) hg2)⟩
  obtain ⟨m, hm⟩ : ∃ m, n = m + 1 := ⟨n - 1, by omega⟩
  subst hm
  rw [show i + (m + 1 - (i + 1)) = m by omega]
  rw [show m + 1 - 1 = m by omega] at HB2
  obtain ⟨x0, k0⟩ := HB2.out.spare (k := m * 6) (by omega)
  obtain ⟨x1, k1⟩ := HB2.out.spare (k := m * 6 + 1) (by omega)
  obtain ⟨x2, k2⟩ := HB2.out.spare (k := m * 6 + 2) (by omega)
  obtain ⟨x3, k3⟩ := HB2.out.spare (k := m * 6 + 3) (by omega)
  obtain ⟨x4, k4⟩ := HB2.out.spare (k := m * 6 + 4) (by omega)
  obtain ⟨x5, k5⟩ := HB2.out.spare (k := m * 6 + 5) (by omega)
  have f0 := HB2.out.frozen (m * 6)
  have f1 := HB2.out.frozen (m * 6 + 1)
  have f2 := HB2.out.frozen (m * 6 + 2)
  have f3 := HB2.out.frozen (m * 6 + 3)
  have f4 := HB2.out.frozen (m * 6 + 4)
  have f5 := HB2.out.frozen (m * 6 + 5)
  have b1 : m ≤ c1 := by omega
  have b2 : m + 1 ≤ c1 := by omega
  have b3 : ((m : Nat) : Int) ≤ ((m + 1 : Nat) : Int) := by omega
  have b4 : c1 ≠ m := by omega
  clear hown2 hg2 hnews hnews' hrow hco
  go_wp2_with fail
  go_ret
  refine ⟨rfl, ?_, ?_⟩
  · rw [show m + 1 - 1 = m by omega]
    exact (((((HB2.out.away (Nat.le_refl _) _).away (by omega) _).away (by omega) _).away (by omega) _).away (by omega) _).away (by omega) _
  · exact HG2.out.trans (((((((But.set _ _ _).trans (But.set _ _ _)).trans (But.set _ _ _)).trans (But.set _ _ _)).trans (But.set _ _ _)).trans (But.set _ _ _)))
end Go.Proofs.Ytmknbgiihhimfaa

/- slices.Delete of one row. -/
import Derived.Test.YtnbamjoadankmaaKE
import Derived.Test.YtnbamjoadankmaaMC
import Derived.Test.YtnbamjoadankmaaR13
namespace Go.Proofs.Ytnbamjoadankmaa
open Go.RowKit D
/-- The cells of the first rows. -/
def rowsL (M : Nat → Nat → Int) (k : Nat) : List Value := (List.range (k * 6)).map fun t => .int .i64 (M (t / 6) (t % 6))
theorem rowsL_length (M : Nat → Nat → Int) (k : Nat) : (rowsL M k).length = k * 6 := by simp [rowsL]
theorem rowsL_get {M : Nat → Nat → Int} {k i j : Nat} (hi : i < k) (hj : j < 6) : (rowsL M k)[i * 6 + j]? = some (.int .i64 (M i j)) := by
  unfold rowsL
  rw [List.getElem?_map, List.getElem?_range (by omega)]
  simp [show (i * 6 + j) / 6 = i by omega, show (i * 6 + j) % 6 = j by omega]
theorem rowsL_one (M : Nat → Nat → Int) (k : Nat) : ∀ u ∈ rowsL M k, u.oneCell' = true := by
  intro u hu; obtain ⟨_, _, rfl⟩ := List.mem_map.1 hu; rfl
theorem RB.own {W : World} {b n cap base k : Nat} {M : Nat → Nat → Int} (h : RB W b n cap M) (hb : base ≤ b) (hm : cap ≤ maxLen) (hk : k ≤ n) : W.ownsRow base 36 6 (.slice (some ⟨b, 0, none⟩) k cap) k (rowsL M k) := by
  obtain ⟨cur, h1, h2, h3, h4⟩ := h
  refine ⟨rowsL_length M k, .inr ⟨b, cap, cur, rfl, hb, h1, by omega, hm, h2, ?_⟩⟩
  apply List.ext_getElem?
  intro t
  by_cases ht : t < k * 6
  · rw [List.getElem?_take_of_lt ht, Array.getElem?_toList]
    have := h4 (t / 6) (t % 6) (by omega) (by omega)
    rw [show t / 6 * 6 + t % 6 = t by omega] at this
    rw [this]
    have := rowsL_get (M := M) (k := k) (i := t / 6) (j := t % 6) (by omega) (by omega)
    rw [show t / 6 * 6 + t % 6 = t by omega] at this
    exact this.symm
  · rw [List.getElem?_eq_none (by simp; omega), List.getElem?_eq_none (by rw [rowsL_length]; omega)]
theorem RB.of_own {W : World} {b k cap base : Nat} {M : Nat → Nat → Int} {xs : List Value} (h : W.ownsRow base 36 6 (.slice (some ⟨b, 0, none⟩) k cap) k xs) (hx : ∀ i j, i < k → j < 6 → xs[i * 6 + j]? = some (.int .i64 (M i j))) : RB W b k cap M := by
  obtain ⟨h0, h⟩ := h
  rcases h with ⟨e, _⟩ | ⟨g, cap', cur, e, _, hg, hn, hm, hs, ht⟩
  · cases e
  · cases e
    refine ⟨cur, hg, hs, hn, fun i j hi hj => ?_⟩
    have := hx i j hi hj
    rw [← ht, List.getElem?_take_of_lt (by omega), Array.getElem?_toList] at this
    exact this
theorem RB.spare {W : World} {b n cap : Nat} {M : Nat → Nat → Int} (h : RB W b n cap M) {k : Nat} (hk : k < cap * 6) : ∃ x, W.cell? ⟨b, k, none⟩ = some x := by
  obtain ⟨cur, h1, h2, h3, h4⟩ := h
  simp only [World.cell?, h1]
  exact ⟨_, Array.getElem?_eq_getElem (by omega)⟩
theorem RB.away {W : World} {b n cap : Nat} {M : Nat → Nat → Int} (h : RB W b n cap M) {k : Nat} (hk : n * 6 ≤ k) (x : Value) : RB (W.setCell ⟨b, k, none⟩ x) b n cap M := by
  obtain ⟨cur, h1, h2, h3, h4⟩ := h
  refine ⟨cur.setIfInBounds k x, by simp [World.setCell, Array.getElem?_modify, h1], by simp [h2], h3, fun r s hr hs => ?_⟩
  rw [Array.getElem?_setIfInBounds_ne (by omega)]
  exact h4 r s hr hs
theorem But.grown {b : Nat} {x y : World} (h : x.grownBy y (some b)) : But b x y := ⟨h.os, h.tape, h.output, h.size, fun k hk hne => h.block k hk (by simpa using hne)⟩
/-- The rows without one of them. -/
def delR (M : Nat → Nat → Int) (i : Nat) : Nat → Nat → Int := fun r => if r < i then M r else M (r + 1)
theorem run_clear_row (P : Program) (w : World) (t e ty : TypeId) (ht : P.underlying t = some (.slice e)) (hv : ∀ w, (zeroValue e).run P w = .ok (.agg #[.int .i64 0, .int .i64 0, .int .i64 0, .int .i64 0, .int .i64 0, .int .i64 0]) w) (b o c : Nat) :
    (Builtin.clear_ #[t] ty #[.slice (some ⟨b, o, none⟩) 1 c]).run P w = (do storeCells ⟨b, o, none⟩ [.int .i64 0, .int .i64 0, .int .i64 0, .int .i64 0, .int .i64 0, .int .i64 0]; pure (Value.tuple #[]) : Sem Value).run P w := by
  have hzc : (Builtin.zeroCells (Value.agg #[.int .i64 0, .int .i64 0, .int .i64 0, .int .i64 0, .int .i64 0, .int .i64 0]).cells 1).toList = [.int .i64 0, .int .i64 0, .int .i64 0, .int .i64 0, .int .i64 0, .int .i64 0] := by
    apply List.ext_getElem
    · simp [Builtin.zeroCells, Value.cells]
    · intro i h1 h2
      have hi : i < 6 := by simpa using h2
      rcases six_cases' hi with rfl | rfl | rfl | rfl | rfl | rfl <;> simp [Builtin.zeroCells, Value.cells]
  simp [Builtin.clear_, run_underlying ht, hv, hzc, Sem.run_bind, Result.andThen]
theorem clear_vec (w : World) (ty : TypeId) (b o c : Nat) : (Builtin.clear_ #[22] ty #[.slice (some ⟨b, o, none⟩) 1 c]).run Try.prog w = (do storeCells ⟨b, o, none⟩ [.int .i64 0, .int .i64 0, .int .i64 0, .int .i64 0, .int .i64 0, .int .i64 0]; pure (Value.tuple #[]) : Sem Value).run Try.prog w :=
  run_clear_row _ w _ _ ty Try.underlying22 Try.zeroValue36 b o c
attribute [local go_sem] clear_vec
set_option maxRecDepth 100000 in
set_option maxHeartbeats 8000000 in
theorem delete_any (b n c1 i : Nat) (M : Nat → Nat → Int) (w : World) (hn : n ≤ 1000) (hi : i < n) (hc2 : c1 ≤ maxLen) (hR : RB w b n c1 M) :
    Calls Try.prog 147 #[.slice (some ⟨b, 0, none⟩) n c1, .int .i64 i, .int .i64 ((i + 1 : Nat) : Int)] w fun e w' => e = .returned (.slice (some ⟨b, 0, none⟩) (n - 1) c1) ∧ RB w' b (n - 1) c1 (delR M i) ∧ But b w w' := by
  have hmx : Try.prog.follows .mixedOrders = true := by kernel_rfl
  have hc1 : n ≤ c1 := by obtain ⟨_, _, _, h, _⟩ := hR; exact h
  have hbw := hR.lt
  have hij : (((i : Nat) : Int) == ((i + 1 : Nat) : Int)) = false := by simp; omega
  obtain ⟨ti, hti, hti2⟩ := Option.map_eq_some_iff.1 info_vec
  simp only [Prod.mk.injEq] at hti2
  have HR := Bx.mk hR
  have HTI := Bx.mk hti
  clear hR hti
  obtain ⟨co, hco⟩ : ∃ co : Option Addr, (if c1 = i + 1 then (some ⟨b, 0, none⟩ : Option Addr) else some ⟨b, (i + 1) * 6, none⟩) = co := ⟨_, rfl⟩
  have a1 : i ≤ c1 := by omega
  have a2 : i + 1 ≤ n := by omega
  have a3 : i + 1 ≤ c1 := by omega
  have a4 : (0 : Int) ≤ (i : Int) + 1 := by omega
  have a5 : (i : Int) + 1 ≤ (n : Int) := by omega
  have HCO := Bx.mk hco
  go_enter Try.func147, Try.ntmps147
  go_wp2_with fail
  refine wp_region_still_tail 6 hmx (by kernel_rfl) ?_
  simp only [List.take_succ_cons, List.take_zero, List.drop_succ_cons, List.drop_zero]
  change wpStill _ _ w.drew (fun a' => wpList _ _ _ _ a' w.drew) _ _
  still_step
  still_step
  still_step
  still_step
  still_step
  still_step
  refine wpStill_nil ?_
  have hrow : w.drew.ownsRow 0 36 6 (.slice (some ⟨b, 0, none⟩) i c1) i (rowsL M i) := RB.own (W := w.drew) HR.out (Nat.zero_le _) hc2 (by omega)
  have hnews : ∀ ad, co = some ad → ∀ j u, (rowsL (fun r => M (r + (i + 1))) (n - (i + 1)))[j]? = some u → w.drew.cell? (ad.add j) = some u := by
    intro ad had j u hj
    have hjl : j < (n - (i + 1)) * 6 := by have := (List.getElem?_eq_some_iff.1 hj).1; rwa [rowsL_length] at this
    rw [← HCO.out, if_neg (by omega)] at had
    cases had
    have e := rowsL_get (M := fun r => M (r + (i + 1))) (k := n - (i + 1)) (i := j / 6) (j := j % 6) (by omega) (by omega)
    rw [show j / 6 * 6 + j % 6 = j by omega, hj] at e
    rw [Addr.add_lit, e]
    have := HR.out.cell (i := j / 6 + (i + 1)) (j := j % 6) (by omega) (by omega)
    rw [show (j / 6 + (i + 1)) * 6 + j % 6 = (i + 1) * 6 + j by omega] at this
    exact this
  obtain ⟨ad, had⟩ : ∃ ad, co = some ad := by rw [← HCO.out]; split <;> exact ⟨_, rfl⟩
  have hnews' := hnews ad had
  subst had
  refine wpList_append_fits w.drew rfl (.tmp 22) (.tmp 25) 22 rfl 0 36 ti 6 Try.underlying22 HTI.out hti2.1 b i c1 (rowsL M i) rfl hrow ad (n - (i + 1)) _ _ rfl (rowsL_length _ _) hnews' (rowsL_one _ _) (by omega) ?_
  intro w2 hown2 hg2
  have HB2 : Bx (RB w2 b (n - 1) c1 (delR M i)) := ⟨by
    rw [show i + (n - (i + 1)) = n - 1 by omega] at hown2
    refine RB.of_own hown2 fun r s hr hs => ?_
    unfold delR
    by_cases h : r < i
    · rw [if_pos h, List.getElem?_append_left (by rw [rowsL_length]; omega)]; exact rowsL_get h hs
    · rw [if_neg h, List.getElem?_append_right (by rw [rowsL_length]; omega), rowsL_length]
      have := rowsL_get (M := fun r => M (r + (i + 1))) (k := n - (i + 1)) (i := r - i) (j := s) (by omega) hs
      rw [show (r - i) * 6 + s = r * 6 + s - i * 6 by omega] at this
      rw [this]; simp [show r - i + (i + 1) = r + 1 by omega]⟩
  have HG2 : Bx (But b w w2) := ⟨(But.of_below (x := w) (y := w.drew) (below_drew (Below.refl _ _))).trans (But.grown (x := w.drew) hg2)⟩
  obtain ⟨m, hm⟩ : ∃ m, n = m + 1 := ⟨n - 1, by omega⟩
  subst hm
  rw [show i + (m + 1 - (i + 1)) = m by omega]
  rw [show m + 1 - 1 = m by omega] at HB2
  obtain ⟨x0, k0⟩ := HB2.out.spare (k := m * 6) (by omega)
  obtain ⟨x1, k1⟩ := HB2.out.spare (k := m * 6 + 1) (by omega)
  obtain ⟨x2, k2⟩ := HB2.out.spare (k := m * 6 + 2) (by omega)
  obtain ⟨x3, k3⟩ := HB2.out.spare (k := m * 6 + 3) (by omega)
  obtain ⟨x4, k4⟩ := HB2.out.spare (k := m * 6 + 4) (by omega)
  obtain ⟨x5, k5⟩ := HB2.out.spare (k := m * 6 + 5) (by omega)
  have f0 := HB2.out.frozen (m * 6)
  have f1 := HB2.out.frozen (m * 6 + 1)
  have f2 := HB2.out.frozen (m * 6 + 2)
  have f3 := HB2.out.frozen (m * 6 + 3)
  have f4 := HB2.out.frozen (m * 6 + 4)
  have f5 := HB2.out.frozen (m * 6 + 5)
  have b1 : m ≤ c1 := by omega
  have b2 : m + 1 ≤ c1 := by omega
  have b3 : ((m : Nat) : Int) ≤ ((m + 1 : Nat) : Int) := by omega
  have b4 : c1 ≠ m := by omega
  clear hown2 hg2 hnews hnews' hrow hco
  go_wp2_with fail
  go_ret
  refine ⟨rfl, ?_, ?_⟩
  · rw [show m + 1 - 1 = m by omega]
    exact (((((HB2.out.away (Nat.le_refl _) _).away (by omega) _).away (by omega) _).away (by omega) _).away (by omega) _).away (by omega) _
  · exact HG2.out.trans (((((((But.set _ _ _).trans (But.set _ _ _)).trans (But.set _ _ _)).trans (But.set _ _ _)).trans (But.set _ _ _)).trans (But.set _ _ _)))
end Go.Proofs.Ytnbamjoadankmaa
/- The triangular form: what its steps keep. -/
namespace Go.Proofs.Ytnbamjoadankmaa
open D
/-- The lattice of rows and of multiples of a number, from what is left of the rows, the form so far, and the multiples to come. -/
def Ge (m n0 : Nat) (A : Nat → Nat → Int) (D : Int) (c n : Nat) (R F : Nat → Nat → Int) (u : Nat) : Prop :=
  ∀ L, Sub m L → (((∀ t, t < n0 → L (A t)) ∧ ∀ k, k < m → L (unitV D k)) ↔ ((∀ t, t < n → L (R t)) ∧ (∀ k, k < c → L (F k)) ∧ ∀ k, u ≤ k → k < m → L (unitV D k)))
theorem D.Sub.add' {m : Nat} {L : (Nat → Int) → Prop} (h : Sub m L) {u v : Nat → Int} (hu : L u) (hv : L v) : L (fun j => u j + v j) := h.add _ _ hu hv
theorem D.Sub.mul' {m : Nat} {L : (Nat → Int) → Prop} (h : Sub m L) (c : Int) {u : Nat → Int} (hu : L u) : L (fun j => c * u j) := h.mul c _ hu
theorem D.Sub.congr' {m : Nat} {L : (Nat → Int) → Prop} (h : Sub m L) {u v : Nat → Int} (hu : L u) (e : ∀ j, j < m → v j = u j) : L v := h.congr _ _ e hu
theorem sub_shift {m u : Nat} {D : Int} {L : (Nat → Int) → Prop} (hL : Sub m L) (hu : ∀ k, u ≤ k → k < m → L (unitV D k)) {x y : Nat → Int} (h0 : ∀ j, j < u → j < m → x j = y j) (hd : ∀ j, j < m → D ∣ y j - x j) : L x → L y := by
  intro hx
  have hs : L (fun j => if j < u then 0 else y j - x j) := mults (i := u) (d := D) hL (fun j hj hm => hu j hj hm) (fun j hj => if_pos hj) (fun j hj => by
    by_cases h : j < u
    · simp only [if_pos h]; exact Int.dvd_zero D
    · simp only [if_neg h]; exact hd j hj)
  exact hL.congr' (hL.add' hx hs) fun j hj => by
    by_cases h : j < u
    · simp only [if_pos h]; rw [h0 j h hj]; omega
    · simp only [if_neg h]; omega
theorem Ge.start {m n : Nat} {A R : Nat → Nat → Int} {D : Int} (F : Nat → Nat → Int) (h : ∀ t, t < n → ∀ j, j < m → R t j = A t j % D) : Ge m n A D 0 n R F 0 := fun L hL => by
  have key : ∀ t j, t < n → j < m → D ∣ A t j - R t j := fun t j ht hj => by
    rw [h t ht j hj]; exact ⟨A t j / D, by have := Int.emod_add_mul_ediv (A t j) D; omega⟩
  have key' : ∀ t j, t < n → j < m → D ∣ R t j - A t j := fun t j ht hj => by
    obtain ⟨q, hq⟩ := key t j ht hj; exact ⟨-q, by rw [Int.mul_neg, ← hq]; omega⟩
  constructor
  · rintro ⟨h1, h2⟩
    exact ⟨fun t ht => sub_shift (u := 0) hL (fun k _ hk => h2 k hk) (fun j hj => by omega) (fun j hj => key' t j ht hj) (h1 t ht), fun k hk => by omega, fun k _ hk => h2 k hk⟩
  · rintro ⟨h1, _, h2⟩
    exact ⟨fun t ht => sub_shift (u := 0) hL (fun k _ hk => h2 k (by omega) hk) (fun j hj => by omega) (fun j hj => key t j ht hj) (h1 t ht), fun k hk => h2 k (by omega) hk⟩
theorem Ge.push {m n0 c n u : Nat} {A R R' F : Nat → Nat → Int} {D : Int} (h : Ge m n0 A D c n R F u) (hu : u < m) (h1 : ∀ t, t < n → R' t = R t) (h2 : ∀ j, j < m → R' n j = unitV D u j) : Ge m n0 A D c (n + 1) R' F (u + 1) := fun L hL => by
  rw [h L hL]
  constructor
  · rintro ⟨a, b, e⟩
    refine ⟨fun t ht => ?_, b, fun k hk hm => e k (by omega) hm⟩
    by_cases ht' : t = n
    · subst ht'; exact hL.congr' (e u (Nat.le_refl _) hu) h2
    · rw [h1 t (by omega)]; exact a t (by omega)
  · rintro ⟨a, b, e⟩
    refine ⟨fun t ht => by rw [← h1 t ht]; exact a t (by omega), b, fun k hk hm => ?_⟩
    by_cases hk' : k = u
    · subst hk'; exact hL.congr' (a n (by omega)) fun j hj => (h2 j hj).symm
    · exact e k (by omega) hm
theorem updR_ne {M : Nat → Nat → Int} {i r : Nat} {v : Nat → Int} (h : r ≠ i) : updR M i v r = M r := by funext s; unfold updR; rw [if_neg h]
theorem updR_self {M : Nat → Nat → Int} {i : Nat} {v : Nat → Int} : updR M i v i = v := by funext s; unfold updR; rw [if_pos rfl]
/-- A row less a multiple of another one, modulo the number behind the column. -/
theorem low_sub {m c : Nat} {D : Int} {L : (Nat → Int) → Prop} (hL : Sub m L) (hu : ∀ k, c + 1 ≤ k → k < m → L (unitV D k)) {u v : Nat → Int} (h0 : 0 ≤ u c) (hv : 0 < v c) (hd : v c ≤ D) (hz : ∀ j, j < c → v j = 0) (hLv : L v) : L u ↔ L (low u v c D) := by
  have hlo : ∀ j, j < c → low u v c D j = u j := fun j hj => by unfold low; rw [if_pos hj]
  have hat := low_at h0 hv hd
  have hsub : L (fun j => u j - u c / v c * v j) ↔ L u := by
    constructor
    · intro h
      exact hL.congr' (hL.add' h (hL.mul' (u c / v c) hLv)) fun j _ => by omega
    · intro h
      exact hL.congr' (hL.add' h (hL.mul' (-(u c / v c)) hLv)) fun j _ => by rw [Int.neg_mul]; omega
  rw [← hsub]
  have e1 : ∀ j, j < c + 1 → j < m → low u v c D j = u j - u c / v c * v j := fun j hj _ => by
    by_cases h : j < c
    · rw [hlo j h, hz j h, Int.mul_zero]; omega
    · obtain rfl : j = c := by omega
      rw [hat]
      have := Int.emod_add_mul_ediv (u j) (v j)
      rw [Int.mul_comm] at this; omega
  have e2 : ∀ j, j < m → D ∣ (u j - u c / v c * v j) - low u v c D j := fun j hj => by
    by_cases h : j < c + 1
    · rw [e1 j h hj]; exact ⟨0, by omega⟩
    · unfold low; rw [if_neg (by omega)]
      exact ⟨(u j - u c / v c * v j) / D, by have := Int.emod_add_mul_ediv (u j - u c / v c * v j) D; omega⟩
  constructor
  · exact sub_shift hL hu (fun j hj hm => (e1 j hj hm).symm) (fun j hj => by obtain ⟨q, hq⟩ := e2 j hj; exact ⟨-q, by rw [Int.mul_neg, ← hq]; omega⟩)
  · exact sub_shift hL hu e1 e2
/-- The elements of the columns before are 0. -/
def Zer (n c : Nat) (R : Nat → Nat → Int) : Prop := ∀ t, t < n → ∀ j, j < c → R t j = 0
theorem Els.zer {n c : Nat} {D : Int} {M N : Nat → Nat → Int} (k : Els n c D M N) (h : Zer n c M) : Zer n c N := by
  induction k with
  | refl => exact h
  | step i l _ h1 h2 h3 h4 h5 ih =>
    intro t ht j hj
    unfold updR
    by_cases e : t = i
    · subst e; simp only [if_true]; unfold low; rw [if_pos hj]; exact ih t ht j hj
    · simp only [if_neg e]; exact ih t ht j hj
theorem Ge.els {m n0 c n u : Nat} {A R N F : Nat → Nat → Int} {D : Int} (h : Ge m n0 A D c n R F (u + 1)) (k : Els n u D R N) (hz : Zer n u R) (ho : Okd n u D R) (hD : 0 < D) (hD2 : D ≤ 1000000000) (hu : u < 6) : Ge m n0 A D c n N F (u + 1) := by
  induction k with
  | refl => exact h
  | @step N i l k' h1 h2 h3 h4 h5 ih =>
    intro L hL
    rw [ih L hL]
    have zo := k'.zer hz
    have oo := k'.okd ho hD hD2 hu
    constructor
    · rintro ⟨a, b, e⟩
      refine ⟨fun t ht => ?_, b, e⟩
      unfold updR
      by_cases ht' : t = i
      · subst ht'; simp only [if_true]
        exact (low_sub hL e ((oo t ht).2 u (Nat.le_refl _) hu).1 h4 (oo l h2).1 (zo l h2) (a l h2)).1 (a t ht)
      · simp only [if_neg ht']; exact a t ht
    · rintro ⟨a, b, e⟩
      have al : L (N l) := by have := a l h2; rwa [updR_ne (Ne.symm h3)] at this
      refine ⟨fun t ht => ?_, b, e⟩
      have := a t ht
      unfold updR at this
      by_cases ht' : t = i
      · subst ht'; simp only [if_true] at this
        exact (low_sub hL e ((oo t ht).2 u (Nat.le_refl _) hu).1 h4 (oo l h2).1 (zo l h2) al).2 this
      · simp only [if_neg ht'] at this; exact this
theorem Ge.take {m n0 c n u f : Nat} {A N F F' : Nat → Nat → Int} {D : Int} (h : Ge m n0 A D c (n + 1) N F u) (hf : f < n + 1) (h1 : ∀ k, k < c → F' k = F k) (h2 : F' c = N f) : Ge m n0 A D (c + 1) n (delR N f) F' u := fun L hL => by
  rw [h L hL]
  constructor
  · rintro ⟨a, b, e⟩
    refine ⟨fun t ht => by unfold delR; split <;> exact a _ (by omega), fun k hk => ?_, e⟩
    by_cases hk' : k = c
    · subst hk'; rw [h2]; exact a f hf
    · rw [h1 k (by omega)]; exact b k (by omega)
  · rintro ⟨a, b, e⟩
    refine ⟨fun t ht => ?_, fun k hk => by rw [← h1 k hk]; exact b k (by omega), e⟩
    by_cases ht' : t = f
    · subst ht'; rw [← h2]; exact b c (by omega)
    · by_cases hlt : t < f
      · have := a t (by omega); unfold delR at this; rwa [if_pos hlt] at this
      · have := a (t - 1) (by omega); unfold delR at this; rwa [if_neg (by omega), show t - 1 + 1 = t by omega] at this
theorem Ge.above {m n0 c n a : Nat} {A R F : Nat → Nat → Int} {D : Int} (h : Ge m n0 A D (c + 1) n R F (c + 1)) (ha : a < c) (h0 : 0 ≤ F a c) (hv : 0 < F c c) (hd : F c c ≤ D) (hz : ∀ j, j < c → F c j = 0) : Ge m n0 A D (c + 1) n R (updR F a (low (F a) (F c) c D)) (c + 1) := fun L hL => by
  rw [h L hL]
  constructor
  · rintro ⟨x, b, e⟩
    refine ⟨x, fun k hk => ?_, e⟩
    unfold updR
    by_cases hk' : k = a
    · subst hk'; simp only [if_true]; exact (low_sub hL e h0 hv hd hz (b c (by omega))).1 (b k hk)
    · simp only [if_neg hk']; exact b k hk
  · rintro ⟨x, b, e⟩
    have bc : L (F c) := by have := b c (by omega); rwa [updR_ne (show c ≠ a by omega)] at this
    refine ⟨x, fun k hk => ?_, e⟩
    have := b k hk
    unfold updR at this
    by_cases hk' : k = a
    · subst hk'; simp only [if_true] at this; exact (low_sub hL e h0 hv hd hz bc).2 this
    · simp only [if_neg hk'] at this; exact this
/-- The form so far. -/
structure Frm (c e : Nat) (D : Int) (F : Nat → Nat → Int) : Prop where
  piv : ∀ k, k < c → 0 < F k k ∧ F k k ≤ D
  left : ∀ k j, k < c → j < k → F k j = 0
  red : ∀ i k, i < k → k < e → 0 ≤ F i k ∧ F i k < F k k
  bnd : ∀ k j, k < c → j < 6 → 0 ≤ F k j ∧ F k j ≤ D
end Go.Proofs.Ytnbamjoadankmaa
/- An element of a row of six that is a value. -/
namespace Go.Proofs.Ytnbamjoadankmaa
open Go.RowKit D
theorem index_six (v : Nat → Int) {l : Nat} (hl : l < 6) (x : Int) (hx : v l = x) : ∀ w, (Instr.index 36 (.agg #[.int .i64 (v 0), .int .i64 (v 1), .int .i64 (v 2), .int .i64 (v 3), .int .i64 (v 4), .int .i64 (v 5)]) (.int .i64 l)).run Try.prog w = .ok (.int .i64 x) w := by
  intro w
  have hu := Try.underlying36
  subst hx
  have hi3 : Try.prog.info? 3 = Try.prog.info? 3 := rfl
  obtain ⟨ti, hti, hti2⟩ := Option.map_eq_some_iff.1 info_int
  simp only [Prod.mk.injEq] at hti2
  rcases six_cases' hl with rfl | rfl | rfl | rfl | rfl | rfl <;> simp [Instr.index, asIntOf, run_underlying hu, sizeOf, typeInfo, hti, hti2.2.1, Sem.run_bind, Result.andThen, part]
end Go.Proofs.Ytnbamjoadankmaa
/- The triangular form: its elements. -/
namespace Go.Proofs.Ytnbamjoadankmaa
open D
/-- The elements are from 0 to less than a number. -/
def Bd (n : Nat) (D : Int) (R : Nat → Nat → Int) : Prop := ∀ t, t < n → ∀ j, j < 6 → 0 ≤ R t j ∧ R t j < D
/-- A row behind the others. -/
def snR (R : Nat → Nat → Int) (n : Nat) (v : Nat → Int) : Nat → Nat → Int := fun r => if r = n then v else R r
theorem snR_lt {R : Nat → Nat → Int} {n r : Nat} {v : Nat → Int} (h : r < n) : snR R n v r = R r := if_neg (by omega)
theorem snR_eq {R : Nat → Nat → Int} {n : Nat} {v : Nat → Int} : snR R n v n = v := if_pos rfl
theorem okd_push {n c : Nat} {D : Int} {R : Nat → Nat → Int} (h : Bd n D R) (hD : 0 < D) (hD2 : D ≤ 1000000000) (hc : c < 6) : Okd (n + 1) c D (snR R n (unitV D c)) := by
  intro i hi
  by_cases e : i = n
  · subst e; rw [snR_eq]; unfold unitV
    refine ⟨by rw [if_pos rfl]; omega, fun j _ _ => by split <;> omega⟩
  · rw [snR_lt (by omega)]
    exact ⟨by have := h i (by omega) c hc; omega, fun j _ hj => by have := h i (by omega) j hj; omega⟩
theorem zer_push {n c : Nat} {D : Int} {R : Nat → Nat → Int} (h : Zer n c R) : Zer (n + 1) c (snR R n (unitV D c)) := by
  intro i hi j hj
  by_cases e : i = n
  · subst e; rw [snR_eq]; unfold unitV; rw [if_neg (by omega)]
  · rw [snR_lt (by omega)]; exact h i (by omega) j hj
/-- But for one column. -/
def Bdc (n c : Nat) (D : Int) (R : Nat → Nat → Int) : Prop := ∀ t, t < n → ∀ j, j < 6 → j ≠ c → 0 ≤ R t j ∧ R t j < D
theorem bdc_push {n c : Nat} {D : Int} {R : Nat → Nat → Int} (h : Bd n D R) (hD : 0 < D) : Bdc (n + 1) c D (snR R n (unitV D c)) := by
  intro i hi j hj hne
  by_cases e : i = n
  · subst e; rw [snR_eq]; unfold unitV; rw [if_neg hne]; omega
  · rw [snR_lt (by omega)]; exact h i (by omega) j hj
theorem Els.bdc {n c : Nat} {D : Int} {M N : Nat → Nat → Int} (k : Els n c D M N) (h : Bdc n c D M) (hD : 0 < D) : Bdc n c D N := by
  induction k with
  | refl => exact h
  | step i l _ h1 h2 h3 h4 h5 ih =>
    intro t ht j hj hne
    by_cases e : t = i
    · subst e; rw [updR_self]; unfold low
      split
      · exact ih t ht j hj hne
      · exact ⟨Int.emod_nonneg _ (by omega), Int.emod_lt_of_pos _ hD⟩
    · rw [updR_ne e]; exact ih t ht j hj hne
theorem bd_del {n c f : Nat} {D : Int} {N : Nat → Nat → Int} (h : Bdc (n + 1) c D N) (hz : ∀ i, i < n + 1 → i ≠ f → N i c = 0) (hD : 0 < D) : Bd n D (delR N f) := by
  intro t ht j hj
  have key : ∀ i, i < n + 1 → i ≠ f → 0 ≤ N i j ∧ N i j < D := fun i hi hne => by
    by_cases e : j = c
    · subst e; rw [hz i hi hne]; omega
    · exact h i hi j hj e
  unfold delR
  split
  · exact key t (by omega) (by omega)
  · exact key (t + 1) (by omega) (by omega)
theorem zer_del {n c f : Nat} {N : Nat → Nat → Int} (h : Zer (n + 1) c N) (hz : ∀ i, i < n + 1 → i ≠ f → N i c = 0) : Zer n (c + 1) (delR N f) := by
  intro t ht j hj
  have key : ∀ i, i < n + 1 → i ≠ f → N i j = 0 := fun i hi hne => by
    by_cases e : j = c
    · subst e; exact hz i hi hne
    · exact h i hi j (by omega)
  unfold delR
  split
  · exact key t (by omega) (by omega)
  · exact key (t + 1) (by omega) (by omega)
theorem frm_take {c : Nat} {D : Int} {F : Nat → Nat → Int} {v : Nat → Int} (h : Frm c c D F) (hv0 : 0 < v c) (hv1 : v c ≤ D) (hz : ∀ j, j < c → v j = 0) (hb : ∀ j, j < 6 → 0 ≤ v j ∧ v j ≤ D) : Frm (c + 1) c D (snR F c v) where
  piv k hk := by
    by_cases e : k = c
    · subst e; rw [snR_eq]; exact ⟨hv0, hv1⟩
    · rw [snR_lt (by omega)]; exact h.piv k (by omega)
  left k j hk hj := by
    by_cases e : k = c
    · subst e; rw [snR_eq]; exact hz j hj
    · rw [snR_lt (by omega)]; exact h.left k j (by omega) hj
  red i k hi hk := by
    rw [snR_lt (by omega), snR_lt (by omega)]; exact h.red i k hi hk
  bnd k j hk hj := by
    by_cases e : k = c
    · subst e; rw [snR_eq]; exact hb j hj
    · rw [snR_lt (by omega)]; exact h.bnd k j (by omega) hj
def Abv (c a : Nat) (F : Nat → Nat → Int) : Prop := ∀ i, i < a → 0 ≤ F i c ∧ F i c < F c c
theorem frm_low {c a : Nat} {D : Int} {F : Nat → Nat → Int} (h : Frm (c + 1) c D F) (ha : a < c) (hA : Abv c a F) (hc : c < 6) (hD : 0 < D) : Frm (c + 1) c D (updR F a (low (F a) (F c) c D)) ∧ Abv c (a + 1) (updR F a (low (F a) (F c) c D)) := by
  have h0 := (h.bnd a c (by omega) hc).1
  have hp := h.piv c (by omega)
  have hat := low_at h0 hp.1 hp.2
  have hlo : ∀ j, j < c → low (F a) (F c) c D j = F a j := fun j hj => by unfold low; rw [if_pos hj]
  refine ⟨⟨fun k hk => ?_, fun k j hk hj => ?_, fun i k hi hk => ?_, fun k j hk hj => ?_⟩, fun i hi => ?_⟩
  · by_cases e : k = a
    · subst e; rw [updR_self, hlo k ha]; exact h.piv k hk
    · rw [updR_ne e]; exact h.piv k hk
  · by_cases e : k = a
    · subst e; rw [updR_self, hlo j (by omega)]; exact h.left k j hk hj
    · rw [updR_ne e]; exact h.left k j hk hj
  · have e1 : updR F a (low (F a) (F c) c D) i k = F i k := by
      by_cases e : i = a
      · subst e; rw [updR_self, hlo k hk]
      · rw [updR_ne e]
    have e2 : updR F a (low (F a) (F c) c D) k k = F k k := by
      by_cases e : k = a
      · subst e; rw [updR_self, hlo k hk]
      · rw [updR_ne e]
    rw [e1, e2]; exact h.red i k hi hk
  · by_cases e : k = a
    · subst e; rw [updR_self]; unfold low
      split
      · exact h.bnd k j hk hj
      · have := Int.emod_nonneg (F k j - F k c / F c c * F c j) (show D ≠ 0 by omega)
        have := Int.emod_lt_of_pos (F k j - F k c / F c c * F c j) hD
        omega
    · rw [updR_ne e]; exact h.bnd k j hk hj
  · rw [updR_ne (show c ≠ a by omega)]
    by_cases e : i = a
    · subst e; rw [updR_self, hat]
      exact ⟨Int.emod_nonneg _ (by omega), Int.emod_lt_of_pos _ hp.1⟩
    · rw [updR_ne e]; exact hA i (by omega)
theorem frm_done {c : Nat} {D : Int} {F : Nat → Nat → Int} (h : Frm (c + 1) c D F) (hA : Abv c c F) : Frm (c + 1) (c + 1) D F :=
  ⟨h.piv, h.left, fun i k hi hk => if e : k = c then by subst e; exact hA i hi else h.red i k hi (by omega), h.bnd⟩
/-- What the main loop keeps. -/
structure Tri (m n : Nat) (A : Nat → Nat → Int) (D : Int) (c : Nat) (R F : Nat → Nat → Int) : Prop where
  zer : Zer n c R
  bd : Bd n D R
  frm : Frm c c D F
  ge : Ge m n A D c n R F c
/-- What a column's elimination makes of it. -/
theorem Tri.next {m n c f : Nat} {A R F N : Nat → Nat → Int} {D : Int} (h : Tri m n A D c R F) (hD : 0 < D) (hD2 : D ≤ 1000000000) (hc : c < m) (hm : m ≤ 6) (hE : Els (n + 1) c D (snR R n (unitV D c)) N) (hf : f < n + 1) (h0 : 0 < N f c) (hz : ∀ i, i < n + 1 → i ≠ f → N i c = 0) :
    Zer n (c + 1) (delR N f) ∧ Bd n D (delR N f) ∧ Frm (c + 1) c D (snR F c (N f)) ∧ Ge m n A D (c + 1) n (delR N f) (snR F c (N f)) (c + 1) := by
  have ho := okd_push (c := c) h.bd hD hD2 (by omega)
  have hzp := zer_push (D := D) h.zer
  have hzN := hE.zer hzp
  have hoN := hE.okd ho hD hD2 (by omega)
  have hbN := hE.bdc (bdc_push h.bd hD) hD
  refine ⟨zer_del hzN hz, bd_del hbN hz hD, frm_take h.frm h0 (hoN f hf).1 (fun j hj => hzN f hf j hj) (fun j hj => ?_), ?_⟩
  · by_cases e : j = c
    · subst e; have := (hoN f hf).1; omega
    · have := hbN f hf j hj e; omega
  · have g1 := h.ge.push (R' := snR R n (unitV D c)) hc (fun t ht => snR_lt ht) (fun j _ => by rw [snR_eq])
    have g2 := g1.els hE hzp ho hD hD2 (by omega)
    exact g2.take hf (fun k hk => snR_lt hk) snR_eq
end Go.Proofs.Ytnbamjoadankmaa
/- Rows that are owned: kept, and with a row behind them. -/
namespace Go.Proofs.Ytnbamjoadankmaa
open Go.RowKit D
theorem own_keep {w w' : World} {base : Nat} {e : TypeId} {size : Nat} {v : Value} {n : Nat} {xs : List Value} (h : w.ownsRow base e size v n xs) (hk : ∀ k, v.ownBlock = some k → k < w.heap.size → w'.heap[k]? = w.heap[k]?) : w'.ownsRow base e size v n xs := by
  obtain ⟨h0, h⟩ := h
  refine ⟨h0, h.imp id ?_⟩
  rintro ⟨g, cap, cur, rfl, hb, hg, h2⟩
  exact ⟨g, cap, cur, rfl, hb, (hk g rfl (Array.getElem?_eq_some_iff.1 hg).1).trans hg, h2⟩
/-- Six cells as a list. -/
def sixL (v : Nat → Int) : List Value := [.int .i64 (v 0), .int .i64 (v 1), .int .i64 (v 2), .int .i64 (v 3), .int .i64 (v 4), .int .i64 (v 5)]
theorem sixL_get {v : Nat → Int} {j : Nat} (hj : j < 6) : (sixL v)[j]? = some (.int .i64 (v j)) := by
  rcases six_cases' hj with rfl | rfl | rfl | rfl | rfl | rfl <;> rfl
theorem RB.of_snoc {w : World} {base g n cap : Nat} {R : Nat → Nat → Int} {v : Nat → Int} (h : w.ownsRow base 36 6 (.slice (some ⟨g, 0, none⟩) (n + 1) cap) (n + 1) (rowsL R n ++ sixL v)) : RB w g (n + 1) cap (snR R n v) ∧ cap ≤ maxLen ∧ base ≤ g := by
  refine ⟨RB.of_own h fun i j hi hj => ?_, ?_⟩
  · by_cases e : i = n
    · subst e
      rw [List.getElem?_append_right (by rw [rowsL_length]; omega), rowsL_length, show i * 6 + j - i * 6 = j by omega, sixL_get hj, snR_eq]
    · rw [List.getElem?_append_left (by rw [rowsL_length]; omega), rowsL_get (by omega) hj, snR_lt (by omega)]
  · rcases h.2 with ⟨e, _⟩ | ⟨g', cap', cur, e, hb, _, _, hm, _⟩
    · cases e
    · cases e; exact ⟨hm, hb⟩
theorem rowsL_snoc (R : Nat → Nat → Int) (n : Nat) (v : Nat → Int) : rowsL R n ++ sixL v = rowsL (snR R n v) (n + 1) := by
  apply List.ext_getElem?
  intro t
  by_cases ht : t < (n + 1) * 6
  · have e := rowsL_get (M := snR R n v) (k := n + 1) (i := t / 6) (j := t % 6) (by omega) (by omega)
    rw [show t / 6 * 6 + t % 6 = t by omega] at e
    rw [e]
    by_cases h : t / 6 = n
    · rw [List.getElem?_append_right (by rw [rowsL_length]; omega), rowsL_length, h, snR_eq, show t - n * 6 = t % 6 by omega]
      exact sixL_get (by omega)
    · rw [List.getElem?_append_left (by rw [rowsL_length]; omega), snR_lt (by omega)]
      have e := rowsL_get (M := R) (k := n) (i := t / 6) (j := t % 6) (by omega) (by omega)
      rwa [show t / 6 * 6 + t % 6 = t by omega] at e
  · rw [List.getElem?_eq_none (by simp [rowsL_length, sixL]; omega), List.getElem?_eq_none (by rw [rowsL_length]; omega)]
theorem six_new (w : World) (v : Nat → Int) (t : TypeId) : ∀ j u, (sixL v)[j]? = some u → (w.alloc (.cells #[.int .i64 (v 0), .int .i64 (v 1), .int .i64 (v 2), .int .i64 (v 3), .int .i64 (v 4), .int .i64 (v 5)] t)).cell? ((⟨w.heap.size, 0, none⟩ : Addr).add j) = some u := by
  intro j u hj
  have hl : j < 6 := by have := (List.getElem?_eq_some_iff.1 hj).1; simpa [sixL] using this
  rw [sixL_get hl] at hj
  cases hj
  rw [Addr.add_lit, Nat.zero_add]
  exact box_cell w v t j hl
theorem six_one (v : Nat → Int) : ∀ u ∈ sixL v, u.oneCell' = true := by
  intro u hu; simp only [sixL, List.mem_cons, List.not_mem_nil, or_false] at hu
  rcases hu with rfl | rfl | rfl | rfl | rfl | rfl <;> rfl
theorem delete_at (b n c1 i : Nat) (x : Int) (M : Nat → Nat → Int) (w : World) (hn : n ≤ 1000) (hi : i < n) (hx : x = (i : Int) + 1) (hc2 : c1 ≤ maxLen) (hR : RB w b n c1 M) :
    Calls Try.prog 147 #[.slice (some ⟨b, 0, none⟩) n c1, .int .i64 i, .int .i64 x] w fun e w' => e = .returned (.slice (some ⟨b, 0, none⟩) (n - 1) c1) ∧ RB w' b (n - 1) c1 (delR M i) ∧ But b w w' := by
  obtain rfl : x = ((i + 1 : Nat) : Int) := by omega
  exact delete_any b n c1 i M w hn hi hc2 hR
/-- The cells of a row of one element that is not 0. -/
theorem unit_cells (wr : World) (c : Nat) (d : Int) (hc : c < 6) : ∀ t, t < 6 → ((wr.alloc (.cells #[.int .i64 0, .int .i64 0, .int .i64 0, .int .i64 0, .int .i64 0, .int .i64 0] 36)).setCell ⟨wr.heap.size, c, none⟩ (.int .i64 d)).cell? ⟨wr.heap.size, t, none⟩ = some (.int .i64 (unitV d c t)) := fun t ht =>
  (cells_set (f := fun _ => 0) (h := unitV d c) (fun t ht => ⟨box_cell wr (fun _ => 0) 36 t ht, by simp [go_sem]⟩) hc (by simp [unitV]) (fun t _ hne => by simp [unitV, hne]) t ht).1
theorem unit_set (c : Nat) (d : Int) (hc : c < 6) : [Value.int .i64 0, .int .i64 0, .int .i64 0, .int .i64 0, .int .i64 0, .int .i64 0].set c (.int .i64 d) = sixL (unitV d c) := by
  rcases six_cases' hc with rfl | rfl | rfl | rfl | rfl | rfl <;> simp [unitV, sixL]
end Go.Proofs.Ytnbamjoadankmaa

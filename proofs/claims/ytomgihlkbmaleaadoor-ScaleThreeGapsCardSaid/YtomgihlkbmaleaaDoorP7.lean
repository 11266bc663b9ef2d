/- pitch.fraction. -/
import Derived.Test.YtomgihlkbmaleaaDoorP6
namespace Go.Proofs.YtomgihlkbmaleaaDoor
open Go.RowKit M
attribute [local go_sem] Oper.semAt_some
theorem prI_pr (i : Nat) : prI i = (pr i : Int) := by unfold prI pr; repeat' split
                                                      all_goals rfl
/-- The powers above 0, and those below. -/
def posL (v : Nat → Int) (l : List (Ix v)) : List (Nat × Nat) := l.filterMap fun x => if 0 < v x.i then some (pr x.i, (v x.i).toNat) else none
def negL (v : Nat → Int) (l : List (Ix v)) : List (Nat × Nat) := l.filterMap fun x => if 0 < v x.i then none else some (pr x.i, (-v x.i).toNat)
theorem posL_hit {v : Nat → Int} {l : List (Ix v)} {x : Ix v} (h : 0 < v x.i) : posL v (l ++ [x]) = posL v l ++ [(pr x.i, (v x.i).toNat)] := by simp [posL, h]
theorem posL_miss {v : Nat → Int} {l : List (Ix v)} {x : Ix v} (h : ¬ 0 < v x.i) : posL v (l ++ [x]) = posL v l := by simp [posL, h]
theorem negL_hit {v : Nat → Int} {l : List (Ix v)} {x : Ix v} (h : ¬ 0 < v x.i) : negL v (l ++ [x]) = negL v l ++ [(pr x.i, (-v x.i).toNat)] := by simp [negL, h]
theorem negL_miss {v : Nat → Int} {l : List (Ix v)} {x : Ix v} (h : 0 < v x.i) : negL v (l ++ [x]) = negL v l := by simp [negL, h]
theorem posL_len {v : Nat → Int} (l : List (Ix v)) : (posL v l).length ≤ l.length := List.length_filterMap_le _ _
theorem negL_len {v : Nat → Int} (l : List (Ix v)) : (negL v l).length ≤ l.length := List.length_filterMap_le _ _
theorem prod_posL (v : Nat → Int) (n : Nat) (hn : n ≤ 6) : prodL (posL v (ixs v n)) = upN v n := by
  induction n with
  | zero => rfl
  | succ n ih =>
    have ih := ih (by omega)
    by_cases h : n < 6 ∧ v n ≠ 0
    · rw [ixs_take h]
      by_cases hp : 0 < v n
      · rw [posL_hit (x := ⟨n, h.1, h.2⟩) hp, prodL_snoc, ih]; rfl
      · rw [posL_miss (x := ⟨n, h.1, h.2⟩) hp, ih, upN, Int.toNat_of_nonpos (by omega)]; simp
    · have hz : v n = 0 := by
        refine Decidable.byContradiction fun hz => h ⟨by omega, hz⟩
      rw [ixs_skip hz, ih, upN, hz]; simp
theorem prod_negL (v : Nat → Int) (n : Nat) (hn : n ≤ 6) : prodL (negL v (ixs v n)) = upN (neg v) n := by
  induction n with
  | zero => rfl
  | succ n ih =>
    have ih := ih (by omega)
    by_cases h : n < 6 ∧ v n ≠ 0
    · rw [ixs_take h]
      by_cases hp : 0 < v n
      · rw [negL_miss (x := ⟨n, h.1, h.2⟩) hp, ih, upN]; simp only [neg]; rw [Int.toNat_of_nonpos (by omega)]; simp
      · rw [negL_hit (x := ⟨n, h.1, h.2⟩) hp, prodL_snoc, ih]; rfl
    · have hz : v n = 0 := by
        refine Decidable.byContradiction fun hz => h ⟨by omega, hz⟩
      rw [ixs_skip hz, ih, upN]; simp [neg, hz]
theorem mem_posL {v : Nat → Int} {l : List (Ix v)} {p : Nat × Nat} (h : p ∈ posL v l) : ∃ x : Ix v, 0 < v x.i ∧ p = (pr x.i, (v x.i).toNat) := by
  simp only [posL, List.mem_filterMap] at h
  obtain ⟨x, _, hx⟩ := h
  by_cases hp : 0 < v x.i
  · rw [if_pos hp] at hx; exact ⟨x, hp, (Option.some.inj hx).symm⟩
  · rw [if_neg hp] at hx; cases hx
theorem mem_negL {v : Nat → Int} {l : List (Ix v)} {p : Nat × Nat} (h : p ∈ negL v l) : ∃ x : Ix v, ¬ 0 < v x.i ∧ p = (pr x.i, (-v x.i).toNat) := by
  simp only [negL, List.mem_filterMap] at h
  obtain ⟨x, _, hx⟩ := h
  by_cases hp : 0 < v x.i
  · rw [if_pos hp] at hx; cases hx
  · rw [if_neg hp] at hx; exact ⟨x, hp, (Option.some.inj hx).symm⟩
theorem pr_le (i : Nat) : pr i ≤ 13 := by unfold pr; repeat' split
                                          all_goals omega
theorem pr_inj {i j : Nat} (hi : i < 6) (hj : j < 6) (h : pr i = pr j) : i = j := by
  have key : ∀ {i j : Nat}, i < 6 → j < i → pr i ≠ pr j := fun {i j} hi hj e => by
    have := pr_coprime hi hj
    rw [e] at this
    have h1 := (Nat.coprime_self _).1 this
    have := pr_gt j
    omega
  rcases Nat.lt_trichotomy i j with h1 | h1 | h1
  · exact (key hj h1 h.symm).elim
  · exact h1
  · exact (key hi h1 h).elim
theorem posL_pos {v : Nat → Int} (hv : Hx (Lim 1152 v)) (l : List (Ix v)) : PosL (posL v l) := fun p hp => by
  obtain ⟨x, h, rfl⟩ := mem_posL hp
  have := hv.out x.i x.lt
  exact ⟨by have := pr_gt x.i; simp only; omega, pr_le _, by simp only; omega⟩
theorem negL_pos {v : Nat → Int} (hv : Hx (Lim 1152 v)) (l : List (Ix v)) : PosL (negL v l) := fun p hp => by
  obtain ⟨x, h, rfl⟩ := mem_negL hp
  have := hv.out x.i x.lt
  exact ⟨by have := pr_gt x.i; simp only; omega, pr_le _, by simp only; omega⟩
theorem pos_neg {v : Nat → Int} {k l : List (Ix v)} {p q : Nat × Nat} (hp : p ∈ posL v k) (hq : q ∈ negL v l) : p.1 ≠ q.1 := by
  obtain ⟨x, hx, rfl⟩ := mem_posL hp
  obtain ⟨y, hy, rfl⟩ := mem_negL hq
  intro e
  have := pr_inj x.lt y.lt e
  rw [this] at hx; exact hy hx
/-- The cells of a list of powers, one behind the other. -/
def fl (L : List (Nat × Nat)) : List Value := L.flatMap fun p => [.int .i64 (p.1 : Int), .int .i64 (p.2 : Int)]
theorem fl_snoc (L : List (Nat × Nat)) (p : Nat × Nat) : fl (L ++ [p]) = fl L ++ [.int .i64 (p.1 : Int), .int .i64 (p.2 : Int)] := by simp [fl]
theorem fl_get (L : List (Nat × Nat)) (k : Nat) (h : k < L.length) : (fl L)[k * 2]? = some (.int .i64 (L[k].1 : Int)) ∧ (fl L)[k * 2 + 1]? = some (.int .i64 (L[k].2 : Int)) := by
  induction L generalizing k with
  | nil => simp at h
  | cons p L ih =>
    cases k with
    | zero => simp [fl]
    | succ k =>
      have := ih k (by simpa using h)
      have e1 : (k + 1) * 2 = k * 2 + 2 := by omega
      have e2 : (k + 1) * 2 + 1 = k * 2 + 1 + 2 := by omega
      have e3 : ∀ j, (fl (p :: L))[j + 2]? = (fl L)[j]? := fun j => by simp [fl]
      rw [e2, e1, e3, e3]
      simpa using this
theorem row_powC {W : World} {base g cap n : Nat} {L : List (Nat × Nat)} (h : W.ownsRow base 65 2 (.slice (some ⟨g, 0, none⟩) n cap) L.length (fl L)) : PowC W g L := by
  intro k hk
  have hc := h.cells (g := g) rfl
  have hadd : ∀ j, (⟨g, 0, none⟩ : Addr).add j = ⟨g, j, none⟩ := fun j => by unfold Addr.add; split <;> simp_all
  have h1 := hc _ _ (fl_get L k hk).1
  have h2 := hc _ _ (fl_get L k hk).2
  rw [hadd] at h1 h2
  exact ⟨h1, h2⟩
/-- Rows that begin otherwise are two rows. -/
theorem rows_ne {W : World} {base : Nat} {va vb : Value} {A B : List (Nat × Nat)} (ha : W.ownsRow base 65 2 va A.length (fl A)) (hb : W.ownsRow base 65 2 vb B.length (fl B)) (hne : ∀ p ∈ A, ∀ q ∈ B, p.1 ≠ q.1) (hA : va = .slice none 0 0 ∨ A ≠ []) (hB : vb = .slice none 0 0 ∨ B ≠ []) : vb.ownBlock = none ∨ vb.ownBlock ≠ va.ownBlock := by
  rcases hb.2 with ⟨rfl, _⟩ | ⟨g, cap, cur, rfl, _⟩
  · exact .inl rfl
  · rcases ha.2 with ⟨rfl, _⟩ | ⟨g', cap', cur', rfl, _⟩
    · exact .inr (by simp [Value.ownBlock])
    · refine .inr fun e => ?_
      obtain rfl : g = g' := by simpa [Value.ownBlock] using e
      have hA' : A ≠ [] := by rcases hA with h | h; cases h; exact h
      have hB' : B ≠ [] := by rcases hB with h | h; cases h; exact h
      have lA : 0 < A.length := List.length_pos_iff.2 hA'
      have lB : 0 < B.length := List.length_pos_iff.2 hB'
      have h1 := (row_powC ha 0 lA).1
      have h2 := (row_powC hb 0 lB).1
      rw [h1] at h2
      have := hne A[0] (List.getElem_mem lA) B[0] (List.getElem_mem lB)
      simp at h2
      omega
theorem cell_two_new (w : World) (x y : Value) (t : TypeId) : ∀ j u, [x, y][j]? = some u → (w.alloc (.cells #[x, y] t)).cell? ((⟨w.heap.size, 0, none⟩ : Addr).add j) = some u := by
  intro j u hj
  match j, hj with
  | 0, hj => simp at hj; subst hj; simp [Addr.add]
  | 1, hj => simp at hj; subst hj; simp [Addr.add]
theorem Tryd.info65 : (Tryd.prog.info? 65).map (fun i => (i.zero, i.size, i.bytes)) = some (some (.agg #[.int .i64 0, .int .i64 0]), 2, 16) := by kernel_rfl
/-- A block that holds these cells. -/
def RowB (W : World) (b : Nat) (cs : Array Value) (t : TypeId) : Prop := W.heap[b]? = some (.cells cs t (0, 0))
theorem RowB.lt {W : World} {b : Nat} {cs : Array Value} {t : TypeId} (h : RowB W b cs t) : b < W.heap.size := (Array.getElem?_eq_some_iff.1 h).1
theorem RowB.kept {W W' : World} {row : Option Nat} {b : Nat} {cs : Array Value} {t : TypeId} (h : RowB W b cs t) (hg : W.grownBy W' row) (hne : some b ≠ row) : RowB W' b cs t := (hg.block b h.lt hne).trans h
theorem RowB.alloc {W : World} {b : Nat} {cs : Array Value} {t : TypeId} (h : RowB W b cs t) (o : Obj) : RowB (W.alloc o) b cs t := h.kept (World.grownBy_alloc W o none) (by simp)
theorem RowB.not_row {W : World} {b : Nat} {cs : Array Value} {t e : TypeId} (h : RowB W b cs t) (hte : t ≠ e) {base size k : Nat} {v : Value} {xs : List Value} (hr : W.ownsRow base e size v k xs) : some b ≠ v.ownBlock := by
  rcases hr.2 with ⟨rfl, _⟩ | ⟨g, cap, cur, rfl, _, hgb, _⟩
  · simp [Value.ownBlock]
  · intro e'
    obtain rfl : b = g := by simpa [Value.ownBlock] using e'
    have := (show W.heap[b]? = _ from h).symm.trans hgb
    simp at this
    exact hte this.2
theorem RowB.own {β : Type} (b : Nat) (cs : Array Value) (t : TypeId) : Own (fun (_ : β) W => RowB W b cs t) := fun s X Y row hs hg hrow =>
  hs.kept hg (fun e' => by obtain ⟨o, ho, hc⟩ := hrow b e'.symm; rw [show X.heap[b]? = _ from hs] at ho; cases ho; cases hc)
theorem RowB.cell {W : World} {b : Nat} {cs : Array Value} {t : TypeId} (h : RowB W b cs t) (o : Nat) : W.cell? ⟨b, o, none⟩ = cs[o]? := by simp [World.cell?, show W.heap[b]? = _ from h]
theorem RowB.kp {W W' : World} {b : Nat} {cs : Array Value} {t : TypeId} (h : RowB W b cs t) (h' : RowB W' b cs t) : Kp b W W' := fun o => (h'.cell o).trans (h.cell o).symm
theorem RowB.lc {W : World} {b : Nat} {v : Nat → Int} {t : TypeId} (h : RowB W b (PC v) t) : LC W b v := ⟨h.cell 0, h.cell 1, h.cell 2, h.cell 3, h.cell 4, h.cell 5⟩
theorem RowB.set_other {W : World} {b B : Nat} {cs : Array Value} {t : TypeId} (h : RowB W b cs t) (hne : b ≠ B) (u : Value) : RowB (W.setCell ⟨B, 0, none⟩ u) b cs t := h.kept (grownBy_setCell' W B u) (fun e => hne (by cases e; rfl))
/-- What fraction's loop keeps. -/
structure FrI (w0 : World) (v : Nat → Int) (pre : List (Ix v)) (W : World) : Prop where
  a : ∃ va, Boxed W (w0.heap.size + 1) 85 va ∧ W.ownsRow w0.heap.size 65 2 va (posL v pre).length (fl (posL v pre)) ∧ (va = .slice none 0 0 ∨ posL v pre ≠ [])
  b : ∃ vb, Boxed W (w0.heap.size + 2) 85 vb ∧ W.ownsRow w0.heap.size 65 2 vb (negL v pre).length (fl (negL v pre)) ∧ (vb = .slice none 0 0 ∨ negL v pre ≠ [])
  c : RowB W (w0.heap.size + 3) (PC v) 22
  bl : Below w0.heap.size w0 W
theorem FrI.own (w0 : World) (v : Nat → Int) (B : Nat) (hB : w0.heap.size ≤ B) : OwnFrom B (FrI w0 v) := by
  intro s X Y row hs hg hr
  have hr' : ∀ r, row = some r → ∃ o : Obj, X.heap[r]? = some o ∧ o.isCells = false := fun r e => (hr r e).2
  exact ⟨holdsRow_own _ _ 85 65 2 (fun pre => (posL v pre).length) (fun pre => fl (posL v pre)) (fun pre va => va = .slice none 0 0 ∨ posL v pre ≠ []) s X Y row hs.a hg hr',
    holdsRow_own _ _ 85 65 2 (fun pre => (negL v pre).length) (fun pre => fl (negL v pre)) (fun pre va => va = .slice none 0 0 ∨ negL v pre ≠ []) s X Y row hs.b hg hr',
    RowB.own _ _ _ s X Y row hs.c hg hr', ownFrom_below (β := List (Ix v)) (Nat.le_refl _) hB s X Y row hs.bl hg hr⟩
end Go.Proofs.YtomgihlkbmaleaaDoor

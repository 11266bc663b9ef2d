/- The library's slices.Compact over pitches. -/
import Derived.Test.YtomgihlkbmaleaaDoorQL
import Derived.Laws.CopyRow
namespace Go.Proofs.YtomgihlkbmaleaaDoor
open Go.RowKit M
/-- Rows of six in a block. -/
def RB (W : World) (b n cap : Nat) (M : Nat → Nat → Int) : Prop := ∃ cur : Array Value, W.heap[b]? = some (.cells cur 23 (0, 0)) ∧ cur.size = cap * 6 ∧ n ≤ cap ∧ ∀ i j, i < n → j < 6 → cur[i * 6 + j]? = some (.int .i64 (M i j))
theorem RB.lt {W : World} {b n cap : Nat} {M : Nat → Nat → Int} (h : RB W b n cap M) : b < W.heap.size := by obtain ⟨cur, h, _⟩ := h; exact (Array.getElem?_eq_some_iff.1 h).1
theorem RB.cell {W : World} {b n cap : Nat} {M : Nat → Nat → Int} (h : RB W b n cap M) {i j : Nat} (hi : i < n) (hj : j < 6) : W.cell? ⟨b, i * 6 + j, none⟩ = some (.int .i64 (M i j)) := by
  obtain ⟨cur, h1, h2, h3, h4⟩ := h
  simp only [World.cell?, h1]
  exact h4 i j hi hj
theorem RB.frozen {W : World} {b n cap : Nat} {M : Nat → Nat → Int} (h : RB W b n cap M) (k : Nat) : W.frozen? ⟨b, k, none⟩ = false := by
  obtain ⟨cur, h1, h2, h3, h4⟩ := h
  simp [World.frozen?, h1]
theorem RB.cv {W : World} {b n cap : Nat} {M : Nat → Nat → Int} (h : RB W b n cap M) : CV W (some ⟨b, 0, none⟩) n M := fun _ => ⟨b, 0, rfl, h.lt, fun i j hi hj => by rw [Nat.zero_add]; exact h.cell hi hj⟩
theorem RB.keep {W W' : World} {b n cap : Nat} {M : Nat → Nat → Int} (h : RB W b n cap M) (hk : W'.heap[b]? = W.heap[b]?) : RB W' b n cap M := by
  obtain ⟨cur, h1, h2⟩ := h; exact ⟨cur, hk.trans h1, h2⟩
theorem RB.below {W W' : World} {b n cap m : Nat} {M : Nat → Nat → Int} (h : RB W b n cap M) (hb : Below m W W') (hm : b < m) : RB W' b n cap M := h.keep (hb.block b hm)
theorem RB.congr {W : World} {b n cap : Nat} {M N : Nat → Nat → Int} (h : RB W b n cap M) (e : ∀ i j, i < n → j < 6 → N i j = M i j) : RB W b n cap N := by
  obtain ⟨cur, h1, h2, h3, h4⟩ := h; exact ⟨cur, h1, h2, h3, fun i j hi hj => by rw [e i j hi hj]; exact h4 i j hi hj⟩
theorem RB.set {W : World} {b n cap : Nat} {M : Nat → Nat → Int} (h : RB W b n cap M) {i j : Nat} (hi : i < n) (hj : j < 6) (x : Int) : RB (W.setCell ⟨b, i * 6 + j, none⟩ (.int .i64 x)) b n cap (fun r s => if r = i ∧ s = j then x else M r s) := by
  obtain ⟨cur, h1, h2, h3, h4⟩ := h
  refine ⟨cur.setIfInBounds (i * 6 + j) (.int .i64 x), by simp [World.setCell, Array.getElem?_modify, h1], by simp [h2], h3, fun r s hr hs => ?_⟩
  by_cases e : r = i ∧ s = j
  · obtain ⟨rfl, rfl⟩ := e
    have := (Array.getElem?_eq_some_iff.1 (h4 r s hr hs)).1
    simp [this]
  · simp only [if_neg e]
    rw [Array.getElem?_setIfInBounds_ne (by omega)]
    exact h4 r s hr hs
/-- A row is written. -/
def six6 (W : World) (b o : Nat) (v : Nat → Int) : World := (((((W.setCell ⟨b, o, none⟩ (.int .i64 (v 0))).setCell ⟨b, o + 1, none⟩ (.int .i64 (v 1))).setCell ⟨b, o + 2, none⟩ (.int .i64 (v 2))).setCell ⟨b, o + 3, none⟩ (.int .i64 (v 3))).setCell ⟨b, o + 4, none⟩ (.int .i64 (v 4))).setCell ⟨b, o + 5, none⟩ (.int .i64 (v 5))
def updR (M : Nat → Nat → Int) (i : Nat) (v : Nat → Int) : Nat → Nat → Int := fun r s => if r = i then v s else M r s
theorem RB.row {W : World} {b n cap : Nat} {M : Nat → Nat → Int} (h : RB W b n cap M) {i : Nat} (hi : i < n) (v : Nat → Int) : RB (six6 W b (i * 6) v) b n cap (updR M i v) := by
  have := (((((h.set hi (j := 0) (by omega) (v 0)).set hi (j := 1) (by omega) (v 1)).set hi (j := 2) (by omega) (v 2)).set hi (j := 3) (by omega) (v 3)).set hi (j := 4) (by omega) (v 4)).set hi (j := 5) (by omega) (v 5)
  refine RB.congr this fun r s hr hs => ?_
  unfold updR
  by_cases e : r = i
  · subst e
    rcases six_cases' hs with rfl | rfl | rfl | rfl | rfl | rfl <;> simp
  · simp [e]
theorem RB.own {W : World} {b n cap base k : Nat} {M : Nat → Nat → Int} (h : RB W b n cap M) (hb : base ≤ b) (hm : cap ≤ maxLen) (hk : k ≤ n) : W.ownsRow base 23 6 (.slice (some ⟨b, 0, none⟩) k cap) k (rowsL M k) := by
  obtain ⟨cur, h1, h2, h3, h4⟩ := h
  refine ⟨rowsL_length M k, .inr ⟨b, cap, cur, rfl, hb, h1, by omega, hm, h2, ?_⟩⟩
  apply List.ext_getElem?
  intro t
  by_cases ht : t < k * 6
  · rw [List.getElem?_take_of_lt ht, Array.getElem?_toList]
    have := h4 (t / 6) (t % 6) (by omega) (by omega)
    rw [show t / 6 * 6 + t % 6 = t by omega] at this
    rw [this]
    have := rowsL_get (M := M) (k := k) (i := t / 6) (j := t % 6) (by omega) (by omega)
    rw [show t / 6 * 6 + t % 6 = t by omega] at this
    exact this.symm
  · rw [List.getElem?_eq_none (by simp; omega), List.getElem?_eq_none (by rw [rowsL_length]; omega)]
theorem RB.of_own {W : World} {b k cap base : Nat} {M : Nat → Nat → Int} {xs : List Value} (h : W.ownsRow base 23 6 (.slice (some ⟨b, 0, none⟩) k cap) k xs) (hx : ∀ i j, i < k → j < 6 → xs[i * 6 + j]? = some (.int .i64 (M i j))) : RB W b k cap M := by
  obtain ⟨h0, h⟩ := h
  rcases h with ⟨e, _⟩ | ⟨g, cap', cur, e, _, hg, hn, hm, hs, ht⟩
  · cases e
  · cases e
    refine ⟨cur, hg, hs, hn, fun i j hi hj => ?_⟩
    have := hx i j hi hj
    rw [← ht, List.getElem?_take_of_lt (by omega), Array.getElem?_toList] at this
    exact this
theorem RB.spare {W : World} {b n cap : Nat} {M : Nat → Nat → Int} (h : RB W b n cap M) {k : Nat} (hk : k < cap * 6) : ∃ x, W.cell? ⟨b, k, none⟩ = some x := by
  obtain ⟨cur, h1, h2, h3, h4⟩ := h
  simp only [World.cell?, h1]
  exact ⟨_, Array.getElem?_eq_getElem (by omega)⟩
theorem RB.away {W : World} {b n cap : Nat} {M : Nat → Nat → Int} (h : RB W b n cap M) {k : Nat} (hk : n * 6 ≤ k) (x : Value) : RB (W.setCell ⟨b, k, none⟩ x) b n cap M := by
  obtain ⟨cur, h1, h2, h3, h4⟩ := h
  refine ⟨cur.setIfInBounds k x, by simp [World.setCell, Array.getElem?_modify, h1], by simp [h2], h3, fun r s hr hs => ?_⟩
  rw [Array.getElem?_setIfInBounds_ne (by omega)]
  exact h4 r s hr hs
theorem RB.drew {W : World} {b n cap : Nat} {M : Nat → Nat → Int} (h : RB W b n cap M) : RB W.drew b n cap M := by
  obtain ⟨cur, h⟩ := h; exact ⟨cur, h⟩
theorem RB.six {W : World} {b n cap : Nat} {M : Nat → Nat → Int} (h : RB W b n cap M) {i : Nat} (hi : i < n) : W.cell? ⟨b, i * 6, none⟩ = some (.int .i64 (M i 0)) ∧ W.cell? ⟨b, i * 6 + 1, none⟩ = some (.int .i64 (M i 1)) ∧ W.cell? ⟨b, i * 6 + 2, none⟩ = some (.int .i64 (M i 2)) ∧ W.cell? ⟨b, i * 6 + 3, none⟩ = some (.int .i64 (M i 3)) ∧ W.cell? ⟨b, i * 6 + 4, none⟩ = some (.int .i64 (M i 4)) ∧ W.cell? ⟨b, i * 6 + 5, none⟩ = some (.int .i64 (M i 5)) :=
  ⟨h.cell hi (j := 0) (by omega), h.cell hi (j := 1) (by omega), h.cell hi (j := 2) (by omega), h.cell hi (j := 3) (by omega), h.cell hi (j := 4) (by omega), h.cell hi (j := 5) (by omega)⟩
set_option maxRecDepth 100000 in
set_option maxHeartbeats 8000000 in
theorem compact_same (g n cap : Nat) (M : Nat → Nat → Int) (w : World) (hn0 : 0 < n) (hn : n ≤ 64) (hR : RB w g n cap M) (hne : ∀ q, q + 1 < n → ¬ ∀ j, j < 6 → M (q + 1) j = M q j) : Calls Tryd.prog 31 #[.slice (some ⟨g, 0, none⟩) n cap] w fun e w' => e = .returned (.slice (some ⟨g, 0, none⟩) n cap) ∧ Below w.heap.size w w' := by
  have HN := Bx.mk hne
  have HR := Bx.mk hR
  clear hne hR
  by_cases h2 : n < 2
  · have h2' : (n : Int) < 2 := by omega
    go_enter Tryd.func31, Tryd.ntmps31
    go_wp2_with fail
    go_ret
    exact ⟨rfl, Below.refl _ _⟩
  · have h2' : ¬ (n : Int) < 2 := by omega
    go_enter Tryd.func31, Tryd.ntmps31
    go_wp2_with fail
    go_loopw [3] (fun ix wr => ∃ q : Nat, q + 1 ≤ n ∧ (∃ k : Nat, k = q + 1 ∧ ix = .int .i64 k) ∧ Bx (Below w.heap.size w wr)) (fun ix _ => n - (intOf ix).toNat)
    case atStart => exact ⟨0, by omega, ⟨1, rfl, rfl⟩, ⟨Below.refl _ _⟩⟩
    case round =>
      obtain ⟨q, hq, ⟨k, hk, rfl⟩, HW⟩ := hrel
      by_cases hin : k < n
      · have hin' : (k : Int) < (n : Int) := by omega
        have hqn : (q : Int) < (n : Int) := by omega
        have hw1 : IntKind.i64.wrap ((k : Int) - 1) = (q : Int) := by rw [show (k : Int) - 1 = q by omega]; exact IntWalk.i64_in _ ⟨by omega, by omega⟩
        have HRW : Bx (RB wr g n cap M) := ⟨HR.out.below HW.out HR.out.lt⟩
        obtain ⟨a0, a1, a2, a3, a4, a5⟩ := HRW.out.drew.six (i := k) (by omega)
        obtain ⟨b0, b1, b2, b3, b4, b5⟩ := HRW.out.drew.six (i := q) (by omega)
        obtain ⟨x, hx⟩ : ∃ x, M k = x := ⟨_, rfl⟩
        obtain ⟨y, hy⟩ : ∃ y, M q = y := ⟨_, rfl⟩
        rw [hx] at a0 a1 a2 a3 a4 a5
        rw [hy] at b0 b1 b2 b3 b4 b5
        have E := eq6_is 23 und_pitch x y false ⟨(fun h => by cases h), fun h => absurd (by rw [← hk, hx, hy]; exact h) (HN.out q (by omega))⟩
        unfold PV at E
        have HK := Bx.mk hk
        clear hx hy hk
        go_wp2_with fail
        go_region
        all_goals go_wp2_with fail
        all_goals exact ⟨⟨k, by omega, ⟨k + 1, rfl, by go_num⟩, ⟨HW.out.drew⟩⟩, by simp [intOf]; omega⟩
      · go_wp2_with fail
        go_ret
        exact ⟨rfl, HW.out⟩
theorem six6_below {g : Nat} {w W : World} (h : Below g w W) (o : Nat) (v : Nat → Int) : Below g w (six6 W g o v) := by
  unfold six6
  have h0 := h.setCell (p := ⟨g, o, none⟩) (Nat.le_refl _) (.int .i64 (v 0))
  have h1 := h0.setCell (p := ⟨g, o + 1, none⟩) (Nat.le_refl _) (.int .i64 (v 1))
  have h2 := h1.setCell (p := ⟨g, o + 2, none⟩) (Nat.le_refl _) (.int .i64 (v 2))
  have h3 := h2.setCell (p := ⟨g, o + 3, none⟩) (Nat.le_refl _) (.int .i64 (v 3))
  have h4 := h3.setCell (p := ⟨g, o + 4, none⟩) (Nat.le_refl _) (.int .i64 (v 4))
  exact h4.setCell (p := ⟨g, o + 5, none⟩) (Nat.le_refl _) (.int .i64 (v 5))
theorem zeros_one (z : Array Value) (k : Nat) (h : ∀ u ∈ z, u.oneCell' = true) (hz : z.size = 6) : (∀ u ∈ (Builtin.zeroCells z k).toList, u.oneCell' = true) ∧ (Builtin.zeroCells z k).toList.length = k * 6 := by
  unfold Builtin.zeroCells
  refine ⟨?_, by simp [hz]⟩
  intro u hu
  simp only [Array.toList_map, List.mem_map] at hu
  obtain ⟨i, _, rfl⟩ := hu
  have : i % z.size < z.size := Nat.mod_lt _ (by omega)
  rw [getElem!_pos z _ this]
  exact h _ (Array.getElem_mem this)
theorem zero_pitch : ∀ w, (zeroValue 23).run Tryd.prog w = .ok (.agg #[.int .i64 0, .int .i64 0, .int .i64 0, .int .i64 0, .int .i64 0, .int .i64 0]) w := Tryd.zeroValue23
/-- clear of an own list's end. -/
theorem wpList_clear {w : World} {ops : Array Oper} {rest : List Oper} {o : Oper} {a : Act} {Q : Exit → Act → World → Prop} (hgd : o.guard = none) (s : Operand) (ho : o.op = .call { callee := .builtin .clear, args := #[s], argTypes := #[32] })
    (g k m c n cap : Nat) (M : Nat → Nat → Int) (hs : a.eval s = .slice (some ⟨g, k * 6, none⟩) m c) (hm : 0 < m) (hkm : k + m ≤ n) (hR : RB w g n cap M)
    (h : ∀ w', Below g w w' → wpList Tryd.prog ops Q rest (a.put o.dst (.tuple #[])) w') : wpList Tryd.prog ops Q (o :: rest) a w := by
  refine wpList_plain hgd fun K hK => ?_
  obtain ⟨cur, h1, h2, h3, h4⟩ := hR
  have hz := zeros_one #[.int .i64 0, .int .i64 0, .int .i64 0, .int .i64 0, .int .i64 0, .int .i64 0] m (by simp [Value.oneCell']) rfl
  have hst := run_storeCells_at (P := Tryd.prog) g (k * 6) 23 (Builtin.zeroCells #[.int .i64 0, .int .i64 0, .int .i64 0, .int .i64 0, .int .i64 0, .int .i64 0] m).toList 0 cur w h1 (by rw [hz.2, h2]; omega) hz.1
  obtain ⟨W', hW⟩ : ∃ W', w.setRow g (cur.toList.take (k * 6 + 0) ++ (Builtin.zeroCells #[.int .i64 0, .int .i64 0, .int .i64 0, .int .i64 0, .int .i64 0, .int .i64 0] m).toList ++ cur.toList.drop (k * 6 + 0 + (Builtin.zeroCells #[.int .i64 0, .int .i64 0, .int .i64 0, .int .i64 0, .int .i64 0, .int .i64 0] m).toList.length)).toArray = W' := ⟨_, rfl⟩
  rw [hW] at hst
  have hB : Below g w W' := by
    rw [← hW]
    exact ⟨rfl, rfl, rfl, by simp [World.setRow], fun i hi => by simp only [World.setRow, Array.getElem?_modify]; rw [if_neg (by omega)]⟩
  have hrun : (Builtin.clear_ #[32] o.type #[.slice (some ⟨g, k * 6, none⟩) m c]).run Tryd.prog w = .ok (.tuple #[]) W' := by
    obtain ⟨m', rfl⟩ : ∃ m', m = m' + 1 := ⟨m - 1, by omega⟩
    simp only [Builtin.clear_, List.getElem?_toArray, List.getElem?_cons_zero, Sem.run_bind, run_underlying Tryd.underlying32, Result.andThen_ok, zero_pitch, Value.cells, hst, Sem.run_pure]
  unfold Oper.wp
  simp [execOp, ho, resolve, invoke, builtin, hs, hrun, Result.andThen]
  exact hK _ _ (h W' hB)
set_option maxRecDepth 100000 in
set_option maxHeartbeats 16000000 in
theorem compact_less (g n cap : Nat) (M : Nat → Nat → Int) (w : World) (hn : n ≤ 64) (hcm : cap ≤ maxLen) (hR : RB w g n cap M) (p : Nat) (hp : p + 1 < n) (hne : ∀ q, q < p → ¬ ∀ j, j < 6 → M (q + 1) j = M q j) (heq : ∀ j, j < 6 → M (p + 1) j = M p j) :
    Calls Tryd.prog 31 #[.slice (some ⟨g, 0, none⟩) n cap] w fun e w' => ∃ m c, m < n ∧ e = .returned (.slice (some ⟨g, 0, none⟩) (m : Nat) c) ∧ Below g w w' := by
  have HN := Bx.mk hne
  have HE := Bx.mk heq
  have HR := Bx.mk hR
  have hnc : n ≤ cap := by obtain ⟨cur, h1, h2, h3, h4⟩ := hR; exact h3
  clear hne hR heq
  have h2' : ¬ (n : Int) < 2 := by omega
  go_enter Tryd.func31, Tryd.ntmps31
  go_wp2_with fail
  go_loopw [3] (fun ix wr => ∃ q : Nat, q ≤ p ∧ (∃ k : Nat, k = q + 1 ∧ ix = .int .i64 k) ∧ Bx (Below w.heap.size w wr)) (fun ix _ => n - (intOf ix).toNat)
  case atStart => exact ⟨0, by omega, ⟨1, rfl, rfl⟩, ⟨Below.refl _ _⟩⟩
  case round =>
    obtain ⟨q, hq, ⟨k, hk, rfl⟩, HW⟩ := hrel
    have hin : k < n := by omega
    have hin' : (k : Int) < (n : Int) := by omega
    have hqn : (q : Int) < (n : Int) := by omega
    have hw1 : IntKind.i64.wrap ((k : Int) - 1) = (q : Int) := by rw [show (k : Int) - 1 = q by omega]; exact IntWalk.i64_in _ ⟨by omega, by omega⟩
    have HRW : Bx (RB wr g n cap M) := ⟨HR.out.below HW.out HR.out.lt⟩
    obtain ⟨a0, a1, a2, a3, a4, a5⟩ := HRW.out.drew.six (i := k) (by omega)
    obtain ⟨b0, b1, b2, b3, b4, b5⟩ := HRW.out.drew.six (i := q) (by omega)
    obtain ⟨x, hx⟩ : ∃ x, M k = x := ⟨_, rfl⟩
    obtain ⟨y, hy⟩ : ∃ y, M q = y := ⟨_, rfl⟩
    rw [hx] at a0 a1 a2 a3 a4 a5
    rw [hy] at b0 b1 b2 b3 b4 b5
    by_cases hqp : q < p
    · have E := eq6_is 23 und_pitch x y false ⟨(fun h => by cases h), fun h => absurd (by rw [← hk, hx, hy]; exact h) (HN.out q (by omega))⟩
      unfold PV at E
      have hkp : k ≤ p := by omega
      have HK := Bx.mk hk
      clear hx hy hk
      go_wp2_with fail
      go_region
      all_goals go_wp2_with fail
      all_goals exact ⟨⟨k, by omega, ⟨k + 1, rfl, by go_num⟩, ⟨HW.out.drew⟩⟩, by simp [intOf]; omega⟩
    · obtain rfl : q = p := by omega
      have E := eq6_is 23 und_pitch x y true ⟨(fun _ => by rw [← hx, ← hy, hk]; exact HE.out), fun _ => rfl⟩
      unfold PV at E
      have hkc : (k : Int) ≤ (cap : Int) := by omega
      have hkc2 : ¬ cap = k := by omega
      have hk0 : 0 < k := by omega
      have HK := Bx.mk hk
      clear hx hy hk
      go_wp2_with fail
      go_region
      all_goals go_wp2_with fail
      clear a0 a1 a2 a3 a4 a5 b0 b1 b2 b3 b4 b5 E
      obtain ⟨r, hr⟩ : ∃ r, n - k = r := ⟨_, rfl⟩
      rw [hr]
      have hr0 : 0 < r := by omega
      have hr64 : r ≤ 64 := by omega
      have hnr : k + r = n := by omega
      have HNR := Bx.mk hnr
      have HRW2 := Bx.mk HRW.out.drew
      have HWG : Bx (Below g w wr.drew) := ⟨HW.out.drew.mono (Nat.le_of_lt HR.out.lt)⟩
      have hnr2 : r ≤ n - k := by omega
      clear hr hnr HRW
      go_loopw [3, 5] (fun a b wz => ∃ (kk j : Nat) (N : Nat → Nat → Int), a = .int .i64 kk ∧ b = .int .i64 j ∧ k ≤ kk ∧ kk + 1 ≤ k + j ∧ 1 ≤ j ∧ j ≤ r ∧ Bx (RB wz g n cap N) ∧ Bx (Below g w wz)) (fun _ b _ => r - (intOf b).toNat)
      case atStart => exact ⟨k, 1, M, rfl, rfl, by omega, by omega, by omega, by omega, HRW2, HWG⟩
      case round =>
        obtain ⟨kk, j, N, rfl, rfl, hk1, hk2, hj1, hj2, HRZ, HWZ⟩ := hrel
        by_cases hjr : j < r
        · have hjr' : (j : Int) < (r : Int) := by omega
          obtain ⟨i, hij⟩ : ∃ i, j = i + 1 := ⟨j - 1, by omega⟩
          have hir : (i : Int) < (r : Int) := by omega
          have hw2 : IntKind.i64.wrap ((j : Int) - 1) = (i : Int) := by rw [show (j : Int) - 1 = i by omega]; exact IntWalk.i64_in _ ⟨by omega, by omega⟩
          obtain ⟨a0, a1, a2, a3, a4, a5⟩ := HRZ.out.drew.six (i := k + j) (by have := HNR.out; omega)
          obtain ⟨b0, b1, b2, b3, b4, b5⟩ := HRZ.out.drew.six (i := k + i) (by have := HNR.out; omega)
          obtain ⟨c0, c1, c2, c3, c4, c5⟩ := HRZ.out.drew.six (i := kk) (by have := HNR.out; omega)
          obtain ⟨d0, d1, d2, d3, d4, d5⟩ := HRZ.out.six (i := kk) (by have := HNR.out; omega)
          have e0 := HRZ.out.frozen (kk * 6)
          have e1 := HRZ.out.frozen (kk * 6 + 1)
          have e2 := HRZ.out.frozen (kk * 6 + 2)
          have e3 := HRZ.out.frozen (kk * 6 + 3)
          have e4 := HRZ.out.frozen (kk * 6 + 4)
          have e5 := HRZ.out.frozen (kk * 6 + 5)
          have f0 := HRZ.out.drew.frozen (kk * 6)
          have f1 := HRZ.out.drew.frozen (kk * 6 + 1)
          have f2 := HRZ.out.drew.frozen (kk * 6 + 2)
          have f3 := HRZ.out.drew.frozen (kk * 6 + 3)
          have f4 := HRZ.out.drew.frozen (kk * 6 + 4)
          have f5 := HRZ.out.drew.frozen (kk * 6 + 5)
          obtain ⟨x, hx⟩ : ∃ x, N (k + j) = x := ⟨_, rfl⟩
          obtain ⟨y, hy⟩ : ∃ y, N (k + i) = y := ⟨_, rfl⟩
          obtain ⟨z, hz⟩ : ∃ z, N kk = z := ⟨_, rfl⟩
          rw [hx, Nat.add_mul] at a0 a1 a2 a3 a4 a5
          rw [hy, Nat.add_mul] at b0 b1 b2 b3 b4 b5
          rw [hz] at c0 c1 c2 c3 c4 c5 d0 d1 d2 d3 d4 d5
          have hkn : (kk : Int) < (n : Int) := by have := HNR.out; omega
          have hkn1 : kk < n := by omega
          obtain ⟨bq, hbq⟩ := bool_of (∀ i, i < 6 → x i = y i)
          have E := eq6_is 23 und_pitch x y bq hbq
          unfold PV at E
          have HB6 : Bx (Below g w (six6 wr g (kk * 6) x).drew) := ⟨(six6_below HWZ.out (kk * 6) x).drew⟩
          have HR6 : Bx (RB (six6 wr g (kk * 6) x).drew g n cap (updR N kk x)) := ⟨(HRZ.out.row hkn1 x).drew⟩
          unfold six6 at HB6 HR6
          have HIJ := Bx.mk hij
          clear hx hy hz hbq hij
          cases bq with
          | true =>
            go_wp2_with fail
            go_region
            all_goals go_wp2_with fail
            all_goals exact ⟨⟨kk, j + 1, N, rfl, by go_num, hk1, by omega, by omega, by omega, ⟨HRZ.out.drew⟩, ⟨HWZ.out.drew⟩⟩, by simp [intOf]; omega⟩
          | false =>
            go_wp2_with fail
            go_region
            all_goals go_wp2_with fail
            all_goals exact ⟨⟨kk + 1, j + 1, updR N kk x, by go_num, by go_num, by omega, by omega, by omega, by omega, HR6, HB6⟩, by simp [intOf]; omega⟩
        · have hkn1 : kk < n := by have := HNR.out; omega
          have hkn : (kk : Int) ≤ (cap : Int) := by omega
          have hkn3 : (kk : Int) ≤ (n : Int) := by omega
          have hkn2 : ¬ cap = kk := by omega
          go_wp2_with (with_reducible show wpList _ _ _ (_ :: _) _ _; refine wpList_clear rfl (.tmp 56) rfl g kk (n - kk) (cap - kk) n cap N rfl (by omega) (by omega) HRZ.out ?_)
          intro w9 h9
          have HB9 : Bx (Below g w w9) := ⟨HWZ.out.trans h9⟩
          clear h9
          go_wp2_with fail
          go_ret
          exact ⟨kk, _, hkn1, rfl, HB9.out⟩
end Go.Proofs.YtomgihlkbmaleaaDoor

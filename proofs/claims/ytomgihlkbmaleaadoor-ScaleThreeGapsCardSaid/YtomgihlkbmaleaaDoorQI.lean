/- Lists of pitches that a call makes: appending; how they lie. -/
import Derived.Test.YtomgihlkbmaleaaDoorQH
import Derived.Deep.RegionLaw
import Derived.Handy
import Derived.Lib.Hide
import Derived.BigQuiet
import Derived.WalkLawsBesides
import Derived.WalkSpells
import Derived.Outline
namespace Go.Proofs.YtomgihlkbmaleaaDoor
open Go.RowKit M
theorem step_append_own {P : Program} {ops : Array Oper} {o : Oper} {a : Act} {w : World} {K : Act → World → Prop} {Q : Exit → Act → World → Prop} {E : Prop}
    (hg : o.guard = none) (s x : Operand) (t : TypeId) (hop : o.op = Op.call { callee := Callee.builtin Builtin.append, args := #[s, x], argTypes := #[t, t] })
    (base : Nat) (e : TypeId) (i : TypeInfo) (z : Value) (size bytes : Nat) (ht : P.underlying t = some (.slice e)) (hi : P.info? e = some i) (hz : i.zero = some z)
    (hsize : i.size = size) (hby : i.bytes = bytes) (hzs : z.cells.size = size) (hsz : 0 < size)
    (v : Value) (n : Nat) (xs : List Value) (hs : a.eval s = v) (hown : w.ownsRow base e size v n xs)
    (ao : Option Addr) (m c : Nat) (news : List Value) (hx : a.eval x = .slice ao m c) (hl : news.length = m * size) (hnone : ao = none → m = 0 ∧ c = 0) (hnews : ∀ ad, ao = some ad → ∀ j u, news[j]? = some u → w.cell? (ad.add j) = some u) (h1 : ∀ u ∈ news, u.oneCell' = true)
    (h63 : n + m ≤ maxLen) (hbytes : (n + m) * bytes ≤ 140737488355328) (hbase : base ≤ w.heap.size)
    (h : ∀ v' w', w'.ownsRow base e size v' (n + m) (xs ++ news) → w.grownBy w' v.ownBlock → K (a.put o.dst v') w') :
    if Region.wanted o (yielded ops a.tmps) = true then Oper.wp P o a w K Q else E := by
  have hw : Region.wanted o (yielded ops a.tmps) = true := by simp [Region.wanted, hg]
  rw [if_pos hw]
  cases ao with
  | some ad =>
    obtain ⟨v', w', hrun, h2, h3, _⟩ := run_append_own (P := P) w base t o.type e i z size bytes ht hi hz hsize hby hzs hsz v n xs hown ad m c news hl (hnews ad rfl) h1 h63 hbytes hbase
    unfold Oper.wp
    simp [execOp, hop, resolve, invoke, builtin, hs, hx, hrun, Result.andThen]
    exact h v' w' h2 h3
  | none =>
    obtain ⟨rfl, rfl⟩ := hnone rfl
    have hnews : news = [] := List.eq_nil_of_length_eq_zero (by simpa using hl)
    subst hnews
    have hrun := run_append_owned_none (P := P) w base t o.type e i size ht hi v n xs hown
    unfold Oper.wp
    simp [execOp, hop, resolve, invoke, builtin, hs, hx, hrun, Result.andThen]
    exact h v w (by simpa using hown) (World.grownBy.refl _ _)
theorem append_fresh {P : Program} {w w' : World} {v' : Value} (base : Nat) (t ty e : TypeId) (i : TypeInfo) (z : Value) (ht : P.underlying t = some (.slice e)) (hi : P.info? e = some i) (hz : i.zero = some z)
    (v : Value) (n : Nat) (xs : List Value) (hown : w.ownsRow base e i.size v n xs) (a : Addr) (m c : Nat) (news : List Value) (hl : news.length = m * i.size)
    (hnews : ∀ j u, news[j]? = some u → w.cell? (a.add j) = some u) (h1 : ∀ u ∈ news, u.oneCell' = true) (h63 : n + m ≤ maxLen) (hbytes : (n + m) * i.bytes ≤ 140737488355328)
    (hrun : (Builtin.append_ #[t, t] ty #[v, .slice (some a) m c]).run P w = .ok v' w') : ∀ k, v'.ownBlock = some k → v.ownBlock = some k ∨ w.heap.size ≤ k := by
  have hsmall : n + m ≤ 9223372036854775807 := by simp only [maxLen] at h63; omega
  rcases hown.2 with ⟨rfl, rfl⟩ | ⟨g, cap, cur, rfl, hbg, hg, hnc, hcm, hcs, htake⟩
  · by_cases hm : m = 0
    · subst hm
      have hn : news = [] := List.eq_nil_of_length_eq_zero (by simpa using hl)
      subst hn
      have e : (Builtin.append_ #[t, t] ty #[.slice none 0 0, .slice (some a) 0 c]).run P w = .ok (.slice none 0 0) w := by
        simp [Builtin.append_, run_underlying ht, sizeOf, typeInfo, hi, Builtin.lenOf, Builtin.firstCells, loadCells, loadCellsFrom]
      rw [e] at hrun
      injection hrun with h2 _
      intro k hk; rw [← h2] at hk; simp [Value.ownBlock] at hk
    · have hr := run_append_nil (P := P) w t ty e i z ht hi hz a m c news hl hnews (by omega) (by omega) (by have hb := hbytes; simp only [Nat.zero_add] at hb; omega)
      rw [hr] at hrun
      injection hrun with h2 _
      intro k hk; rw [← h2] at hk; simp [Value.ownBlock] at hk; exact Or.inr (by omega)
  · by_cases hroom : n + m ≤ cap
    · have hfit : n * i.size + news.length ≤ cur.size := by rw [hl, hcs, ← Nat.add_mul]; exact Nat.mul_le_mul_right _ hroom
      have hr := run_append_room (P := P) w t ty e i ht hi g n cap cur hg a m c news hl hnews h1 hroom hfit
      rw [hr] at hrun
      injection hrun with h2 _
      intro k hk; rw [← h2] at hk; exact Or.inl hk
    · have holds : ∀ j u, xs[j]? = some u → w.cell? ((⟨g, 0, none⟩ : Addr).add j) = some u := hown.cells (g := g) rfl
      have hr := run_append_grow (P := P) w t ty e i z ht hi hz ⟨g, 0, none⟩ n cap xs hown.1 holds a m c news hl hnews (by omega) (by omega) (growslice_fits (by omega) hbytes)
      rw [hr] at hrun
      injection hrun with h2 _
      intro k hk; rw [← h2] at hk; simp [Value.ownBlock] at hk; exact Or.inr (by omega)
/-- As step_append_own, with what is known of the array. -/
theorem step_append_fresh {P : Program} {ops : Array Oper} {o : Oper} {a : Act} {w : World} {K : Act → World → Prop} {Q : Exit → Act → World → Prop} {E : Prop}
    (hg : o.guard = none) (s x : Operand) (t : TypeId) (hop : o.op = Op.call { callee := Callee.builtin Builtin.append, args := #[s, x], argTypes := #[t, t] })
    (base : Nat) (e : TypeId) (i : TypeInfo) (z : Value) (size bytes : Nat) (ht : P.underlying t = some (.slice e)) (hi : P.info? e = some i) (hz : i.zero = some z)
    (hsize : i.size = size) (hby : i.bytes = bytes) (hzs : z.cells.size = size) (hsz : 0 < size)
    (v : Value) (n : Nat) (xs : List Value) (hs : a.eval s = v) (hown : w.ownsRow base e size v n xs)
    (ao : Option Addr) (m c : Nat) (news : List Value) (hx : a.eval x = .slice ao m c) (hl : news.length = m * size) (hnone : ao = none → m = 0 ∧ c = 0) (hnews : ∀ ad, ao = some ad → ∀ j u, news[j]? = some u → w.cell? (ad.add j) = some u) (h1 : ∀ u ∈ news, u.oneCell' = true)
    (h63 : n + m ≤ maxLen) (hbytes : (n + m) * bytes ≤ 140737488355328) (hbase : base ≤ w.heap.size)
    (h : ∀ v' w', w'.ownsRow base e size v' (n + m) (xs ++ news) → w.grownBy w' v.ownBlock → (∀ k, v'.ownBlock = some k → v.ownBlock = some k ∨ w.heap.size ≤ k) → K (a.put o.dst v') w') :
    if Region.wanted o (yielded ops a.tmps) = true then Oper.wp P o a w K Q else E := by
  have hw : Region.wanted o (yielded ops a.tmps) = true := by simp [Region.wanted, hg]
  rw [if_pos hw]
  cases ao with
  | some ad =>
    obtain ⟨v', w', hrun, h2, h3, _⟩ := run_append_own (P := P) w base t o.type e i z size bytes ht hi hz hsize hby hzs hsz v n xs hown ad m c news hl (hnews ad rfl) h1 h63 hbytes hbase
    have hf := append_fresh base t o.type e i z ht hi hz v n xs (by rw [hsize]; exact hown) ad m c news (by rw [hsize]; exact hl) (hnews ad rfl) h1 h63 (by rw [hby]; exact hbytes) hrun
    unfold Oper.wp
    simp [execOp, hop, resolve, invoke, builtin, hs, hx, hrun, Result.andThen]
    exact h v' w' h2 h3 hf
  | none =>
    obtain ⟨rfl, rfl⟩ := hnone rfl
    have hnews : news = [] := List.eq_nil_of_length_eq_zero (by simpa using hl)
    subst hnews
    have hrun := run_append_owned_none (P := P) w base t o.type e i size ht hi v n xs hown
    unfold Oper.wp
    simp [execOp, hop, resolve, invoke, builtin, hs, hx, hrun, Result.andThen]
    exact h v w (by simpa using hown) (World.grownBy.refl _ _) (fun k hk => Or.inl hk)
theorem wpList_append_fresh {P : Program} {w : World} {ops : Array Oper} {rest : List Oper} {o : Oper} {a : Act} {Q : Exit → Act → World → Prop} (hgd : o.guard = none) (s x : Operand) (t : TypeId)
    (ho : o.op = .call { callee := .builtin .append, args := #[s, x], argTypes := #[t, t] })
    (base : Nat) (e : TypeId) (i : TypeInfo) (z : Value) (size bytes : Nat) (ht : P.underlying t = some (.slice e)) (hi : P.info? e = some i) (hz : i.zero = some z)
    (hsize : i.size = size) (hby : i.bytes = bytes) (hzs : z.cells.size = size) (hsz : 0 < size)
    (v : Value) (n : Nat) (xs : List Value) (hs : a.eval s = v) (hown : w.ownsRow base e size v n xs)
    (ao : Option Addr) (m c : Nat) (news : List Value) (hx : a.eval x = .slice ao m c) (hl : news.length = m * size) (hnone : ao = none → m = 0 ∧ c = 0) (hnews : ∀ ad, ao = some ad → ∀ j u, news[j]? = some u → w.cell? (ad.add j) = some u) (h1 : ∀ u ∈ news, u.oneCell' = true)
    (h63 : n + m ≤ maxLen) (hbytes : (n + m) * bytes ≤ 140737488355328) (hbase : base ≤ w.heap.size)
    (h : ∀ v' w', w'.ownsRow base e size v' (n + m) (xs ++ news) → w.grownBy w' v.ownBlock → (∀ k, v'.ownBlock = some k → v.ownBlock = some k ∨ w.heap.size ≤ k) → wpList P ops Q rest (a.put o.dst v') w') : wpList P ops Q (o :: rest) a w := by
  refine wpList_plain hgd fun K hK => ?_
  cases ao with
  | some ad =>
    obtain ⟨v', w', hrun, h2, h3, _⟩ := run_append_own (P := P) w base t o.type e i z size bytes ht hi hz hsize hby hzs hsz v n xs hown ad m c news hl (hnews ad rfl) h1 h63 hbytes hbase
    have hf := append_fresh base t o.type e i z ht hi hz v n xs (by rw [hsize]; exact hown) ad m c news (by rw [hsize]; exact hl) (hnews ad rfl) h1 h63 (by rw [hby]; exact hbytes) hrun
    unfold Oper.wp
    simp [execOp, ho, resolve, invoke, builtin, hs, hx, hrun, Result.andThen]
    exact hK _ _ (h v' w' h2 h3 hf)
  | none =>
    obtain ⟨rfl, rfl⟩ := hnone rfl
    have hnews : news = [] := List.eq_nil_of_length_eq_zero (by simpa using hl)
    subst hnews
    have hrun := run_append_owned_none (P := P) w base t o.type e i size ht hi v n xs hown
    unfold Oper.wp
    simp [execOp, ho, resolve, invoke, builtin, hs, hx, hrun, Result.andThen]
    exact hK _ _ (h v w (by simpa using hown) (World.grownBy.refl _ _) (fun k hk => Or.inl hk))
theorem step_go_call2 {P : Program} {ops : Array Oper} {o : Oper} {a : Act} {w : World} {K : Act → World → Prop} {Q : Exit → Act → World → Prop} {E : Prop} (hg : o.guard = none) (f : FuncId) (args : Array Value) (v : Value) (R : World → Prop)
    (hx : (execOp a.eval o).run P w = .ok (.enter f args) w) (hc : Calls P f args w fun e w' => e = .returned v ∧ R w') (h : ∀ w', R w' → K (a.put o.dst v) w') : if Region.wanted o (yielded ops a.tmps) = true then Oper.wp P o a w K Q else E := by
  have hw : Region.wanted o (yielded ops a.tmps) = true := by simp [Region.wanted, hg]
  rw [if_pos hw]
  unfold Oper.wp
  rw [hx]
  exact hc.mono (by rintro e w' ⟨rfl, hr⟩; exact h w' hr)
/-- The cells of the first rows. -/
def rowsL (M : Nat → Nat → Int) (k : Nat) : List Value := (List.range (k * 6)).map fun t => .int .i64 (M (t / 6) (t % 6))
theorem rowsL_length (M : Nat → Nat → Int) (k : Nat) : (rowsL M k).length = k * 6 := by simp [rowsL]
theorem rowsL_get {M : Nat → Nat → Int} {k i j : Nat} (hi : i < k) (hj : j < 6) : (rowsL M k)[i * 6 + j]? = some (.int .i64 (M i j)) := by
  unfold rowsL
  rw [List.getElem?_map, List.getElem?_range (by omega)]
  simp [show (i * 6 + j) / 6 = i by omega, show (i * 6 + j) % 6 = j by omega]
theorem rowsL_one (M : Nat → Nat → Int) (k : Nat) : ∀ u ∈ rowsL M k, u.oneCell' = true := by
  intro u hu; obtain ⟨_, _, rfl⟩ := List.mem_map.1 hu; rfl
theorem own_keep {w w' : World} {base : Nat} {e : TypeId} {size : Nat} {v : Value} {n : Nat} {xs : List Value} (h : w.ownsRow base e size v n xs) (hk : ∀ k, v.ownBlock = some k → k < w.heap.size → w'.heap[k]? = w.heap[k]?) : w'.ownsRow base e size v n xs := by
  obtain ⟨h0, h⟩ := h
  refine ⟨h0, h.imp id ?_⟩
  rintro ⟨g, cap, cur, rfl, hb, hg, h2⟩
  exact ⟨g, cap, cur, rfl, hb, (hk g rfl (Array.getElem?_eq_some_iff.1 hg).1).trans hg, h2⟩
theorem own_form {w : World} {base : Nat} {e : TypeId} {size : Nat} {v : Value} {n : Nat} {xs : List Value} (h : w.ownsRow base e size v n xs) (hn : 0 < n) :
    ∃ g cap, v = .slice (some ⟨g, 0, none⟩) n cap ∧ base ≤ g ∧ g < w.heap.size := by
  rcases h.2 with ⟨_, h0⟩ | ⟨g, cap, cur, hv, hb, hg, _⟩
  · omega
  · exact ⟨g, cap, hv, hb, (Array.getElem?_eq_some_iff.1 hg).1⟩
theorem own_lt {w : World} {base n s : Nat} {e : TypeId} {v : Value} {xs : List Value} (h : w.ownsRow base e s v n xs) : ∀ k, v.ownBlock = some k → base ≤ k ∧ k < w.heap.size := by
  intro k hk
  rcases h.2 with ⟨rfl, _⟩ | ⟨g, _, _, rfl, hb, hg, _⟩
  · simp [Value.ownBlock] at hk
  · simp [Value.ownBlock] at hk; subst hk; exact ⟨hb, (Array.getElem?_eq_some_iff.1 hg).1⟩
/-- Six whole numbers in a block of a type. -/
theorem six_cases' {j : Nat} (h : j < 6) : j = 0 ∨ j = 1 ∨ j = 2 ∨ j = 3 ∨ j = 4 ∨ j = 5 := by omega
def VT (W : World) (b : Nat) (t : TypeId) (v : Nat → Int) : Prop := W.heap[b]? = some (.cells #[.int .i64 (v 0), .int .i64 (v 1), .int .i64 (v 2), .int .i64 (v 3), .int .i64 (v 4), .int .i64 (v 5)] t (0, 0))
theorem VT.lt {W : World} {b : Nat} {t : TypeId} {v : Nat → Int} (h : VT W b t v) : b < W.heap.size := (Array.getElem?_eq_some_iff.1 h).1
theorem VT.c0 {W : World} {b : Nat} {t : TypeId} {v : Nat → Int} (h : VT W b t v) : W.cell? ⟨b, 0, none⟩ = some (.int .i64 (v 0)) := by have h' : W.heap[b]? = _ := h; simp [World.cell?, h']
theorem VT.c1 {W : World} {b : Nat} {t : TypeId} {v : Nat → Int} (h : VT W b t v) : W.cell? ⟨b, 1, none⟩ = some (.int .i64 (v 1)) := by have h' : W.heap[b]? = _ := h; simp [World.cell?, h']
theorem VT.c2 {W : World} {b : Nat} {t : TypeId} {v : Nat → Int} (h : VT W b t v) : W.cell? ⟨b, 2, none⟩ = some (.int .i64 (v 2)) := by have h' : W.heap[b]? = _ := h; simp [World.cell?, h']
theorem VT.c3 {W : World} {b : Nat} {t : TypeId} {v : Nat → Int} (h : VT W b t v) : W.cell? ⟨b, 3, none⟩ = some (.int .i64 (v 3)) := by have h' : W.heap[b]? = _ := h; simp [World.cell?, h']
theorem VT.c4 {W : World} {b : Nat} {t : TypeId} {v : Nat → Int} (h : VT W b t v) : W.cell? ⟨b, 4, none⟩ = some (.int .i64 (v 4)) := by have h' : W.heap[b]? = _ := h; simp [World.cell?, h']
theorem VT.c5 {W : World} {b : Nat} {t : TypeId} {v : Nat → Int} (h : VT W b t v) : W.cell? ⟨b, 5, none⟩ = some (.int .i64 (v 5)) := by have h' : W.heap[b]? = _ := h; simp [World.cell?, h']
theorem VT.f {W : World} {b : Nat} {t : TypeId} {v : Nat → Int} (h : VT W b t v) (k : Nat) : W.frozen? ⟨b, k, none⟩ = false := by have h' : W.heap[b]? = _ := h; simp [World.frozen?, h']
theorem VT.keep {W W' : World} {b : Nat} {t : TypeId} {v : Nat → Int} (h : VT W b t v) (hk : W'.heap[b]? = W.heap[b]?) : VT W' b t v := hk.trans h
theorem VT.new (W : World) (t : TypeId) (v : Nat → Int) : VT (W.alloc (.cells #[.int .i64 (v 0), .int .i64 (v 1), .int .i64 (v 2), .int .i64 (v 3), .int .i64 (v 4), .int .i64 (v 5)] t)) W.heap.size t v := World.alloc_heap_new W _
theorem VT.drew {W : World} {b : Nat} {t : TypeId} {v : Nat → Int} (h : VT W b t v) : VT W.drew b t v := h
theorem VT.cellk {W : World} {b : Nat} {t : TypeId} {v : Nat → Int} (h : VT W b t v) {k : Nat} (hk : k < 6) : W.cell? ⟨b, k, none⟩ = some (.int .i64 (v k)) := by
  rcases six_cases' hk with rfl | rfl | rfl | rfl | rfl | rfl
  · exact h.c0
  · exact h.c1
  · exact h.c2
  · exact h.c3
  · exact h.c4
  · exact h.c5
theorem info_pitch2 : (Tryd.prog.info? 23).map (fun i => (i.zero, i.size, i.bytes)) = some (some (.agg #[.int .i64 0, .int .i64 0, .int .i64 0, .int .i64 0, .int .i64 0, .int .i64 0]), 6, 48) := by kernel_rfl
theorem own_pitch_cv {w : World} {base q : Nat} {v : Value} {G : Nat → Nat → Int} (h : w.ownsRow base 23 6 v q (rowsL G q)) : ∃ ao c, v = .slice ao q c ∧ q ≤ c ∧ c ≤ maxLen ∧ CV w ao q G := by
  rcases h.2 with ⟨h', h0⟩ | ⟨g, cap, cur, h', hb, hg, hnc, hm, hs, ht⟩
  · subst h'
    exact ⟨none, 0, by rw [h0], by omega, by unfold maxLen; omega, fun hn => by omega⟩
  · subst h'
    refine ⟨_, cap, rfl, hnc, hm, fun hq => ⟨g, 0, rfl, (Array.getElem?_eq_some_iff.1 hg).1, fun i j hi hj => ?_⟩⟩
    have e1 : (cur.toList.take (q * 6))[i * 6 + j]? = (rowsL G q)[i * 6 + j]? := by rw [ht]
    rw [rowsL_get hi hj, List.getElem?_take_of_lt (by omega), Array.getElem?_toList] at e1
    simp only [World.cell?, hg]
    rw [show 0 + i * 6 + j = i * 6 + j by omega]
    exact e1
theorem rowsL_more {G : Nat → Nat → Int} {z : Nat → Int} {i : Nat} (e : ∀ j, j < 6 → G i j = z j) : rowsL G i ++ rowsL (fun _ => z) 1 = rowsL G (i + 1) := by
  apply List.ext_getElem?
  intro t
  by_cases h1 : t < i * 6
  · rw [List.getElem?_append_left (by rw [rowsL_length]; omega)]
    have a := rowsL_get (M := G) (k := i) (i := t / 6) (j := t % 6) (by omega) (by omega)
    have b := rowsL_get (M := G) (k := i + 1) (i := t / 6) (j := t % 6) (by omega) (by omega)
    rw [show t / 6 * 6 + t % 6 = t by omega] at a b
    rw [a, b]
  · rw [List.getElem?_append_right (by rw [rowsL_length]; omega), rowsL_length]
    by_cases h2 : t < i * 6 + 6
    · have a := rowsL_get (M := fun _ => z) (k := 1) (i := 0) (j := t - i * 6) (by omega) (by omega)
      have b := rowsL_get (M := G) (k := i + 1) (i := i) (j := t - i * 6) (by omega) (by omega)
      rw [show 0 * 6 + (t - i * 6) = t - i * 6 by omega] at a
      rw [show i * 6 + (t - i * 6) = t by omega] at b
      rw [a, b, e _ (by omega)]
    · rw [List.getElem?_eq_none (by rw [rowsL_length]; omega), List.getElem?_eq_none (by rw [rowsL_length]; omega)]
theorem cv_one (w : World) (z : Nat → Int) : CV (w.alloc (.cells #[.int .i64 (z 0), .int .i64 (z 1), .int .i64 (z 2), .int .i64 (z 3), .int .i64 (z 4), .int .i64 (z 5)] 23)) (some ⟨w.heap.size, 0, none⟩) 1 (fun _ => z) := fun _ =>
  ⟨w.heap.size, 0, rfl, by simp, fun i j hi hj => by
    obtain rfl : i = 0 := by omega
    rw [show 0 + 0 * 6 + j = j by omega]
    exact (VT.new w 23 z).cellk hj⟩
theorem own_start {w : World} {base : Nat} {G : Nat → Nat → Int} (h : base = w.heap.size) : (w.alloc (.cells #[] 23)).ownsRow base 23 6 (.slice (some ⟨w.heap.size, 0, none⟩) 0 0) 0 (rowsL G 0) := by
  subst h
  exact ⟨rfl, .inr ⟨w.heap.size, 0, #[], rfl, Nat.le_refl _, World.alloc_heap_new w _, Nat.le_refl _, Nat.zero_le _, rfl, rfl⟩⟩
end Go.Proofs.YtomgihlkbmaleaaDoor

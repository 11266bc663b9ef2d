/- Appends onto a slice that the call has made: the array is the same, or a new one. -/
import Derived.Test.YtnbamjoadankmaaR9
namespace Go.Proofs.Ytnbamjoadankmaa
open Go.RowKit
theorem append_fresh {P : Program} {w w' : World} {v' : Value} (base : Nat) (t ty e : TypeId) (i : TypeInfo) (z : Value) (ht : P.underlying t = some (.slice e)) (hi : P.info? e = some i) (hz : i.zero = some z)
    (v : Value) (n : Nat) (xs : List Value) (hown : w.ownsRow base e i.size v n xs) (a : Addr) (m c : Nat) (news : List Value) (hl : news.length = m * i.size)
    (hnews : ∀ j u, news[j]? = some u → w.cell? (a.add j) = some u) (h1 : ∀ u ∈ news, u.oneCell' = true) (h63 : n + m ≤ maxLen) (hbytes : (n + m) * i.bytes ≤ 140737488355328)
    (hrun : (Builtin.append_ #[t, t] ty #[v, .slice (some a) m c]).run P w = .ok v' w') : ∀ k, v'.ownBlock = some k → v.ownBlock = some k ∨ w.heap.size ≤ k := by
  have hsmall : n + m ≤ 9223372036854775807 := by simp only [maxLen] at h63; omega
  rcases hown.2 with ⟨rfl, rfl⟩ | ⟨g, cap, cur, rfl, hbg, hg, hnc, hcm, hcs, htake⟩
  · by_cases hm : m = 0
    · subst hm
      have hn : news = [] := List.eq_nil_of_length_eq_zero (by simpa using hl)
      subst hn
      have e : (Builtin.append_ #[t, t] ty #[.slice none 0 0, .slice (some a) 0 c]).run P w = .ok (.slice none 0 0) w := by
        simp [Builtin.append_, run_underlying ht, sizeOf, typeInfo, hi, Builtin.lenOf, Builtin.firstCells, loadCells, loadCellsFrom]
      rw [e] at hrun
      injection hrun with h2 _
      intro k hk; rw [← h2] at hk; simp [Value.ownBlock] at hk
    · have hr := run_append_nil (P := P) w t ty e i z ht hi hz a m c news hl hnews (by omega) (by omega) (by have hb := hbytes; simp only [Nat.zero_add] at hb; omega)
      rw [hr] at hrun
      injection hrun with h2 _
      intro k hk; rw [← h2] at hk; simp [Value.ownBlock] at hk; exact Or.inr (by omega)
  · by_cases hroom : n + m ≤ cap
    · have hfit : n * i.size + news.length ≤ cur.size := by rw [hl, hcs, ← Nat.add_mul]; exact Nat.mul_le_mul_right _ hroom
      have hr := run_append_room (P := P) w t ty e i ht hi g n cap cur hg a m c news hl hnews h1 hroom hfit
      rw [hr] at hrun
      injection hrun with h2 _
      intro k hk; rw [← h2] at hk; exact Or.inl hk
    · have holds : ∀ j u, xs[j]? = some u → w.cell? ((⟨g, 0, none⟩ : Addr).add j) = some u := hown.cells (g := g) rfl
      have hr := run_append_grow (P := P) w t ty e i z ht hi hz ⟨g, 0, none⟩ n cap xs hown.1 holds a m c news hl hnews (by omega) (by omega) (growslice_fits (by omega) hbytes)
      rw [hr] at hrun
      injection hrun with h2 _
      intro k hk; rw [← h2] at hk; simp [Value.ownBlock] at hk; exact Or.inr (by omega)
/-- As step_append_own, with what is known of the array. -/
theorem step_append_fresh {P : Program} {ops : Array Oper} {o : Oper} {a : Act} {w : World} {K : Act → World → Prop} {Q : Exit → Act → World → Prop} {E : Prop}
    (hg : o.guard = none) (s x : Operand) (t : TypeId) (hop : o.op = Op.call { callee := Callee.builtin Builtin.append, args := #[s, x], argTypes := #[t, t] })
    (base : Nat) (e : TypeId) (i : TypeInfo) (z : Value) (size bytes : Nat) (ht : P.underlying t = some (.slice e)) (hi : P.info? e = some i) (hz : i.zero = some z)
    (hsize : i.size = size) (hby : i.bytes = bytes) (hzs : z.cells.size = size) (hsz : 0 < size)
    (v : Value) (n : Nat) (xs : List Value) (hs : a.eval s = v) (hown : w.ownsRow base e size v n xs)
    (ao : Option Addr) (m c : Nat) (news : List Value) (hx : a.eval x = .slice ao m c) (hl : news.length = m * size) (hnone : ao = none → m = 0 ∧ c = 0) (hnews : ∀ ad, ao = some ad → ∀ j u, news[j]? = some u → w.cell? (ad.add j) = some u) (h1 : ∀ u ∈ news, u.oneCell' = true)
    (h63 : n + m ≤ maxLen) (hbytes : (n + m) * bytes ≤ 140737488355328) (hbase : base ≤ w.heap.size)
    (h : ∀ v' w', w'.ownsRow base e size v' (n + m) (xs ++ news) → w.grownBy w' v.ownBlock → (∀ k, v'.ownBlock = some k → v.ownBlock = some k ∨ w.heap.size ≤ k) → K (a.put o.dst v') w') :
    if Region.wanted o (yielded ops a.tmps) = true then Oper.wp P o a w K Q else E := by
  have hw : Region.wanted o (yielded ops a.tmps) = true := by simp [Region.wanted, hg]
  rw [if_pos hw]
  cases ao with
  | some ad =>
    obtain ⟨v', w', hrun, h2, h3, _⟩ := run_append_own (P := P) w base t o.type e i z size bytes ht hi hz hsize hby hzs hsz v n xs hown ad m c news hl (hnews ad rfl) h1 h63 hbytes hbase
    have hf := append_fresh base t o.type e i z ht hi hz v n xs (by rw [hsize]; exact hown) ad m c news (by rw [hsize]; exact hl) (hnews ad rfl) h1 h63 (by rw [hby]; exact hbytes) hrun
    unfold Oper.wp
    simp [execOp, hop, resolve, invoke, builtin, hs, hx, hrun, Result.andThen]
    exact h v' w' h2 h3 hf
  | none =>
    obtain ⟨rfl, rfl⟩ := hnone rfl
    have hnews : news = [] := List.eq_nil_of_length_eq_zero (by simpa using hl)
    subst hnews
    have hrun := run_append_owned_none (P := P) w base t o.type e i size ht hi v n xs hown
    unfold Oper.wp
    simp [execOp, hop, resolve, invoke, builtin, hs, hx, hrun, Result.andThen]
    exact h v w (by simpa using hown) (World.grownBy.refl _ _) (fun k hk => Or.inl hk)
theorem wpList_append_fresh {P : Program} {w : World} {ops : Array Oper} {rest : List Oper} {o : Oper} {a : Act} {Q : Exit → Act → World → Prop} (hgd : o.guard = none) (s x : Operand) (t : TypeId)
    (ho : o.op = .call { callee := .builtin .append, args := #[s, x], argTypes := #[t, t] })
    (base : Nat) (e : TypeId) (i : TypeInfo) (z : Value) (size bytes : Nat) (ht : P.underlying t = some (.slice e)) (hi : P.info? e = some i) (hz : i.zero = some z)
    (hsize : i.size = size) (hby : i.bytes = bytes) (hzs : z.cells.size = size) (hsz : 0 < size)
    (v : Value) (n : Nat) (xs : List Value) (hs : a.eval s = v) (hown : w.ownsRow base e size v n xs)
    (ao : Option Addr) (m c : Nat) (news : List Value) (hx : a.eval x = .slice ao m c) (hl : news.length = m * size) (hnone : ao = none → m = 0 ∧ c = 0) (hnews : ∀ ad, ao = some ad → ∀ j u, news[j]? = some u → w.cell? (ad.add j) = some u) (h1 : ∀ u ∈ news, u.oneCell' = true)
    (h63 : n + m ≤ maxLen) (hbytes : (n + m) * bytes ≤ 140737488355328) (hbase : base ≤ w.heap.size)
    (h : ∀ v' w', w'.ownsRow base e size v' (n + m) (xs ++ news) → w.grownBy w' v.ownBlock → (∀ k, v'.ownBlock = some k → v.ownBlock = some k ∨ w.heap.size ≤ k) → wpList P ops Q rest (a.put o.dst v') w') : wpList P ops Q (o :: rest) a w := by
  refine wpList_plain hgd fun K hK => ?_
  cases ao with
  | some ad =>
    obtain ⟨v', w', hrun, h2, h3, _⟩ := run_append_own (P := P) w base t o.type e i z size bytes ht hi hz hsize hby hzs hsz v n xs hown ad m c news hl (hnews ad rfl) h1 h63 hbytes hbase
    have hf := append_fresh base t o.type e i z ht hi hz v n xs (by rw [hsize]; exact hown) ad m c news (by rw [hsize]; exact hl) (hnews ad rfl) h1 h63 (by rw [hby]; exact hbytes) hrun
    unfold Oper.wp
    simp [execOp, ho, resolve, invoke, builtin, hs, hx, hrun, Result.andThen]
    exact hK _ _ (h v' w' h2 h3 hf)
  | none =>
    obtain ⟨rfl, rfl⟩ := hnone rfl
    have hnews : news = [] := List.eq_nil_of_length_eq_zero (by simpa using hl)
    subst hnews
    have hrun := run_append_owned_none (P := P) w base t o.type e i size ht hi v n xs hown
    unfold Oper.wp
    simp [execOp, ho, resolve, invoke, builtin, hs, hx, hrun, Result.andThen]
    exact hK _ _ (h v w (by simpa using hown) (World.grownBy.refl _ _) (fun k hk => Or.inl hk))
end Go.Proofs.Ytnbamjoadankmaa
/- the reference's Subsets. -/
namespace Go.Proofs.Ytnbamjoadankmaa
open Go.RowKit D
/-- The rising lists of k of the first n numbers, as the reference lists them. -/
def subs : Nat → Nat → List (List Nat)
  | _, 0 => [[]]
  | 0, _ + 1 => []
  | n + 1, k + 1 => subs n (k + 1) ++ (subs n k).map (· ++ [n])
theorem subs_lt {n k : Nat} (h : n < k) : subs n k = [] := by
  induction n generalizing k with
  | zero => cases k with
    | zero => omega
    | succ k => rfl
  | succ n ih => cases k with
    | zero => omega
    | succ k => simp only [subs]; rw [ih (by omega), ih (by omega)]; rfl
theorem subs_mem {n k : Nat} {l : List Nat} (h : l ∈ subs n k) : l.length = k ∧ l.Pairwise (· < ·) ∧ ∀ j ∈ l, j < n := by
  induction n generalizing k l with
  | zero => cases k with
    | zero => simp [subs] at h; subst h; simp
    | succ k => simp [subs] at h
  | succ n ih => cases k with
    | zero => simp [subs] at h; subst h; simp
    | succ k =>
      simp only [subs, List.mem_append, List.mem_map] at h
      rcases h with h | ⟨m, h, rfl⟩
      · obtain ⟨a, b, c⟩ := ih h
        exact ⟨a, b, fun j hj => by have := c j hj; omega⟩
      · obtain ⟨a, b, c⟩ := ih h
        refine ⟨by simp [a], List.pairwise_append.2 ⟨b, by simp, fun x hx y hy => by rw [List.mem_singleton.1 hy]; exact c x hx⟩, fun j hj => ?_⟩
        rcases List.mem_append.1 hj with hj | hj
        · have := c j hj; omega
        · rw [List.mem_singleton.1 hj]; omega
theorem subs_all {n k : Nat} {l : List Nat} (h1 : l.length = k) (h2 : l.Pairwise (· < ·)) (h3 : ∀ j ∈ l, j < n) : l ∈ subs n k := by
  induction n generalizing k l with
  | zero =>
    cases l with
    | nil => subst h1; simp [subs]
    | cons a l => have := h3 a (by simp); omega
  | succ n ih => cases k with
    | zero => rw [List.eq_nil_of_length_eq_zero h1]; simp [subs]
    | succ k =>
      simp only [subs, List.mem_append, List.mem_map]
      by_cases hn : n ∈ l
      · -- n is the last one
        obtain ⟨u, v, rfl⟩ := List.append_of_mem hn
        have hv : v = [] := by
          cases v with
          | nil => rfl
          | cons a v =>
            have p := (List.pairwise_append.1 h2).2.1
            have := (List.pairwise_cons.1 p).1 a (by simp)
            have := h3 a (by simp); omega
        subst hv
        have p := List.pairwise_append.1 h2
        exact Or.inr ⟨u, ih (by simp at h1; omega) p.1 (fun j hj => p.2.2 j hj n (by simp)), rfl⟩
      · exact Or.inl (ih h1 h2 fun j hj => by
          have := h3 j hj
          have : j ≠ n := fun e => hn (by rw [← e]; exact hj)
          omega)
theorem subs_len (n k : Nat) : (subs n k).length ≤ 2 ^ n := by
  induction n generalizing k with
  | zero => cases k <;> simp [subs]
  | succ n ih => cases k with
    | zero => simp [subs]; exact Nat.one_le_two_pow
    | succ k =>
      have := ih (k + 1); have := ih k
      simp only [subs, List.length_append, List.length_map, Nat.pow_succ]; omega
/-- What divides the minors of these lists divides all. -/
theorem dv_subs {M : Mat} {n m k : Nat} {d : Int} : Dv M n m k d ↔ ∀ is ∈ subs n k, ∀ js ∈ subs m k, d ∣ mn (is.map M) js := by
  constructor
  · intro h is hi js hj
    obtain ⟨a, _, b⟩ := subs_mem hi
    obtain ⟨c, _, e⟩ := subs_mem hj
    exact h is js a c b e
  · intro h
    exact Dv.rising fun is js hi hj hri hrj hn hm => h is (subs_all hi hri hn) js (subs_all hj hrj hm)
/-- A slice of indices in a block of its own kind. -/
def Inn (w : World) (x : Value) (l : List Nat) : Prop := ∃ ao c, x = .slice ao l.length c ∧ l.length ≤ c ∧ c ≤ maxLen ∧ (ao = none → c = 0) ∧
  ((l ≠ [] ∨ ao ≠ none) → ∃ b cur, ao = some ⟨b, 0, none⟩ ∧ w.heap[b]? = some (.cells cur 3 (0, 0)) ∧ ∀ i, i < l.length → cur[i]? = some (.int .i64 ((l.getD i 0 : Nat) : Int)))
theorem Inn.keep {w w' : World} {x : Value} {l : List Nat} {row : Option Nat} (h : Inn w x l) (hg : w.grownBy w' row) (hr : ∀ k, row = some k → ∃ c, w.heap[k]? = some (.cells c 29 (0, 0))) : Inn w' x l := by
  obtain ⟨ao, c, rfl, h1, h2, h3, h4⟩ := h
  refine ⟨ao, c, rfl, h1, h2, h3, fun hl => ?_⟩
  obtain ⟨b, cur, e, hb, hc⟩ := h4 hl
  refine ⟨b, cur, e, ?_, hc⟩
  rw [hg.block b (Array.getElem?_eq_some_iff.1 hb).1 (fun e => ?_), hb]
  obtain ⟨c', hc'⟩ := hr b e.symm
  rw [hb] at hc'; simp at hc'
theorem Inn.cn {w : World} {x : Value} {l : List Nat} (h : Inn w x l) : ∃ ao c, x = .slice ao l.length c ∧ l.length ≤ c ∧ c ≤ maxLen ∧ CN w ao l := by
  obtain ⟨ao, c, rfl, h1, h2, _, h4⟩ := h
  refine ⟨ao, c, rfl, h1, h2, fun hl => ?_⟩
  obtain ⟨b, cur, rfl, hb, hc⟩ := h4 (Or.inl hl)
  exact ⟨b, 0, rfl, (Array.getElem?_eq_some_iff.1 hb).1, fun i hi => by rw [Nat.zero_add]; simp [World.cell?, hb, hc i hi]⟩
theorem Inn.nil (w : World) : Inn w (.slice none 0 0) [] := ⟨none, 0, rfl, Nat.le_refl _, by unfold maxLen; omega, fun _ => rfl, fun h => by simp at h⟩
theorem inn_of_owns {w : World} {base n : Nat} {v : Value} {l : List Nat} (h : w.ownsRow base 3 1 v n (l.map fun (j : Nat) => Value.int .i64 (j : Int))) : Inn w v l := by
  have hn : l.length = n := by have := h.1; simpa using this
  rcases h.2 with ⟨h', h0⟩ | ⟨g, cap, cur, h', hb, hg, hnc, hm, hs, ht⟩
  · subst h'
    have : l = [] := List.eq_nil_of_length_eq_zero (by omega)
    subst this
    exact Inn.nil w
  · subst h'
    refine ⟨some ⟨g, 0, none⟩, cap, by rw [hn], by omega, hm, fun h => by simp at h, fun _ => ⟨g, cur, rfl, hg, fun i hi => ?_⟩⟩
    have : (cur.toList.take (n * 1))[i]? = some (.int .i64 ((l.getD i 0 : Nat) : Int)) := by
      rw [ht]; simp [List.getElem?_eq_getElem hi, List.getD]
    rw [List.getElem?_take, if_pos (by omega)] at this
    simpa using this
end Go.Proofs.Ytnbamjoadankmaa
/- the reference's Subsets: the walk. -/
namespace Go.Proofs.Ytnbamjoadankmaa
open Go.RowKit D
theorem info_ints : (Try.prog.info? 29).map (fun i => (i.zero, i.size, i.bytes)) = some (some (.slice none 0 0), 1, 24) := by kernel_rfl
def Inns (w : World) (xs : List Value) (L : List (List Nat)) : Prop := ∀ i, i < L.length → ∃ x, xs[i]? = some x ∧ Inn w x (L.getD i [])
theorem Inns.keep {w w' : World} {xs : List Value} {L : List (List Nat)} {row : Option Nat} (h : Inns w xs L) (hg : w.grownBy w' row) (hr : ∀ k, row = some k → ∃ c, w.heap[k]? = some (.cells c 29 (0, 0))) : Inns w' xs L := fun i hi => by
  obtain ⟨x, hx, hin⟩ := h i hi
  exact ⟨x, hx, hin.keep hg hr⟩
theorem own_kind {w : World} {base n : Nat} {v : Value} {xs : List Value} (h : w.ownsRow base 29 1 v n xs) : ∀ k, v.ownBlock = some k → ∃ c, w.heap[k]? = some (.cells c 29 (0, 0)) := by
  intro k hk
  rcases h.2 with ⟨rfl, _⟩ | ⟨g, cap, cur, rfl, hb, hg, _⟩
  · simp [Value.ownBlock] at hk
  · simp [Value.ownBlock] at hk; subst hk; exact ⟨cur, hg⟩
theorem inn_cells {w W : World} {ai : Option Addr} {ci : Nat} {l : List Nat} (h : Inn w (.slice ai l.length ci) l) (hB : Below w.heap.size w W) : ∀ ad, ai = some ad → ∀ j u, (l.map fun (j : Nat) => Value.int .i64 (j : Int))[j]? = some u → W.cell? (ad.add j) = some u := by
  intro ad had j u hu
  obtain ⟨ao, c, e, _, _, _, h4⟩ := h
  simp only [Value.slice.injEq, true_and] at e
  obtain ⟨rfl, rfl⟩ := e
  have hj : j < l.length := by have := (List.getElem?_eq_some_iff.1 hu).1; simpa using this
  obtain ⟨b, cur, e, hb, hc⟩ := h4 (Or.inr (by rw [had]; simp))
  rw [had] at e
  obtain rfl := Option.some.inj e
  have hbs := (Array.getElem?_eq_some_iff.1 hb).1
  rw [Addr.add_lit, Nat.zero_add, hB.cell (p := ⟨b, j, none⟩) hbs, ← hu]
  simp [World.cell?, hb, hc j hj, List.getElem?_eq_getElem hj, List.getD]
theorem inns_snoc {w : World} {xs : List Value} {L : List (List Nat)} {x : Value} {l : List Nat} (h : Inns w xs L) (hn : xs.length = L.length) (hx : Inn w x l) : Inns w (xs ++ [x]) (L ++ [l]) := by
  intro i hi
  rcases Nat.lt_or_ge i L.length with y | y
  · obtain ⟨z, hz, hin⟩ := h i y
    exact ⟨z, by rw [List.getElem?_append_left (by omega)]; exact hz, by rw [List.getD_eq_getElem?_getD, List.getElem?_append_left y, ← List.getD_eq_getElem?_getD]; exact hin⟩
  · have : i = L.length := by simp at hi; omega
    subst this
    exact ⟨x, by rw [List.getElem?_append_right (by omega), hn, Nat.sub_self]; rfl, by rw [List.getD_eq_getElem?_getD, List.getElem?_append_right (Nat.le_refl _), Nat.sub_self]; exact hx⟩
theorem grown_of_below {w w1 : World} (h : Below w.heap.size w w1) : w.grownBy w1 none := ⟨h.os, h.tape, h.output, h.size, fun i hi _ => h.block i hi⟩
theorem subsets_zero (n : Nat) (w : World) : Calls Try.prog 122 #[.int .i64 n, .int .i64 0] w fun e w' => ∃ v xs, e = .returned v ∧ Bx (w'.ownsRow w.heap.size 29 1 v (subs n 0).length xs) ∧ Bx (Inns w' xs (subs n 0)) ∧ Below w.heap.size w w' := by
  have e : subs n 0 = [[]] := by cases n <;> rfl
  rw [e]
  go_enter Try.func122, Try.ntmps122
  go_wp2_with fail
  go_ret
  refine ⟨_, [.slice none 0 0], rfl, ⟨?_⟩, ⟨?_⟩, (by repeat (first | with_reducible exact Below.refl _ _ | (with_reducible refine Below.setCell ?_ ?side _; case side => (first | omega | (simp <;> omega))) | (with_reducible refine Below.alloc ?_ ?side _; case side => (first | omega | (simp <;> omega))) | with_reducible apply below_drewN | with_reducible apply below_drew))⟩
  · exact ⟨rfl, Or.inr ⟨w.heap.size, 1, #[.slice none 0 0], rfl, Nat.le_refl _, by show (Array.push w.heap _)[w.heap.size]? = _; simp, Nat.le_refl _, by unfold maxLen; omega, rfl, rfl⟩⟩
  · intro i hi
    simp at hi; subst hi
    exact ⟨_, rfl, Inn.nil _⟩
theorem subsets_lt (n k : Nat) (w : World) (h : n < k) (hk : k ≤ 10) : Calls Try.prog 122 #[.int .i64 n, .int .i64 k] w fun e w' => ∃ v xs, e = .returned v ∧ Bx (w'.ownsRow w.heap.size 29 1 v (subs n k).length xs) ∧ Bx (Inns w' xs (subs n k)) ∧ Below w.heap.size w w' := by
  have hz : ((k : Int) == 0) = false := by simp; omega
  rw [subs_lt h]
  go_enter Try.func122, Try.ntmps122
  go_wp2_with fail
  go_ret
  exact ⟨_, [], rfl, ⟨World.ownsRow_nil _ _ _ _⟩, ⟨fun i hi => by simp at hi⟩, (by repeat (first | with_reducible exact Below.refl _ _ | (with_reducible refine Below.setCell ?_ ?side _; case side => (first | omega | (simp <;> omega))) | (with_reducible refine Below.alloc ?_ ?side _; case side => (first | omega | (simp <;> omega))) | with_reducible apply below_drewN | with_reducible apply below_drew))⟩
set_option maxHeartbeats 8000000 in
theorem subsets_any (n : Nat) : ∀ (k : Nat) (w : World), n ≤ 10 → k ≤ 10 → Calls Try.prog 122 #[.int .i64 n, .int .i64 k] w fun e w' => ∃ v xs, e = .returned v ∧ Bx (w'.ownsRow w.heap.size 29 1 v (subs n k).length xs) ∧ Bx (Inns w' xs (subs n k)) ∧ Below w.heap.size w w' := by
  obtain ⟨ti, hti, hti2⟩ := Option.map_eq_some_iff.1 info_int
  simp only [Prod.mk.injEq] at hti2
  obtain ⟨hz0, hz1, hz2⟩ := hti2
  obtain ⟨tj, htj, htj2⟩ := Option.map_eq_some_iff.1 info_ints
  simp only [Prod.mk.injEq] at htj2
  obtain ⟨hy0, hy1, hy2⟩ := htj2
  have HTI := Bx.mk hti
  have HTJ := Bx.mk htj
  clear hti htj
  induction n with
  | zero =>
    intro k w hn hk
    by_cases h0 : k = 0
    · subst h0; exact subsets_zero 0 w
    · exact subsets_lt 0 k w (by omega) hk
  | succ n ih =>
    intro k w hn hk
    by_cases h0 : k = 0
    · subst h0; exact subsets_zero _ w
    by_cases hlt : n + 1 < k
    · exact subsets_lt _ k w hlt hk
    obtain ⟨q, rfl⟩ : ∃ q, k = q + 1 := ⟨k - 1, by omega⟩
    have hz : ((q : Int) + 1 == 0) = false := by simp; omega
    have IH1 := Bx.mk (fun w => ih (q + 1) w (by omega) hk)
    rw [show ((q + 1 : Nat) : Int) = (q : Int) + 1 by simp] at IH1
    have IH2 := Bx.mk (fun w => ih q w (by omega) (by omega))
    have hl1 := subs_len n (q + 1)
    have hl2 := subs_len n q
    have hp : 2 ^ n ≤ 2 ^ 10 := Nat.pow_le_pow_right (by omega) (by omega)
    simp at hp
    obtain ⟨p1, hp1⟩ : ∃ p1, (subs n (q + 1)).length = p1 := ⟨_, rfl⟩
    obtain ⟨m, hm⟩ : ∃ m, (subs n q).length = m := ⟨_, rfl⟩
    have hp1b : p1 ≤ 1024 := by omega
    have hmb : m ≤ 1024 := by omega
    have HP1 := Bx.mk hp1
    have HM := Bx.mk hm
    clear ih h0 hl1 hl2 hp hp1 hm
    push_cast
    go_enter Try.func122, Try.ntmps122
    go_wp2_with fail
    refine (IH1.out _).mono ?_
    rintro e w1 ⟨v1, xs1, rfl, HO1, HI1, hb1⟩
    rw [HP1.out] at HO1
    have HB1 := Bx.mk hb1
    clear hb1
    go_wp2_with fail
    refine (IH2.out _).mono ?_
    rintro e w2 ⟨v2, xs2, rfl, HO2, HI2, hb2⟩
    rw [HM.out] at HO2
    have HB2 : Bx (Below w.heap.size w w2) := ⟨HB1.out.trans (hb2.mono HB1.out.size)⟩
    have HG := Bx.mk (grown_of_below hb2)
    have HO1' : Bx (w2.ownsRow w.heap.size 29 1 v1 p1 xs1) := ⟨World.ownsRow.kept HO1.out HG.out (by cases h : v1.ownBlock with | none => exact Or.inl rfl | some k => exact Or.inr (by simp))⟩
    have HI1' : Bx (Inns w2 xs1 (subs n (q + 1))) := ⟨HI1.out.keep HG.out (fun k hk => by cases hk)⟩
    have HF1 : Bx (∀ g, v1.ownBlock = some g → g < w1.heap.size ∨ w2.heap.size ≤ g) := ⟨fun g hg => Or.inl (World.ownsRow.lt HO1.out g hg).2⟩
    have hw12 := hb2.size
    have HW1 := Bx.mk HB1.out.size
    clear hb2
    -- the shape of the second list
    obtain ⟨ao2, c2, rfl, HS⟩ : ∃ ao2 c2, v2 = .slice ao2 m c2 ∧ Bx (0 < m → ∃ g, ao2 = some ⟨g, 0, none⟩ ∧ w1.heap.size ≤ g ∧ g < w2.heap.size) := by
      rcases HO2.out.2 with ⟨rfl, h0⟩ | ⟨g, cap, cur, rfl, hb, hg, _⟩
      · exact ⟨none, 0, by rw [h0], ⟨fun h => by omega⟩⟩
      · exact ⟨_, cap, rfl, ⟨fun _ => ⟨g, rfl, hb, (Array.getElem?_eq_some_iff.1 hg).1⟩⟩⟩
    clear IH1 IH2 HO1 HI1 HB1
    go_wp2_with fail
    go_loopw [5, 7] (fun v i wr => ∃ (t : Nat) (xs : List Value), t ≤ m ∧ i = .int .i64 t ∧ Bx (wr.ownsRow w.heap.size 29 1 v (p1 + t) xs) ∧ Bx (Inns wr xs (subs n (q + 1) ++ ((subs n q).take t).map (· ++ [n]))) ∧ Bx (∀ g, v.ownBlock = some g → g < w1.heap.size ∨ w2.heap.size ≤ g) ∧ Bx (wr.ownsRow w1.heap.size 29 1 (.slice ao2 m c2) m xs2) ∧ Bx (Inns wr xs2 (subs n q)) ∧ Bx (w2.heap.size ≤ wr.heap.size) ∧ Bx (Below w.heap.size w wr)) (fun _ i _ => m - (intOf i).toNat)
    case atStart => exact ⟨0, xs1, by omega, rfl, HO1', ⟨by simpa using HI1'.out⟩, HF1, HO2, HI2, ⟨Nat.le_refl _⟩, HB2⟩
    case round =>
      obtain ⟨t, xs, ht, rfl, HO, HI, HF, HOW, HIW, HSZ, HB⟩ := hrel
      by_cases htm : t < m
      · obtain ⟨g2, rfl, hg1, hg2⟩ := HS.out (by omega)
        obtain ⟨x, hx, hin⟩ := HIW.out t (by rw [HM.out]; exact htm)
        have hcell := World.ownsRow.cellAt HOW.out t (by omega)
        rw [hx] at hcell
        obtain ⟨l, hl⟩ : ∃ l, (subs n q).getD t [] = l := ⟨_, rfl⟩
        rw [hl] at hin
        obtain ⟨ai, ci, rfl, hli, hci, hai, hin2⟩ := id hin
        obtain ⟨li, hlie⟩ : ∃ li, l.length = li := ⟨_, rfl⟩
        have HIN := Bx.mk hin
        have HLE := Bx.mk hl
        have HLI := Bx.mk hlie
        have HAI := Bx.mk hai
        rw [hlie] at hli hcell
        have hgw : g2 < wr.heap.size := by have := HSZ.out; omega
        have hwr : w.heap.size ≤ wr.heap.size := HB.out.size
        clear hin hin2 hai hlie hx hl
        have hti := HTI.out
        have hlt' : t < (subs n q).length := by rw [HM.out]; exact htm
        have hmem : l ∈ subs n q := by rw [← HLE.out, List.getD_eq_getElem?_getD, List.getElem?_eq_getElem hlt']; exact List.getElem_mem hlt'
        have hlb : li ≤ 10 := by rw [← HLI.out, (subs_mem hmem).1]; omega
        have HMEM := Bx.mk hmem
        clear hmem hlt'
        go_wp2_with (at_builtin; refine wpList_append_any rfl (.tmp 30) (.tmp 34) 29 rfl wr.heap.size 3 ti (.int .i64 0) 1 8 Try.underlying29 hti hz0 hz1 hz2 rfl (by decide) _ 0 [] rfl (owns_empty (Nat.le_refl _) (by show (Array.push wr.heap _)[wr.heap.size]? = _; simp)) _ li _ (l.map fun (j : Nat) => Value.int .i64 (j : Int)) rfl ?c1 ?c2 ?c3 int_cells ?c4 ?c5 ?c6 ?_)
        case c1 => have := HLI.out; simp [this]
        case c2 => intro h; exact ⟨by have := HAI.out h; omega, HAI.out h⟩
        case c3 => exact inn_cells (by have := HIN.out; exact this) (by repeat (first | with_reducible exact Below.refl _ _ | with_reducible exact HBW | (with_reducible refine Below.setCell ?_ ?side _; case side => (first | omega | (simp <;> omega))) | (with_reducible refine Below.alloc ?_ ?side _; case side => (first | omega | (simp <;> omega))) | with_reducible apply below_drewN | with_reducible apply below_drew))
        case c4 => unfold maxLen; omega
        case c5 => omega
        case c6 => simp
        intro v3 w3 ho3 hg3
        have HB3 : Bx (Below wr.heap.size wr w3) := ⟨Below.grown (by repeat (first | with_reducible exact Below.refl _ _ | with_reducible exact HBW | (with_reducible refine Below.setCell ?_ ?side _; case side => (first | omega | (simp <;> omega))) | (with_reducible refine Below.alloc ?_ ?side _; case side => (first | omega | (simp <;> omega))) | with_reducible apply below_drewN | with_reducible apply below_drew)) hg3 (by simp) (by intro k hk; have hk' : some wr.heap.size = some k := hk; simp at hk'; omega)⟩
        have HB3s := HB3.out.size
        have HO3 := Bx.mk ho3
        clear ho3 hg3
        go_wp2_with (at_builtin; refine wpList_append_any rfl (.tmp 35) (.tmp 38) 29 rfl wr.heap.size 3 ti (.int .i64 0) 1 8 Try.underlying29 hti hz0 hz1 hz2 rfl (by decide) _ li _ rfl (World.ownsRow.alloc HO3.out _) _ 1 _ [.int .i64 (n : Int)] rfl ?d1 ?d2 ?d3 ?d4 ?d5 ?d6 ?d7 ?_)
        case d1 => rfl
        case d2 => intro h; cases h
        case d3 =>
          intro ad had j u hu
          obtain rfl := Option.some.inj had
          match j, hu with
          | 0, hu => simp at hu; subst hu; simp [Addr.add]
        case d4 => intro u hu; simp at hu; subst hu; rfl
        case d5 => unfold maxLen; omega
        case d6 => omega
        case d7 => simp; omega
        intro v4 w4 ho4 hg4
        have HB4 : Bx (Below wr.heap.size wr w4) := ⟨Below.grown (Below.alloc HB3.out (by omega) _) hg4 (by simp; omega) (fun g hg => (World.ownsRow.lt HO3.out g hg).1)⟩
        have HN4 : Bx (Inn w4 v4 (l ++ [n])) := ⟨inn_of_owns (by rw [List.map_append]; exact ho4)⟩
        have HB4s := HB4.out.size
        obtain ⟨l4, hl4⟩ : ∃ l4, l ++ [n] = l4 := ⟨_, rfl⟩
        have HL4 := Bx.mk hl4
        rw [hl4] at HN4
        clear ho4 hg4 HO3 HB3 hl4
        obtain ⟨ao4, c4, rfl, _⟩ := id HN4.out
        obtain ⟨n4, hn4⟩ : ∃ n4, l4.length = n4 := ⟨_, rfl⟩
        have HN4' := Bx.mk hn4
        rw [hn4] at HN4 ⊢
        clear hn4
        have htj := HTJ.out
        have HOa := Bx.mk (World.ownsRow.kept HO.out (grown_of_below HB4.out) (by cases h : Value.ownBlock _ with | none => exact Or.inl rfl | some k => exact Or.inr (by simp)))
        go_wp2_with (at_builtin; refine wpList_append_fresh rfl (.tmp 29) (.tmp 40) 84 rfl w.heap.size 29 tj (.slice none 0 0) 1 24 Try.underlying84 htj hy0 hy1 hy2 rfl (by decide) _ (p1 + t) _ rfl (World.ownsRow.alloc HOa.out _) _ 1 _ [.slice ao4 n4 c4] rfl ?e1 ?e2 ?e3 ?e4 ?e5 ?e6 ?e7 ?_)
        case e1 => rfl
        case e2 => intro h; cases h
        case e3 =>
          intro ad had j u hu
          obtain rfl := Option.some.inj had
          match j, hu with
          | 0, hu => simp at hu; subst hu; simp [Addr.add]
        case e4 =>
          intro u hu; simp at hu; subst hu; rfl
        case e5 => unfold maxLen; omega
        case e6 => omega
        case e7 => simp; omega
        intro v5 w5 ho5 hg5 hf5
        have HBa : Bx (Below wr.heap.size wr (w4.alloc (.cells #[.slice ao4 n4 c4] 29))) := ⟨Below.alloc HB4.out (by omega) _⟩
        have hka := own_kind (World.ownsRow.alloc HOa.out (.cells #[.slice ao4 n4 c4] 29))
        have hltb := World.ownsRow.lt HOa.out
        have GA := grown_of_below HBa.out
        have hxl : xs.length = (subs n (q + 1) ++ ((subs n q).take t).map (· ++ [n])).length := by
          have h1 := HO.out.1
          rw [h1, List.length_append, List.length_map, List.length_take, HP1.out, HM.out]; omega
        have HIa := (HI.out.keep GA (fun k hk => by cases hk)).keep hg5 hka
        have HIb := (HIW.out.keep GA (fun k hk => by cases hk)).keep hg5 hka
        have HNa := (Inn.keep (row := none) HN4.out (grown_of_below (Below.alloc (Below.refl _ _) (Nat.le_refl _) _)) (fun k hk => by cases hk)).keep hg5 hka
        have hxl2 : xs2.length = m * 1 := HOW.out.1
        have HOb := World.ownsRow.kept (World.ownsRow.kept HOW.out GA (Or.inr (by simp [Value.ownBlock]))) hg5 (Or.inr (by
          intro e
          have e' : some g2 = Value.ownBlock _ := e
          have := HF.out g2 e'.symm
          omega))
        have htk : (subs n q).take (t + 1) = (subs n q).take t ++ [l] := by
          have hlt' : t < (subs n q).length := by rw [HM.out]; exact htm
          rw [List.take_succ_eq_append_getElem hlt', ← HLE.out, List.getD_eq_getElem?_getD, List.getElem?_eq_getElem hlt']; rfl
        have HI' : Bx (Inns w5 (xs ++ [.slice ao4 n4 c4]) (subs n (q + 1) ++ ((subs n q).take (t + 1)).map (· ++ [n]))) := ⟨by
          rw [htk, List.map_append, ← List.append_assoc]
          have := inns_snoc HIa hxl HNa
          rw [← HL4.out] at this
          exact this⟩
        have HSZ' : Bx (w2.heap.size ≤ w5.heap.size) := ⟨by have h1 := HSZ.out; have h2 := hg5.size; simp at h2; omega⟩
        have HF5 := Bx.mk (fun k (hk : Value.ownBlock _ = some k) => (hf5 k hk).elim (fun h => HF.out k h) (fun h => Or.inr (by have h1 := HSZ.out; first | omega | (simp at h; omega) | (have h' := (World.size_alloc .. ▸ h); omega))))
        have HB5 : Bx (Below w.heap.size w w5) := ⟨Below.grown (HB.out.trans (HBa.out.mono hwr)) hg5 (by simp; omega) (fun g hg => (hltb g hg).1)⟩
        have HO5 := Bx.mk ho5
        have HOB := Bx.mk HOb
        have HIB := Bx.mk HIb
        clear ho5 HOb HIb HIa HNa hg5 hf5 hka hltb GA hxl hxl2 htk
        go_wp2_with fail
        exact ⟨⟨t + 1, _, by omega, by go_num, HO5, HI', HF5, HOB, HIB, HSZ', HB5⟩, by simp [intOf]; omega⟩
      · obtain rfl : t = m := by omega
        have e1 : (subs (n + 1) (q + 1)).length = p1 + t := by simp only [subs, List.length_append, List.length_map]; rw [HP1.out, HM.out]
        have e2 : subs n (q + 1) ++ ((subs n q).take t).map (· ++ [n]) = subs (n + 1) (q + 1) := by
          rw [List.take_of_length_le (by have := HM.out; omega)]; rfl
        have HI' := HI.out
        rw [e2] at HI'
        have HO' := HO.out
        rw [← e1] at HO'
        have HOO := Bx.mk HO'
        have HII := Bx.mk HI'
        clear HO' HI' e1 e2
        go_wp2_with fail
        all_goals go_ret
        all_goals exact ⟨_, _, rfl, HOO, HII, HB.out⟩
end Go.Proofs.Ytnbamjoadankmaa
/- schismaref02's Size and Gcd; the reference's Divisor. -/
namespace Go.Proofs.Ytnbamjoadankmaa
open Go.RowKit D
theorem u64_wrap (n : Int) : IntKind.u64.wrap n = n % 18446744073709551616 := by simp [IntKind.wrap, IntKind.signed, IntKind.bits]
theorem rsize_any (n : Int) (w : World) (h1 : -9223372036854775808 ≤ n) (h2 : n ≤ 9223372036854775807) : Calls Try.prog 124 #[.int .i64 n] w fun e w' => e = .returned (.int .u64 (n.natAbs : Int)) ∧ Below w.heap.size w w' := by
  by_cases hn : n < 0
  · have hw : IntKind.u64.wrap (-IntKind.u64.wrap n) = (n.natAbs : Int) := by rw [u64_wrap, u64_wrap]; omega
    have HW := Bx.mk hw
    clear hw
    go_enter Try.func124, Try.ntmps124
    go_wp2
    go_ret
    exact ⟨by simp only [← HW.out]; rfl, (by repeat (first | with_reducible exact Below.refl _ _ | (with_reducible refine Below.setCell ?_ ?side _; case side => (first | omega | (simp <;> omega))) | (with_reducible refine Below.alloc ?_ ?side _; case side => (first | omega | (simp <;> omega))) | with_reducible apply below_drewN | with_reducible apply below_drew))⟩
  · go_enter Try.func124, Try.ntmps124
    go_wp2
    go_ret
    refine ⟨?_, (by repeat (first | with_reducible exact Below.refl _ _ | (with_reducible refine Below.setCell ?_ ?side _; case side => (first | omega | (simp <;> omega))) | (with_reducible refine Below.alloc ?_ ?side _; case side => (first | omega | (simp <;> omega))) | with_reducible apply below_drewN | with_reducible apply below_drew))⟩
    rw [Int.natAbs_of_nonneg (by omega)]; rfl
theorem rgcd_any (a b g : Nat) (w : World) (ha : a ≤ 18446744073709551615) (hb : b ≤ 18446744073709551615) (hg : Nat.gcd a b = g) :
    Calls Try.prog 123 #[.int .u64 (a : Int), .int .u64 (b : Int)] w fun e w' => e = .returned (.int .u64 (g : Int)) ∧ Below w.heap.size w w' := by
  have HG := Bx.mk hg
  clear hg
  go_enter Try.func123, Try.ntmps123
  go_wp2
  go_loopw [0, 1] (fun av bv wr => ∃ x y : Nat, av = .int .u64 (x : Int) ∧ bv = .int .u64 (y : Int) ∧ x ≤ 18446744073709551615 ∧ y ≤ 18446744073709551615 ∧ Bx (Nat.gcd x y = g) ∧ Below w.heap.size w wr) (fun _ bv _ => (intOf bv).toNat)
  case atStart => exact ⟨a, b, rfl, rfl, ha, hb, HG, Below.refl _ _⟩
  case round =>
    clear ha hb
    obtain ⟨x, y, rfl, rfl, hx, hy, HXY, hB⟩ := hrel
    by_cases h0 : y = 0
    · subst h0
      have hgx : x = g := by have := HXY.out; simpa using this
      subst hgx
      go_wp2
      go_ret
      exact ⟨rfl, hB⟩
    · have HR := Bx.mk (show Nat.gcd y (x % y) = g from by rw [Nat.gcd_comm, ← Nat.gcd_rec, Nat.gcd_comm]; exact HXY.out)
      have hz : ((y : Int) == 0) = false := beq_eq_false_iff_ne.2 (by omega)
      have hz' : ((y : Int) != 0) = true := by simp [bne, hz]
      have hm : (x : Int).tmod (y : Int) = ((x % y : Nat) : Int) := by rw [Int.tmod_eq_emod_of_nonneg (by omega)]; omega
      have hlt : x % y < y := Nat.mod_lt _ (by omega)
      have hpos : 0 < (y : Int) := by omega
      go_wp2_with fail
      go_region
      all_goals go_wp2_with fail
      all_goals (refine ⟨⟨y, x % y, rfl, ?_, hy, by omega, HR, (by repeat (first | with_reducible exact Below.refl _ _ | with_reducible exact hB | (with_reducible refine Below.setCell ?_ ?side _; case side => (first | omega | (simp <;> omega))) | (with_reducible refine Below.alloc ?_ ?side _; case side => (first | omega | (simp <;> omega))) | with_reducible apply below_drewN | with_reducible apply below_drew))⟩, ?_⟩)
      all_goals first | rfl | (simp [intOf]; omega)
/-- The greatest common divisor of the minors. -/
def gl (L : List Nat) (f : Nat → Nat) (g : Nat) : Nat := L.foldl (fun a i => Nat.gcd a (f i)) g
theorem gl_dvd (L : List Nat) (f : Nat → Nat) (g d : Nat) : d ∣ gl L f g ↔ d ∣ g ∧ ∀ i ∈ L, d ∣ f i := by
  induction L generalizing g with
  | nil => simp [gl]
  | cons x L ih =>
    show d ∣ gl L f (Nat.gcd g (f x)) ↔ _
    rw [ih, Nat.dvd_gcd_iff]
    constructor
    · rintro ⟨⟨a, b⟩, c⟩
      exact ⟨a, fun i hi => (List.mem_cons.1 hi).elim (fun e => by rw [e]; exact b) (c i)⟩
    · rintro ⟨a, b⟩
      exact ⟨⟨a, b x (by simp)⟩, fun i hi => b i (by simp [hi])⟩
end Go.Proofs.Ytnbamjoadankmaa

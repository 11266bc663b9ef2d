/- Rows in a block that is written; the steps of the elimination. -/
import Derived.Test.YtnbamjoadankmaaKC
import Derived.Test.YtnbamjoadankmaaRF
namespace Go.Proofs.Ytnbamjoadankmaa
open Go.RowKit D
/-- All blocks but one are as they were. -/
structure But (b : Nat) (w w' : World) : Prop where
  os : w'.os = w.os
  tape : w'.tape = w.tape
  output : w'.output = w.output
  size : w.heap.size ≤ w'.heap.size
  block : ∀ k, k < w.heap.size → k ≠ b → w'.heap[k]? = w.heap[k]?
theorem But.refl (b : Nat) (w : World) : But b w w := ⟨rfl, rfl, rfl, Nat.le_refl _, fun _ _ _ => rfl⟩
theorem But.trans {b : Nat} {x y z : World} (h : But b x y) (k : But b y z) : But b x z :=
  ⟨k.os.trans h.os, k.tape.trans h.tape, k.output.trans h.output, Nat.le_trans h.size k.size, fun i hi hb => (k.block i (Nat.lt_of_lt_of_le hi h.size) hb).trans (h.block i hi hb)⟩
theorem But.of_below {b : Nat} {x y : World} (h : Below x.heap.size x y) : But b x y := ⟨h.os, h.tape, h.output, h.size, fun i hi _ => h.block i hi⟩
theorem But.set {b : Nat} (x : World) (o : Nat) (v : Value) : But b x (x.setCell ⟨b, o, none⟩ v) := ⟨rfl, rfl, rfl, by simp [World.setCell], fun i _ hb => Below.heap_setCell _ _ _ _ (by simpa using hb)⟩
theorem But.drew {b : Nat} {x y : World} (h : But b x y) : But b x y.drew := ⟨h.os, h.tape, h.output, h.size, h.block⟩
theorem But.below {b n : Nat} {x y : World} (h : But b x y) (hn : n ≤ x.heap.size) (hb : n ≤ b) : Below n x y := ⟨h.os, h.tape, h.output, h.size, fun k hk => h.block k (by omega) (by omega)⟩
/-- Rows of six in a block. -/
def RB (W : World) (b n cap : Nat) (M : Nat → Nat → Int) : Prop := ∃ cur : Array Value, W.heap[b]? = some (.cells cur 36 (0, 0)) ∧ cur.size = cap * 6 ∧ n ≤ cap ∧ ∀ i j, i < n → j < 6 → cur[i * 6 + j]? = some (.int .i64 (M i j))
theorem RB.lt {W : World} {b n cap : Nat} {M : Nat → Nat → Int} (h : RB W b n cap M) : b < W.heap.size := by obtain ⟨cur, h, _⟩ := h; exact (Array.getElem?_eq_some_iff.1 h).1
theorem RB.cell {W : World} {b n cap : Nat} {M : Nat → Nat → Int} (h : RB W b n cap M) {i j : Nat} (hi : i < n) (hj : j < 6) : W.cell? ⟨b, i * 6 + j, none⟩ = some (.int .i64 (M i j)) := by
  obtain ⟨cur, h1, h2, h3, h4⟩ := h
  simp only [World.cell?, h1]
  exact h4 i j hi hj
theorem RB.frozen {W : World} {b n cap : Nat} {M : Nat → Nat → Int} (h : RB W b n cap M) (k : Nat) : W.frozen? ⟨b, k, none⟩ = false := by
  obtain ⟨cur, h1, h2, h3, h4⟩ := h
  simp [World.frozen?, h1]
theorem RB.cv {W : World} {b n cap : Nat} {M : Nat → Nat → Int} (h : RB W b n cap M) : CV W (some ⟨b, 0, none⟩) n M := fun _ => ⟨b, 0, rfl, h.lt, fun i j hi hj => by rw [Nat.zero_add]; exact h.cell hi hj⟩
theorem RB.keep {W W' : World} {b n cap : Nat} {M : Nat → Nat → Int} (h : RB W b n cap M) (hk : W'.heap[b]? = W.heap[b]?) : RB W' b n cap M := by
  obtain ⟨cur, h1, h2⟩ := h; exact ⟨cur, hk.trans h1, h2⟩
theorem RB.below {W W' : World} {b n cap m : Nat} {M : Nat → Nat → Int} (h : RB W b n cap M) (hb : Below m W W') (hm : b < m) : RB W' b n cap M := h.keep (hb.block b hm)
theorem RB.congr {W : World} {b n cap : Nat} {M N : Nat → Nat → Int} (h : RB W b n cap M) (e : ∀ i j, i < n → j < 6 → N i j = M i j) : RB W b n cap N := by
  obtain ⟨cur, h1, h2, h3, h4⟩ := h; exact ⟨cur, h1, h2, h3, fun i j hi hj => by rw [e i j hi hj]; exact h4 i j hi hj⟩
theorem RB.set {W : World} {b n cap : Nat} {M : Nat → Nat → Int} (h : RB W b n cap M) {i j : Nat} (hi : i < n) (hj : j < 6) (x : Int) : RB (W.setCell ⟨b, i * 6 + j, none⟩ (.int .i64 x)) b n cap (fun r s => if r = i ∧ s = j then x else M r s) := by
  obtain ⟨cur, h1, h2, h3, h4⟩ := h
  refine ⟨cur.setIfInBounds (i * 6 + j) (.int .i64 x), by simp [World.setCell, Array.getElem?_modify, h1], by simp [h2], h3, fun r s hr hs => ?_⟩
  by_cases e : r = i ∧ s = j
  · obtain ⟨rfl, rfl⟩ := e
    have := (Array.getElem?_eq_some_iff.1 (h4 r s hr hs)).1
    simp [this]
  · simp only [if_neg e]
    rw [Array.getElem?_setIfInBounds_ne (by omega)]
    exact h4 r s hr hs
/-- A row is written. -/
def six6 (W : World) (b o : Nat) (v : Nat → Int) : World := (((((W.setCell ⟨b, o, none⟩ (.int .i64 (v 0))).setCell ⟨b, o + 1, none⟩ (.int .i64 (v 1))).setCell ⟨b, o + 2, none⟩ (.int .i64 (v 2))).setCell ⟨b, o + 3, none⟩ (.int .i64 (v 3))).setCell ⟨b, o + 4, none⟩ (.int .i64 (v 4))).setCell ⟨b, o + 5, none⟩ (.int .i64 (v 5))
def updR (M : Nat → Nat → Int) (i : Nat) (v : Nat → Int) : Nat → Nat → Int := fun r s => if r = i then v s else M r s
theorem six_cases' {i : Nat} (h : i < 6) : i = 0 ∨ i = 1 ∨ i = 2 ∨ i = 3 ∨ i = 4 ∨ i = 5 := by omega
theorem RB.row {W : World} {b n cap : Nat} {M : Nat → Nat → Int} (h : RB W b n cap M) {i : Nat} (hi : i < n) (v : Nat → Int) : RB (six6 W b (i * 6) v) b n cap (updR M i v) := by
  have := (((((h.set hi (j := 0) (by omega) (v 0)).set hi (j := 1) (by omega) (v 1)).set hi (j := 2) (by omega) (v 2)).set hi (j := 3) (by omega) (v 3)).set hi (j := 4) (by omega) (v 4)).set hi (j := 5) (by omega) (v 5)
  refine RB.congr this fun r s hr hs => ?_
  unfold updR
  by_cases e : r = i
  · subst e
    rcases six_cases' hs with rfl | rfl | rfl | rfl | rfl | rfl <;> simp
  · simp [e]
theorem But.six6 {b : Nat} (x : World) (o : Nat) (v : Nat → Int) : But b x (six6 x b o v) :=
  ((((((But.set x _ _).trans (But.set _ _ _)).trans (But.set _ _ _)).trans (But.set _ _ _)).trans (But.set _ _ _)).trans (But.set _ _ _))
theorem But.cell {b c k : Nat} {x y : World} (h : But b x y) (hc : c < x.heap.size) (hne : c ≠ b) : y.cell? ⟨c, k, none⟩ = x.cell? ⟨c, k, none⟩ := World.cell?_of_block (w := x) (h.block c hc hne)
/-- The sum of the elements of a column. -/
def tot (M : Nat → Nat → Int) (c : Nat) : Nat → Nat
  | 0 => 0
  | n + 1 => tot M c n + (M n c).toNat
theorem tot_congr {M N : Nat → Nat → Int} {c n : Nat} (h : ∀ i, i < n → M i c = N i c) : tot M c n = tot N c n := by
  induction n with
  | zero => rfl
  | succ n ih => unfold tot; rw [ih fun i hi => h i (by omega), h n (by omega)]
theorem tot_upd {M : Nat → Nat → Int} {c n i : Nat} (hi : i < n) (v : Nat → Int) : tot (updR M i v) c n + (M i c).toNat = tot M c n + (v c).toNat := by
  induction n with
  | zero => omega
  | succ n ih =>
    unfold tot
    by_cases e : i = n
    · subst e
      rw [tot_congr (N := M) fun t ht => by unfold updR; rw [if_neg (by omega)], show updR M i v i c = v c by simp [updR]]; omega
    · have := ih (by omega)
      rw [show updR M i v n c = M n c by unfold updR; rw [if_neg (by omega)]]; omega
/-- The same, read off the memory. -/
def csum (b c : Nat) (W : World) : Nat → Nat
  | 0 => 0
  | n + 1 => csum b c W n + (intOf ((W.cell? ⟨b, n * 6 + c, none⟩).getD undef)).toNat
theorem RB.csum {W : World} {b n cap c : Nat} {M : Nat → Nat → Int} (h : RB W b n cap M) (hc : c < 6) : ∀ k, k ≤ n → csum b c W k = tot M c k := by
  intro k
  induction k with
  | zero => intro _; rfl
  | succ k ih => intro hk; unfold Proofs.Ytnbamjoadankmaa.csum tot; rw [ih (by omega), h.cell (by omega) hc]; rfl
/-- The steps of the elimination of a column: a row less a multiple of another one. -/
inductive Els (n c : Nat) (d : Int) (M : Nat → Nat → Int) : (Nat → Nat → Int) → Prop
  | refl : Els n c d M M
  | step {N : Nat → Nat → Int} (i l : Nat) : Els n c d M N → i < n → l < n → i ≠ l → 0 < N l c → N l c ≤ N i c → Els n c d M (updR N i (low (N i) (N l) c d))
/-- The elements from a column on are from 0 to 10^9, in the column up to d. -/
def Okd (n c : Nat) (d : Int) (M : Nat → Nat → Int) : Prop := ∀ i, i < n → M i c ≤ d ∧ ∀ j, c ≤ j → j < 6 → 0 ≤ M i j ∧ M i j ≤ 1000000000
theorem low_at {u v : Nat → Int} {c : Nat} {d : Int} (h0 : 0 ≤ u c) (hv : 0 < v c) (hd : v c ≤ d) : low u v c d c = u c % v c := by
  unfold low
  rw [if_neg (Nat.lt_irrefl c)]
  have h1 := Int.emod_add_mul_ediv (u c) (v c)
  have h2 := Int.emod_nonneg (u c) (show v c ≠ 0 by omega)
  have h3 := Int.emod_lt_of_pos (u c) hv
  rw [show u c - u c / v c * v c = u c % v c by rw [Int.mul_comm]; omega]
  exact Int.emod_eq_of_lt h2 (by omega)
theorem Okd.step {n c i l : Nat} {d : Int} {N : Nat → Nat → Int} (h : Okd n c d N) (hd : 0 < d) (hd2 : d ≤ 1000000000) (hc : c < 6) (hi : i < n) (hl : l < n) (h0 : 0 < N l c) : Okd n c d (updR N i (low (N i) (N l) c d)) := by
  intro r hr
  unfold updR
  by_cases e : r = i
  · subst e
    simp only [if_true]
    have a := low_at ((h r hr).2 c (Nat.le_refl _) hc).1 h0 (h l hl).1
    have b := Int.emod_lt_of_pos (N r c) h0
    refine ⟨by rw [a]; have := (h l hl).1; omega, fun j hj hj6 => ?_⟩
    unfold low
    rw [if_neg (by omega)]
    have b1 := Int.emod_nonneg (N r j - N r c / N l c * N l j) (show d ≠ 0 by omega)
    have b2 := Int.emod_lt_of_pos (N r j - N r c / N l c * N l j) hd
    omega
  · simp only [if_neg e]; exact h r hr
theorem Els.trans {n c : Nat} {d : Int} {M N K : Nat → Nat → Int} (h : Els n c d M N) (k : Els n c d N K) : Els n c d M K := by
  induction k with
  | refl => exact h
  | step i l _ h1 h2 h3 h4 h5 ih => exact .step i l ih h1 h2 h3 h4 h5
theorem Els.okd {n c : Nat} {d : Int} {M N : Nat → Nat → Int} (k : Els n c d M N) (h : Okd n c d M) (hd : 0 < d) (hd2 : d ≤ 1000000000) (hc : c < 6) : Okd n c d N := by
  induction k with
  | refl => exact h
  | step i l _ h1 h2 h3 h4 h5 ih => exact ih.step hd hd2 hc h1 h2 h4
end Go.Proofs.Ytnbamjoadankmaa

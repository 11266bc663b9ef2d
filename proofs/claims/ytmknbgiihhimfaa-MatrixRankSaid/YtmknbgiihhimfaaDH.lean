/- Plain mathematics of minors (no program): Cramer's rule, lattices that hold what has a multiple in them, the rows that are orthogonal to a matrix. -/
import Derived.Test.YtmknbgiihhimfaaDD
namespace Go.Proofs.Ytmknbgiihhimfaa.D
/-- The sign of a number of exchanges. -/
def sg : Nat → Int
  | 0 => 1
  | n + 1 => - sg n
theorem sg_sq (n : Nat) : sg n * sg n = 1 := by
  induction n with
  | zero => rfl
  | succ n ih => simp only [sg]; rw [Int.neg_mul_neg, ih]
/-- A row is moved behind some others. -/
theorem mn_move (u : Nat → Int) (pre vs : List (Nat → Int)) (js : List Nat) : mn (u :: (pre ++ vs)) js = sg pre.length * mn (pre ++ u :: vs) js := by
  induction pre generalizing js with
  | nil => simp [sg]
  | cons p pre ih =>
    rw [List.cons_append, mn_swap, mn_congr ih, List.cons_append, List.length_cons]
    simp only [sg]; grind
theorem mn_moveC (us : List (Nat → Int)) (j : Nat) (pre cs : List Nat) (h : us.length = pre.length + cs.length + 1) : mn us (j :: (pre ++ cs)) = sg pre.length * mn us (pre ++ j :: cs) := by
  rw [← map_matOf us, mn_tr _ _ _ (by simp; omega), mn_tr _ _ (pre ++ j :: cs) (by simp; omega)]
  simp only [List.map_cons, List.map_append]
  rw [mn_move, List.length_map]
/-- The expansion of a minor with a further row and column by this row. -/
theorem alt_set (us : List (Nat → Int)) (g : Nat → Int) (j : Nat) (pre cs : List Nat) (h : us.length = pre.length + cs.length) : alt (fun a r => g a * mn us (j :: (pre ++ r))) cs = sg pre.length * sm cs.length (fun k => g (cs.getD k 0) * mn us (pre ++ cs.set k j)) := by
  induction cs generalizing pre with
  | nil => simp [alt, sm]
  | cons c cs ih =>
    unfold alt
    have e1 := ih (pre ++ [c]) (by simp at h ⊢; omega)
    simp only [List.append_assoc, List.singleton_append, List.length_append, List.length_singleton, sg] at e1
    rw [e1, mn_moveC us j pre cs (by simpa [Nat.add_assoc] using h), List.length_cons, sm_front]
    simp only [List.getD_cons_zero, List.set_cons_zero, List.getD_cons_succ, List.set_cons_succ]
    grind
/-- Cramer's rule, with the minor of all as the rest. -/
theorem cramer (v : Nat → Int) (us : List (Nat → Int)) (j : Nat) (cs : List Nat) (h : us.length = cs.length) : v j * mn us cs = sm cs.length (fun k => v (cs.getD k 0) * mn us (cs.set k j)) + mn (v :: us) (j :: cs) := by
  have := alt_set us v j [] cs (by simpa using h)
  simp only [List.nil_append, List.length_nil, sg] at this
  rw [mn_cons]
  unfold alt
  rw [this]; omega
/-- Cramer's rule for rows. -/
theorem cramerR (M : Mat) (i : Nat) (is cs : List Nat) (j : Nat) (h : is.length = cs.length) : M i j * mn (is.map M) cs = sm is.length (fun k => M (is.getD k 0) j * mn ((is.set k i).map M) cs) + mn ((i :: is).map M) (j :: cs) := by
  have := cramer (tr M j) (cs.map (tr M)) i is (by simp; omega)
  rw [mn_tr M is cs h, mn_tr M (i :: is) (j :: cs) (by simp; omega), List.map_cons]
  have e : sm is.length (fun k => M (is.getD k 0) j * mn ((is.set k i).map M) cs) = sm is.length (fun k => tr M j (is.getD k 0) * mn (cs.map (tr M)) (is.set k i)) :=
    sm_congr fun k _ => by rw [mn_tr M (is.set k i) cs (by simpa using h)]; rfl
  rw [e]; exact this
/-- The matrix with one row more. -/
def snoc (M : Mat) (n : Nat) (v : Nat → Int) : Mat := fun i => if i < n then M i else v
theorem snoc_map {M : Mat} {n : Nat} {v : Nat → Int} {is : List Nat} (h : ∀ i ∈ is, i < n) : is.map (snoc M n v) = is.map M :=
  List.map_congr_left fun i hi => by unfold snoc; rw [if_pos (h i hi)]
theorem getD_mem {l : List Nat} {k : Nat} (h : k < l.length) : l.getD k 0 ∈ l := by
  rw [List.getD_eq_getElem?_getD, List.getElem?_eq_getElem h]; exact List.getElem_mem h
/-- A multiple of a row by each minor is in the lattice, if no greater minor with it is other than 0. -/
theorem mn_mul {M : Mat} {n m r : Nat} {v : Nat → Int} (hz : Dv (snoc M n v) (n + 1) m (r + 1) 0) {is cs : List Nat} (hi : is.length = r) (hc : cs.length = r) (hn : ∀ i ∈ is, i < n) (hm : ∀ j ∈ cs, j < m) : Sp M n m (fun j => mn (is.map M) cs * v j) := by
  have key : Sp M n m (fun j => sm is.length (fun k => mn ((is.set k n).map (snoc M n v)) cs * M (is.getD k 0) j)) :=
    Sp.sum (N := fun k => M (is.getD k 0)) fun k hk => Sp.unit (hn _ (getD_mem hk))
  refine key.congr fun j hj => ?_
  have h1 := cramerR (snoc M n v) n is cs j (by omega)
  have h2 : mn ((n :: is).map (snoc M n v)) (j :: cs) = 0 := by
    have := hz (n :: is) (j :: cs) (by simp [hi]) (by simp [hc])
      (by intro i hx; rcases List.mem_cons.1 hx with rfl | hx
          · omega
          · have := hn i hx; omega)
      (by intro i hx; rcases List.mem_cons.1 hx with rfl | hx
          · exact hj
          · exact hm i hx)
    exact Int.zero_dvd.1 this
  rw [h2, snoc_map hn] at h1
  have h3 : snoc M n v n j = v j := by unfold snoc; rw [if_neg (by omega)]
  rw [h3] at h1
  rw [Int.mul_comm, h1, Int.add_zero]
  exact sm_congr fun k hk => by
    have := hn _ (getD_mem hk)
    rw [show snoc M n v (is.getD k 0) j = M (is.getD k 0) j from by unfold snoc; rw [if_pos this], Int.mul_comm]
/-- A set of integers with sums and multiples consists of the multiples of one. -/
theorem ideal {I : Int → Prop} (h0 : I 0) (ha : ∀ x y, I x → I y → I (x + y)) (hm : ∀ c x, I x → I (c * x)) : ∃ g, I g ∧ ∀ x, I x → g ∣ x := by
  by_cases h : ∃ x, I x ∧ x ≠ 0
  · obtain ⟨x, hx, hx0⟩ := h
    suffices hs : ∀ k : Nat, ∀ x, I x → x ≠ 0 → x.natAbs = k → ∃ g, I g ∧ ∀ x, I x → g ∣ x by exact hs _ x hx hx0 rfl
    intro k
    induction k using Nat.strongRecOn with
    | ind k ih =>
      intro x hx hx0 hk
      by_cases hd : ∀ y, I y → x ∣ y
      · exact ⟨x, hx, hd⟩
      · obtain ⟨y, hy⟩ := Classical.not_forall.1 hd
        obtain ⟨hy, hn⟩ := Classical.not_imp.1 hy
        have e : y % x = y + (-(y / x)) * x := by have := Int.emod_add_mul_ediv y x; grind
        have hr : I (y % x) := by rw [e]; exact ha _ _ hy (hm _ _ hx)
        have h1 : y % x ≠ 0 := fun e => hn (Int.dvd_of_emod_eq_zero e)
        have h2 := Int.emod_nonneg y hx0
        have h3 := Int.emod_lt y hx0
        exact ih (y % x).natAbs (by omega) (y % x) hr h1 rfl
  · exact ⟨0, h0, fun x hx => by
      have : x = 0 := Classical.not_not.1 fun e => h ⟨x, hx, e⟩
      rw [this]; exact Int.dvd_refl _⟩
/-- A lattice whose greatest minors have no common divisor holds each row of its rank. -/
theorem sat {M : Mat} {n m r : Nat} {v : Nat → Int} (h1 : ∀ d, Dv M n m r d → d ∣ 1) (hz : Dv (snoc M n v) (n + 1) m (r + 1) 0) : Sp M n m v := by
  obtain ⟨g, hg, hd⟩ := ideal (I := fun x => Sp M n m (fun j => x * v j)) (Sp.zero.congr fun j _ => by simp)
    (fun x y hx hy => (hx.add hy).congr fun j _ => by rw [Int.add_mul]) (fun c x hx => (hx.mul c).congr fun j _ => by rw [Int.mul_assoc])
  have : g ∣ 1 := h1 g fun is cs hi hc hn hm => hd _ (mn_mul hz hi hc hn hm)
  obtain ⟨c, hc⟩ := this
  refine (hg.mul c).congr fun j _ => ?_
  rw [← Int.mul_assoc, Int.mul_comm c, ← hc, Int.one_mul]
/-- A row with a multiple in the lattice: no greater minor with it is other than 0. -/
theorem Dv.snoc_zero {M : Mat} {n m k : Nat} {v : Nat → Int} {d : Int} (hd : d ≠ 0) (hz : Dv M n m k 0) (hv : Sp M n m (fun j => d * v j)) : Dv (snoc M n v) (n + 1) m k 0 := by
  -- all rows times d
  have h1 : Dv (fun i j => d * snoc M n v i j) (n + 1) m k 0 := hz.rows fun i hi => by
    by_cases h : i < n
    · exact ((Sp.unit h).mul d).congr fun j _ => by simp [snoc, h]
    · exact hv.congr fun j _ => by simp [snoc, h]
  intro is js hi hj hn hm
  have h2 := h1 is js hi hj hn hm
  have e : ∀ (l : List Nat) (js : List Nat), mn (l.map fun i j => d * snoc M n v i j) js = d ^ l.length * mn (l.map (snoc M n v)) js := by
    intro l
    induction l with
    | nil => intro js; simp [mn]
    | cons i l ih =>
      intro js
      rw [List.map_cons, List.map_cons, mn_cons, mn_cons, ← alt_mul, List.length_cons, Int.pow_succ]
      exact alt_congr' (fun a r => by rw [ih]; grind) js
  rw [e] at h2
  have h3 := Int.zero_dvd.1 h2
  rcases Int.mul_eq_zero.1 h3 with h | h
  · exact absurd h (Int.pow_ne_zero hd)
  · rw [h]; exact Int.dvd_refl _
end Go.Proofs.Ytmknbgiihhimfaa.D
/- Plain mathematics (no program): the rows that are orthogonal to a matrix: their rank, the double kernel, the minors of a basis. -/
namespace Go.Proofs.Ytmknbgiihhimfaa.D
/-- The product of two rows. -/
def dot (m : Nat) (u v : Nat → Int) : Int := sm m (fun j => u j * v j)
theorem dot_comm (m : Nat) (u v : Nat → Int) : dot m u v = dot m v u := sm_congr fun j _ => Int.mul_comm _ _
theorem sm_alt (m : Nat) (F : Nat → Nat → List Nat → Int) (is : List Nat) : sm m (fun j => alt (fun i r => F j i r) is) = alt (fun i r => sm m (fun j => F j i r)) is := (alt_sm m F is).symm
/-- The minors with one column that varies are orthogonal to what is orthogonal to the rows. -/
theorem dot_minor (K : Mat) (m : Nat) (y : Nat → Int) (is js : List Nat) (h : is.length = js.length + 1) (h0 : ∀ i ∈ is, dot m (K i) y = 0) : sm m (fun j => mn (is.map K) (j :: js) * y j) = 0 := by
  have e : sm m (fun j => mn (is.map K) (j :: js) * y j) = sm m (fun j => alt (fun i r => K i j * y j * mn (r.map K) js) is) :=
    sm_congr fun j _ => by
      rw [mn_column K j js is h, Int.mul_comm, ← alt_mul]
      exact alt_congr' (fun i r => by grind) is
  rw [e, sm_alt]
  refine alt_zero' fun i r hp => ?_
  have hi : i ∈ is := hp.subset (by simp)
  have := sm_mul m (mn (r.map K) js) (fun j => K i j * y j)
  have h1 : sm m (fun j => K i j * y j) = 0 := h0 i hi
  rw [h1, Int.mul_zero] at this
  rw [← this]
  exact sm_congr fun j _ => Int.mul_comm _ _
theorem mn_scale (d : Int) (M : Mat) (l js : List Nat) : mn (l.map fun i j => d * M i j) js = d ^ l.length * mn (l.map M) js := by
  induction l generalizing js with
  | nil => simp [mn]
  | cons i l ih =>
    rw [List.map_cons, List.map_cons, mn_cons, mn_cons, ← alt_mul, List.length_cons, Int.pow_succ]
    exact alt_congr' (fun a r => by rw [ih]; grind) js
theorem Dv.unscale {d : Int} {M : Mat} {n m k : Nat} (hd : d ≠ 0) (h : Dv (fun i j => d * M i j) n m k 0) : Dv M n m k 0 := by
  intro is js hi hj hn hm
  have h3 := Int.zero_dvd.1 (h is js hi hj hn hm)
  rw [mn_scale] at h3
  rcases Int.mul_eq_zero.1 h3 with h | h
  · exact absurd h (Int.pow_ne_zero hd)
  · rw [h]; exact Int.dvd_refl _
/-- The columns that are not in a list. -/
def rest (m : Nat) (cs : List Nat) : List Nat := (List.range m).filter fun j => !cs.contains j
theorem mem_rest {m j : Nat} {cs : List Nat} : j ∈ rest m cs ↔ j < m ∧ j ∉ cs := by simp [rest]
theorem rest_perm {m : Nat} {cs : List Nat} (hc : cs.Nodup) (hm : ∀ j ∈ cs, j < m) : (List.range m).Perm (cs ++ rest m cs) := by
  rw [List.perm_ext_iff_of_nodup List.nodup_range]
  · intro a
    rw [List.mem_range, List.mem_append, mem_rest]
    constructor
    · intro h; by_cases x : a ∈ cs
      · exact Or.inl x
      · exact Or.inr ⟨h, x⟩
    · rintro (h | h)
      · exact hm a h
      · exact h.1
  · refine List.nodup_append.2 ⟨hc, List.Nodup.sublist List.filter_sublist List.nodup_range, ?_⟩
    intro a ha b hb e
    subst e; exact (mem_rest.1 hb).2 ha
theorem rest_length {m : Nat} {cs : List Nat} (hc : cs.Nodup) (hm : ∀ j ∈ cs, j < m) : (rest m cs).length + cs.length = m := by
  have := (rest_perm hc hm).length_eq
  simp at this; omega
/-- The sum over a list. -/
def sl (l : List Nat) (f : Nat → Int) : Int := l.foldr (fun j s => f j + s) 0
theorem sl_append (a b : List Nat) (f : Nat → Int) : sl (a ++ b) f = sl a f + sl b f := by
  induction a with
  | nil => simp [sl]
  | cons x a ih => simp only [List.cons_append]; show f x + sl (a ++ b) f = f x + sl a f + sl b f; rw [ih]; omega
theorem sl_perm {a b : List Nat} (h : a.Perm b) (f : Nat → Int) : sl a f = sl b f := by
  induction h with
  | nil => rfl
  | @cons x a b _ ih => show f x + sl a f = f x + sl b f; rw [ih]
  | swap x y l => show f y + (f x + sl l f) = f x + (f y + sl l f); omega
  | trans _ _ i j => exact i.trans j
theorem sl_range (n : Nat) (f : Nat → Int) : sl (List.range n) f = sm n f := by
  induction n with
  | zero => rfl
  | succ n ih => rw [List.range_succ, sl_append, ih]; simp [sl, sm]
theorem sl_zero {l : List Nat} {f : Nat → Int} (h : ∀ j ∈ l, f j = 0) : sl l f = 0 := by
  induction l with
  | nil => rfl
  | cons x l ih => show f x + sl l f = 0; rw [h x (by simp), ih fun j hj => h j (by simp [hj])]; rfl
theorem sl_congr {l : List Nat} {f g : Nat → Int} (h : ∀ j ∈ l, f j = g j) : sl l f = sl l g := by
  induction l with
  | nil => rfl
  | cons x l ih => show f x + sl l f = g x + sl l g; rw [h x (by simp), ih fun j hj => h j (by simp [hj])]
theorem sl_sm (l : List Nat) (f : Nat → Int) : sl l f = sm l.length (fun t => f (l.getD t 0)) := by
  induction l with
  | nil => rfl
  | cons x l ih => rw [List.length_cons, sm_front]; show f x + sl l f = _; rw [ih]; simp
/-- Rows that are orthogonal to rows of a rank have at most the rest as their rank. -/
theorem orth {A K : Mat} {a b m s : Nat} (h0 : ∀ i k, i < a → k < b → dot m (K k) (A i) = 0) (hk : ¬ Dv K b m s 0) {k : Nat} (hs : m < s + k) : Dv A a m k 0 := by
  obtain ⟨is, hk⟩ := Classical.not_forall.1 hk
  obtain ⟨cs, hk⟩ := Classical.not_forall.1 hk
  obtain ⟨hi, hk⟩ := Classical.not_imp.1 hk
  obtain ⟨hc, hk⟩ := Classical.not_imp.1 hk
  obtain ⟨hn, hk⟩ := Classical.not_imp.1 hk
  obtain ⟨hm, hk⟩ := Classical.not_imp.1 hk
  have hD : mn (is.map K) cs ≠ 0 := fun e => hk (by rw [e]; exact Int.dvd_refl _)
  have hnd : cs.Nodup := Classical.not_not.1 fun x => hD (mn_cols_dup x _ (by simp; omega))
  have hp := rest_perm hnd hm
  have hl := rest_length hnd hm
  refine Dv.unscale hD ?_
  apply Dv_tr (M := tr fun i j => mn (is.map K) cs * A i j)
  refine Dv.rows (M := fun t => tr A ((rest m cs).getD t 0)) (n := (rest m cs).length) (Dv.many (by omega) 0) fun j hj => ?_
  by_cases hjc : j ∈ cs
  · obtain ⟨u, v, rfl⟩ := List.append_of_mem hjc
    have hq : (u ++ j :: v).Perm (j :: (u ++ v)) := List.perm_middle
    have hnd' := List.nodup_cons.1 (hq.nodup_iff.1 hnd)
    obtain ⟨e, he, hee⟩ := mn_cols hq
    refine ⟨fun t => - (e * mn (is.map K) ((rest m (u ++ j :: v)).getD t 0 :: (u ++ v))), fun i hia => ?_⟩
    have h1 := dot_minor K m (A i) is (u ++ v) (by simp at hc ⊢; omega) fun k hk => h0 i k hia (hn k hk)
    rw [← sl_range, sl_perm hp, sl_append, sl_perm hq] at h1
    have h2 : sl (j :: (u ++ v)) (fun x => mn (is.map K) (x :: (u ++ v)) * A i x) = mn (is.map K) (j :: (u ++ v)) * A i j := by
      show _ + sl (u ++ v) _ = _
      rw [sl_zero fun x hx => ?_, Int.add_zero]
      rw [mn_cols_dup (fun y => (List.nodup_cons.1 y).1 hx) _ (by simp at hc ⊢; omega), Int.zero_mul]
    rw [h2, sl_sm] at h1
    show mn (is.map K) (u ++ j :: v) * A i j = _
    rw [hee _ (by rw [List.length_map, hi, hc])]
    have h3 : sm (rest m (u ++ j :: v)).length (fun t => -(e * mn (is.map K) ((rest m (u ++ j :: v)).getD t 0 :: (u ++ v))) * tr A ((rest m (u ++ j :: v)).getD t 0) i) = -e * sm (rest m (u ++ j :: v)).length (fun t => mn (is.map K) ((rest m (u ++ j :: v)).getD t 0 :: (u ++ v)) * A i ((rest m (u ++ j :: v)).getD t 0)) := by
      rw [← sm_mul]; exact sm_congr fun t _ => by simp only [tr]; grind
    rw [h3]; grind
  · have hjr : j ∈ rest m cs := mem_rest.2 ⟨hj, hjc⟩
    obtain ⟨t, ht, hte⟩ := List.getElem_of_mem hjr
    have := (Sp.unit (M := fun t => tr A ((rest m cs).getD t 0)) (n := (rest m cs).length) (m := a) ht).mul (mn (is.map K) cs)
    refine this.congr fun i _ => ?_
    have e : (rest m cs).getD t 0 = j := by rw [List.getD_eq_getElem?_getD, List.getElem?_eq_getElem ht]; exact hte
    rw [e]; rfl
theorem sm_sub (n : Nat) (f g : Nat → Int) : sm n (fun t => f t - g t) = sm n f - sm n g := by
  induction n with
  | zero => rfl
  | succ n ih => simp only [sm]; rw [ih]; omega
/-- The rows of a Hermite form are independent. -/
theorem Hf.indep {H : Mat} {r m : Nat} {p : Nat → Nat} (h : Hf H r m p) {c : Nat → Int} (h0 : ∀ j, j < m → sm r (fun t => c t * H t j) = 0) : ∀ t, t < r → c t = 0 := by
  induction r generalizing H p c with
  | zero => intro t ht; omega
  | succ r ih =>
    have hp := h.pos 0 (by omega)
    have h1 := h0 (p 0) (h.lt 0 (by omega))
    rw [sm_front, sm_congr (g := fun _ => 0) fun t ht => by rw [h.left (t + 1) (p 0) (by omega) (h.rise 0 (t + 1) (by omega) (by omega)), Int.mul_zero]] at h1
    rw [sm_zero, Int.add_zero] at h1
    have hc : c 0 = 0 := by
      rcases Int.mul_eq_zero.1 h1 with x | x
      · exact x
      · omega
    have h2 := ih h.tl (c := fun t => c (t + 1)) fun j hj => by
      have := h0 j hj
      rw [sm_front, hc] at this
      simp only [D.tl]; omega
    intro t ht
    cases t with
    | zero => exact hc
    | succ t => exact h2 t (by omega)
/-- The greatest minors of a basis of a lattice that holds what has a multiple in it have no common divisor. -/
theorem Hf.sat_minors {K : Mat} {r m : Nat} {p : Nat → Nat} (h : Hf K r m p) (hs : ∀ (d : Int) (v : Nat → Int), d ≠ 0 → Sp K r m (fun j => d * v j) → Sp K r m v) {q : Int} (hq : Dv K r m r q) : q ∣ 1 := by
  refine Classical.not_not.1 fun hn => ?_
  have hq0 : q ≠ 0 := by
    intro e; subst e
    have hm := h.minor
    have h1 := hq (List.range r) ((List.range r).map p) (by simp) (by simp) (by simp) (by
      intro j hj; obtain ⟨k, hk, rfl⟩ := List.mem_map.1 hj; exact h.lt k (List.mem_range.1 hk))
    rw [hm] at h1
    have := pr_pos (s := fun k => K k (p k)) (k := r) h.pos
    have := Int.zero_dvd.1 h1; omega
  -- the greatest size at which not all minors are divisible
  have hk : ∃ k, k < r ∧ ¬ Dv K r m k q ∧ Dv K r m (k + 1) q := by
    have h0 : ¬ Dv K r m 0 q := fun x => hn (x [] [] rfl rfl (by simp) (by simp))
    have aux : ∀ n, n ≤ r → (∃ k, k < n ∧ ¬ Dv K r m k q ∧ Dv K r m (k + 1) q) ∨ ¬ Dv K r m n q := by
      intro n
      induction n with
      | zero => intro _; exact Or.inr h0
      | succ n ih =>
        intro hr
        rcases ih (by omega) with ⟨k, hk, x⟩ | x
        · exact Or.inl ⟨k, by omega, x⟩
        · by_cases y : Dv K r m (n + 1) q
          · exact Or.inl ⟨n, by omega, x, y⟩
          · exact Or.inr y
    rcases aux r (Nat.le_refl _) with x | x
    · exact x
    · exact absurd hq x
  obtain ⟨k, hkr, hk, hk1⟩ := hk
  obtain ⟨is, hk⟩ := Classical.not_forall.1 hk
  obtain ⟨cs, hk⟩ := Classical.not_forall.1 hk
  obtain ⟨hi, hk⟩ := Classical.not_imp.1 hk
  obtain ⟨hc, hk⟩ := Classical.not_imp.1 hk
  obtain ⟨hin, hk⟩ := Classical.not_imp.1 hk
  obtain ⟨hm, hk⟩ := Classical.not_imp.1 hk
  -- a row that is not among them
  have hx : ∃ i, i < r ∧ i ∉ is := by
    refine Classical.not_not.1 fun x => ?_
    have := (List.Nodup.length_le_of_subset (List.nodup_range (n := r)) (l₂ := is) fun i hi => Classical.not_not.1 fun y => x ⟨i, List.mem_range.1 hi, y⟩)
    simp at this; omega
  obtain ⟨i, hir, hix⟩ := hx
  -- the row that is divided
  have hdv : ∀ j, j < m → q ∣ mn ((i :: is).map K) (j :: cs) := fun j hj => hk1 (i :: is) (j :: cs) (by simp [hi]) (by simp [hc])
    (by intro x hx; rcases List.mem_cons.1 hx with rfl | hx
        · exact hir
        · exact hin x hx)
    (by intro x hx; rcases List.mem_cons.1 hx with rfl | hx
        · exact hj
        · exact hm x hx)
  have hu : Sp (fun t j => if t = i then 0 else K t j) r m (fun j => sm is.length (fun l => mn ((is.set l i).map K) cs * K (is.getD l 0) j)) := by
    refine Sp.sum (N := fun l => K (is.getD l 0)) fun l hl => ?_
    have hml := getD_mem hl
    have := Sp.unit (M := fun t j => if t = i then 0 else K t j) (m := m) (hin _ hml)
    refine this.congr fun j _ => ?_
    show _ = if is.getD l 0 = i then 0 else K (is.getD l 0) j
    rw [if_neg fun e => hix (by rw [← e]; exact hml)]
  obtain ⟨e, he⟩ := hu
  have hw : Sp K r m (fun j => mn ((i :: is).map K) (j :: cs) / q) := by
    refine hs q _ hq0 ?_
    have h1 : Sp K r m (fun j => mn (is.map K) cs * K i j) := (Sp.unit hir).mul _
    have h2 : Sp K r m (fun j => sm is.length (fun l => mn ((is.set l i).map K) cs * K (is.getD l 0) j)) := Sp.sum (N := fun l => K (is.getD l 0)) fun l hl => Sp.unit (hin _ (getD_mem hl))
    refine (h1.add (h2.mul (-1))).congr fun j hj => ?_
    rw [Int.mul_ediv_cancel' (hdv j hj)]
    have := cramerR K i is cs j (by omega)
    rw [sm_congr (g := fun l => mn ((is.set l i).map K) cs * K (is.getD l 0) j) fun l _ => Int.mul_comm _ _] at this
    grind
  obtain ⟨w, hw⟩ := hw
  have hind := h.indep (c := fun t => (if t = i then mn (is.map K) cs else - e t) - q * w t) fun j hj => by
    have c1 := cramerR K i is cs j (by omega)
    have he' : sm is.length (fun l => mn ((is.set l i).map K) cs * K (is.getD l 0) j) = sm r (fun t => e t * (if t = i then 0 else K t j)) := he j hj
    rw [sm_congr (g := fun l => mn ((is.set l i).map K) cs * K (is.getD l 0) j) fun l _ => Int.mul_comm _ _, he'] at c1
    have c2 := hw j hj
    have c3 : q * (mn ((i :: is).map K) (j :: cs) / q) = mn ((i :: is).map K) (j :: cs) := Int.mul_ediv_cancel' (hdv j hj)
    have c4 : mn ((i :: is).map K) (j :: cs) / q = sm r (fun t => w t * K t j) := c2
    rw [c4] at c3
    have s1 : sm r (fun t => ((if t = i then mn (is.map K) cs else - e t) - q * w t) * K t j) = sm r (fun t => (if t = i then 1 else 0) * (mn (is.map K) cs * K t j)) - sm r (fun t => e t * (if t = i then 0 else K t j)) - q * sm r (fun t => w t * K t j) := by
      rw [← sm_mul, ← sm_sub, ← sm_sub]
      exact sm_congr fun t _ => by
        by_cases x : t = i
        · simp only [if_pos x]; grind
        · simp only [if_neg x]; grind
    rw [s1, sm_unit hir fun t => mn (is.map K) cs * K t j]
    grind
  have := hind i hir
  rw [if_pos rfl] at this
  exact hk ⟨w i, by omega⟩
/-- The double kernel: what is orthogonal to all that is orthogonal to a matrix with greatest minors without a common divisor is in its lattice. -/
theorem double {M K : Mat} {n b m r : Nat} {x : Nat → Int} (h0 : ∀ i k, i < n → k < b → dot m (K k) (M i) = 0) (hx : ∀ k, k < b → dot m (K k) x = 0) (hk : ¬ Dv K b m (m - r) 0) (hr : r ≤ m) (h1 : ∀ d, Dv M n m r d → d ∣ 1) : Sp M n m x := by
  refine sat h1 (orth (K := K) (b := b) (s := m - r) ?_ hk (by omega))
  intro i k hi hk
  unfold snoc
  split
  · exact h0 i k (by assumption) hk
  · exact hx k hk
end Go.Proofs.Ytmknbgiihhimfaa.D
/- Plain mathematics (no program): minors of rising lists are enough; numbers that have the same divisors. -/
namespace Go.Proofs.Ytmknbgiihhimfaa.D
theorem exists_rising (l : List Nat) (h : l.Nodup) : ∃ k : List Nat, k.Perm l ∧ k.Pairwise (· < ·) := by
  refine ⟨l.mergeSort (fun a b => decide (a ≤ b)), List.mergeSort_perm l _, ?_⟩
  have h1 : (l.mergeSort (fun a b => decide (a ≤ b))).Pairwise (fun a b => decide (a ≤ b) = true) := List.pairwise_mergeSort (by intro a b c h1 h2; simp at *; omega) (by intro a b; simp; omega) l
  have h2 : (l.mergeSort (fun a b => decide (a ≤ b))).Nodup := (List.mergeSort_perm l _).nodup_iff.2 h
  exact (h1.and h2).imp fun {a b} hab => by have := hab.1; have := hab.2; simp at *; omega
/-- The minors of rising lists of rows and columns are enough. -/
theorem Dv.rising {M : Mat} {n m k : Nat} {d : Int} (h : ∀ is js : List Nat, is.length = k → js.length = k → is.Pairwise (· < ·) → js.Pairwise (· < ·) → (∀ i ∈ is, i < n) → (∀ j ∈ js, j < m) → d ∣ mn (is.map M) js) : Dv M n m k d := by
  intro is js hi hj hn hm
  by_cases hnd : is.Nodup
  · by_cases hjd : js.Nodup
    · obtain ⟨is', hp, hr⟩ := exists_rising is hnd
      obtain ⟨js', hq, hs⟩ := exists_rising js hjd
      obtain ⟨c, _, hc⟩ := mn_permI hp.symm
      obtain ⟨e, _, he⟩ := mn_cols hq.symm
      rw [hc, he _ (by rw [List.length_map, hp.length_eq]; omega)]
      exact Int.dvd_mul_of_dvd_right (Int.dvd_mul_of_dvd_right (h is' js' (by rw [hp.length_eq, hi]) (by rw [hq.length_eq, hj]) hr hs (fun i hi => hn i (hp.subset hi)) (fun j hj => hm j (hq.subset hj))))
    · rw [mn_cols_dup hjd _ (by simp; omega)]; exact Int.dvd_zero _
  · rw [mn_dup (fun x => hnd ((List.pairwise_map.1 x).imp fun hab e => hab (by rw [e])))]; exact Int.dvd_zero _
/-- The rank and the divisors of a matrix whose lattice has a Hermite form. -/
theorem Hf.rank {M H : Mat} {n r m : Nat} {p : Nat → Nat} (h : Hf H r m p) (h1 : ∀ i, i < n → Sp H r m (M i)) (h2 : ∀ i, i < r → Sp M n m (H i)) (k : Nat) : Dv M n m k 0 ↔ r < k := by
  have e : ∀ d, Dv M n m k d ↔ Dv H r m k d := fun d => ⟨fun x => x.rows h2, fun x => x.rows h1⟩
  rw [e]
  constructor
  · intro x
    refine Classical.not_not.1 fun hk => ?_
    have hx : ∀ t, Dv H r m (k + t) 0 := by
      intro t
      induction t with
      | zero => exact x
      | succ t ih => exact ih.mono
    have h3 := hx (r - k) (List.range r) ((List.range r).map p) (by simp; omega) (by simp; omega) (by simp) (by
      intro j hj; obtain ⟨k, hk, rfl⟩ := List.mem_map.1 hj; exact h.lt k (List.mem_range.1 hk))
    rw [h.minor] at h3
    have := pr_pos (s := fun k => H k (p k)) (k := r) h.pos
    have := Int.zero_dvd.1 h3; omega
  · intro x; exact Dv.many x 0
/-- The last divisor divides the product of the pivots. -/
theorem Hf.last {M H : Mat} {n r m : Nat} {p : Nat → Nat} (h : Hf H r m p) (h2 : ∀ i, i < r → Sp M n m (H i)) {d : Int} (hd : Dv M n m r d) : d ∣ pr (fun k => H k (p k)) r := by
  rw [← h.minor]
  exact hd.rows h2 _ _ (by simp) (by simp) (by simp) (by
      intro j hj; obtain ⟨k, hk, rfl⟩ := List.mem_map.1 hj; exact h.lt k (List.mem_range.1 hk))
/-- The product of the pivots divides each greatest minor in the columns of the pivots. -/
theorem Hf.pivots {M H : Mat} {n r m : Nat} {p : Nat → Nat} (h : Hf H r m p) (h1 : ∀ i, i < n → Sp H r m (M i)) {is : List Nat} (hi : is.length = r) (hn : ∀ i ∈ is, i < n) : pr (fun k => H k (p k)) r ∣ mn (is.map M) ((List.range r).map p) := by
  -- the columns of the pivots alone
  have e : ∀ l : List Nat, ∀ N : Mat, mn (l.map N) ((List.range r).map p) = mn (l.map fun i k => N i (p k)) (List.range r) := by
    intro l N
    generalize List.range r = js
    induction l generalizing js with
    | nil => rfl
    | cons i l ih =>
      rw [List.map_cons, List.map_cons, mn_cons, mn_cons, alt_map]
      exact alt_congr' (fun a s => by rw [ih]) js
  rw [e]
  have hs : ∀ i, i < n → Sp (fun i k => H i (p k)) r r (fun k => M i (p k)) := fun i hi => by
    obtain ⟨c, hc⟩ := h1 i hi
    exact ⟨c, fun k hk => hc (p k) (h.lt k hk)⟩
  have hd : Dv (fun i k => H i (p k)) r r r (pr (fun k => H k (p k)) r) := by
    refine Dv.rising fun is js hi hj hri hrj hn hm => ?_
    have full : ∀ l : List Nat, l.length = r → l.Pairwise (· < ·) → (∀ i ∈ l, i < r) → l = List.range r := by
      intro l hl hp hb
      have hnd : l.Nodup := hp.imp fun {a b} hab e => by omega
      have hperm : l.Perm (List.range r) := by
        refine (List.perm_ext_iff_of_nodup hnd List.nodup_range).2 fun a => ⟨fun x => List.mem_range.2 (hb a x), fun x => ?_⟩
        refine Classical.not_not.1 fun y => ?_
        have := List.Nodup.length_le_of_subset (List.nodup_cons.2 ⟨y, hnd⟩) (l₂ := List.range r) (by
          intro z hz; rcases List.mem_cons.1 hz with rfl | hz
          · exact x
          · exact List.mem_range.2 (hb z hz))
        simp at this; omega
      exact hperm.eq_of_pairwise (fun a b _ _ h1 h2 => by omega) hp List.pairwise_lt_range
    rw [full is hi hri hn, full js hj hrj hm, ← e, h.minor]; exact Int.dvd_refl _
  exact Dv.rows hd (n' := n) (N := fun i k => M i (p k)) hs is (List.range r) hi (by simp) hn (by simp)
end Go.Proofs.Ytmknbgiihhimfaa.D
/- Plain mathematics (no program): a lattice whose rows follow from their elements in some independent columns: its Hermite form from that on these columns. -/
namespace Go.Proofs.Ytmknbgiihhimfaa.D
/-- What is closed under sums and multiples, and looks at the first m columns alone. -/
structure Sub (m : Nat) (L : (Nat → Int) → Prop) : Prop where
  zero : L (fun _ => 0)
  add : ∀ u v, L u → L v → L (fun j => u j + v j)
  mul : ∀ c u, L u → L (fun j => c * u j)
  congr : ∀ u v, (∀ j, j < m → v j = u j) → L u → L v
theorem Sub.sp (M : Mat) (n m : Nat) : Sub m (Sp M n m) := ⟨Sp.zero, fun _ _ h g => h.add g, fun c _ h => h.mul c, fun _ _ e h => h.congr e⟩
theorem Sub.sum {m : Nat} {L : (Nat → Int) → Prop} (h : Sub m L) {k : Nat} {c : Nat → Int} {N : Mat} (hn : ∀ t, t < k → L (N t)) : L (fun j => sm k (fun t => c t * N t j)) := by
  induction k with
  | zero => exact h.zero
  | succ k ih => exact h.add _ _ (ih fun t ht => hn t (by omega)) (h.mul _ _ (hn k (by omega)))
theorem Sub.of_sp {m : Nat} {L : (Nat → Int) → Prop} (h : Sub m L) {M : Mat} {n : Nat} {v : Nat → Int} (hv : Sp M n m v) (hm : ∀ t, t < n → L (M t)) : L v := by
  obtain ⟨c, hc⟩ := hv
  exact h.congr _ _ hc (h.sum hm)
/-- Some columns are independent, and each column follows from some of them. -/
structure Gr (M : Mat) (n m : Nat) (bef : Nat → Nat → Prop) (is cs : List Nat) : Prop where
  len : is.length = cs.length
  rows : ∀ i ∈ is, i < n
  cols : ∀ j ∈ cs, j < m
  ne : mn (is.map M) cs ≠ 0
  dep : ∀ j, j < m → ∃ k, k ≤ cs.length ∧ (∀ l, l < k → bef (cs.getD l 0) j) ∧ ∃ E : Int, E ≠ 0 ∧ ∃ w : Nat → Int, ∀ i, i < n → E * M i j = sm k (fun l => M i (cs.getD l 0) * w l)
/-- What follows for the rows of the lattice. -/
theorem Gr.dep_sp {M : Mat} {n m : Nat} {bef : Nat → Nat → Prop} {is cs : List Nat} (h : Gr M n m bef is cs) {j : Nat} (hj : j < m) : ∃ k, k ≤ cs.length ∧ (∀ l, l < k → bef (cs.getD l 0) j) ∧ ∃ E : Int, E ≠ 0 ∧ ∃ w : Nat → Int, ∀ v, Sp M n m v → E * v j = sm k (fun l => v (cs.getD l 0) * w l) := by
  obtain ⟨k, hk, hb, E, hE, w, hw⟩ := h.dep j hj
  refine ⟨k, hk, hb, E, hE, w, fun v hv => ?_⟩
  obtain ⟨c, hc⟩ := hv
  have e1 : sm k (fun l => v (cs.getD l 0) * w l) = sm k (fun l => sm n (fun t => c t * (M t (cs.getD l 0) * w l))) :=
    sm_congr fun l hl => by
      rw [hc _ (h.cols _ (getD_mem (by omega))), Int.mul_comm, ← sm_mul]
      exact sm_congr fun t _ => by grind
  rw [e1, sm_comm, hc j hj, ← sm_mul]
  exact sm_congr fun t ht => by
    rw [sm_mul, ← hw t ht]; grind
/-- A row of the lattice that is 0 in these columns is 0. -/
theorem Gr.zero {M : Mat} {n m : Nat} {bef : Nat → Nat → Prop} {is cs : List Nat} (h : Gr M n m bef is cs) {v : Nat → Int} (hv : Sp M n m v) (h0 : ∀ k, k < cs.length → v (cs.getD k 0) = 0) : ∀ j, j < m → v j = 0 := by
  intro j hj
  obtain ⟨k, hk, _, E, hE, w, hw⟩ := h.dep_sp hj
  have := hw v hv
  rw [sm_congr (g := fun _ => 0) fun l hl => by rw [h0 l (by omega), Int.zero_mul]] at this
  rw [sm_zero] at this
  rcases Int.mul_eq_zero.1 this with x | x
  · exact absurd x hE
  · exact x
/-- No greater minor with these is other than 0. -/
theorem Gr.minor {M : Mat} {n m : Nat} {bef : Nat → Nat → Prop} {is cs : List Nat} (h : Gr M n m bef is cs) {j : Nat} (hj : j < m) {us : List Nat} (hu : us.length = cs.length + 1) (hn : ∀ i ∈ us, i < n) : mn (us.map M) (j :: cs) = 0 := by
  obtain ⟨k, hk, _, E, hE, w, hw⟩ := h.dep j hj
  have e : E * mn (us.map M) (j :: cs) = 0 := by
    rw [mn_column M j cs us hu, ← alt_mul]
    have e1 : alt (fun i r => E * (M i j * mn (r.map M) cs)) us = alt (fun i r => sm k (fun l => w l * (M i (cs.getD l 0) * mn (r.map M) cs))) us :=
      alt_congrP fun i r hp => by
        have := hw i (mem_perm hp hn).1
        rw [← Int.mul_assoc, this, Int.mul_comm, ← sm_mul]
        exact sm_congr fun l _ => by grind
    rw [e1, alt_sm, sm_congr (g := fun _ => 0) fun l hl => ?_]
    · exact sm_zero k
    · rw [alt_mul, ← mn_column M (cs.getD l 0) cs us hu, mn_cols_dup (fun x => (List.nodup_cons.1 x).1 (getD_mem (by omega))) _ (by simpa using hu), Int.mul_zero]
  rcases Int.mul_eq_zero.1 e with x | x
  · exact absurd x hE
  · exact x
/-- Cramer's rule for the rows of the lattice. -/
theorem Gr.cramer {M : Mat} {n m : Nat} {bef : Nat → Nat → Prop} {is cs : List Nat} (h : Gr M n m bef is cs) {v : Nat → Int} (hv : Sp M n m v) {j : Nat} (hj : j < m) : v j * mn (is.map M) cs = sm cs.length (fun k => v (cs.getD k 0) * mn (is.map M) (cs.set k j)) := by
  obtain ⟨c, hc⟩ := hv
  have e1 : sm cs.length (fun k => v (cs.getD k 0) * mn (is.map M) (cs.set k j)) = sm cs.length (fun k => sm n (fun t => c t * (M t (cs.getD k 0) * mn (is.map M) (cs.set k j)))) :=
    sm_congr fun k hk => by
      rw [hc _ (h.cols _ (getD_mem hk)), Int.mul_comm, ← sm_mul]
      exact sm_congr fun t _ => by grind
  rw [e1, sm_comm, hc j hj, Int.mul_comm, ← sm_mul]
  exact sm_congr fun t ht => by
    have h1 := D.cramer (M t) (is.map M) j cs (by simpa using h.len)
    have h2 := h.minor hj (us := t :: is) (by simp [h.len]) (by
      intro i hi; rcases List.mem_cons.1 hi with rfl | hi
      · exact ht
      · exact h.rows i hi)
    rw [List.map_cons] at h2
    rw [sm_mul]
    have h3 : sm cs.length (fun k => M t (cs.getD k 0) * mn (is.map M) (cs.set k j)) = M t j * mn (is.map M) cs := by omega
    rw [h3]; grind
/-- The lattice on these columns. -/
def at' (M : Mat) (cs : List Nat) : Mat := fun i k => M i (cs.getD k 0)
theorem at_map (M : Mat) (cs l ks : List Nat) : mn (l.map (at' M cs)) ks = mn (l.map M) (ks.map fun k => cs.getD k 0) := by
  induction l generalizing ks with
  | nil => rfl
  | cons i l ih =>
    rw [List.map_cons, List.map_cons, mn_cons, mn_cons, alt_map]
    exact alt_congr' (fun a r => by rw [ih]; rfl) ks
theorem range_map (cs : List Nat) : (List.range cs.length).map (fun k => cs.getD k 0) = cs := by
  apply List.ext_getElem
  · simp
  · intro i h1 h2
    simp [List.getElem?_eq_getElem h2]
/-- It has all multiples of the minor. -/
theorem Gr.multiples {M : Mat} {n m : Nat} {bef : Nat → Nat → Prop} {is cs : List Nat} (h : Gr M n m bef is cs) (v : Nat → Int) : Sp (at' M cs) n cs.length (fun k => mn (is.map M) cs * v k) := by
  have h1 : Dv (snoc (at' M cs) n v) (n + 1) cs.length (cs.length + 1) 0 := Dv_tr (M := tr (snoc (at' M cs) n v)) (Dv.many (by omega) 0)
  have := mn_mul h1 (is := is) (cs := List.range cs.length) h.len (by simp) h.rows (by simp)
  rw [at_map, range_map] at this
  exact this
/-- The rows of the lattice with given elements in these columns. -/
theorem lift {M : Mat} {n m : Nat} {cs : List Nat} {x : Nat → Int} (hx : Sp (at' M cs) n cs.length x) : ∃ v, Sp M n m v ∧ ∀ k, k < cs.length → v (cs.getD k 0) = x k := by
  obtain ⟨c, hc⟩ := hx
  exact ⟨fun j => sm n (fun t => c t * M t j), ⟨c, fun j _ => rfl⟩, fun k hk => (hc k hk).symm⟩
theorem Gr.value {M : Mat} {n m : Nat} {bef : Nat → Nat → Prop} {is cs : List Nat} (h : Gr M n m bef is cs) {v x : Nat → Int} (hv : Sp M n m v) (hx : ∀ k, k < cs.length → v (cs.getD k 0) = x k) {j : Nat} (hj : j < m) : sm cs.length (fun k => x k * mn (is.map M) (cs.set k j)) = v j * mn (is.map M) cs := by
  rw [h.cramer hv hj]
  exact sm_congr fun k hk => by rw [hx k hk]
/-- The Hermite form from that on these columns, if they come in their order. -/
theorem Gr.hermite {M : Mat} {n m : Nat} {is cs : List Nat} (h : Gr M n m (· ≤ ·) is cs) (hr : ∀ i k, i < k → k < cs.length → cs.getD i 0 < cs.getD k 0) {H : Mat} (hH : Hf H cs.length cs.length id) (h1 : ∀ t, t < n → Sp H cs.length cs.length (at' M cs t)) (h2 : ∀ i, i < cs.length → Sp (at' M cs) n cs.length (H i)) {O : Mat} (hO : ∀ i j, i < cs.length → j < m → O i j * mn (is.map M) cs = sm cs.length (fun k => H i k * mn (is.map M) (cs.set k j))) : Hf O cs.length m (fun k => cs.getD k 0) ∧ (∀ t, t < n → Sp O cs.length m (M t)) ∧ (∀ i, i < cs.length → Sp M n m (O i)) := by
  have key : ∀ i, i < cs.length → Sp M n m (O i) ∧ ∀ k, k < cs.length → O i (cs.getD k 0) = H i k := by
    intro i hi
    obtain ⟨v, hv, hx⟩ := lift (m := m) (h2 i hi)
    have e : ∀ j, j < m → O i j = v j := fun j hj => by
      have := h.value hv hx hj
      rw [← hO i j hi hj] at this
      exact Int.eq_of_mul_eq_mul_right h.ne this
    exact ⟨hv.congr e, fun k hk => by rw [e _ (h.cols _ (getD_mem hk))]; exact hx k hk⟩
  refine ⟨⟨fun k hk => h.cols _ (getD_mem hk), hr, fun k hk => by rw [(key k hk).2 k hk]; exact hH.pos k hk, ?_, fun i k hi hk => ?_⟩, fun t ht => ?_, fun i hi => (key i hi).1⟩
  · intro k j hk hj
    have hjm : j < m := by have := h.cols _ (getD_mem hk); omega
    obtain ⟨q, hq, hb, E, hE, w, hw⟩ := h.dep_sp hjm
    have := hw _ (key k hk).1
    rw [sm_congr (g := fun _ => 0) fun l hl => ?_, sm_zero] at this
    · rcases Int.mul_eq_zero.1 this with x | x
      · exact absurd x hE
      · exact x
    · have hlk : l < k := by
        refine Classical.not_not.1 fun x => ?_
        have hb' := hb l hl
        rcases Nat.lt_or_eq_of_le (show k ≤ l by omega) with y | y
        · have := hr k l y (by omega); omega
        · subst y; omega
      rw [(key k hk).2 l (by omega), hH.left k l hk hlk, Int.zero_mul]
  · rw [(key i (by omega)).2 k hk, (key k hk).2 k hk]; exact hH.red i k hi hk
  · obtain ⟨c, hc⟩ := h1 t ht
    have hz : Sp M n m (fun j => M t j - sm cs.length (fun l => c l * O l j)) :=
      ((Sp.unit ht).add ((Sp.sum (N := O) (c := c) fun l hl => (key l hl).1).mul (-1))).congr fun j _ => by omega
    have h0 := h.zero hz fun k hk => by
      have := hc k hk
      have e : sm cs.length (fun l => c l * O l (cs.getD k 0)) = sm cs.length (fun l => c l * H l k) := sm_congr fun l hl => by rw [(key l hl).2 k hk]
      show M t (cs.getD k 0) - _ = 0
      rw [e, ← this]; simp [at']
    exact ⟨c, fun j hj => by have : M t j - sm cs.length (fun l => c l * O l j) = 0 := h0 j hj
                             omega⟩
end Go.Proofs.Ytmknbgiihhimfaa.D

/- Plain mathematics (no program): columns that are chosen one after another; a row that is put into a triangular lattice. -/
import Derived.Test.YtmknbgiihhimfaaDH
namespace Go.Proofs.Ytmknbgiihhimfaa.D
/-- The columns that were chosen among those that are done: greatest minors of each beginning, and none with a column that was left out. -/
structure Gd (M : Mat) (n : Nat) (bef : Nat → Nat → Prop) (done is cs : List Nat) : Prop where
  len : is.length = cs.length
  rows : ∀ i ∈ is, i < n
  cols : ∀ j ∈ cs, j ∈ done
  ne : ∀ k, k ≤ cs.length → mn ((is.take k).map M) (cs.take k) ≠ 0
  dep : ∀ j ∈ done, ∃ k, k ≤ cs.length ∧ (∀ l, l < k → bef (cs.getD l 0) j) ∧ ((∃ l, l < k ∧ cs.getD l 0 = j) ∨ ∀ i, i < n → mn ((is.take k ++ [i]).map M) (cs.take k ++ [j]) = 0)
theorem Gd.nil (M : Mat) (n : Nat) (bef : Nat → Nat → Prop) : Gd M n bef [] [] [] where
  len := rfl
  rows := by simp
  cols := by simp
  ne k hk := by simp [mn]
  dep := by simp
theorem getD_append_left {l r : List Nat} {k : Nat} (h : k < l.length) : (l ++ r).getD k 0 = l.getD k 0 := by
  simp [List.getElem?_append_left h]
theorem Gd.add {M : Mat} {n : Nat} {bef : Nat → Nat → Prop} {done is cs : List Nat} {j i : Nat} (h : Gd M n bef done is cs) (hi : i < n) (hm : mn ((is ++ [i]).map M) (cs ++ [j]) ≠ 0) (hb : ∀ c ∈ cs, bef c j) (hj : bef j j) : Gd M n bef (done ++ [j]) (is ++ [i]) (cs ++ [j]) where
  len := by simp [h.len]
  rows x hx := by
    rcases List.mem_append.1 hx with hx | hx
    · exact h.rows x hx
    · rw [List.mem_singleton.1 hx]; exact hi
  cols x hx := by
    rcases List.mem_append.1 hx with hx | hx
    · exact List.mem_append_left _ (h.cols x hx)
    · exact List.mem_append_right _ hx
  ne k hk := by
    have hl := h.len
    rcases Nat.lt_or_eq_of_le hk with x | x
    · have x' : k ≤ cs.length := by simp at x; omega
      rw [List.take_append_of_le_length (by omega), List.take_append_of_le_length x']
      exact h.ne k x'
    · have e : k = (is ++ [i]).length := by rw [x]; simp [hl]
      rw [x, List.take_length, ← x, e, List.take_length]; exact hm
  dep x hx := by
    have hl := h.len
    rcases List.mem_append.1 hx with hx | hx
    · obtain ⟨k, hk, hb', hd⟩ := h.dep x hx
      refine ⟨k, by simp; omega, fun l hlk => by rw [getD_append_left (by omega)]; exact hb' l hlk, ?_⟩
      rcases hd with ⟨l, hlk, e⟩ | hd
      · exact Or.inl ⟨l, hlk, by rw [getD_append_left (by omega)]; exact e⟩
      · refine Or.inr ?_
        rw [List.take_append_of_le_length (by omega), List.take_append_of_le_length hk]
        exact hd
    · rw [List.mem_singleton.1 hx]
      have e : (cs ++ [j]).getD cs.length 0 = j := by simp
      refine ⟨cs.length + 1, by simp, fun l hlk => ?_, Or.inl ⟨cs.length, by omega, e⟩⟩
      rcases Nat.lt_or_eq_of_le (Nat.le_of_lt_succ hlk) with y | y
      · rw [getD_append_left y]; exact hb _ (getD_mem y)
      · rw [y, e]; exact hj
theorem Gd.skip {M : Mat} {n : Nat} {bef : Nat → Nat → Prop} {done is cs : List Nat} {j : Nat} (h : Gd M n bef done is cs) (hm : ∀ i, i < n → mn ((is ++ [i]).map M) (cs ++ [j]) = 0) (hb : ∀ c ∈ cs, bef c j) : Gd M n bef (done ++ [j]) is cs where
  len := h.len
  rows := h.rows
  cols x hx := List.mem_append_left _ (h.cols x hx)
  ne := h.ne
  dep x hx := by
    rcases List.mem_append.1 hx with hx | hx
    · exact h.dep x hx
    · rw [List.mem_singleton.1 hx]
      refine ⟨cs.length, Nat.le_refl _, fun l hl => hb _ (getD_mem hl), Or.inr ?_⟩
      rw [List.take_length, ← h.len, List.take_length]; exact hm
theorem mn_snoc (M : Mat) (i : Nat) (is : List Nat) (j : Nat) (cs : List Nat) (h : is.length = cs.length) : mn ((is ++ [i]).map M) (cs ++ [j]) = mn ((i :: is).map M) (j :: cs) := by
  have e1 : (i :: is).map M = M i :: (is.map M ++ []) := by simp
  have e2 : (j :: cs) = j :: (cs ++ []) := by simp
  rw [e1, mn_move, e2, mn_moveC _ j cs [] (by simp; omega), ← Int.mul_assoc, List.length_map, h, sg_sq, Int.one_mul]
  simp
theorem Gd.gr {M : Mat} {n m : Nat} {bef : Nat → Nat → Prop} {done is cs : List Nat} (h : Gd M n bef done is cs) (hd : ∀ j, j ∈ done ↔ j < m) : Gr M n m bef is cs where
  len := h.len
  rows := h.rows
  cols j hj := (hd j).1 (h.cols j hj)
  ne := by
    have := h.ne cs.length (Nat.le_refl _)
    rwa [List.take_length, ← h.len, List.take_length] at this
  dep j hj := by
    obtain ⟨k, hk, hb, hx⟩ := h.dep j ((hd j).2 hj)
    refine ⟨k, hk, hb, ?_⟩
    rcases hx with ⟨l, hl, e⟩ | hx
    · refine ⟨1, by decide, fun t => if t = l then 1 else 0, fun i _ => ?_⟩
      have := sm_unit hl fun t => M i (cs.getD t 0)
      rw [e] at this
      rw [Int.one_mul, ← this]
      exact sm_congr fun t _ => Int.mul_comm _ _
    · refine ⟨mn ((is.take k).map M) (cs.take k), h.ne k hk, fun t => mn ((is.take k).map M) ((cs.take k).set t j), fun i hi => ?_⟩
      have hl := h.len
      have c := cramer (M i) ((is.take k).map M) j (cs.take k) (by simp; omega)
      have z := hx i hi
      rw [mn_snoc M i _ j _ (by simp; omega), List.map_cons] at z
      rw [z, Int.add_zero, Int.mul_comm] at c
      have e : (cs.take k).length = k := by simp; omega
      rw [c, e]
      refine sm_congr fun t ht => ?_
      congr 2
      simp [List.getElem?_take_of_lt ht]
/-- A unimodular change of two rows, up to what is in the lattice. -/
theorem two {m : Nat} {L : (Nat → Int) → Prop} (hL : Sub m L) {u v u' v' s t : Nat → Int} {X Y a b : Int} (e : X * a + Y * b = 1) (hu : ∀ j, j < m → u' j = X * u j + Y * v j + s j) (hv : ∀ j, j < m → v' j = a * v j - b * u j + t j) (hs : L s) (ht : L t) : (L u ∧ L v) ↔ (L u' ∧ L v') := by
  constructor
  · rintro ⟨h1, h2⟩
    exact ⟨hL.congr _ _ hu (hL.add _ _ (hL.add _ _ (hL.mul X _ h1) (hL.mul Y _ h2)) hs), hL.congr _ _ (fun j hj => by rw [hv j hj]; grind) (hL.add _ _ (hL.add _ _ (hL.mul a _ h2) (hL.mul (-b) _ h1)) ht)⟩
  · rintro ⟨h1, h2⟩
    have p1 := hL.add _ _ h1 (hL.mul (-1) _ hs)
    have p2 := hL.add _ _ h2 (hL.mul (-1) _ ht)
    refine ⟨hL.congr _ _ (fun j hj => ?_) (hL.add _ _ (hL.mul a _ p1) (hL.mul (-Y) _ p2)), hL.congr _ _ (fun j hj => ?_) (hL.add _ _ (hL.mul b _ p1) (hL.mul X _ p2))⟩
    · have := hu j hj; have := hv j hj; grind
    · have := hu j hj; have := hv j hj; grind
def unitV (d : Int) (i : Nat) : Nat → Int := fun j => if j = i then d else 0
/-- What has multiples of d alone, and in later columns alone. -/
theorem mults {m i : Nat} {d : Int} {L : (Nat → Int) → Prop} (hL : Sub m L) (hd : ∀ j, i ≤ j → j < m → L (unitV d j)) {s : Nat → Int} (h0 : ∀ j, j < i → s j = 0) (hs : ∀ j, j < m → d ∣ s j) : L s := by
  have h := hL.sum (k := m) (c := fun j => if j < i then 0 else s j / d) (N := fun j => if j < i then (fun _ => 0) else unitV d j) fun j hj => by
    by_cases x : j < i
    · simp only [if_pos x]; exact hL.zero
    · simp only [if_neg x]; exact hd j (by omega) hj
  refine hL.congr _ _ (fun j hj => ?_) h
  have e : sm m (fun t => (if t < i then 0 else s t / d) * (if t < i then (fun _ => 0) else unitV d t) j) = sm m (fun t => (if t = j then 1 else 0) * s t) := by
    refine sm_congr fun t ht => ?_
    by_cases x : t < i
    · simp only [if_pos x]; rw [h0 t x]; simp
    · simp only [if_neg x, unitV]
      by_cases y : j = t
      · subst y; rw [if_pos rfl, if_pos rfl, Int.ediv_mul_cancel (hs j hj), Int.one_mul]
      · rw [if_neg y, if_neg (Ne.symm y)]; simp
  rw [e, sm_unit hj]
end Go.Proofs.Ytmknbgiihhimfaa.D
/- Plain mathematics (no program): triangular lattices that have all multiples of a number: a row is put in, the rows are reduced, the rows that a product divides. -/
namespace Go.Proofs.Ytmknbgiihhimfaa.D
/-- From a row on: triangular, with all multiples of d. -/
structure Tg (h : Mat) (n : Nat) (d : Int) (i : Nat) : Prop where
  up : ∀ k j, i ≤ k → k < n → j < k → h k j = 0
  pos : ∀ k, i ≤ k → k < n → 0 < h k k
  mul : ∀ k, i ≤ k → k < n → ∀ L, Sub n L → (∀ t, k ≤ t → t < n → L (h t)) → L (unitV d k)
theorem Tg.mono {h : Mat} {n : Nat} {d : Int} {i k : Nat} (t : Tg h n d i) (hk : i ≤ k) : Tg h n d k :=
  ⟨fun a j ha => t.up a j (by omega), fun a ha => t.pos a (by omega), fun a ha => t.mul a (by omega)⟩
theorem Tg.congr {h g : Mat} {n : Nat} {d : Int} {i : Nat} (t : Tg h n d i) (e : ∀ k, i ≤ k → k < n → g k = h k) : Tg g n d i :=
  ⟨fun a j ha hn hj => by rw [e a ha hn]; exact t.up a j ha hn hj, fun a ha hn => by rw [e a ha hn]; exact t.pos a ha hn,
   fun a ha hn L hL hx => t.mul a ha hn L hL fun b hb hbn => by rw [← e b (by omega) hbn]; exact hx b hb hbn⟩
theorem Tg.mults {h : Mat} {n : Nat} {d : Int} {i : Nat} (t : Tg h n d i) {L : (Nat → Int) → Prop} (hL : Sub n L) (hx : ∀ k, i ≤ k → k < n → L (h k)) {s : Nat → Int} (h0 : ∀ j, j < i → s j = 0) (hs : ∀ j, j < n → d ∣ s j) : L s :=
  D.mults hL (fun j hj hn => t.mul j hj hn L hL fun b hb hbn => hx b (by omega) hbn) h0 hs
/-- The start: all multiples of d. -/
theorem Tg.start {n : Nat} {d : Int} (hd : 0 < d) : Tg (fun i => unitV d i) n d 0 where
  up k j _ _ hj := by simp [unitV]; omega
  pos k _ _ := by simp [unitV]; exact hd
  mul k _ hk L _ hx := hx k (Nat.le_refl _) hk
/-- A row without its first elements. -/
def cut (i : Nat) (v : Nat → Int) : Nat → Int := fun j => if j < i then 0 else v j
def upd (h : Mat) (i : Nat) (u : Nat → Int) : Mat := fun k => if k = i then u else h k
/-- A row is put in, from a column on. -/
inductive Ins (d : Int) (n : Nat) : Nat → Mat → (Nat → Int) → Mat → Prop
  | done {h : Mat} {v : Nat → Int} : Ins d n n h v h
  | skip {i : Nat} {h h' : Mat} {v v' : Nat → Int} : i < n → d ∣ v i → (∀ j, i < j → j < n → v' j = v j) → Ins d n (i + 1) h v' h' → Ins d n i h v h'
  | step {i : Nat} {h h' : Mat} {v v' u : Nat → Int} (x G X Y a b : Int) : i < n → d ∣ v i - x → X * h i i + Y * x = G → 0 < G → h i i = a * G → x = b * G →
      (∀ j, j < i → u j = 0) → u i = G → (∀ j, i < j → j < n → d ∣ u j - (X * h i j + Y * v j)) → (∀ j, i < j → j < n → d ∣ v' j - (a * v j - b * h i j)) →
      Ins d n (i + 1) (upd h i u) v' h' → Ins d n i h v h'
theorem Ins.spec {d : Int} {n i : Nat} {h h' : Mat} {v : Nat → Int} (t : Ins d n i h v h') (hT : Tg h n d i) : (∀ k, k < i → h' k = h k) ∧ Tg h' n d i ∧ ∀ L, Sub n L → (((∀ k, i ≤ k → k < n → L (h k)) ∧ L (cut i v)) ↔ ∀ k, i ≤ k → k < n → L (h' k)) := by
  induction t with
  | @done h v =>
    refine ⟨fun _ _ => rfl, hT, fun L hL => ⟨fun x => x.1, fun x => ⟨x, hL.congr _ _ (fun j hj => ?_) hL.zero⟩⟩⟩
    simp [cut, hj]
  | @skip i h h' v v' hi hd hv _ ih =>
    obtain ⟨h1, h2, h3⟩ := ih (hT.mono (by omega))
    have key : ∀ L, Sub n L → (((∀ k, i ≤ k → k < n → L (h k)) ∧ L (cut i v)) ↔ ∀ k, i ≤ k → k < n → L (h' k)) := by
      intro L hL
      have e : (∀ k, i ≤ k → k < n → L (h k)) → (L (cut i v) ↔ L (cut (i + 1) v')) := by
        intro hx
        have hs : L (fun j => if j = i then v i else 0) := hT.mults hL hx (fun j hj => by simp; omega) fun j _ => by
          by_cases y : j = i
          · simp only [if_pos y]; exact hd
          · simp only [if_neg y]; exact Int.dvd_zero _
        constructor
        · intro y
          refine hL.congr _ _ (fun j hj => ?_) (hL.add _ _ y (hL.mul (-1) _ hs))
          by_cases a : j < i
          · simp [cut, a, show j < i + 1 by omega, show ¬ j = i by omega]
          · by_cases b : j = i
            · subst b; simp [cut]; omega
            · simp [cut, a, b, show ¬ j < i + 1 by omega, hv j (by omega) hj]
        · intro y
          refine hL.congr _ _ (fun j hj => ?_) (hL.add _ _ y hs)
          by_cases a : j < i
          · simp [cut, a, show j < i + 1 by omega, show ¬ j = i by omega]
          · by_cases b : j = i
            · subst b; simp [cut]
            · simp [cut, a, b, show ¬ j < i + 1 by omega, hv j (by omega) hj]
      constructor
      · rintro ⟨x, y⟩ k hk hn
        rcases Nat.lt_or_eq_of_le hk with z | z
        · exact (h3 L hL).1 ⟨fun k hk => x k (by omega), (e x).1 y⟩ k z hn
        · subst z; rw [h1 i (by omega)]; exact x i (Nat.le_refl _) hn
      · intro x
        have y := (h3 L hL).2 fun k hk hn => x k (by omega) hn
        have xi : ∀ k, i ≤ k → k < n → L (h k) := fun k hk hn => by
          rcases Nat.lt_or_eq_of_le hk with z | z
          · exact y.1 k z hn
          · subst z; rw [← h1 i (by omega)]; exact x i (Nat.le_refl _) hn
        exact ⟨xi, (e xi).2 y.2⟩
    refine ⟨fun k hk => h1 k (by omega), ⟨fun k j hk hn hj => ?_, fun k hk hn => ?_, fun k hk hn L hL hx => ?_⟩, key⟩
    · rcases Nat.lt_or_eq_of_le hk with z | z
      · exact h2.up k j z hn hj
      · subst z; rw [h1 i (by omega)]; exact hT.up i j (Nat.le_refl _) hn hj
    · rcases Nat.lt_or_eq_of_le hk with z | z
      · exact h2.pos k z hn
      · subst z; rw [h1 i (by omega)]; exact hT.pos i (Nat.le_refl _) hn
    · rcases Nat.lt_or_eq_of_le hk with z | z
      · exact h2.mul k z hn L hL hx
      · subst z; exact hT.mul i (Nat.le_refl _) hn L hL ((key L hL).2 hx).1
  | @step i h h' v v' u x G X Y a b hi hx hG hG0 ha hb hu0 hui hu hv _ ih =>
    have hT2 : Tg (upd h i u) n d (i + 1) := (hT.mono (by omega)).congr fun k hk _ => by simp [upd, show ¬ k = i by omega]
    obtain ⟨h1, h2, h3⟩ := ih hT2
    have hi' : h' i = u := by rw [h1 i (by omega)]; simp [upd]
    have hup : ∀ k, i < k → upd h i u k = h k := fun k hk => by simp [upd, show ¬ k = i by omega]
    have hXY : X * a + Y * b = 1 := by
      have : (X * a + Y * b) * G = 1 * G := by rw [ha, hb] at hG; grind
      exact Int.eq_of_mul_eq_mul_right (by omega) this
    have e : ∀ L, Sub n L → (∀ k, i < k → k < n → L (h k)) → ((L (h i) ∧ L (cut i v)) ↔ (L u ∧ L (cut (i + 1) v'))) := by
      intro L hL hr
      have hm : ∀ s : Nat → Int, (∀ j, j < i + 1 → s j = 0) → (∀ j, j < n → d ∣ s j) → L s := fun s h0 hs => (hT.mono (by omega)).mults hL (fun k hk hn => hr k hk hn) h0 hs
      -- first the element of the column, up to multiples of d
      have eq1 : (L (h i) ∧ L (cut i v)) ↔ (L (h i) ∧ L (fun j => if j < i then 0 else if j = i then x else v j)) := by
        have hs : L (h i) → L (fun j => if j = i then v i - x else 0) := fun hhi => hT.mults hL (fun k hk hn => by
          rcases Nat.lt_or_eq_of_le hk with z | z
          · exact hr k z hn
          · subst z; exact hhi) (fun j hj => by simp; omega) fun j _ => by
            by_cases y : j = i
            · simp only [if_pos y]; exact hx
            · simp only [if_neg y]; exact Int.dvd_zero _
        constructor
        · rintro ⟨p, q⟩
          refine ⟨p, hL.congr _ _ (fun j hj => ?_) (hL.add _ _ q (hL.mul (-1) _ (hs p)))⟩
          by_cases a : j < i
          · simp [cut, a, show ¬ j = i by omega]
          · by_cases b : j = i
            · subst b; simp [cut]; omega
            · simp [cut, a, b]
        · rintro ⟨p, q⟩
          refine ⟨p, hL.congr _ _ (fun j hj => ?_) (hL.add _ _ q (hs p))⟩
          by_cases a : j < i
          · simp [cut, a, show ¬ j = i by omega]
          · by_cases b : j = i
            · subst b; simp [cut]; omega
            · simp [cut, a, b]
      rw [eq1]
      refine two hL (s := fun j => if j ≤ i then 0 else u j - (X * h i j + Y * v j)) (t := fun j => if j ≤ i then 0 else v' j - (a * v j - b * h i j)) hXY (fun j hj => ?_) (fun j hj => ?_) (hm _ (fun j hj => by simp; omega) fun j hj => ?_) (hm _ (fun j hj => by simp; omega) fun j hj => ?_)
      · by_cases a1 : j < i
        · simp only [if_pos a1, if_pos (show j ≤ i by omega)]
          rw [hu0 j a1, hT.up i j (Nat.le_refl _) hi a1]; simp
        · by_cases b1 : j = i
          · subst b1; simp only [if_neg a1, if_true, Nat.le_refl]; rw [hui]; omega
          · simp only [if_neg a1, if_neg b1, if_neg (show ¬ j ≤ i by omega)]; omega
      · by_cases a1 : j < i
        · simp only [cut, if_pos a1, if_pos (show j ≤ i by omega), if_pos (show j < i + 1 by omega)]
          rw [hT.up i j (Nat.le_refl _) hi a1]; simp
        · by_cases b1 : j = i
          · subst b1; simp only [cut, if_neg a1, if_true, Nat.le_refl, if_pos (show j < j + 1 by omega)]; rw [ha, hb]; grind
          · simp only [cut, if_neg a1, if_neg b1, if_neg (show ¬ j ≤ i by omega), if_neg (show ¬ j < i + 1 by omega)]; omega
      · by_cases a1 : j ≤ i
        · simp only [if_pos a1]; exact Int.dvd_zero _
        · simp only [if_neg a1]; exact hu j (by omega) hj
      · by_cases a1 : j ≤ i
        · simp only [if_pos a1]; exact Int.dvd_zero _
        · simp only [if_neg a1]; exact hv j (by omega) hj
    have key : ∀ L, Sub n L → (((∀ k, i ≤ k → k < n → L (h k)) ∧ L (cut i v)) ↔ ∀ k, i ≤ k → k < n → L (h' k)) := by
      intro L hL
      constructor
      · rintro ⟨p, q⟩ k hk hn
        have pr : ∀ k, i < k → k < n → L (h k) := fun k hk => p k (by omega)
        have := (e L hL pr).1 ⟨p i (Nat.le_refl _) hi, q⟩
        rcases Nat.lt_or_eq_of_le hk with z | z
        · exact (h3 L hL).1 ⟨fun k hk hn => by rw [hup k hk]; exact pr k hk hn, this.2⟩ k z hn
        · subst z; rw [hi']; exact this.1
      · intro p
        have q := (h3 L hL).2 fun k hk hn => p k (by omega) hn
        have pr : ∀ k, i < k → k < n → L (h k) := fun k hk hn => by rw [← hup k hk]; exact q.1 k hk hn
        have hui' : L u := by rw [← hi']; exact p i (Nat.le_refl _) hi
        have := (e L hL pr).2 ⟨hui', q.2⟩
        exact ⟨fun k hk hn => by
          rcases Nat.lt_or_eq_of_le hk with z | z
          · exact pr k z hn
          · subst z; exact this.1, this.2⟩
    refine ⟨fun k hk => by rw [h1 k (by omega)]; simp [upd, show ¬ k = i by omega], ⟨fun k j hk hn hj => ?_, fun k hk hn => ?_, fun k hk hn L hL hx => ?_⟩, key⟩
    · rcases Nat.lt_or_eq_of_le hk with z | z
      · exact h2.up k j z hn hj
      · subst z; rw [hi']; exact hu0 j hj
    · rcases Nat.lt_or_eq_of_le hk with z | z
      · exact h2.pos k z hn
      · subst z; rw [hi', hui]; exact hG0
    · rcases Nat.lt_or_eq_of_le hk with z | z
      · exact h2.mul k z hn L hL hx
      · subst z; exact hT.mul i (Nat.le_refl _) hn L hL ((key L hL).2 hx).1
/-- A row of a triangular lattice that is 0 in the first columns is made of the later rows. -/
theorem Tg.tail {h : Mat} {n : Nat} {d : Int} (t : Tg h n d 0) (i : Nat) {c : Nat → Int} (hi : i ≤ n) (h0 : ∀ j, j < i → sm n (fun k => c k * h k j) = 0) : ∀ k, k < i → c k = 0 := by
  intro k hk
  induction k using Nat.strongRecOn with
  | ind k ih =>
    have h1 := h0 k hk
    have e : sm n (fun t => c t * h t k) = sm n (fun t => (if t = k then 1 else 0) * (c k * h k k)) := by
      refine sm_congr fun s hs => ?_
      rcases Nat.lt_trichotomy s k with x | x | x
      · rw [ih s x (by omega), if_neg (by omega)]; simp
      · subst x; rw [if_pos rfl, Int.one_mul]
      · rw [t.up s k (by omega) hs x, if_neg (by omega)]; simp
    rw [e, sm_unit (by omega) fun _ => c k * h k k] at h1
    have := t.pos k (by omega) (by omega)
    rcases Int.mul_eq_zero.1 h1 with x | x
    · exact x
    · omega
end Go.Proofs.Ytmknbgiihhimfaa.D
/- Plain mathematics (no program): the rows of a triangular lattice are reduced; the rows whose product with a given one a number divides. -/
namespace Go.Proofs.Ytmknbgiihhimfaa.D
/-- A row is reduced by later rows. -/
inductive Rw (d : Int) (n : Nat) (h : Mat) : Nat → (Nat → Int) → (Nat → Int) → Prop
  | done {u : Nat → Int} : Rw d n h n u u
  | step {k : Nat} {u u1 u' : Nat → Int} (q : Int) : k < n → (∀ j, j < k → u1 j = u j) → u1 k = u k - q * h k k → 0 ≤ u1 k → u1 k < h k k → (∀ j, k < j → j < n → d ∣ u1 j - (u j - q * h k j)) → Rw d n h (k + 1) u1 u' → Rw d n h k u u'
theorem Rw.spec {d : Int} {n k : Nat} {h : Mat} {u u' : Nat → Int} (r : Rw d n h k u u') (hT : Tg h n d k) : (∀ j, j < k → u' j = u j) ∧ (∀ j, k ≤ j → j < n → 0 ≤ u' j ∧ u' j < h j j) ∧ ∀ L, Sub n L → (∀ t, k ≤ t → t < n → L (h t)) → (L u ↔ L u') := by
  induction r with
  | done => exact ⟨fun _ _ => rfl, fun j hj hn => by omega, fun L _ _ => Iff.rfl⟩
  | @step k u u1 u' q hk h0 h1 h2 h3 h4 _ ih =>
    obtain ⟨i1, i2, i3⟩ := ih (hT.mono (by omega))
    refine ⟨fun j hj => by rw [i1 j (by omega), h0 j hj], fun j hj hn => ?_, fun L hL hx => ?_⟩
    · rcases Nat.lt_or_eq_of_le hj with z | z
      · exact i2 j z hn
      · subst z; rw [i1 k (by omega)]; exact ⟨h2, h3⟩
    · rw [← i3 L hL fun t ht hn => hx t (by omega) hn]
      have hs : L (fun j => if j ≤ k then 0 else u1 j - (u j - q * h k j)) := (hT.mono (Nat.le_succ k)).mults hL (fun t ht hn => hx t (by omega) hn) (fun j hj => by simp; omega) fun j hj => by
        by_cases y : j ≤ k
        · simp only [if_pos y]; exact Int.dvd_zero _
        · simp only [if_neg y]; exact h4 j (by omega) hj
      have hw := hx k (Nat.le_refl _) hk
      have e : ∀ j, j < n → u1 j = u j - q * h k j + if j ≤ k then 0 else u1 j - (u j - q * h k j) := by
        intro j _
        by_cases y : j ≤ k
        · rw [if_pos y]
          rcases Nat.lt_or_eq_of_le y with z | z
          · rw [h0 j z, hT.up k j (Nat.le_refl _) hk z]; simp
          · subst z; rw [h1]; simp
        · rw [if_neg y]; omega
      constructor
      · intro p
        exact hL.congr _ _ (fun j hj => by rw [e j hj]; grind) (hL.add _ _ (hL.add _ _ p (hL.mul (-q) _ hw)) hs)
      · intro p
        exact hL.congr _ _ (fun j hj => by have := e j hj; grind) (hL.add _ _ (hL.add _ _ p (hL.mul q _ hw)) (hL.mul (-1) _ hs))
/-- All rows are reduced: Hermite form. -/
theorem reduced {d : Int} {n : Nat} {h h' : Mat} (hT : Tg h n d 0) (hr : ∀ i, i < n → Rw d n h' (i + 1) (h i) (h' i)) : Hf h' n n id ∧ Tg h' n d 0 ∧ ∀ L, Sub n L → ((∀ k, k < n → L (h k)) ↔ ∀ k, k < n → L (h' k)) := by
  have aux : ∀ m, m ≤ n → Tg h' n d (n - m) ∧ (∀ L, Sub n L → ((∀ k, n - m ≤ k → k < n → L (h k)) ↔ ∀ k, n - m ≤ k → k < n → L (h' k))) ∧ (∀ i k, n - m ≤ i → i < k → k < n → 0 ≤ h' i k ∧ h' i k < h' k k) := by
    intro m
    induction m with
    | zero => intro _; exact ⟨⟨fun k j hk hn => by omega, fun k hk hn => by omega, fun k hk hn => by exfalso; omega⟩, fun L _ => ⟨fun _ k hk hn => by omega, fun _ k hk hn => by omega⟩, fun i k hi hk hn => by omega⟩
    | succ m ih =>
      intro hm
      obtain ⟨t, e, b⟩ := ih (by omega)
      have hi : n - m = n - (m + 1) + 1 := by omega
      rw [hi] at t e b
      obtain ⟨i, hii⟩ : ∃ i, i = n - (m + 1) := ⟨_, rfl⟩
      rw [← hii] at t e b ⊢
      have hin : i < n := by omega
      obtain ⟨r1, r2, r3⟩ := (hr i hin).spec t
      have e' : ∀ L, Sub n L → ((∀ k, i ≤ k → k < n → L (h k)) ↔ ∀ k, i ≤ k → k < n → L (h' k)) := by
        intro L hL
        constructor
        · intro x k hk hn
          have y := (e L hL).1 fun k hk hn => x k (by omega) hn
          rcases Nat.lt_or_eq_of_le hk with z | z
          · exact y k z hn
          · rw [← z]; exact (r3 L hL y).1 (x i (Nat.le_refl _) hin)
        · intro x k hk hn
          have y := (e L hL).2 fun k hk hn => x k (by omega) hn
          rcases Nat.lt_or_eq_of_le hk with z | z
          · exact y k z hn
          · rw [← z]; exact (r3 L hL fun k hk hn => x k (by omega) hn).2 (x i (Nat.le_refl _) hin)
      refine ⟨⟨fun k j hk hn hj => ?_, fun k hk hn => ?_, fun k hk hn L hL hx => ?_⟩, e', fun a k ha hk hn => ?_⟩
      · rcases Nat.lt_or_eq_of_le hk with z | z
        · exact t.up k j z hn hj
        · rw [← z, r1 j (by omega)]; exact hT.up i j (by omega) hin (by omega)
      · rcases Nat.lt_or_eq_of_le hk with z | z
        · exact t.pos k z hn
        · rw [← z, r1 i (by omega)]; exact hT.pos i (by omega) hin
      · rcases Nat.lt_or_eq_of_le hk with z | z
        · exact t.mul k z hn L hL hx
        · rw [← z] at hx ⊢; exact hT.mul i (by omega) hin L hL ((e' L hL).2 hx)
      · rcases Nat.lt_or_eq_of_le ha with z | z
        · exact b a k z hk hn
        · rw [← z]; exact r2 k (by omega) hn
  obtain ⟨t, e, b⟩ := aux n (Nat.le_refl _)
  rw [Nat.sub_self] at t e b
  refine ⟨⟨fun k hk => hk, fun i k hi _ => hi, fun k hk => t.pos k (by omega) hk, fun k j hk hj => t.up k j (by omega) hk hj, fun i k hi hk => b i k (by omega) hi hk⟩, t, fun L hL => ?_⟩
  have := e L hL
  exact ⟨fun x k hk => this.1 (fun k _ hk => x k hk) k (by omega) hk, fun x k hk => this.2 (fun k _ hk => x k hk) k (by omega) hk⟩
/-- Rows are put in, one after another. -/
inductive Inss (d : Int) (n : Nat) (B : Mat) : Nat → Mat → Prop
  | zero : Inss d n B 0 (fun i => unitV d i)
  | succ {k : Nat} {h h' : Mat} : Inss d n B k h → Ins d n 0 h (B k) h' → Inss d n B (k + 1) h'
theorem Inss.spec {d : Int} {n k : Nat} {B h : Mat} (hd : 0 < d) (t : Inss d n B k h) : Tg h n d 0 ∧ ∀ L, Sub n L → (((∀ i, i < n → L (unitV d i)) ∧ ∀ i, i < k → L (B i)) ↔ ∀ i, i < n → L (h i)) := by
  induction t with
  | zero => exact ⟨Tg.start hd, fun L _ => ⟨fun x => x.1, fun x => ⟨x, fun i hi => by omega⟩⟩⟩
  | @succ k h h' _ hi ih =>
    obtain ⟨t, e⟩ := ih
    obtain ⟨_, t', e'⟩ := hi.spec t
    refine ⟨t', fun L hL => ?_⟩
    have c : L (cut 0 (B k)) ↔ L (B k) := ⟨hL.congr _ _ fun j _ => by simp [cut], hL.congr _ _ fun j _ => by simp [cut]⟩
    have h1 := e L hL
    have h2 := e' L hL
    rw [c] at h2
    constructor
    · rintro ⟨x, y⟩ i hin
      exact h2.1 ⟨fun k _ hk => h1.1 ⟨x, fun i hi => y i (by omega)⟩ k hk, y k (by omega)⟩ i (by omega) hin
    · intro x
      obtain ⟨p, q⟩ := h2.2 fun i _ hi => x i hi
      obtain ⟨r, s⟩ := h1.2 fun i hi => p i (by omega) hi
      refine ⟨r, fun i hi => ?_⟩
      rcases Nat.lt_or_eq_of_le (Nat.le_of_lt_succ hi) with z | z
      · exact s i z
      · subst z; exact q
/-- The rows of a lattice whose product with c is divisible by d. -/
theorem divisible {d : Int} {n : Nat} {b B h h' : Mat} {c : Nat → Int} (hd : 0 < d) (hb : ∀ x : Nat → Int, Sp b n n (fun j => d * x j))
    (hB : ∀ i, i < n → d ∣ B i 0 - sm n (fun j => c j * b i j)) (hB' : ∀ i j, i < n → j < n → B i (j + 1) = b i j)
    (hi : Inss d (n + 1) B n h) (hr : ∀ i, i < n + 1 → Rw d (n + 1) h' (i + 1) (h i) (h' i)) :
    Hf (fun i j => h' (i + 1) (j + 1)) n n id ∧ ∀ x, Sp (fun i j => h' (i + 1) (j + 1)) n n x ↔ Sp b n n x ∧ d ∣ sm n (fun j => c j * x j) := by
  obtain ⟨t, e⟩ := hi.spec hd
  obtain ⟨hf, t', e'⟩ := reduced t hr
  refine ⟨⟨fun k hk => hk, fun i k hi _ => hi, fun k hk => hf.pos (k + 1) (by omega), fun k j hk hj => hf.left (k + 1) (j + 1) (by omega) (by simp only [id] at *; omega), fun i k hi hk => hf.red (i + 1) (k + 1) (by omega) (by omega)⟩, fun x => ⟨fun hx => ?_, fun hx => ?_⟩⟩
  · -- the lattice of the rows with the product
    have hL : Sub (n + 1) (fun v => Sp b n n (fun j => v (j + 1)) ∧ d ∣ v 0 - sm n (fun j => c j * v (j + 1))) := by
      refine ⟨⟨Sp.zero, ?_⟩, fun u v hu hv => ⟨hu.1.add hv.1, ?_⟩, fun a u hu => ⟨hu.1.mul a, ?_⟩, fun u v h hu => ⟨hu.1.congr fun j hj => h (j + 1) (by omega), ?_⟩⟩
      · rw [sm_congr (g := fun _ => 0) fun j _ => by simp, sm_zero]; exact Int.dvd_zero _
      · have : u 0 + v 0 - sm n (fun j => c j * (u (j + 1) + v (j + 1))) = (u 0 - sm n (fun j => c j * u (j + 1))) + (v 0 - sm n (fun j => c j * v (j + 1))) := by
          rw [sm_congr (g := fun j => c j * u (j + 1) + c j * v (j + 1)) fun j _ => Int.mul_add _ _ _, sm_add]; omega
        show d ∣ u 0 + v 0 - sm n (fun j => c j * (u (j + 1) + v (j + 1)))
        rw [this]; exact Int.dvd_add hu.2 hv.2
      · have : a * u 0 - sm n (fun j => c j * (a * u (j + 1))) = a * (u 0 - sm n (fun j => c j * u (j + 1))) := by
          rw [sm_congr (g := fun j => a * (c j * u (j + 1))) fun j _ => by grind, sm_mul, Int.mul_sub]
        show d ∣ a * u 0 - sm n (fun j => c j * (a * u (j + 1)))
        rw [this]; exact Int.dvd_mul_of_dvd_right hu.2
      · rw [h 0 (by omega), sm_congr (g := fun j => c j * u (j + 1)) fun j hj => by rw [h (j + 1) (by omega)]]; exact hu.2
    have h1 : ∀ i, i < n + 1 → Sp b n n (fun j => h' i (j + 1)) ∧ d ∣ h' i 0 - sm n (fun j => c j * h' i (j + 1)) := by
      refine (e' _ hL).1 ((e _ hL).1 ⟨fun i hi => ?_, fun i hi => ?_⟩)
      · cases i with
        | zero => exact ⟨Sp.zero.congr fun j _ => by simp [unitV], by
            rw [sm_congr (g := fun _ => 0) fun j _ => by simp [unitV], sm_zero]; simp [unitV]⟩
        | succ i =>
          refine ⟨(hb fun j => if j = i then 1 else 0).congr fun j _ => ?_, ?_⟩
          · by_cases x : j = i
            · subst x; simp [unitV]
            · simp [unitV, x]
          · have e1 : unitV d (i + 1) 0 = 0 := by simp [unitV]
            rw [e1]
            refine Int.dvd_sub (Int.dvd_zero _) (sm_dvd fun j _ => ?_)
            by_cases x : j = i
            · subst x; simp only [unitV, if_true]; exact Int.dvd_mul_left _ _
            · simp [unitV, x]
      · refine ⟨(Sp.unit hi).congr fun j hj => hB' i j hi hj, ?_⟩
        rw [sm_congr (g := fun j => c j * b i j) fun j hj => by rw [hB' i j hi hj]]
        exact hB i hi
    have h2 := hL.of_sp (M := fun i => h' (i + 1)) (n := n) (v := fun j => match j with | 0 => 0 | j + 1 => x j) (by
      obtain ⟨w, hw⟩ := hx
      refine ⟨w, fun j hj => ?_⟩
      cases j with
      | zero =>
        rw [sm_congr (g := fun _ => 0) fun t ht => ?_, sm_zero]
        show w t * h' (t + 1) 0 = 0
        rw [hf.left (t + 1) 0 (by omega) (by simp [id]), Int.mul_zero]
      | succ j => exact hw j (by omega)) fun i hi => h1 (i + 1) (by omega)
    refine ⟨h2.1, ?_⟩
    have h3 : d ∣ 0 - sm n (fun j => c j * x j) := h2.2
    have h4 := Int.dvd_sub (Int.dvd_zero d) h3
    have h5 : 0 - (0 - sm n (fun j => c j * x j)) = sm n (fun j => c j * x j) := by omega
    rwa [h5] at h4
  · obtain ⟨hx1, hx2⟩ := hx
    obtain ⟨w, hw⟩ := hx1
    have hS := Sub.sp h' (n + 1) (n + 1)
    have hall := (e _ hS).2 ((e' _ hS).2 fun k hk => Sp.unit hk)
    -- the sum of the rows that were put in
    have hsum : Sp h' (n + 1) (n + 1) (fun j => sm n (fun t => w t * B t j)) := hS.sum hall.2
    have hz : d ∣ sm n (fun t => w t * B t 0) := by
      have e1 : sm n (fun t => w t * B t 0) = sm n (fun t => w t * (B t 0 - sm n (fun j => c j * b t j))) + sm n (fun j => c j * x j) := by
        have e2 : sm n (fun j => c j * x j) = sm n (fun t => w t * sm n (fun j => c j * b t j)) := by
          rw [sm_congr (g := fun j => sm n (fun t => c j * (w t * b t j))) fun j hj => by rw [hw j hj, sm_mul], sm_comm]
          exact sm_congr fun t _ => by rw [← sm_mul]; exact sm_congr fun j _ => by grind
        rw [e2, ← sm_add]; exact sm_congr fun t _ => by grind
      rw [e1]
      exact Int.dvd_add (sm_dvd fun t ht => Int.dvd_mul_of_dvd_right (hB t ht)) hx2
    obtain ⟨q, hq⟩ := hz
    have hv : Sp h' (n + 1) (n + 1) (fun j => match j with | 0 => 0 | j + 1 => x j) := by
      refine (hsum.add ((hall.1 0 (by omega)).mul (-q))).congr fun j hj => ?_
      cases j with
      | zero => show 0 = sm n (fun t => w t * B t 0) + -q * unitV d 0 0
                rw [hq]; simp only [unitV, if_true]; grind
      | succ j =>
        show x j = sm n (fun t => w t * B t (j + 1)) + -q * unitV d 0 (j + 1)
        have e3 : sm n (fun t => w t * B t (j + 1)) = sm n (fun t => w t * b t j) := sm_congr fun t ht => by rw [hB' t j ht (by omega)]
        rw [hw j (by omega), e3]; simp [unitV]
    obtain ⟨y, hy⟩ := hv
    have y0 := t'.tail 1 (c := y) (by omega) (fun j hj => by
      have : j = 0 := by omega
      subst this; exact (hy 0 (by omega)).symm) 0 (by omega)
    refine ⟨fun t => y (t + 1), fun j hj => ?_⟩
    have h3 : x j = sm (n + 1) (fun t => y t * h' t (j + 1)) := hy (j + 1) (by omega)
    rw [h3, sm_front, y0]; simp
end Go.Proofs.Ytmknbgiihhimfaa.D
/- Plain mathematics (no program): the rows that are orthogonal to a matrix, from their elements in the columns that were not chosen. -/
namespace Go.Proofs.Ytmknbgiihhimfaa.D
theorem mn_set (us : List (Nat → Int)) {cs : List Nat} {k : Nat} (hk : k < cs.length) (j : Nat) (hu : us.length = cs.length) : mn us (cs.set k j) = sg k * mn us (j :: cs.eraseIdx k) := by
  rw [List.set_eq_take_append_cons_drop, if_pos hk, List.eraseIdx_eq_take_drop_succ, mn_moveC us j _ _ (by simp; omega), ← Int.mul_assoc]
  have : (cs.take k).length = k := by simp; omega
  rw [this, sg_sq, Int.one_mul]
theorem getD_set_self {cs : List Nat} {k : Nat} : cs.set k (cs.getD k 0) = cs := by
  apply List.ext_getElem
  · simp
  · intro i h1 h2
    rw [List.getElem_set]
    split
    · rename_i e; subst e; simp [List.getElem?_eq_getElem h2]
    · rfl
theorem nodup_inj {l : List Nat} (h : l.Nodup) {i j : Nat} (hi : i < l.length) (hj : j < l.length) (e : l[i] = l[j]) : i = j := by
  have hp := List.pairwise_iff_getElem.1 h
  rcases Nat.lt_trichotomy i j with x | x | x
  · exact absurd e (hp i j hi hj x)
  · exact x
  · exact absurd e.symm (hp j i hj hi x)
theorem getD_at {l : List Nat} {i : Nat} (hi : i < l.length) : l.getD i 0 = l[i] := by
  rw [List.getD_eq_getElem?_getD, List.getElem?_eq_getElem hi]; rfl
theorem getD_inj {cs : List Nat} (h : cs.Nodup) {k l : Nat} (hk : k < cs.length) (hl : l < cs.length) (e : cs.getD k 0 = cs.getD l 0) : k = l := by
  rw [getD_at hk, getD_at hl] at e
  exact nodup_inj h hk hl e
/-- A column that comes twice. -/
theorem mn_set_dup {us : List (Nat → Int)} {cs : List Nat} {k l : Nat} (hk : k < cs.length) (hl : l < cs.length) (hkl : k ≠ l) (hu : us.length = cs.length) : mn us (cs.set k (cs.getD l 0)) = 0 := by
  refine mn_cols_dup (fun x => ?_) us (by simpa using hu)
  have h1 : (cs.set k (cs.getD l 0))[k]'(by simpa using hk) = cs.getD l 0 := by simp
  have h2 : (cs.set k (cs.getD l 0))[l]'(by simpa using hl) = cs.getD l 0 := by
    rw [List.getElem_set_ne hkl]; exact (getD_at hl).symm
  exact hkl (nodup_inj x _ _ (h1.trans h2.symm))
/-- The sum over all columns, by those that were chosen and the others. -/
theorem sm_split {m : Nat} {cs : List Nat} (hc : cs.Nodup) (hm : ∀ j ∈ cs, j < m) (f : Nat → Int) : sm m f = sm cs.length (fun k => f (cs.getD k 0)) + sm (rest m cs).length (fun t => f ((rest m cs).getD t 0)) := by
  rw [← sl_range, sl_perm (rest_perm hc hm), sl_append, sl_sm, sl_sm]
/-- What is orthogonal to the rows follows from its elements in the other columns. -/
theorem ker_col {M : Mat} {m : Nat} {is cs : List Nat} (hl : is.length = cs.length) (hc : cs.Nodup) (hm : ∀ j ∈ cs, j < m) {y : Nat → Int} (h0 : ∀ i ∈ is, dot m (M i) y = 0) {k : Nat} (hk : k < cs.length) : mn (is.map M) cs * y (cs.getD k 0) + sm (rest m cs).length (fun t => y ((rest m cs).getD t 0) * mn (is.map M) (cs.set k ((rest m cs).getD t 0))) = 0 := by
  have h1 : sm m (fun j => mn (is.map M) (cs.set k j) * y j) = 0 := by
    have hd := dot_minor M m y is (cs.eraseIdx k) (by rw [List.length_eraseIdx]; simp [hk]; omega) h0
    rw [sm_congr (g := fun j => sg k * (mn (is.map M) (j :: cs.eraseIdx k) * y j)) fun j _ => by rw [mn_set _ hk j (by simpa using hl), Int.mul_assoc], sm_mul, hd, Int.mul_zero]
  rw [sm_split hc hm] at h1
  have h2 : sm cs.length (fun l => mn (is.map M) (cs.set k (cs.getD l 0)) * y (cs.getD l 0)) = mn (is.map M) cs * y (cs.getD k 0) := by
    have := sm_unit hk fun l => mn (is.map M) cs * y (cs.getD l 0)
    rw [← this]
    refine sm_congr fun l hl' => ?_
    by_cases x : l = k
    · subst x; rw [getD_set_self, if_pos rfl, Int.one_mul]
    · rw [mn_set_dup hk hl' (Ne.symm x) (by simpa using hl), if_neg x]; simp
  rw [h2, sm_congr (g := fun t => y ((rest m cs).getD t 0) * mn (is.map M) (cs.set k ((rest m cs).getD t 0))) fun t _ => Int.mul_comm _ _] at h1
  exact h1
theorem rest_rising (m : Nat) (cs : List Nat) : (rest m cs).Pairwise (· < ·) := List.Pairwise.filter _ List.pairwise_lt_range
theorem rest_lt {m : Nat} {cs : List Nat} {i k : Nat} (hik : i < k) (hk : k < (rest m cs).length) : (rest m cs).getD i 0 < (rest m cs).getD k 0 := by
  rw [getD_at hk, getD_at (by omega)]
  exact List.pairwise_iff_getElem.1 (rest_rising m cs) i k (by omega) hk hik
theorem getD_of_mem {l : List Nat} {x : Nat} (h : x ∈ l) : ∃ k, k < l.length ∧ l.getD k 0 = x := by
  obtain ⟨k, hk, e⟩ := List.getElem_of_mem h
  exact ⟨k, hk, by rw [getD_at hk]; exact e⟩
/-- Conversely, what follows from its elements in the other columns is orthogonal to all rows. -/
theorem Gr.ker {M : Mat} {n m : Nat} {bef : Nat → Nat → Prop} {is cs : List Nat} (h : Gr M n m bef is cs) (hc : cs.Nodup) {y : Nat → Int} (hy : ∀ k, k < cs.length → mn (is.map M) cs * y (cs.getD k 0) + sm (rest m cs).length (fun t => y ((rest m cs).getD t 0) * mn (is.map M) (cs.set k ((rest m cs).getD t 0))) = 0) {i : Nat} (hi : i < n) : dot m (M i) y = 0 := by
  have e : mn (is.map M) cs * dot m (M i) y = 0 := by
    unfold dot
    rw [sm_split hc h.cols, Int.mul_add, ← sm_mul, ← sm_mul]
    -- the chosen columns by the others
    have e1 : sm cs.length (fun k => mn (is.map M) cs * (M i (cs.getD k 0) * y (cs.getD k 0))) = sm cs.length (fun k => - sm (rest m cs).length (fun t => y ((rest m cs).getD t 0) * (M i (cs.getD k 0) * mn (is.map M) (cs.set k ((rest m cs).getD t 0))))) := by
      refine sm_congr fun k hk => ?_
      have := hy k hk
      have e2 : sm (rest m cs).length (fun t => y ((rest m cs).getD t 0) * (M i (cs.getD k 0) * mn (is.map M) (cs.set k ((rest m cs).getD t 0)))) = M i (cs.getD k 0) * sm (rest m cs).length (fun t => y ((rest m cs).getD t 0) * mn (is.map M) (cs.set k ((rest m cs).getD t 0))) := by
        rw [← sm_mul]; exact sm_congr fun t _ => by grind
      rw [e2]; grind
    have e3 : sm (rest m cs).length (fun t => mn (is.map M) cs * (M i ((rest m cs).getD t 0) * y ((rest m cs).getD t 0))) = sm (rest m cs).length (fun t => sm cs.length (fun k => y ((rest m cs).getD t 0) * (M i (cs.getD k 0) * mn (is.map M) (cs.set k ((rest m cs).getD t 0))))) := by
      refine sm_congr fun t ht => ?_
      have hr := (mem_rest.1 (getD_mem ht)).1
      have c := h.cramer (Sp.unit hi) hr
      rw [sm_mul, ← c]; grind
    rw [e1, e3, sm_comm, ← sm_add]
    rw [sm_congr (g := fun _ => 0) fun k _ => by omega, sm_zero]
  rcases Int.mul_eq_zero.1 e with x | x
  · exact absurd x h.ne
  · exact x
/-- The Hermite form of the rows that are orthogonal to a matrix, from the elements in the columns that were not chosen. -/
theorem Gr.kernel {M : Mat} {n m : Nat} {is cs : List Nat} (h : Gr M n m (· ≥ ·) is cs) (hc : cs.Nodup) {X : Mat} (hX : Hf X (rest m cs).length (rest m cs).length id)
    (hS : ∀ x, Sp X (rest m cs).length (rest m cs).length x ↔ ∀ k, k < cs.length → mn (is.map M) cs ∣ sm (rest m cs).length (fun t => mn (is.map M) (cs.set k ((rest m cs).getD t 0)) * x t))
    {O : Mat} (hO1 : ∀ i t, i < (rest m cs).length → t < (rest m cs).length → O i ((rest m cs).getD t 0) = X i t)
    (hO2 : ∀ i k, i < (rest m cs).length → k < cs.length → mn (is.map M) cs * O i (cs.getD k 0) = - sm (rest m cs).length (fun t => X i t * mn (is.map M) (cs.set k ((rest m cs).getD t 0)))) :
    Hf O (rest m cs).length m (fun t => (rest m cs).getD t 0) ∧ (∀ i k, i < (rest m cs).length → k < n → dot m (M k) (O i) = 0) ∧ ∀ y, (∀ k, k < n → dot m (M k) y = 0) → Sp O (rest m cs).length m y := by
  have hker : ∀ i k, i < (rest m cs).length → k < n → dot m (M k) (O i) = 0 := fun i k hi hk => h.ker hc (fun l hl => by
    have e : sm (rest m cs).length (fun t => O i ((rest m cs).getD t 0) * mn (is.map M) (cs.set l ((rest m cs).getD t 0))) = sm (rest m cs).length (fun t => X i t * mn (is.map M) (cs.set l ((rest m cs).getD t 0))) := sm_congr fun t ht => by rw [hO1 i t hi ht]
    rw [hO2 i l hi hl, e]; omega) hk
  -- a chosen column behind which all others are 0
  have hzero : ∀ y, (∀ k, k < n → dot m (M k) y = 0) → ∀ c, (∀ t, t < (rest m cs).length → (rest m cs).getD t 0 < c → y ((rest m cs).getD t 0) = 0) → ∀ k, k < cs.length → cs.getD k 0 < c → y (cs.getD k 0) = 0 := by
    intro y hy c hz k hk hkc
    have h1 := ker_col h.len hc h.cols (fun i hi => hy i (h.rows i hi)) hk
    rw [sm_congr (g := fun _ => 0) fun t ht => ?_, sm_zero, Int.add_zero] at h1
    · rcases Int.mul_eq_zero.1 h1 with x | x
      · exact absurd x h.ne
      · exact x
    · by_cases hlt : (rest m cs).getD t 0 < c
      · rw [hz t ht hlt, Int.zero_mul]
      · -- a later column does not depend on this one
        have hr := mem_rest.1 (getD_mem ht)
        obtain ⟨q, hq, hb, E, hE, w, hw⟩ := h.dep _ hr.1
        have hkq : q ≤ k ∨ ∃ l, l < q ∧ l = k := by
          rcases Nat.lt_or_ge k q with x | x
          · exact Or.inr ⟨k, x, rfl⟩
          · exact Or.inl x
        have hkq : q ≤ k := by
          rcases hkq with x | ⟨l, hl, e⟩
          · exact x
          · subst e; have := hb l hl; omega
        have hz' : E * mn (is.map M) (cs.set k ((rest m cs).getD t 0)) = 0 := by
          rw [mn_set _ hk _ (by simpa using h.len), mn_column M _ _ is (by rw [List.length_eraseIdx]; simp [hk]; have := h.len; omega), ← Int.mul_assoc, Int.mul_comm E, Int.mul_assoc, ← alt_mul]
          have e1 : alt (fun i r => E * (M i ((rest m cs).getD t 0) * mn (r.map M) (cs.eraseIdx k))) is = alt (fun i r => sm q (fun l => w l * (M i (cs.getD l 0) * mn (r.map M) (cs.eraseIdx k)))) is :=
            alt_congrP fun i r hp => by
              have := hw i (mem_perm hp h.rows).1
              rw [← Int.mul_assoc, this, Int.mul_comm, ← sm_mul]
              exact sm_congr fun l _ => by grind
          rw [e1, alt_sm, sm_congr (g := fun _ => 0) fun l hl => ?_, sm_zero, Int.mul_zero]
          rw [alt_mul, ← mn_column M (cs.getD l 0) _ is (by rw [List.length_eraseIdx]; simp [hk]; have := h.len; omega)]
          have h2 := mn_set (is.map M) hk (cs.getD l 0) (by simpa using h.len)
          rw [mn_set_dup hk (by omega) (by omega) (by simpa using h.len)] at h2
          have h3 : mn (is.map M) (cs.getD l 0 :: cs.eraseIdx k) = 0 := by
            have := sg_sq k
            have h4 : sg k * (sg k * mn (is.map M) (cs.getD l 0 :: cs.eraseIdx k)) = 0 := by rw [← h2]; simp
            rw [← Int.mul_assoc, this, Int.one_mul] at h4; exact h4
          rw [h3, Int.mul_zero]
        rcases Int.mul_eq_zero.1 hz' with x | x
        · exact absurd x hE
        · rw [x, Int.mul_zero]
  refine ⟨⟨fun t ht => (mem_rest.1 (getD_mem ht)).1, fun i k hik hk => rest_lt hik hk, fun t ht => by rw [hO1 t t ht ht]; exact hX.pos t ht, fun t j ht hj => ?_, fun i t hit ht => by rw [hO1 i t (by omega) ht, hO1 t t ht ht]; exact hX.red i t hit ht⟩, hker, fun y hy => ?_⟩
  · have hjm : j < m := by have := (mem_rest.1 (getD_mem ht)).1; omega
    have hfree : ∀ s, s < (rest m cs).length → (rest m cs).getD s 0 < (rest m cs).getD t 0 → O t ((rest m cs).getD s 0) = 0 := fun s hs hst => by
      rw [hO1 t s ht hs]
      refine hX.left t s ht ?_
      rcases Nat.lt_trichotomy s t with x | x | x
      · exact x
      · subst x; omega
      · have := rest_lt x hs; omega
    by_cases x : j ∈ cs
    · obtain ⟨k, hk, e⟩ := getD_of_mem x
      have := hzero (O t) (fun k hk => hker t k ht hk) _ hfree k hk (by rw [e]; exact hj)
      rwa [e] at this
    · obtain ⟨s, hs, e⟩ := getD_of_mem (mem_rest.2 ⟨hjm, x⟩)
      have := hfree s hs (by rw [e]; exact hj)
      rwa [e] at this
  · -- the elements in the other columns are in the lattice
    have h1 : Sp X (rest m cs).length (rest m cs).length (fun t => y ((rest m cs).getD t 0)) := (hS _).2 fun k hk => by
      have := ker_col h.len hc h.cols (fun i hi => hy i (h.rows i hi)) hk
      rw [sm_congr (g := fun t => y ((rest m cs).getD t 0) * mn (is.map M) (cs.set k ((rest m cs).getD t 0))) fun t _ => Int.mul_comm _ _]
      exact ⟨- y (cs.getD k 0), by rw [Int.mul_neg]; omega⟩
    obtain ⟨c, hc'⟩ := h1
    refine ⟨c, ?_⟩
    -- the difference is orthogonal, and 0 in the other columns
    have hd : ∀ k, k < n → dot m (M k) (fun j => y j - sm (rest m cs).length (fun t => c t * O t j)) = 0 := by
      intro k hk
      have e1 : dot m (M k) (fun j => y j - sm (rest m cs).length (fun t => c t * O t j)) = dot m (M k) y - sm (rest m cs).length (fun t => c t * dot m (M k) (O t)) := by
        unfold dot
        have e2 : sm (rest m cs).length (fun t => c t * sm m (fun j => M k j * O t j)) = sm m (fun j => M k j * sm (rest m cs).length (fun t => c t * O t j)) := by
          rw [sm_congr (g := fun t => sm m (fun j => c t * (M k j * O t j))) fun t _ => (sm_mul m (c t) _).symm, sm_comm]
          exact sm_congr fun j _ => by rw [← sm_mul]; exact sm_congr fun t _ => by grind
        rw [e2, ← sm_sub]; exact sm_congr fun j _ => by rw [Int.mul_sub]
      rw [e1, hy k hk, sm_congr (g := fun _ => 0) fun t ht => by rw [hker t k ht hk, Int.mul_zero], sm_zero]; rfl
    have hf : ∀ s, s < (rest m cs).length → y ((rest m cs).getD s 0) - sm (rest m cs).length (fun t => c t * O t ((rest m cs).getD s 0)) = 0 := fun s hs => by
      have h2 : y ((rest m cs).getD s 0) = sm (rest m cs).length (fun t => c t * X t s) := hc' s hs
      rw [h2, sm_congr (f := fun t => c t * O t ((rest m cs).getD s 0)) (g := fun t => c t * X t s) fun t ht => by rw [hO1 t s ht hs]]; omega
    intro j hj
    have : y j - sm (rest m cs).length (fun t => c t * O t j) = 0 := by
      by_cases x : j ∈ cs
      · obtain ⟨k, hk, e⟩ := getD_of_mem x
        have := hzero _ hd m (fun s hs _ => hf s hs) k hk (by rw [e]; exact hj)
        rwa [e] at this
      · obtain ⟨s, hs, e⟩ := getD_of_mem (mem_rest.2 ⟨hj, x⟩)
        have := hf s hs
        rwa [e] at this
    omega
end Go.Proofs.Ytmknbgiihhimfaa.D

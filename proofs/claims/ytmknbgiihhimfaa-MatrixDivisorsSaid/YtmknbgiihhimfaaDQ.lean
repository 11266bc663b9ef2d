/- Plain mathematics (no program): bounds of minors by the sums of the absolute values in the rows. -/
import Derived.Test.YtmknbgiihhimfaaDL
namespace Go.Proofs.Ytmknbgiihhimfaa.D
/-- The sum of the absolute values of a row. -/
def rs (m : Nat) (u : Nat → Int) : Nat := match m with
  | 0 => 0
  | m + 1 => rs m u + (u m).natAbs
/-- The product of these sums. -/
def pl (m : Nat) : List (Nat → Int) → Nat
  | [] => 1
  | u :: us => rs m u * pl m us
def sn (l : List Nat) (f : Nat → Nat) : Nat := match l with
  | [] => 0
  | a :: l => f a + sn l f
theorem sn_append (a b : List Nat) (f : Nat → Nat) : sn (a ++ b) f = sn a f + sn b f := by
  induction a with
  | nil => simp [sn]
  | cons x a ih => simp only [List.cons_append, sn]; rw [ih]; omega
theorem sn_perm {a b : List Nat} (h : a.Perm b) (f : Nat → Nat) : sn a f = sn b f := by
  induction h with
  | nil => rfl
  | cons x _ ih => simp only [sn]; rw [ih]
  | swap x y l => simp only [sn]; omega
  | trans _ _ i j => exact i.trans j
theorem sn_range (m : Nat) (u : Nat → Int) : sn (List.range m) (fun j => (u j).natAbs) = rs m u := by
  induction m with
  | zero => rfl
  | succ n ih => rw [List.range_succ, sn_append, ih]; simp [sn, rs]
theorem sn_le {m : Nat} {js : List Nat} (h : js.Nodup) (hm : ∀ j ∈ js, j < m) (u : Nat → Int) : sn js (fun j => (u j).natAbs) ≤ rs m u := by
  rw [← sn_range, sn_perm (rest_perm h hm), sn_append]; omega
theorem sn_mul (l : List Nat) (f : Nat → Nat) (c : Nat) : sn l (fun j => f j * c) = sn l f * c := by
  induction l with
  | nil => simp [sn]
  | cons x l ih => simp only [sn]; rw [ih, Nat.add_mul]
theorem alt_abs {f : Nat → List Nat → Int} {g : Nat → Nat} {js : List Nat} (h : ∀ a r, (a :: r).Perm js → (f a r).natAbs ≤ g a) : (alt f js).natAbs ≤ sn js g := by
  induction js generalizing f with
  | nil => simp [alt]
  | cons j js ih =>
    unfold alt
    have h1 := h j js (List.Perm.refl _)
    have h2 := ih (f := fun a r => f a (j :: r)) fun a r hr => h a (j :: r) ((List.Perm.swap j a r).trans (hr.cons j))
    simp only [sn]; omega
/-- The bound. -/
theorem mn_abs {m : Nat} {us : List (Nat → Int)} {js : List Nat} (h : js.Nodup) (hm : ∀ j ∈ js, j < m) : (mn us js).natAbs ≤ pl m us := by
  induction us generalizing js with
  | nil => simp [mn, pl]
  | cons u us ih =>
    rw [mn_cons]
    have h1 : (alt (fun j r => u j * mn us r) js).natAbs ≤ sn js (fun j => (u j).natAbs * pl m us) := alt_abs fun a r hp => by
      rw [Int.natAbs_mul]
      have hn := List.nodup_cons.1 (hp.nodup_iff.2 h)
      exact Nat.mul_le_mul_left _ (ih hn.2 (mem_perm hp hm).2)
    rw [sn_mul] at h1
    exact Nat.le_trans h1 (Nat.mul_le_mul_right _ (sn_le h hm u))
/-- The product over a list. -/
def pn (l : List Nat) (f : Nat → Nat) : Nat := match l with
  | [] => 1
  | a :: l => f a * pn l f
theorem pn_append (a b : List Nat) (f : Nat → Nat) : pn (a ++ b) f = pn a f * pn b f := by
  induction a with
  | nil => simp [pn]
  | cons x a ih => simp only [List.cons_append, pn]; rw [ih, Nat.mul_assoc]
theorem pn_perm {a b : List Nat} (h : a.Perm b) (f : Nat → Nat) : pn a f = pn b f := by
  induction h with
  | nil => rfl
  | cons x _ ih => simp only [pn]; rw [ih]
  | swap x y l => simp only [pn]; rw [← Nat.mul_assoc, ← Nat.mul_assoc, Nat.mul_comm (f y)]
  | trans _ _ i j => exact i.trans j
theorem pn_pos {l : List Nat} {f : Nat → Nat} (h : ∀ i ∈ l, 0 < f i) : 0 < pn l f := by
  induction l with
  | nil => exact Nat.one_pos
  | cons x l ih => exact Nat.mul_pos (h x (by simp)) (ih fun i hi => h i (by simp [hi]))
/-- The volume of the first n rows. -/
def vol (M : Mat) (m : Nat) : Nat → Nat
  | 0 => 1
  | n + 1 => vol M m n * (if rs m (M n) = 0 then 1 else rs m (M n))
theorem vol_range (M : Mat) (m n : Nat) : vol M m n = pn (List.range n) (fun i => if rs m (M i) = 0 then 1 else rs m (M i)) := by
  induction n with
  | zero => rfl
  | succ n ih => rw [List.range_succ, pn_append, ← ih]; simp [pn, vol]
theorem pl_map (M : Mat) (m : Nat) (is : List Nat) : pl m (is.map M) ≤ pn is (fun i => if rs m (M i) = 0 then 1 else rs m (M i)) := by
  induction is with
  | nil => exact Nat.le_refl _
  | cons i is ih =>
    rw [List.map_cons]; simp only [pl, pn]
    refine Nat.mul_le_mul ?_ ih
    split <;> omega
theorem pn_vol {M : Mat} {m n : Nat} {is : List Nat} (h : is.Nodup) (hn : ∀ i ∈ is, i < n) : pn is (fun i => if rs m (M i) = 0 then 1 else rs m (M i)) ≤ vol M m n := by
  rw [vol_range, pn_perm (rest_perm h hn), pn_append]
  exact Nat.le_mul_of_pos_right _ (pn_pos fun i _ => by split <;> omega)
/-- No minor exceeds the volume. -/
theorem mn_vol {M : Mat} {m n : Nat} {is js : List Nat} (hi : is.Nodup) (hn : ∀ i ∈ is, i < n) (hj : js.Nodup) (hm : ∀ j ∈ js, j < m) : (mn (is.map M) js).natAbs ≤ vol M m n :=
  Nat.le_trans (mn_abs hj hm) (Nat.le_trans (pl_map M m is) (pn_vol hi hn))
theorem vol_pos (M : Mat) (m n : Nat) : 0 < vol M m n := by
  rw [vol_range]; exact pn_pos fun i _ => by split <;> omega
theorem vol_mono (M : Mat) (m n : Nat) : vol M m n ≤ vol M m (n + 1) := by
  simp only [vol]; exact Nat.le_mul_of_pos_right _ (by split <;> omega)
end Go.Proofs.Ytmknbgiihhimfaa.D
/- Plain mathematics (no program): ranks, the number of rows of a kernel, and the greatest common divisors as numbers. -/
namespace Go.Proofs.Ytmknbgiihhimfaa.D
theorem dv_up {M : Mat} {n m k t : Nat} {d : Int} (h : Dv M n m k d) : Dv M n m (k + t) d := by
  induction t with
  | zero => exact h
  | succ t ih => exact ih.mono
/-- The number of the chosen columns is the rank. -/
theorem Gr.rank {M : Mat} {n m : Nat} {bef : Nat → Nat → Prop} {is cs : List Nat} (h : Gr M n m bef is cs) (k : Nat) : Dv M n m k 0 ↔ cs.length < k := by
  constructor
  · intro x
    refine Classical.not_not.1 fun hk => ?_
    have h1 := dv_up (t := cs.length - k) x is cs (by rw [h.len]; omega) (by omega) h.rows h.cols
    exact h.ne (Int.zero_dvd.1 h1)
  · intro hk
    refine Dv.unscale h.ne ?_
    apply Dv_tr (M := tr fun i j => mn (is.map M) cs * M i j)
    refine Dv.rows (M := fun t => tr M (cs.getD t 0)) (n := cs.length) (Dv.many hk 0) fun j hj => ?_
    refine ⟨fun t => mn (is.map M) (cs.set t j), fun i hi => ?_⟩
    show mn (is.map M) cs * M i j = _
    rw [Int.mul_comm, h.cramer (Sp.unit hi) hj]
    exact sm_congr fun t _ => Int.mul_comm _ _
/-- Columns can be chosen. -/
theorem Gd.exists_from (M : Mat) (n : Nat) (bef : Nat → Nat → Prop) (hr : ∀ j, bef j j) (l : List Nat) : ∀ done is cs, Gd M n bef done is cs → (∀ c ∈ cs, ∀ j ∈ l, bef c j) → l.Pairwise bef → ∃ is' cs', Gd M n bef (done ++ l) is' cs' := by
  induction l with
  | nil => intro done is cs h _ _; exact ⟨is, cs, by simpa using h⟩
  | cons j l ih =>
    intro done is cs h hb hp
    have hp' := List.pairwise_cons.1 hp
    have e : done ++ j :: l = (done ++ [j]) ++ l := by simp
    rw [e]
    by_cases x : ∃ i, i < n ∧ mn ((is ++ [i]).map M) (cs ++ [j]) ≠ 0
    · obtain ⟨i, hi, hm⟩ := x
      refine ih _ _ _ (h.add hi hm (fun c hc => hb c hc j (by simp)) (hr j)) (fun c hc k hk => ?_) hp'.2
      rcases List.mem_append.1 hc with y | y
      · exact hb c y k (by simp [hk])
      · rw [List.mem_singleton.1 y]; exact hp'.1 k hk
    · exact ih _ _ _ (h.skip (fun i hi => Classical.not_not.1 fun y => x ⟨i, hi, y⟩) fun c hc => hb c hc j (by simp)) (fun c hc k hk => hb c hc k (by simp [hk])) hp'.2
theorem Gr.nodup {M : Mat} {n m : Nat} {bef : Nat → Nat → Prop} {is cs : List Nat} (h : Gr M n m bef is cs) : cs.Nodup :=
  Classical.not_not.1 fun x => h.ne (mn_cols_dup x _ (by simpa using h.len))
theorem Gr.exists_le (M : Mat) (n m : Nat) : ∃ is cs, Gr M n m (· ≤ ·) is cs := by
  obtain ⟨is, cs, h⟩ := Gd.exists_from M n (· ≤ ·) (fun j => Nat.le_refl j) (List.range m) [] [] [] (Gd.nil M n _) (by simp) (List.pairwise_lt_range.imp fun h => Nat.le_of_lt h)
  exact ⟨is, cs, h.gr fun j => by simp⟩
/-- The kernel has as many rows as the rank leaves. -/
theorem ker_count {M K : Mat} {n m b : Nat} {p : Nat → Nat} (hK : Hf K b m p) (h1 : ∀ i k, i < b → k < n → dot m (M k) (K i) = 0) (h2 : ∀ y, (∀ k, k < n → dot m (M k) y = 0) → Sp K b m y) {r : Nat} (hr : ∀ k, Dv M n m k 0 ↔ r < k) : r ≤ m ∧ b = m - r := by
  obtain ⟨is, cs, h⟩ := Gr.exists_le M n m
  have hc := h.nodup
  have hl := rest_length hc h.cols
  have hrc : r = cs.length := by
    have a := hr (cs.length); have b := hr (cs.length + 1)
    rw [h.rank] at a b
    have : ¬ cs.length < cs.length := Nat.lt_irrefl _
    have : r < cs.length + 1 := b.1 (by omega)
    have : ¬ r < cs.length := fun x => Nat.lt_irrefl _ (a.2 x)
    omega
  refine ⟨by omega, ?_⟩
  have hb1 : b ≤ m - r := by
    refine Classical.not_not.1 fun x => ?_
    have hn : ¬ Dv M n m r 0 := fun y => Nat.lt_irrefl _ ((hr r).1 y)
    have := orth (A := K) (K := M) (a := b) (b := n) (s := r) (fun i k hi hk => h1 i k hi hk) hn (k := b) (by omega)
    have h3 := (hK.rank (M := K) (n := b) (fun i hi => Sp.unit hi) (fun i hi => Sp.unit hi) b).1 this
    omega
  have hb2 : m - r ≤ b := by
    refine Classical.not_not.1 fun x => ?_
    -- a row of the kernel for each column that was not chosen
    have hv : ∀ t, t < (rest m cs).length → ∃ y : Nat → Int, (∀ k, k < n → dot m (M k) y = 0) ∧ ∀ s, s < (rest m cs).length → y ((rest m cs).getD s 0) = if s = t then mn (is.map M) cs else 0 := by
      intro t ht
      obtain ⟨y, hy⟩ : ∃ y : Nat → Int, (∀ s, s < (rest m cs).length → y ((rest m cs).getD s 0) = if s = t then mn (is.map M) cs else 0) ∧ ∀ k, k < cs.length → y (cs.getD k 0) = - mn (is.map M) (cs.set k ((rest m cs).getD t 0)) := by
        refine ⟨fun j => if j ∈ cs then - mn (is.map M) (cs.set (cs.idxOf j) ((rest m cs).getD t 0)) else if j = (rest m cs).getD t 0 then mn (is.map M) cs else 0, fun s hs => ?_, fun k hk => ?_⟩
        · have := (mem_rest.1 (getD_mem hs)).2
          simp only [if_neg this]
          by_cases e : s = t
          · subst e; simp
          · have hne : ¬ (rest m cs).getD s 0 = (rest m cs).getD t 0 := fun y => e (getD_inj ((rest_rising m cs).imp fun hab => Nat.ne_of_lt hab) hs ht y)
            rw [if_neg e, if_neg hne]
        · have hm := getD_mem hk
          simp only [if_pos hm]
          have hi : cs.idxOf (cs.getD k 0) < cs.length := List.idxOf_lt_length_iff.2 hm
          have e : cs.idxOf (cs.getD k 0) = k := getD_inj hc hi hk (by rw [getD_at hi]; exact List.getElem_idxOf hi)
          rw [e]
      refine ⟨y, fun k hk => h.ker hc (fun l hl => ?_) hk, hy.1⟩
      rw [hy.2 l hl]
      have e : sm (rest m cs).length (fun s => y ((rest m cs).getD s 0) * mn (is.map M) (cs.set l ((rest m cs).getD s 0))) = sm (rest m cs).length (fun s => (if s = t then 1 else 0) * (mn (is.map M) cs * mn (is.map M) (cs.set l ((rest m cs).getD s 0)))) := sm_congr fun s hs => by
        rw [hy.1 s hs]
        by_cases z : s = t
        · rw [if_pos z, if_pos z, Int.one_mul]
        · rw [if_neg z, if_neg z]; simp
      rw [e, sm_unit ht fun s => mn (is.map M) cs * mn (is.map M) (cs.set l ((rest m cs).getD s 0))]
      grind
    obtain ⟨Y, hY⟩ : ∃ Y : Mat, ∀ t, t < (rest m cs).length → (∀ k, k < n → dot m (M k) (Y t) = 0) ∧ ∀ s, s < (rest m cs).length → Y t ((rest m cs).getD s 0) = if s = t then mn (is.map M) cs else 0 :=
      ⟨fun t => if ht : t < (rest m cs).length then Classical.choose (hv t ht) else fun _ => 0, fun t ht => by
        simp only [dif_pos ht]; exact Classical.choose_spec (hv t ht)⟩
    have hz : Dv Y (rest m cs).length m (rest m cs).length 0 := Dv.rows (M := K) (n := b) (Dv.many (by omega) 0) fun t ht => h2 _ (hY t ht).1
    have h3 := hz (List.range (rest m cs).length) (rest m cs) (by simp) rfl (by simp) (fun j hj => (mem_rest.1 hj).1)
    -- the minor in these columns is a power
    have h4 : mn ((List.range (rest m cs).length).map Y) (rest m cs) = mn ((List.range (rest m cs).length).map fun i k => mn (is.map M) cs * (if k = i then 1 else 0)) (List.range (rest m cs).length) := by
      have g : ∀ l ks : List Nat, (∀ i ∈ l, i < (rest m cs).length) → (∀ k ∈ ks, k < (rest m cs).length) → mn (l.map Y) (ks.map fun k => (rest m cs).getD k 0) = mn (l.map fun i k => mn (is.map M) cs * (if k = i then 1 else 0)) ks := by
        intro l
        induction l with
        | nil => intro ks _ _; rfl
        | cons i l ih =>
          intro ks hi hk
          rw [List.map_cons, List.map_cons, mn_cons, mn_cons, alt_map]
          refine alt_congrP fun a r hp => ?_
          have := mem_perm hp hk
          rw [ih r (fun x hx => hi x (by simp [hx])) this.2, (hY i (hi i (by simp))).2 a this.1]
          by_cases z : a = i
          · rw [if_pos z, if_pos z, Int.mul_one]
          · rw [if_neg z, if_neg z, Int.mul_zero]
      have := g (List.range (rest m cs).length) (List.range (rest m cs).length) (by simp) (by simp)
      rw [range_map] at this; exact this
    rw [h4, mn_scale] at h3
    have hid : Hf (fun i k => if k = i then (1 : Int) else 0) (rest m cs).length (rest m cs).length id := ⟨fun k hk => hk, fun i k hi _ => hi, fun k _ => by simp, fun k j _ hj => if_neg (by simp only [id] at hj; omega), fun i k hi _ => by simp only [id]; rw [if_neg (by omega)]; simp⟩
    have h5 := hid.minor
    have e5 : (List.range (rest m cs).length).map id = List.range (rest m cs).length := List.map_id _
    rw [e5] at h5
    rw [h5] at h3
    rcases Int.mul_eq_zero.1 (Int.zero_dvd.1 h3) with z | z
    · exact absurd z (Int.pow_ne_zero h.ne)
    · have := pr_pos (s := fun k => if (id k) = k then (1 : Int) else 0) (k := (rest m cs).length) fun t _ => by simp
      omega
  omega
/-- Numbers with the same divisors. -/
theorem same_dvd {a b : Int} (h : ∀ d, d ∣ a ↔ d ∣ b) : a.natAbs = b.natAbs :=
  Nat.dvd_antisymm (Int.natAbs_dvd_natAbs.2 ((h a).1 (Int.dvd_refl a))) (Int.natAbs_dvd_natAbs.2 ((h b).2 (Int.dvd_refl b)))
/-- What the greatest common divisors of the minors do. -/
theorem gcds {M : Mat} {n m : Nat} {g : Nat → Nat} (h : ∀ k d, Dv M n m k d ↔ d ∣ (g k : Int)) (k : Nat) : g k ∣ g (k + 1) ∧ g (k + 1) * g (k + 1) ∣ g k * g (k + 2) ∧ g 0 = 1 := by
  obtain ⟨s, h1, h2⟩ := smith n m M
  have e : ∀ k, g k = (pr s k).natAbs := fun k => by
    have := same_dvd (a := (g k : Int)) (b := pr s k) fun d => (h k d).symm.trans (h2 k d)
    simpa using this
  refine ⟨?_, ?_, ?_⟩
  · rw [e, e]; exact Int.natAbs_dvd_natAbs.2 (pr_dvd s k)
  · rw [e, e, e, ← Int.natAbs_mul, ← Int.natAbs_mul]; exact Int.natAbs_dvd_natAbs.2 (pr_square h1 k)
  · rw [e]; rfl
end Go.Proofs.Ytmknbgiihhimfaa.D
/- Plain mathematics (no program): a lattice of full rank has a triangular basis; a box of representatives; lattices with at least as many representatives. -/
namespace Go.Proofs.Ytmknbgiihhimfaa.D
/-- A triangular basis. -/
structure Tb (b : Nat) (L : (Nat → Int) → Prop) (h : Mat) : Prop where
  up : ∀ i j, i < b → j < i → h i j = 0
  pos : ∀ i, i < b → 0 < h i i
  mem : ∀ i, i < b → L (h i)
  all : ∀ v, L v → Sp h b b v
theorem Tb.exists {b : Nat} {L : (Nat → Int) → Prop} (hL : Sub b L) {N : Int} (hN : N ≠ 0) (hm : ∀ j, j < b → L (unitV N j)) : ∃ h, Tb b L h := by
  have h1 : ∀ i, i < b → ∃ u : Nat → Int, L u ∧ (∀ j, j < i → u j = 0) ∧ 0 < u i ∧ ∀ v, L v → (∀ j, j < i → v j = 0) → u i ∣ v i := by
    intro i hi
    obtain ⟨g, ⟨u, hu, hu0, hg⟩, hd⟩ := ideal (I := fun x => ∃ v, L v ∧ (∀ j, j < i → v j = 0) ∧ v i = x) ⟨_, hL.zero, fun _ _ => rfl, rfl⟩
      (fun x y ⟨u, hu, hu0, e⟩ ⟨v, hv, hv0, f⟩ => ⟨_, hL.add _ _ hu hv, fun j hj => by show u j + v j = 0; rw [hu0 j hj, hv0 j hj]; rfl, by show u i + v i = _; rw [e, f]⟩)
      (fun c x ⟨u, hu, hu0, e⟩ => ⟨_, hL.mul c _ hu, fun j hj => by show c * u j = 0; rw [hu0 j hj, Int.mul_zero], by show c * u i = _; rw [e]⟩)
    have hgN : g ∣ N := hd N ⟨_, hm i hi, fun j hj => by simp [unitV]; omega, by simp [unitV]⟩
    have hg0 : g ≠ 0 := fun e => hN (by rw [e] at hgN; exact Int.zero_dvd.1 hgN)
    rcases Int.lt_trichotomy g 0 with x | x | x
    · refine ⟨_, hL.mul (-1) _ hu, fun j hj => by show -1 * u j = 0; rw [hu0 j hj]; rfl, by show 0 < -1 * u i; omega, fun v hv hv0 => ?_⟩
      have := hd (v i) ⟨v, hv, hv0, rfl⟩
      show -1 * u i ∣ v i
      rw [hg]; rw [show -1 * g = -g by omega]; exact Int.neg_dvd.2 this
    · exact absurd x hg0
    · exact ⟨u, hu, hu0, by omega, fun v hv hv0 => by rw [hg]; exact hd (v i) ⟨v, hv, hv0, rfl⟩⟩
  obtain ⟨h, hh⟩ : ∃ h : Mat, ∀ i, i < b → L (h i) ∧ (∀ j, j < i → h i j = 0) ∧ 0 < h i i ∧ ∀ v, L v → (∀ j, j < i → v j = 0) → h i i ∣ v i :=
    ⟨fun i => if hi : i < b then Classical.choose (h1 i hi) else fun _ => 0, fun i hi => by simp only [dif_pos hi]; exact Classical.choose_spec (h1 i hi)⟩
  refine ⟨h, fun i j hi hj => (hh i hi).2.1 j hj, fun i hi => (hh i hi).2.2.1, fun i hi => (hh i hi).1, ?_⟩
  suffices hs : ∀ t, t ≤ b → ∀ v, L v → (∀ j, j < b - t → v j = 0) → Sp h b b v from fun v hv => hs b (Nat.le_refl _) v hv fun j hj => by omega
  intro t
  induction t with
  | zero => intro _ v _ h0; exact Sp.zero.congr fun j hj => h0 j (by omega)
  | succ t ih =>
    intro ht v hv h0
    obtain ⟨c, hc⟩ := (hh (b - (t + 1)) (by omega)).2.2.2 v hv h0
    have h2 := ih (by omega) _ (hL.add _ _ hv (hL.mul (-c) _ (hh (b - (t + 1)) (by omega)).1)) fun j hj => by
      rcases Nat.lt_or_ge j (b - (t + 1)) with x | x
      · show v j + -c * h (b - (t + 1)) j = 0
        rw [h0 j x, (hh (b - (t + 1)) (by omega)).2.1 j x]; simp
      · have e : j = b - (t + 1) := by omega
        show v j + -c * h (b - (t + 1)) j = 0
        rw [e, hc]; grind
    exact (h2.add ((Sp.unit (M := h) (n := b) (m := b) (p := b - (t + 1)) (by omega)).mul c)).congr fun j _ => by grind
/-- The rows from 0 to less than the elements of the diagonal. -/
def box (h : Mat) : Nat → List (Nat → Int)
  | 0 => [fun _ => 0]
  | k + 1 => (box h k).flatMap fun z => (List.range (h k k).toNat).map fun (a : Nat) (j : Nat) => if j = k then (a : Int) else z j
def size (h : Mat) : Nat → Nat
  | 0 => 1
  | k + 1 => size h k * (h k k).toNat
theorem box_length (h : Mat) (k : Nat) : (box h k).length = size h k := by
  induction k with
  | zero => rfl
  | succ k ih =>
    simp only [box, size]
    rw [← ih]
    induction box h k with
    | nil => simp
    | cons z l ihl => rw [List.flatMap_cons, List.length_append, ihl, List.length_map, List.length_range, List.length_cons, Nat.succ_mul, Nat.add_comm]
theorem mem_box {h : Mat} {k : Nat} (hp : ∀ i, i < k → 0 < h i i) {z : Nat → Int} : z ∈ box h k ↔ (∀ i, i < k → 0 ≤ z i ∧ z i < h i i) ∧ ∀ i, k ≤ i → z i = 0 := by
  induction k generalizing z with
  | zero =>
    simp only [box, List.mem_singleton]
    constructor
    · rintro rfl; exact ⟨fun i hi => by omega, fun _ _ => rfl⟩
    · rintro ⟨_, h0⟩; exact funext fun i => h0 i (by omega)
  | succ k ih =>
    simp only [box, List.mem_flatMap, List.mem_map, List.mem_range]
    constructor
    · rintro ⟨y, hy, a, ha, rfl⟩
      have := (ih fun i hi => hp i (by omega)).1 hy
      refine ⟨fun i hi => ?_, fun i hi => ?_⟩
      · by_cases x : i = k
        · subst x; simp only [if_true]; omega
        · simp only [if_neg x]; exact this.1 i (by omega)
      · simp only [if_neg (show ¬ i = k by omega)]; exact this.2 i (by omega)
    · rintro ⟨h1, h2⟩
      refine ⟨fun j => if j < k then z j else 0, (ih fun i hi => hp i (by omega)).2 ⟨fun i hi => ?_, fun i hi => ?_⟩, (z k).toNat, ?_, ?_⟩
      · rw [if_pos hi]; exact h1 i (by omega)
      · rw [if_neg (by omega)]
      · have := h1 k (by omega); omega
      · funext j
        by_cases x : j = k
        · subst x; simp only [if_true]; have := h1 j (by omega); omega
        · simp only [if_neg x]
          by_cases y : j < k
          · simp only [if_pos y]
          · simp only [if_neg y]; rw [h2 j (by omega)]
theorem box_nodup {h : Mat} {k : Nat} (hp : ∀ i, i < k → 0 < h i i) : (box h k).Nodup := by
  induction k with
  | zero => simp [box]
  | succ k ih =>
    have hb : ∀ z ∈ box h k, z k = 0 := fun z hz => ((mem_box fun i hi => hp i (by omega)).1 hz).2 k (Nat.le_refl _)
    simp only [box]
    refine List.pairwise_flatMap.2 ⟨fun z _ => ?_, ?_⟩
    · refine List.pairwise_map.2 (List.nodup_range.imp fun {a c} hab e => hab ?_)
      have := congrFun e k; simp at this; omega
    · refine (ih fun i hi => hp i (by omega)).imp_of_mem fun {y z} hy hz hne => ?_
      intro u hu v hv e
      obtain ⟨a, _, rfl⟩ := List.mem_map.1 hu
      obtain ⟨c, _, rfl⟩ := List.mem_map.1 hv
      refine hne (funext fun j => ?_)
      by_cases x : j = k
      · rw [x, hb y hy, hb z hz]
      · have := congrFun e j; simpa [x] using this
/-- Each row has a representative in the box. -/
theorem Tb.rep {b : Nat} {L : (Nat → Int) → Prop} {h : Mat} (hL : Sub b L) (t : Tb b L h) (z : Nat → Int) : ∃ y, y ∈ box h b ∧ L (fun j => z j - y j) := by
  suffices hs : ∀ k, k ≤ b → ∃ y : Nat → Int, (∀ i, i < k → 0 ≤ y i ∧ y i < h i i) ∧ L (fun j => z j - y j) by
    obtain ⟨y, h1, h2⟩ := hs b (Nat.le_refl _)
    refine ⟨fun j => if j < b then y j else 0, (mem_box t.pos).2 ⟨fun i hi => by rw [if_pos hi]; exact h1 i hi, fun i hi => if_neg (by omega)⟩, hL.congr _ _ (fun j hj => ?_) h2⟩
    simp only [if_pos hj]
  intro k
  induction k with
  | zero => intro _; exact ⟨z, fun i hi => by omega, hL.congr _ _ (fun j _ => by omega) hL.zero⟩
  | succ k ih =>
    intro hk
    obtain ⟨y, h1, h2⟩ := ih (by omega)
    have hp := t.pos k (by omega)
    refine ⟨fun j => y j - y k / h k k * h k j, fun i hi => ?_, hL.congr _ _ (fun j _ => by grind) (hL.add _ _ h2 (hL.mul (y k / h k k) _ (t.mem k (by omega))))⟩
    rcases Nat.lt_or_eq_of_le (Nat.le_of_lt_succ hi) with x | x
    · have : y i - y k / h k k * h k i = y i := by rw [t.up k i (by omega) x]; simp
      show 0 ≤ y i - _ ∧ y i - _ < _
      rw [this]; exact h1 i x
    · subst x
      have e : y i - y i / h i i * h i i = y i % h i i := by have := Int.emod_add_mul_ediv (y i) (h i i); grind
      show 0 ≤ y i - _ ∧ y i - _ < _
      rw [e]
      exact ⟨Int.emod_nonneg _ (by omega), Int.emod_lt_of_pos _ hp⟩
/-- Two rows of the box that differ by a row of the lattice are equal. -/
theorem Tb.inj {b : Nat} {L : (Nat → Int) → Prop} {h : Mat} (t : Tb b L h) {y z : Nat → Int} (hy : y ∈ box h b) (hz : z ∈ box h b) (e : L (fun j => y j - z j)) : y = z := by
  obtain ⟨y1, y2⟩ := (mem_box t.pos).1 hy
  obtain ⟨z1, z2⟩ := (mem_box t.pos).1 hz
  obtain ⟨c, hc⟩ := t.all _ e
  have key : ∀ k, k < b → c k = 0 := by
    intro k
    induction k using Nat.strongRecOn with
    | ind k ih =>
      intro hk
      have h1 : y k - z k = sm b (fun t => c t * h t k) := hc k hk
      have e : sm b (fun s => c s * h s k) = sm b (fun s => (if s = k then 1 else 0) * (c k * h k k)) := by
        refine sm_congr fun s hs => ?_
        rcases Nat.lt_trichotomy s k with x | x | x
        · rw [ih s x hs, if_neg (by omega)]; simp
        · subst x; rw [if_pos rfl, Int.one_mul]
        · rw [t.up s k hs x, if_neg (by omega)]; simp
      rw [e, sm_unit hk fun _ => c k * h k k] at h1
      have a1 := y1 k hk; have a2 := z1 k hk
      refine Classical.not_not.1 fun x => ?_
      have h2 : h k k ∣ y k - z k := ⟨c k, by rw [h1, Int.mul_comm]⟩
      have h3 : y k - z k ≠ 0 := fun w => by
        rw [w] at h1
        rcases Int.mul_eq_zero.1 h1.symm with q | q
        · exact x q
        · omega
      have := abs_le h2 h3
      omega
  funext j
  by_cases hj : j < b
  · have h1 : y j - z j = sm b (fun t => c t * h t j) := hc j hj
    rw [sm_congr (g := fun _ => 0) fun s hs => by rw [key s hs, Int.zero_mul], sm_zero] at h1
    omega
  · rw [y2 j (by omega), z2 j (by omega)]
/-- A map of rows that sees the one lattice in the other: no more representatives. -/
theorem Tb.le {a b : Nat} {L L' : (Nat → Int) → Prop} {h h' : Mat} (hL' : Sub b L') (t : Tb a L h) (t' : Tb b L' h') (f : (Nat → Int) → Nat → Int) (hf : ∀ y z, L' (fun j => f y j - f z j) → L (fun j => y j - z j)) : size h a ≤ size h' b := by
  rw [← box_length, ← box_length]
  have hc : ∀ z : Nat → Int, ∃ y, y ∈ box h' b ∧ L' (fun j => f z j - y j) := fun z => t'.rep hL' (f z)
  obtain ⟨g, hg⟩ : ∃ g : (Nat → Int) → Nat → Int, ∀ z, g z ∈ box h' b ∧ L' (fun j => f z j - g z j) := ⟨fun z => Classical.choose (hc z), fun z => Classical.choose_spec (hc z)⟩
  have hn : ((box h a).map g).Nodup := by
    refine List.pairwise_map.2 ((box_nodup t.pos).imp_of_mem fun {y z} hy hz hne e => hne ?_)
    refine t.inj hy hz (hf y z ?_)
    have h1 := (hg y).2; have h2 := (hg z).2
    rw [← e] at h2
    exact hL'.congr _ _ (fun j _ => by omega) (hL'.add _ _ h1 (hL'.mul (-1) _ h2))
  have := List.Nodup.length_le_of_subset hn (l₂ := box h' b) fun y hy => by
    obtain ⟨z, _, rfl⟩ := List.mem_map.1 hy
    exact (hg z).1
  simpa using this
end Go.Proofs.Ytmknbgiihhimfaa.D
/- Plain mathematics (no program): no greatest minor of a basis of a kernel exceeds the minor of the matrix in the other columns. -/
namespace Go.Proofs.Ytmknbgiihhimfaa.D
theorem full_list {r : Nat} {l : List Nat} (hl : l.length = r) (hp : l.Pairwise (· < ·)) (hb : ∀ i ∈ l, i < r) : l = List.range r := by
  have hnd : l.Nodup := hp.imp fun {a b} hab => Nat.ne_of_lt hab
  have hperm : l.Perm (List.range r) := by
    refine (List.perm_ext_iff_of_nodup hnd List.nodup_range).2 fun a => ⟨fun x => List.mem_range.2 (hb a x), fun x => ?_⟩
    refine Classical.not_not.1 fun y => ?_
    have := List.Nodup.length_le_of_subset (List.nodup_cons.2 ⟨y, hnd⟩) (l₂ := List.range r) (by
      intro z hz; rcases List.mem_cons.1 hz with rfl | hz
      · exact x
      · exact List.mem_range.2 (hb z hz))
    simp at this; omega
  exact hperm.eq_of_pairwise (fun a b _ _ h1 h2 => by omega) hp List.pairwise_lt_range
/-- The greatest minors of a square matrix. -/
theorem full_dvd (A : Mat) (b : Nat) (d : Int) : Dv A b b b d ↔ d ∣ mn ((List.range b).map A) (List.range b) := by
  constructor
  · intro h; exact h _ _ (by simp) (by simp) (by simp) (by simp)
  · intro h
    exact Dv.rising fun is js hi hj hri hrj hn hm => by rw [full_list hi hri hn, full_list hj hrj hm]; exact h
/-- The minor of a triangular matrix. -/
theorem tri_minor {h : Mat} {r : Nat} (hu : ∀ i j, i < r → j < i → h i j = 0) : mn ((List.range r).map h) (List.range r) = pr (fun k => h k k) r := by
  suffices hs : ∀ n a, a + n = r → mn ((List.range' a n).map h) (List.range' a n) * pr (fun k => h k k) a = pr (fun k => h k k) r by
    have := hs r 0 (by omega)
    rw [List.range_eq_range']; simpa [pr] using this
  intro n
  induction n with
  | zero => intro a ha; simp [mn]; congr 1
  | succ n ih =>
    intro a ha
    have hi := ih (a + 1) (by omega)
    rw [List.range'_succ, List.map_cons, mn_cons]
    unfold alt
    rw [alt_zero' (fun b s hp => ?_), ← hi, pr]
    · grind
    · have hl := hp.length_eq
      rw [mn_zeroCol s ?_ (by simp at hl ⊢; omega), Int.mul_zero]
      intro v hv
      obtain ⟨t, ht, rfl⟩ := List.mem_map.1 hv
      have := List.mem_range'_1.1 ht
      exact hu t a (by omega) (by omega)
theorem size_pr {h : Mat} {b : Nat} (hp : ∀ i, i < b → 0 < h i i) : (pr (fun k => h k k) b).natAbs = size h b := by
  induction b with
  | zero => rfl
  | succ b ih =>
    have := hp b (by omega)
    simp only [pr, size]
    rw [Int.natAbs_mul, ih fun i hi => hp i (by omega)]
    congr 1; omega
/-- The minor of a square matrix is the number of the representatives. -/
theorem Tb.det {b : Nat} {A h : Mat} (t : Tb b (Sp A b b) h) : (mn ((List.range b).map A) (List.range b)).natAbs = size h b := by
  rw [← size_pr t.pos, ← tri_minor t.up]
  refine same_dvd fun d => ?_
  rw [← full_dvd, ← full_dvd]
  exact ⟨fun x => x.rows t.mem, fun x => x.rows fun i hi => t.all _ (Sp.unit hi)⟩
theorem rest_rest {m : Nat} {S : List Nat} (hp : S.Pairwise (· < ·)) (hm : ∀ j ∈ S, j < m) : rest m (rest m S) = S := by
  have h1 : (rest m (rest m S)).Pairwise (· < ·) := rest_rising m _
  have hperm : (rest m (rest m S)).Perm S := by
    refine (List.perm_ext_iff_of_nodup (h1.imp fun {a b} hab => Nat.ne_of_lt hab) (hp.imp fun {a b} hab => Nat.ne_of_lt hab)).2 fun a => ?_
    rw [mem_rest, mem_rest]
    constructor
    · rintro ⟨x, y⟩; exact Classical.not_not.1 fun z => y ⟨x, z⟩
    · intro x; exact ⟨hm a x, fun y => y.2 x⟩
  exact hperm.eq_of_pairwise (fun a b _ _ h1 h2 => by omega) h1 hp
/-- The columns with a minor other than 0 of the greatest size are independent, and all others follow from them. -/
theorem gr_of {M : Mat} {n m : Nat} {is cs : List Nat} (hl : is.length = cs.length) (hn : ∀ i ∈ is, i < n) (hm : ∀ j ∈ cs, j < m) (h0 : mn (is.map M) cs ≠ 0) (hz : Dv M n m (cs.length + 1) 0) : Gr M n m (fun _ _ => True) is cs where
  len := hl
  rows := hn
  cols := hm
  ne := h0
  dep j hj := by
    refine ⟨cs.length, Nat.le_refl _, fun _ _ => trivial, mn (is.map M) cs, h0, fun k => mn (is.map M) (cs.set k j), fun i hi => ?_⟩
    have c := cramer (M i) (is.map M) j cs (by simpa using hl)
    have z := hz (i :: is) (j :: cs) (by simp [hl]) (by simp) (by
      intro x hx; rcases List.mem_cons.1 hx with rfl | hx
      · exact hi
      · exact hn x hx) (by
      intro x hx; rcases List.mem_cons.1 hx with rfl | hx
      · exact hj
      · exact hm x hx)
    rw [List.map_cons] at z
    rw [Int.zero_dvd.1 z, Int.add_zero] at c
    rw [Int.mul_comm]; exact c
/-- A row of the kernel for each column that was not chosen. -/
theorem Gr.ker_unit {M : Mat} {n m : Nat} {bef : Nat → Nat → Prop} {is cs : List Nat} (h : Gr M n m bef is cs) (z : Nat → Int) : ∃ y : Nat → Int, (∀ k, k < n → dot m (M k) y = 0) ∧ ∀ s, s < (rest m cs).length → y ((rest m cs).getD s 0) = mn (is.map M) cs * z s := by
  have hc := h.nodup
  obtain ⟨y, hy1, hy2⟩ : ∃ y : Nat → Int, (∀ s, s < (rest m cs).length → y ((rest m cs).getD s 0) = mn (is.map M) cs * z s) ∧ ∀ k, k < cs.length → y (cs.getD k 0) = - sm (rest m cs).length (fun t => z t * mn (is.map M) (cs.set k ((rest m cs).getD t 0))) := by
    refine ⟨fun j => if j ∈ cs then - sm (rest m cs).length (fun t => z t * mn (is.map M) (cs.set (cs.idxOf j) ((rest m cs).getD t 0))) else mn (is.map M) cs * z ((rest m cs).idxOf j), fun s hs => ?_, fun k hk => ?_⟩
    · have hms := getD_mem hs
      have hn := (mem_rest.1 hms).2
      simp only [if_neg hn]
      have hi : (rest m cs).idxOf ((rest m cs).getD s 0) < (rest m cs).length := List.idxOf_lt_length_iff.2 hms
      have e : (rest m cs).idxOf ((rest m cs).getD s 0) = s := getD_inj ((rest_rising m cs).imp fun hab => Nat.ne_of_lt hab) hi hs (by rw [getD_at hi]; exact List.getElem_idxOf hi)
      rw [e]
    · have hmk := getD_mem hk
      simp only [if_pos hmk]
      have hi : cs.idxOf (cs.getD k 0) < cs.length := List.idxOf_lt_length_iff.2 hmk
      have e : cs.idxOf (cs.getD k 0) = k := getD_inj hc hi hk (by rw [getD_at hi]; exact List.getElem_idxOf hi)
      rw [e]
  refine ⟨y, fun k hk => h.ker hc (fun l hl => ?_) hk, hy1⟩
  rw [hy2 l hl]
  have e : sm (rest m cs).length (fun t => y ((rest m cs).getD t 0) * mn (is.map M) (cs.set l ((rest m cs).getD t 0))) = mn (is.map M) cs * sm (rest m cs).length (fun t => z t * mn (is.map M) (cs.set l ((rest m cs).getD t 0))) := by
    rw [← sm_mul]; exact sm_congr fun t ht => by rw [hy1 t ht, Int.mul_assoc]
  rw [e]; grind
/-- The bound. -/
theorem ker_minor {M K : Mat} {n m b : Nat} {is cs S : List Nat} (hl : is.length = cs.length) (hn : ∀ i ∈ is, i < n) (hm : ∀ j ∈ cs, j < m) (h0 : mn (is.map M) cs ≠ 0) (hz : Dv M n m (cs.length + 1) 0)
    (h1 : ∀ i k, i < b → k < n → dot m (M k) (K i) = 0) (h2 : ∀ y, (∀ k, k < n → dot m (M k) y = 0) → Sp K b m y)
    (hS : S.Pairwise (· < ·)) (hSm : ∀ j ∈ S, j < m) (hb : S.length = b) (hbm : b + cs.length = m) : (mn ((List.range b).map K) S).natAbs ≤ (mn (is.map M) (rest m S)).natAbs := by
  have hSn : S.Nodup := hS.imp fun {a b} hab => Nat.ne_of_lt hab
  have hTl := rest_length hSn hSm
  have hT : (rest m S).length = cs.length := by omega
  have hTm : ∀ j ∈ rest m S, j < m := fun j hj => (mem_rest.1 hj).1
  have hTn : (rest m S).Nodup := (rest_rising m S).imp fun {a b} hab => Nat.ne_of_lt hab
  by_cases hD : mn (is.map M) (rest m S) = 0
  · -- both are 0
    suffices hs : mn ((List.range b).map K) S = 0 by rw [hs]; simp
    refine Classical.not_not.1 fun hk => h0 ?_
    have hA : Dv (fun i => M (is.getD i 0)) cs.length m cs.length 0 := by
      refine Dv.unscale hk ?_
      apply Dv_tr (M := tr fun i j => mn ((List.range b).map K) S * M (is.getD i 0) j)
      refine Dv.rows (M := fun t i => M (is.getD i 0) ((rest m S).getD t 0)) (n := cs.length) ?_ fun j hj => ?_
      · rw [full_dvd]
        have e := mn_tr (fun t i => M (is.getD i 0) ((rest m S).getD t 0)) (List.range cs.length) (List.range cs.length) rfl
        rw [e]
        have e2 := at_map (fun i => M (is.getD i 0)) (rest m S) (List.range cs.length) (List.range cs.length)
        have e3 : (List.range cs.length).map (fun k => (rest m S).getD k 0) = rest m S := by rw [← hT]; exact range_map _
        have e4 : (List.range cs.length).map (fun i => M (is.getD i 0)) = is.map M := by
          rw [← hl]
          have := congrArg (List.map M) (range_map is)
          rwa [List.map_map] at this
        rw [e3, e4, hD] at e2
        have e5 : tr (fun t i => M (is.getD i 0) ((rest m S).getD t 0)) = at' (fun i => M (is.getD i 0)) (rest m S) := rfl
        rw [e5, e2]; exact Int.dvd_refl _
      · -- each column follows from those of the rest
        by_cases x : j ∈ S
        · obtain ⟨l, hlS, e⟩ := getD_of_mem x
          refine ⟨fun t => - mn ((List.range b).map K) (S.set l ((rest m S).getD t 0)), fun i hi => ?_⟩
          have c := ker_col (M := K) (m := m) (is := List.range b) (cs := S) (by simp [hb]) hSn hSm (y := M (is.getD i 0)) (fun k hk => by rw [dot_comm]; exact h1 k _ (List.mem_range.1 hk) (hn _ (getD_mem (by omega)))) hlS
          rw [e] at c
          show mn ((List.range b).map K) S * M (is.getD i 0) j = _
          rw [hT] at c
          have e6 : sm cs.length (fun t => -mn ((List.range b).map K) (S.set l ((rest m S).getD t 0)) * M (is.getD i 0) ((rest m S).getD t 0)) = -1 * sm cs.length (fun t => M (is.getD i 0) ((rest m S).getD t 0) * mn ((List.range b).map K) (S.set l ((rest m S).getD t 0))) := by
            rw [← sm_mul]; exact sm_congr fun t _ => by grind
          rw [e6]; omega
        · obtain ⟨t, ht, e⟩ := getD_of_mem (mem_rest.2 ⟨hj, x⟩)
          have := (Sp.unit (M := fun t i => M (is.getD i 0) ((rest m S).getD t 0)) (n := cs.length) (m := cs.length) (p := t) (by omega)).mul (mn ((List.range b).map K) S)
          exact this.congr fun i _ => by rw [e]; rfl
    have := hA (List.range cs.length) cs (by simp) rfl (by simp) hm
    have e4 : (List.range cs.length).map (fun i => M (is.getD i 0)) = is.map M := by
      rw [← hl]
      have := congrArg (List.map M) (range_map is)
      rwa [List.map_map] at this
    rw [e4] at this
    exact Int.zero_dvd.1 this
  · have hG := gr_of (M := M) (n := n) (m := m) (is := is) (cs := rest m S) (by omega) hn hTm hD (by rw [hT]; exact hz)
    have hrr := rest_rest hS hSm
    -- the lattice of the kernel in the columns S
    have hLK : Sub b (Sp (at' K S) b b) := Sub.sp _ _ _
    obtain ⟨hk, tk⟩ := Tb.exists hLK (N := mn (is.map M) (rest m S)) hD fun j hj => by
      obtain ⟨y, hy1, hy2⟩ := hG.ker_unit (unitV 1 j)
      rw [hrr] at hy2
      obtain ⟨c, hc⟩ := h2 y hy1
      refine ⟨c, fun s hs => ?_⟩
      have h3 := hy2 s (by omega)
      have h4 := hc (S.getD s 0) (hSm _ (getD_mem (by omega)))
      rw [h3] at h4
      show unitV _ j s = sm b (fun t => c t * K t (S.getD s 0))
      rw [← h4]; simp only [unitV]
      by_cases x : s = j
      · rw [if_pos x, if_pos x, Int.mul_one]
      · rw [if_neg x, if_neg x, Int.mul_zero]
    -- the lattice of the columns of the rest
    obtain ⟨N, hN⟩ : ∃ N : Mat, N = fun t i => M (is.getD i 0) ((rest m S).getD t 0) := ⟨_, rfl⟩
    have hdet : mn ((List.range cs.length).map N) (List.range cs.length) = mn (is.map M) (rest m S) := by
      rw [hN]
      have e := mn_tr (fun t i => M (is.getD i 0) ((rest m S).getD t 0)) (List.range cs.length) (List.range cs.length) rfl
      rw [e]
      have e2 := at_map (fun i => M (is.getD i 0)) (rest m S) (List.range cs.length) (List.range cs.length)
      have e3 : (List.range cs.length).map (fun k => (rest m S).getD k 0) = rest m S := by rw [← hT]; exact range_map _
      have e4 : (List.range cs.length).map (fun i => M (is.getD i 0)) = is.map M := by
        rw [← hl]
        have := congrArg (List.map M) (range_map is)
        rwa [List.map_map] at this
      rw [e3, e4] at e2
      exact e2
    have hLM : Sub cs.length (Sp N cs.length cs.length) := Sub.sp _ _ _
    obtain ⟨hh, th⟩ := Tb.exists hLM (N := mn (is.map M) (rest m S)) hD fun j hj => by
      have := mn_mul (M := N) (n := cs.length) (m := cs.length) (r := cs.length) (v := unitV 1 j) (Dv_tr (M := tr (snoc N cs.length (unitV 1 j))) (Dv.many (by omega) 0)) (is := List.range cs.length) (cs := List.range cs.length) (by simp) (by simp) (by simp) (by simp)
      rw [hdet] at this
      refine this.congr fun i _ => ?_
      simp only [unitV]
      by_cases x : i = j
      · rw [if_pos x, if_pos x, Int.mul_one]
      · rw [if_neg x, if_neg x, Int.mul_zero]
    have e1 : (mn ((List.range b).map K) S).natAbs = size hk b := by
      rw [← tk.det, at_map, ← hb, range_map]
    have e2 : (mn (is.map M) (rest m S)).natAbs = size hh cs.length := by rw [← th.det, hdet]
    rw [e1, e2]
    refine Tb.le hLM tk th (fun z i => sm b (fun s => M (is.getD i 0) (S.getD s 0) * z s)) fun y z hyz => ?_
    obtain ⟨x, hx⟩ := hyz
    -- the row with these elements
    obtain ⟨Y, hY1, hY2⟩ : ∃ Y : Nat → Int, (∀ s, s < b → Y (S.getD s 0) = y s - z s) ∧ ∀ t, t < cs.length → Y ((rest m S).getD t 0) = - x t := by
      refine ⟨fun j => if j ∈ S then y (S.idxOf j) - z (S.idxOf j) else - x ((rest m S).idxOf j), fun s hs => ?_, fun t ht => ?_⟩
      · have hms := getD_mem (l := S) (k := s) (by omega)
        simp only [if_pos hms]
        have hi : S.idxOf (S.getD s 0) < S.length := List.idxOf_lt_length_iff.2 hms
        have e : S.idxOf (S.getD s 0) = s := getD_inj hSn hi (by omega) (by rw [getD_at hi]; exact List.getElem_idxOf hi)
        rw [e]
      · have hmt := getD_mem (l := rest m S) (k := t) (by omega)
        simp only [if_neg (mem_rest.1 hmt).2]
        have hi : (rest m S).idxOf ((rest m S).getD t 0) < (rest m S).length := List.idxOf_lt_length_iff.2 hmt
        have e : (rest m S).idxOf ((rest m S).getD t 0) = t := getD_inj hTn hi (by omega) (by rw [getD_at hi]; exact List.getElem_idxOf hi)
        rw [e]
    have hker : ∀ i, i < cs.length → dot m (M (is.getD i 0)) Y = 0 := by
      intro i hi
      unfold dot
      rw [sm_split hSn hSm, hT, hb]
      have p1 : sm b (fun s => M (is.getD i 0) (S.getD s 0) * Y (S.getD s 0)) = sm b (fun s => M (is.getD i 0) (S.getD s 0) * y s) - sm b (fun s => M (is.getD i 0) (S.getD s 0) * z s) := by
        rw [← sm_sub]; exact sm_congr fun s hs => by rw [hY1 s hs, Int.mul_sub]
      have p2 : sm cs.length (fun t => M (is.getD i 0) ((rest m S).getD t 0) * Y ((rest m S).getD t 0)) = - sm cs.length (fun t => x t * N t i) := by
        rw [show - sm cs.length (fun t => x t * N t i) = -1 * sm cs.length (fun t => x t * N t i) by omega, ← sm_mul]
        exact sm_congr fun t ht => by rw [hY2 t ht, hN]; grind
      have p3 : sm b (fun s => M (is.getD i 0) (S.getD s 0) * y s) - sm b (fun s => M (is.getD i 0) (S.getD s 0) * z s) = sm cs.length (fun t => x t * N t i) := hx i hi
      rw [p1, p2, p3]; omega
    have hall : ∀ k, k < n → dot m (M k) Y = 0 := by
      intro k hkn
      have e : mn (is.map M) (rest m S) * dot m (M k) Y = 0 := by
        have e1 : mn (is.map M) (rest m S) * dot m (M k) Y = sm m (fun j => sm is.length (fun l => mn ((is.set l k).map M) (rest m S) * (M (is.getD l 0) j * Y j))) := by
          unfold dot
          rw [← sm_mul]
          refine sm_congr fun j hj => ?_
          have c := cramerR M k is (rest m S) j (by omega)
          have z := hz (k :: is) (j :: rest m S) (by simp [hl]) (by simp [hT]) (by
            intro x hx; rcases List.mem_cons.1 hx with rfl | hx
            · exact hkn
            · exact hn x hx) (by
            intro x hx; rcases List.mem_cons.1 hx with rfl | hx
            · exact hj
            · exact hTm x hx)
          rw [Int.zero_dvd.1 z, Int.add_zero] at c
          rw [← Int.mul_assoc, Int.mul_comm (mn _ _), c, Int.mul_comm, ← sm_mul]
          exact sm_congr fun l _ => by grind
        rw [e1, sm_comm, sm_congr (g := fun _ => 0) fun l hll => ?_, sm_zero]
        rw [sm_mul]
        have := hker l (by omega)
        unfold dot at this
        rw [this, Int.mul_zero]
      rcases Int.mul_eq_zero.1 e with q | q
      · exact absurd q hD
      · exact q
    obtain ⟨c, hc⟩ := h2 Y hall
    exact ⟨c, fun s hs => (hY1 s hs).symm.trans (hc _ (hSm _ (getD_mem (by omega))))⟩
end Go.Proofs.Ytmknbgiihhimfaa.D
/- Plain mathematics (no program): bounds of the elements of Hermite forms and kernels; a row that is taken apart. -/
namespace Go.Proofs.Ytmknbgiihhimfaa.D
theorem sm_abs (n : Nat) (f : Nat → Int) (g : Nat → Nat) (h : ∀ t, t < n → (f t).natAbs ≤ g t) : (sm n f).natAbs ≤ rs n (fun t => (g t : Int)) := by
  induction n with
  | zero => simp [sm, rs]
  | succ n ih =>
    have := ih fun t ht => h t (by omega)
    have := h n (by omega)
    simp only [sm, rs]; omega
theorem rs_const (n : Nat) (c : Nat) : rs n (fun _ => (c : Int)) = n * c := by
  induction n with
  | zero => simp [rs]
  | succ n ih => simp only [rs]; rw [ih, Nat.succ_mul]; simp
theorem rs_le {n : Nat} {u v : Nat → Int} (h : ∀ t, t < n → (u t).natAbs ≤ (v t).natAbs) : rs n u ≤ rs n v := by
  induction n with
  | zero => exact Nat.le_refl _
  | succ n ih => have := ih fun t ht => h t (by omega); have := h n (by omega); simp only [rs]; omega
/-- A minor with a column in the place of another one. -/
theorem mn_set_vol {M : Mat} {m n : Nat} {is cs : List Nat} {k j : Nat} (hl : is.length = cs.length) (hn : ∀ i ∈ is, i < n) (hm : ∀ c ∈ cs, c < m) (hj : j < m) : (mn (is.map M) (cs.set k j)).natAbs ≤ vol M m n := by
  by_cases h1 : is.Nodup
  · by_cases h2 : (cs.set k j).Nodup
    · refine mn_vol h1 hn h2 fun c hc => ?_
      rcases List.mem_or_eq_of_mem_set hc with x | x
      · exact hm c x
      · omega
    · rw [mn_cols_dup h2 _ (by simpa using hl)]; simp
  · rw [mn_dup (fun x => h1 ((List.pairwise_map.1 x).imp fun hab e => hab (by rw [e])))]; simp
theorem pr_dvd_of {s : Nat → Int} {n k : Nat} (h : k < n) : s k ∣ pr s n := by
  induction n with
  | zero => omega
  | succ n ih =>
    by_cases x : k = n
    · subst x; exact Int.dvd_mul_left _ _
    · exact Int.dvd_mul_of_dvd_left (ih (by omega)) 
/-- In the columns of the pivots there is a minor other than 0. -/
theorem Hf.rows_at {M H : Mat} {n r m : Nat} {p : Nat → Nat} (h : Hf H r m p) (h2 : ∀ i, i < r → Sp M n m (H i)) : ∃ is : List Nat, is.length = r ∧ (∀ i ∈ is, i < n) ∧ mn (is.map M) ((List.range r).map p) ≠ 0 := by
  refine Classical.not_not.1 fun hx => ?_
  have hz : Dv (at' M ((List.range r).map p)) n r r 0 := by
    refine Dv.rising fun is js hi hj _ hrj hn hm => ?_
    rw [full_list hj hrj hm, at_map]
    have e : (List.range r).map (fun k => ((List.range r).map p).getD k 0) = (List.range r).map p := by
      have := range_map ((List.range r).map p)
      rwa [List.length_map, List.length_range] at this
    rw [e, Classical.not_not.1 fun y => hx ⟨is, hi, hn, y⟩]; exact Int.dvd_refl _
  have hg : ∀ k, k < r → ((List.range r).map p).getD k 0 = p k := fun k hk => by
    rw [getD_at (by simpa using hk)]; simp
  have h3 : Dv (at' H ((List.range r).map p)) r r r 0 := hz.rows fun i hi => by
    obtain ⟨c, hc⟩ := h2 i hi
    exact ⟨c, fun k hk => by
      show H i _ = sm n fun t => c t * M t _
      exact hc _ (by rw [hg k hk]; exact h.lt k hk)⟩
  have h4 := (full_dvd _ _ _).1 h3
  rw [at_map] at h4
  have e : (List.range r).map (fun k => ((List.range r).map p).getD k 0) = (List.range r).map p := by
    have := range_map ((List.range r).map p)
    rwa [List.length_map, List.length_range] at this
  rw [e, h.minor] at h4
  have := pr_pos (s := fun k => H k (p k)) (k := r) h.pos
  have := Int.zero_dvd.1 h4; omega
theorem Hf.entry_piv {H : Mat} {r m : Nat} {p : Nat → Nat} (h : Hf H r m p) {i k : Nat} (hi : i < r) (hk : k < r) : 0 ≤ H i (p k) ∧ H i (p k) ≤ H k (p k) := by
  rcases Nat.lt_trichotomy i k with x | x | x
  · have := h.red i k x hk; omega
  · subst x; have := h.pos i hi; omega
  · have := h.left i (p k) hi (h.rise k i x hi); have := h.pos k hk; omega
/-- The elements of a Hermite form. -/
theorem Hf.bound {M H : Mat} {n r m : Nat} {p : Nat → Nat} (h : Hf H r m p) (h1 : ∀ i, i < n → Sp H r m (M i)) (h2 : ∀ i, i < r → Sp M n m (H i)) {i j : Nat} (hi : i < r) (hj : j < m) : (H i j).natAbs ≤ r * vol M m n := by
  obtain ⟨is, hl, hn, h0⟩ := h.rows_at h2
  have hz : Dv M n m (((List.range r).map p).length + 1) 0 := by rw [h.rank h1 h2]; simp
  have hm : ∀ c ∈ (List.range r).map p, c < m := fun c hc => by
    obtain ⟨k, hk, rfl⟩ := List.mem_map.1 hc; exact h.lt k (List.mem_range.1 hk)
  have hG := gr_of (M := M) (n := n) (m := m) (is := is) (cs := (List.range r).map p) (by simp [hl]) hn hm h0 hz
  have c := hG.cramer (h2 i hi) hj
  have hd := h.pivots h1 hl hn
  have hD : 0 < (mn (is.map M) ((List.range r).map p)).natAbs := by omega
  have hb : (H i j * mn (is.map M) ((List.range r).map p)).natAbs ≤ r * ((mn (is.map M) ((List.range r).map p)).natAbs * vol M m n) := by
    rw [c, ← rs_const]
    have e : ((List.range r).map p).length = r := by simp
    rw [e]
    refine sm_abs r _ (fun _ => (mn (is.map M) ((List.range r).map p)).natAbs * vol M m n) fun k hk => ?_
    rw [Int.natAbs_mul]
    refine Nat.mul_le_mul ?_ (mn_set_vol (by simp [hl]) hn hm hj)
    have hg : ((List.range r).map p).getD k 0 = p k := by rw [getD_at (by simpa using hk)]; simp
    rw [hg]
    have h3 := h.entry_piv hi hk
    have h4 := abs_le (Int.dvd_trans (pr_dvd_of (s := fun k => H k (p k)) hk) hd) h0
    omega
  rw [Int.natAbs_mul, ← Nat.mul_assoc, Nat.mul_comm r, Nat.mul_assoc, Nat.mul_comm (H i j).natAbs] at hb
  exact Nat.le_of_mul_le_mul_left hb hD
/-- The elements of a kernel. -/
theorem Hf.ker_bound {M K : Mat} {n b m r : Nat} {q : Nat → Nat} (h : Hf K b m q) (h1 : ∀ i k, i < b → k < n → dot m (M k) (K i) = 0) (h2 : ∀ y, (∀ k, k < n → dot m (M k) y = 0) → Sp K b m y)
    (hr : ∀ k, Dv M n m k 0 ↔ r < k) {i j : Nat} (hi : i < b) (hj : j < m) : (K i j).natAbs ≤ m * vol M m n := by
  obtain ⟨is, cs, hG⟩ := Gr.exists_le M n m
  have hrc : cs.length = r := by
    have a := hr (cs.length); have b := hr (cs.length + 1)
    rw [hG.rank] at a b
    have : r < cs.length + 1 := b.1 (by omega)
    have : ¬ r < cs.length := fun x => Nat.lt_irrefl _ (a.2 x)
    omega
  obtain ⟨hrm, hb⟩ := ker_count h h1 h2 hr
  have hz : Dv M n m (cs.length + 1) 0 := by rw [hr]; omega
  have hQm : ∀ c ∈ (List.range b).map q, c < m := fun c hc => by
    obtain ⟨k, hk, rfl⟩ := List.mem_map.1 hc; exact h.lt k (List.mem_range.1 hk)
  have hQp : ((List.range b).map q).Pairwise (· < ·) := by
    refine List.pairwise_map.2 (List.pairwise_iff_getElem.2 fun x y hx hy hxy => ?_)
    simp at hx hy ⊢
    exact h.rise x y hxy hy
  have hQn : ((List.range b).map q).Nodup := hQp.imp fun {a b} hab => Nat.ne_of_lt hab
  have hm := ker_minor hG.len hG.rows hG.cols hG.ne hz h1 h2 hQp hQm (by simp) (by omega)
  rw [h.minor] at hm
  have hpp := pr_pos (s := fun k => K k (q k)) (k := b) h.pos
  have hTl := rest_length hQn hQm
  have hTm : ∀ c ∈ rest m ((List.range b).map q), c < m := fun c hc => (mem_rest.1 hc).1
  have hTn : (rest m ((List.range b).map q)).Nodup := (rest_rising m _).imp fun {a b} hab => Nat.ne_of_lt hab
  have hlT : is.length = (rest m ((List.range b).map q)).length := by rw [hG.len]; simp at hTl; omega
  have hD : 0 < (mn (is.map M) (rest m ((List.range b).map q))).natAbs := by omega
  have hDV : (mn (is.map M) (rest m ((List.range b).map q))).natAbs ≤ vol M m n := by
    by_cases x : is.Nodup
    · exact mn_vol x hG.rows hTn hTm
    · exfalso
      refine hG.ne (mn_dup (fun y => x ((List.pairwise_map.1 y).imp fun hab e => hab (by rw [e]))) _)
  have hpiv : ∀ k, k < b → (K k (q k)).natAbs ≤ (mn (is.map M) (rest m ((List.range b).map q))).natAbs := fun k hk => by
    have := abs_le (pr_dvd_of (s := fun k => K k (q k)) hk) (by omega)
    omega
  have hg : ∀ k, k < b → ((List.range b).map q).getD k 0 = q k := fun k hk => by rw [getD_at (by simpa using hk)]; simp
  have hm1 : 1 ≤ m := by omega
  by_cases x : j ∈ (List.range b).map q
  · obtain ⟨k, hk, rfl⟩ := List.mem_map.1 x
    have hk' := List.mem_range.1 hk
    have h3 := h.entry_piv hi hk'
    have h4 := hpiv k hk'
    have : vol M m n ≤ m * vol M m n := Nat.le_mul_of_pos_left _ hm1
    omega
  · obtain ⟨l, hll, e⟩ := getD_of_mem (mem_rest.2 ⟨hj, x⟩)
    have c := ker_col (M := M) (m := m) hlT hTn hTm (y := K i) (fun k hk => h1 i k hi (hG.rows k hk)) hll
    rw [e, rest_rest hQp hQm] at c
    have e1 : ((List.range b).map q).length = b := by simp
    rw [e1] at c
    have hb2 : (mn (is.map M) (rest m ((List.range b).map q)) * K i j).natAbs ≤ b * ((mn (is.map M) (rest m ((List.range b).map q))).natAbs * vol M m n) := by
      have e2 : mn (is.map M) (rest m ((List.range b).map q)) * K i j = - sm b (fun t => K i (((List.range b).map q).getD t 0) * mn (is.map M) ((rest m ((List.range b).map q)).set l (((List.range b).map q).getD t 0))) := by omega
      rw [e2, Int.natAbs_neg, ← rs_const]
      refine sm_abs b _ (fun _ => (mn (is.map M) (rest m ((List.range b).map q))).natAbs * vol M m n) fun t ht => ?_
      rw [Int.natAbs_mul]
      refine Nat.mul_le_mul ?_ (mn_set_vol hlT hG.rows hTm (hQm _ (getD_mem (by simpa using ht))))
      rw [hg t ht]
      have h3 := h.entry_piv hi ht
      have h4 := hpiv t ht
      omega
    rw [Int.natAbs_mul, ← Nat.mul_assoc, Nat.mul_comm b, Nat.mul_assoc] at hb2
    have h5 := Nat.le_of_mul_le_mul_left hb2 hD
    exact Nat.le_trans h5 (Nat.mul_le_mul_right _ (by omega))
/-- A row is taken apart by the pivots, one after another. -/
def tk (H : Mat) (p : Nat → Nat) (v : Nat → Int) : Nat → Nat → Int
  | 0 => v
  | k + 1 => fun j => tk H p v k j - tk H p v k (p k) / H k (p k) * H k j
def ck (H : Mat) (p : Nat → Nat) (v : Nat → Int) (k : Nat) : Int := tk H p v k (p k) / H k (p k)
theorem tk_shift (H : Mat) (p : Nat → Nat) (v : Nat → Int) (k : Nat) : tk H p v (k + 1) = tk (tl H) (fun t => p (t + 1)) (fun j => v j - v (p 0) / H 0 (p 0) * H 0 j) k := by
  induction k with
  | zero => rfl
  | succ k ih =>
    rw [show tk H p v (k + 1 + 1) = (fun j => tk H p v (k + 1) j - tk H p v (k + 1) (p (k + 1)) / H (k + 1) (p (k + 1)) * H (k + 1) j) from rfl, ih]; rfl
theorem Hf.taken {H : Mat} {r m : Nat} {p : Nat → Nat} (h : Hf H r m p) {v : Nat → Int} (hv : Sp H r m v) : (∀ k, k < r → H k (p k) ∣ tk H p v k (p k)) ∧ ∀ j, j < m → tk H p v r j = 0 := by
  induction r generalizing H p v with
  | zero => obtain ⟨c, hc⟩ := hv; exact ⟨fun k hk => by omega, fun j hj => hc j hj⟩
  | succ r ih =>
    obtain ⟨_, f2, f3⟩ := h.front hv
    obtain ⟨i1, i2⟩ := ih h.tl f3
    refine ⟨fun k hk => ?_, fun j hj => ?_⟩
    · cases k with
      | zero => exact f2
      | succ k => rw [tk_shift]; exact i1 k (by omega)
    · rw [tk_shift]; exact i2 j hj
theorem tk_sum (H : Mat) (p : Nat → Nat) (v : Nat → Int) (k j : Nat) : tk H p v k j = v j - sm k (fun l => ck H p v l * H l j) := by
  induction k with
  | zero => simp [tk, sm]
  | succ k ih =>
    show tk H p v k j - tk H p v k (p k) / H k (p k) * H k j = _
    rw [sm, ih, ck]; omega
theorem rs_mul (k : Nat) (f : Nat → Int) (c : Nat) : rs k (fun l => (((f l).natAbs * c : Nat) : Int)) = rs k f * c := by
  induction k with
  | zero => simp [rs]
  | succ k ih => simp only [rs]; rw [ih, Nat.add_mul, Int.natAbs_natCast]
/-- The multiples that are taken. -/
theorem Hf.ck_bound {H : Mat} {r m : Nat} {p : Nat → Nat} (h : Hf H r m p) {v : Nat → Int} {B : Nat} (hB : ∀ j, j < m → (v j).natAbs ≤ B) {k : Nat} (hk : k ≤ r) : rs k (ck H p v) + B ≤ B * 2 ^ k := by
  induction k with
  | zero => simp [rs]
  | succ k ih =>
    have hi := ih (by omega)
    have hp := h.pos k (by omega)
    have hc : (ck H p v k).natAbs ≤ B + rs k (ck H p v) := by
      have e : tk H p v k (p k) = v (p k) - sm k (fun l => ck H p v l * H l (p k)) := tk_sum H p v k (p k)
      have h1 : (sm k (fun l => ck H p v l * H l (p k))).natAbs ≤ rs k (ck H p v) * (H k (p k)).natAbs := by
        have h2 := sm_abs k (fun l => ck H p v l * H l (p k)) (fun l => (ck H p v l).natAbs * (H k (p k)).natAbs) fun l hl => by
          rw [Int.natAbs_mul]
          refine Nat.mul_le_mul_left _ ?_
          have := h.red l k hl (by omega); omega
        rwa [rs_mul] at h2
      obtain ⟨P, hP⟩ := Int.eq_ofNat_of_zero_le (Int.le_of_lt hp)
      have hPa : (H k (p k)).natAbs = P := by omega
      rw [hPa] at h1
      have hvb := hB (p k) (h.lt k (by omega))
      have hP1 : 1 ≤ P := by omega
      have hBP : B ≤ B * P := Nat.le_mul_of_pos_right _ hP1
      obtain ⟨R, hR⟩ : ∃ R, R = rs k (ck H p v) := ⟨_, rfl⟩
      rw [← hR] at h1 ⊢
      have hx : (tk H p v k (p k)).natAbs ≤ (B + R) * P := by rw [e, Nat.add_mul]; omega
      have hx' : -((B + R : Nat) : Int) * (P : Int) ≤ tk H p v k (p k) ∧ tk H p v k (p k) ≤ ((B + R : Nat) : Int) * (P : Int) := by
        have : ((B + R : Nat) : Int) * (P : Int) = (((B + R) * P : Nat) : Int) := by simp
        rw [Int.neg_mul, this]; omega
      unfold ck
      rw [hP]
      have a1 := Int.le_ediv_of_mul_le (show (0 : Int) < (P : Int) by omega) hx'.1
      have a2 := Int.ediv_le_of_le_mul (show (0 : Int) < (P : Int) by omega) hx'.2
      omega
    simp only [rs]
    rw [Nat.pow_succ, ← Nat.mul_assoc]; omega
end Go.Proofs.Ytmknbgiihhimfaa.D

/- Plain mathematics of minors of integer matrices (no program): the expansion by the first row, exchanges of rows, the expansion by the first column, the transposed matrix. -/



namespace Go.Proofs.Ytnbamjoadankmaa.D
/-- The alternating sum over all ways to take one element out of a list. -/
def alt (f : Nat → List Nat → Int) : List Nat → Int
  | [] => 0
  | j :: js => f j js - alt (fun a r => f a (j :: r)) js
/-- The minor of some rows in some columns: its expansion by the first row. -/
def mn : List (Nat → Int) → List Nat → Int
  | [], _ => 1
  | v :: vs, js => alt (fun j r => v j * mn vs r) js
theorem alt_congrP {f g : Nat → List Nat → Int} {js : List Nat} (h : ∀ a r, (a :: r).Perm js → f a r = g a r) : alt f js = alt g js := by
  induction js generalizing f g with
  | nil => rfl
  | cons j js ih =>
    unfold alt
    rw [h j js (List.Perm.refl _), ih (f := fun a r => f a (j :: r)) (g := fun a r => g a (j :: r)) fun a r hr => h a (j :: r) ((List.Perm.swap j a r).trans (hr.cons j))]
theorem alt_congr {f g : Nat → List Nat → Int} {js : List Nat} (h : ∀ a r, r.length + 1 = js.length → f a r = g a r) : alt f js = alt g js :=
  alt_congrP fun a r hp => h a r (by simpa using hp.length_eq)
theorem alt_map (f : Nat → List Nat → Int) (g : Nat → Nat) (js : List Nat) : alt f (js.map g) = alt (fun a r => f (g a) (r.map g)) js := by
  induction js generalizing f with
  | nil => rfl
  | cons j js ih => rw [List.map_cons]; unfold alt; rw [ih]; rfl
theorem alt_dvd {d : Int} {f : Nat → List Nat → Int} {js : List Nat} (h : ∀ a r, (a :: r).Perm js → d ∣ f a r) : d ∣ alt f js := by
  induction js generalizing f with
  | nil => exact Int.dvd_zero d
  | cons j js ih =>
    unfold alt
    exact Int.dvd_sub (h j js (List.Perm.refl _)) (ih fun a r hr => h a (j :: r) ((List.Perm.swap j a r).trans (hr.cons j)))
theorem alt_congr' {f g : Nat → List Nat → Int} (h : ∀ a r, f a r = g a r) (js : List Nat) : alt f js = alt g js := alt_congr fun a r _ => h a r
theorem alt_add (f g : Nat → List Nat → Int) (js : List Nat) : alt (fun a r => f a r + g a r) js = alt f js + alt g js := by
  induction js generalizing f g with
  | nil => rfl
  | cons j js ih => simp only [alt]; rw [ih]; omega
theorem alt_sub (f g : Nat → List Nat → Int) (js : List Nat) : alt (fun a r => f a r - g a r) js = alt f js - alt g js := by
  induction js generalizing f g with
  | nil => rfl
  | cons j js ih => simp only [alt]; rw [ih]; omega
theorem alt_mul (c : Int) (f : Nat → List Nat → Int) (js : List Nat) : alt (fun a r => c * f a r) js = c * alt f js := by
  induction js generalizing f with
  | nil => simp [alt]
  | cons j js ih => simp only [alt]; rw [ih, Int.mul_sub]
theorem alt_zero (js : List Nat) : alt (fun _ _ => 0) js = 0 := by
  induction js with
  | nil => rfl
  | cons j js ih => simp only [alt]; rw [ih]; rfl
theorem alt_neg (f : Nat → List Nat → Int) (js : List Nat) : alt (fun a r => - f a r) js = - alt f js := by
  have := alt_mul (-1) f js
  simp only [Int.neg_one_mul] at this; exact this
/-- Taking two elements out in the other order turns the sign. -/
theorem alt_swap (f : Nat → Nat → List Nat → Int) (js : List Nat) : alt (fun a r => alt (fun b r' => f a b r') r) js = - alt (fun a r => alt (fun b r' => f b a r') r) js := by
  induction js generalizing f with
  | nil => rfl
  | cons j js ih =>
    simp only [alt]
    rw [alt_sub, alt_sub]
    have key : ∀ a b x y : Int, x = -y → a - (b - x) = -(b - (a - y)) := by intros; omega
    exact key _ _ _ _ (ih fun a b r => f a b (j :: r))
/-- Sums over two lists may be exchanged. -/
theorem alt_comm (f : Nat → List Nat → Nat → List Nat → Int) (is js : List Nat) : alt (fun i r => alt (fun j s => f i r j s) js) is = alt (fun j s => alt (fun i r => f i r j s) is) js := by
  induction is generalizing f with
  | nil => simp only [alt]; exact (alt_zero js).symm
  | cons i is ih =>
    simp only [alt]
    rw [ih fun i' r j s => f i' (i :: r) j s, ← alt_sub]
theorem mn_cons (v : Nat → Int) (vs : List (Nat → Int)) (js : List Nat) : mn (v :: vs) js = alt (fun j r => v j * mn vs r) js := rfl
theorem mn_nil (js : List Nat) : mn [] js = 1 := rfl
theorem mn_cons_nil (v : Nat → Int) (vs : List (Nat → Int)) : mn (v :: vs) [] = 0 := rfl
/-- Exchange of the first two rows. -/
theorem mn_swap (u v : Nat → Int) (vs : List (Nat → Int)) (js : List Nat) : mn (u :: v :: vs) js = - mn (v :: u :: vs) js := by
  simp only [mn_cons]
  simp only [← alt_mul]
  rw [alt_swap (fun a b r => u a * (v b * mn vs r))]
  congr 1
  exact alt_congr' (fun a r => alt_congr' (fun b r' => by rw [← Int.mul_assoc, ← Int.mul_assoc, Int.mul_comm (u b)]) r) js
theorem mn_same (u : Nat → Int) (vs : List (Nat → Int)) (js : List Nat) : mn (u :: u :: vs) js = 0 := by
  have := mn_swap u u vs js; omega
theorem mn_congr {v : Nat → Int} {vs us : List (Nat → Int)} {c : Int} (h : ∀ js, mn vs js = c * mn us js) (js : List Nat) : mn (v :: vs) js = c * mn (v :: us) js := by
  rw [mn_cons, mn_cons, ← alt_mul]
  exact alt_congr' (fun a r => by rw [h, ← Int.mul_assoc, ← Int.mul_assoc, Int.mul_comm c]) js
/-- The rows in another order. -/
theorem mn_perm {vs us : List (Nat → Int)} (h : vs.Perm us) : ∃ c : Int, (c = 1 ∨ c = -1) ∧ ∀ js, mn vs js = c * mn us js := by
  induction h with
  | nil => exact ⟨1, Or.inl rfl, fun js => by omega⟩
  | cons v _ ih => obtain ⟨c, hc, h⟩ := ih; exact ⟨c, hc, mn_congr h⟩
  | swap u v l => exact ⟨-1, Or.inr rfl, fun js => by rw [mn_swap]; omega⟩
  | trans _ _ ih1 ih2 =>
    obtain ⟨c, hc, h⟩ := ih1; obtain ⟨e, he, h'⟩ := ih2
    refine ⟨c * e, ?_, fun js => by rw [h, h', Int.mul_assoc]⟩
    rcases hc with rfl | rfl <;> rcases he with rfl | rfl <;> simp
/-- A row that comes twice. -/
theorem mn_twice {u : Nat → Int} {a b : List (Nat → Int)} (h : u ∈ b) (js : List Nat) : mn (u :: a ++ b) js = 0 := by
  obtain ⟨c, d, rfl⟩ := List.append_of_mem h
  have hp : (u :: a ++ (c ++ u :: d)).Perm (u :: u :: (a ++ c ++ d)) := by
    rw [List.cons_append]
    refine List.Perm.cons u ?_
    rw [← List.append_assoc]
    exact List.perm_middle
  obtain ⟨e, _, h⟩ := mn_perm hp
  rw [h, mn_same]; omega
theorem mn_dup {us : List (Nat → Int)} (h : ¬ us.Nodup) (js : List Nat) : mn us js = 0 := by
  induction us generalizing js with
  | nil => exact absurd List.nodup_nil h
  | cons u us ih =>
    by_cases hu : u ∈ us
    · exact mn_twice (a := []) hu js
    · rw [List.nodup_cons] at h
      have h1 : ¬ us.Nodup := fun x => h ⟨hu, x⟩
      rw [mn_cons, alt_congr' (g := fun _ _ => 0) (fun a r => by rw [ih h1]; omega), alt_zero]
/-- Rows of a matrix. -/
abbrev Mat := Nat → Nat → Int
def tr (M : Mat) : Mat := fun i j => M j i
/-- The expansion by the first column. -/
theorem mn_column (M : Mat) (j : Nat) (js is : List Nat) (h : is.length = js.length + 1) : mn (is.map M) (j :: js) = alt (fun i r => M i j * mn (r.map M) js) is := by
  induction is generalizing js with
  | nil => simp at h
  | cons i is ih =>
    rw [List.map_cons, mn_cons]
    simp only [alt]
    congr 1
    have h0 : is.length = js.length := by simpa using h
    have e1 : alt (fun a r => M i a * mn (is.map M) (j :: r)) js = alt (fun a r => alt (fun i' r' => M i a * (M i' j * mn (r'.map M) r)) is) js :=
      alt_congr fun a r hr => by rw [ih r (by omega), alt_mul]
    rw [e1, alt_comm]
    exact (alt_congr' (fun a r => by
      rw [List.map_cons, mn_cons, ← alt_mul]
      exact alt_congr' (fun b s => by rw [← Int.mul_assoc, ← Int.mul_assoc, Int.mul_comm (M i b)]) js) is).symm
/-- The minor of the transposed matrix. -/
theorem mn_tr (M : Mat) (is js : List Nat) (h : is.length = js.length) : mn (is.map M) js = mn (js.map (tr M)) is := by
  induction js generalizing is with
  | nil => have : is = [] := List.eq_nil_of_length_eq_zero h
           subst this; rfl
  | cons j js ih =>
    rw [mn_column M j js is (by simpa using h), List.map_cons, mn_cons]
    exact alt_congr fun a r hr => by rw [ih r (by simp at h; omega)]; rfl
/-- Any list of rows is a list of rows of a matrix. -/
def matOf (vs : List (Nat → Int)) : Mat := fun i => vs.getD i fun _ => 0
theorem map_matOf (vs : List (Nat → Int)) : (List.range vs.length).map (matOf vs) = vs := by
  apply List.ext_getElem
  · simp
  · intro i h1 h2
    simp [matOf, List.getElem?_eq_getElem h2]
/-- Rows of a matrix in another order: the sign is that of the order alone. -/
theorem mn_permI {is ks : List Nat} (h : is.Perm ks) : ∃ c : Int, (c = 1 ∨ c = -1) ∧ ∀ (M : Mat) (js : List Nat), mn (is.map M) js = c * mn (ks.map M) js := by
  induction h with
  | nil => exact ⟨1, Or.inl rfl, fun M js => by omega⟩
  | cons v _ ih => obtain ⟨c, hc, h⟩ := ih; exact ⟨c, hc, fun M => mn_congr (h M)⟩
  | swap u v l => exact ⟨-1, Or.inr rfl, fun M js => by rw [List.map_cons, List.map_cons, mn_swap, List.map_cons, List.map_cons]; omega⟩
  | trans _ _ ih1 ih2 =>
    obtain ⟨c, hc, h⟩ := ih1; obtain ⟨e, he, h'⟩ := ih2
    refine ⟨c * e, ?_, fun M js => by rw [h, h', Int.mul_assoc]⟩
    rcases hc with rfl | rfl <;> rcases he with rfl | rfl <;> simp
/-- The columns in another order. -/
theorem mn_cols {js ks : List Nat} (h : js.Perm ks) : ∃ c : Int, (c = 1 ∨ c = -1) ∧ ∀ vs : List (Nat → Int), vs.length = js.length → mn vs js = c * mn vs ks := by
  obtain ⟨c, hc, h'⟩ := mn_permI h
  refine ⟨c, hc, fun vs hv => ?_⟩
  have hl := h.length_eq
  rw [← map_matOf vs, mn_tr _ _ js (by simpa using hv), mn_tr _ _ ks (by simp; omega)]
  exact h' _ _
theorem mn_cols_dup {js : List Nat} (h : ¬ js.Nodup) (vs : List (Nat → Int)) (hv : vs.length = js.length) : mn vs js = 0 := by
  rw [← map_matOf vs, mn_tr _ _ js (by simpa using hv)]
  exact mn_dup (fun x => h ((List.pairwise_map.1 x).imp fun hab e => hab (by rw [e]))) _
end Go.Proofs.Ytnbamjoadankmaa.D
/- Plain mathematics of the greatest common divisors of the minors of an integer matrix (no program): operations on rows and columns keep them; each divides the next one, and its square divides the product of those next to it. -/
namespace Go.Proofs.Ytnbamjoadankmaa.D
/-- The sum of the first n numbers. -/
def sm : Nat → (Nat → Int) → Int
  | 0, _ => 0
  | n + 1, f => sm n f + f n
theorem sm_congr {n : Nat} {f g : Nat → Int} (h : ∀ t, t < n → f t = g t) : sm n f = sm n g := by
  induction n with
  | zero => rfl
  | succ n ih => unfold sm; rw [ih fun t ht => h t (by omega), h n (by omega)]
theorem sm_add (n : Nat) (f g : Nat → Int) : sm n (fun t => f t + g t) = sm n f + sm n g := by
  induction n with
  | zero => rfl
  | succ n ih => simp only [sm]; rw [ih]; omega
theorem sm_mul (n : Nat) (c : Int) (f : Nat → Int) : sm n (fun t => c * f t) = c * sm n f := by
  induction n with
  | zero => simp [sm]
  | succ n ih => simp only [sm]; rw [ih, Int.mul_add]
theorem sm_zero (n : Nat) : sm n (fun _ => 0) = 0 := by
  induction n with
  | zero => rfl
  | succ n ih => simp only [sm]; rw [ih]; rfl
theorem sm_unit {n p : Nat} (hp : p < n) (f : Nat → Int) : sm n (fun t => (if t = p then 1 else 0) * f t) = f p := by
  induction n with
  | zero => omega
  | succ n ih =>
    simp only [sm]
    by_cases h : p = n
    · subst h
      rw [sm_congr (g := fun _ => 0) fun t ht => by rw [if_neg (by omega)]; omega, sm_zero, if_pos rfl]; omega
    · rw [ih (by omega), if_neg (Ne.symm h)]; omega
theorem sm_comm (n m : Nat) (f : Nat → Nat → Int) : sm n (fun i => sm m (fun j => f i j)) = sm m (fun j => sm n (fun i => f i j)) := by
  induction n with
  | zero => simp only [sm]; exact (sm_zero m).symm
  | succ n ih => simp only [sm]; rw [ih, ← sm_add]
theorem sm_dvd {d : Int} {n : Nat} {f : Nat → Int} (h : ∀ t, t < n → d ∣ f t) : d ∣ sm n f := by
  induction n with
  | zero => exact Int.dvd_zero d
  | succ n ih => exact Int.dvd_add (ih fun t ht => h t (by omega)) (h n (by omega))
/-- A row is a sum of multiples of the first n rows, in the first m columns. -/
def Sp (M : Mat) (n m : Nat) (v : Nat → Int) : Prop := ∃ c : Nat → Int, ∀ j, j < m → v j = sm n (fun t => c t * M t j)
theorem Sp.unit {M : Mat} {n m p : Nat} (hp : p < n) : Sp M n m (M p) := ⟨fun t => if t = p then 1 else 0, fun j _ => (sm_unit hp fun t => M t j).symm⟩
theorem Sp.add {M : Mat} {n m : Nat} {u v : Nat → Int} (hu : Sp M n m u) (hv : Sp M n m v) : Sp M n m (fun j => u j + v j) := by
  obtain ⟨c, hc⟩ := hu; obtain ⟨e, he⟩ := hv
  refine ⟨fun t => c t + e t, fun j hj => ?_⟩
  show u j + v j = _
  rw [hc j hj, he j hj, ← sm_add]
  exact sm_congr fun t _ => by rw [Int.add_mul]
theorem Sp.mul {M : Mat} {n m : Nat} {u : Nat → Int} (a : Int) (hu : Sp M n m u) : Sp M n m (fun j => a * u j) := by
  obtain ⟨c, hc⟩ := hu
  refine ⟨fun t => a * c t, fun j hj => ?_⟩
  show a * u j = _
  rw [hc j hj, ← sm_mul]
  exact sm_congr fun t _ => by rw [Int.mul_assoc]
theorem Sp.congr {M : Mat} {n m : Nat} {u v : Nat → Int} (hu : Sp M n m u) (h : ∀ j, j < m → v j = u j) : Sp M n m v := by
  obtain ⟨c, hc⟩ := hu
  exact ⟨c, fun j hj => (h j hj).trans (hc j hj)⟩
theorem Sp.zero {M : Mat} {n m : Nat} : Sp M n m (fun _ => 0) := ⟨fun _ => 0, fun j _ => by rw [sm_congr (g := fun _ => 0) fun t _ => by simp, sm_zero]⟩
theorem Sp.sum {M : Mat} {n m : Nat} {k : Nat} {c : Nat → Int} {N : Mat} (h : ∀ t, t < k → Sp M n m (N t)) : Sp M n m (fun j => sm k (fun t => c t * N t j)) := by
  induction k with
  | zero => exact Sp.zero
  | succ k ih => exact (ih fun t ht => h t (by omega)).add ((h k (by omega)).mul (c k))
theorem Sp.trans {M N : Mat} {n n' m : Nat} {u : Nat → Int} (hu : Sp N n' m u) (h : ∀ t, t < n' → Sp M n m (N t)) : Sp M n m u := by
  obtain ⟨c, hc⟩ := hu
  exact (Sp.sum h).congr hc
/-- A number divides all minors of a size. -/
def Dv (M : Mat) (n m k : Nat) (d : Int) : Prop := ∀ is js : List Nat, is.length = k → js.length = k → (∀ i ∈ is, i < n) → (∀ j ∈ js, j < m) → d ∣ mn (is.map M) js
theorem Dv_tr {M : Mat} {n m k : Nat} {d : Int} (h : Dv M n m k d) : Dv (tr M) m n k d := fun is js hi hj hn hm => by
  rw [mn_tr (tr M) is js (by omega)]
  exact h js is hj hi hm hn
/-- A sum of multiples of minors with the given rows. -/
inductive Cb (M : Mat) (n m k : Nat) : (List Nat → Int) → Prop
  | zero {f : List Nat → Int} : (∀ js, (∀ j ∈ js, j < m) → f js = 0) → Cb M n m k f
  | step {f g : List Nat → Int} (c : Int) (ts : List Nat) : ts.length = k → (∀ t ∈ ts, t < n) → Cb M n m k g → (∀ js, (∀ j ∈ js, j < m) → f js = c * mn (ts.map M) js + g js) → Cb M n m k f
theorem Cb.congr {M : Mat} {n m k : Nat} {f g : List Nat → Int} (h : Cb M n m k g) (e : ∀ js, (∀ j ∈ js, j < m) → f js = g js) : Cb M n m k f := by
  cases h with
  | zero h => exact Cb.zero fun js hj => (e js hj).trans (h js hj)
  | step c ts hl ht hg hh => exact Cb.step c ts hl ht hg fun js hj => (e js hj).trans (hh js hj)
theorem Cb.add {M : Mat} {n m k : Nat} {f g : List Nat → Int} (hf : Cb M n m k f) (hg : Cb M n m k g) : Cb M n m k (fun js => f js + g js) := by
  induction hf with
  | zero h => exact hg.congr fun js hj => by rw [h js hj]; omega
  | step c ts hl ht _ hh ih => exact Cb.step c ts hl ht ih fun js hj => by rw [hh js hj]; omega
theorem Cb.mul {M : Mat} {n m k : Nat} {f : List Nat → Int} (a : Int) (hf : Cb M n m k f) : Cb M n m k (fun js => a * f js) := by
  induction hf with
  | zero h => exact Cb.zero fun js hj => by rw [h js hj, Int.mul_zero]
  | step c ts hl ht _ hh ih => exact Cb.step (a * c) ts hl ht ih fun js hj => by rw [hh js hj, Int.mul_add, Int.mul_assoc]
theorem Cb.sum {M : Mat} {n m k : Nat} (q : Nat) {c : Nat → Int} {F : Nat → List Nat → Int} (h : ∀ t, t < q → Cb M n m k (F t)) : Cb M n m k (fun js => sm q (fun t => c t * F t js)) := by
  induction q with
  | zero => exact Cb.zero fun js _ => rfl
  | succ q ih => exact (ih fun t ht => h t (by omega)).add ((h q (by omega)).mul (c q))
theorem mem_perm {m a : Nat} {r js : List Nat} (hp : (a :: r).Perm js) (h : ∀ j ∈ js, j < m) : a < m ∧ ∀ j ∈ r, j < m :=
  ⟨h a (hp.subset (by simp)), fun j hj => h j (hp.subset (by simp [hj]))⟩
theorem Cb.cons {M : Mat} {n m k : Nat} {f : List Nat → Int} {t : Nat} (ht : t < n) (hf : Cb M n m k f) : Cb M n m (k + 1) (fun js => alt (fun a r => M t a * f r) js) := by
  induction hf with
  | zero h =>
    refine Cb.zero fun js hj => ?_
    rw [alt_congrP (g := fun _ _ => 0) fun a r hp => by rw [h r (mem_perm hp hj).2, Int.mul_zero]]
    exact alt_zero js
  | step c ts hl hts _ hh ih =>
    refine Cb.step c (t :: ts) (by simp [hl]) (by simpa using ⟨ht, hts⟩) ih fun js hj => ?_
    rw [List.map_cons, mn_cons, ← alt_mul, ← alt_add]
    exact alt_congrP fun a r hp => by rw [hh r (mem_perm hp hj).2, Int.mul_add, ← Int.mul_assoc, ← Int.mul_assoc, Int.mul_comm (M t a) c]
theorem alt_sm (n : Nat) (F : Nat → Nat → List Nat → Int) (js : List Nat) : alt (fun a r => sm n (fun t => F t a r)) js = sm n (fun t => alt (fun a r => F t a r) js) := by
  induction n with
  | zero => simp only [sm]; exact alt_zero js
  | succ n ih => simp only [sm]; rw [alt_add, ih]
theorem Cb.rows {M : Mat} {n m : Nat} {us : List (Nat → Int)} (h : ∀ u ∈ us, Sp M n m u) : Cb M n m us.length (mn us) := by
  induction us with
  | nil => exact Cb.step 1 [] rfl (by simp) (Cb.zero (f := fun _ => 0) fun _ _ => rfl) fun js _ => by simp [mn]
  | cons u us ih =>
    obtain ⟨c, hc⟩ := h u (by simp)
    have hi := ih fun v hv => h v (by simp [hv])
    have h2 : Cb M n m (us.length + 1) (fun js => sm n (fun t => c t * alt (fun a r => M t a * mn us r) js)) := Cb.sum n fun t ht => Cb.cons ht hi
    refine h2.congr fun js hj => ?_
    rw [mn_cons]
    have e : alt (fun a r => u a * mn us r) js = alt (fun a r => sm n (fun t => c t * (M t a * mn us r))) js :=
      alt_congrP fun a r hp => by
        rw [hc a (mem_perm hp hj).1, Int.mul_comm, ← sm_mul]
        exact sm_congr fun t _ => by grind
    rw [e, alt_sm]
    exact sm_congr fun t _ => alt_mul _ _ _
theorem Cb.dvd {M : Mat} {n m k : Nat} {d : Int} {f : List Nat → Int} (hf : Cb M n m k f) (h : Dv M n m k d) {js : List Nat} (hl : js.length = k) (hj : ∀ j ∈ js, j < m) : d ∣ f js := by
  induction hf with
  | zero h0 => rw [h0 js hj]; exact Int.dvd_zero d
  | step c ts hts ht _ hh ih => rw [hh js hj]; exact Int.dvd_add (Int.dvd_mul_of_dvd_right (h ts js hts hl ht hj)) ih
/-- What divides the minors of a matrix divides those of each matrix whose rows are sums of multiples of its rows. -/
theorem Dv.rows {M N : Mat} {n n' m k : Nat} {d : Int} (h : Dv M n m k d) (hs : ∀ i, i < n' → Sp M n m (N i)) : Dv N n' m k d := fun is js hi hj hn hm => by
  have := Cb.rows (M := M) (n := n) (m := m) (us := is.map N) (by
    intro u hu
    obtain ⟨i, hi, rfl⟩ := List.mem_map.1 hu
    exact hs i (hn i hi))
  rw [List.length_map, hi] at this
  exact this.dvd h hj hm
theorem Dv.mono {M : Mat} {n m k : Nat} {d : Int} (h : Dv M n m k d) : Dv M n m (k + 1) d := by
  intro is js hi hj hn hm
  cases is with
  | nil => simp at hi
  | cons i is =>
    rw [List.map_cons, mn_cons]
    refine alt_dvd fun a r hp => Int.dvd_mul_of_dvd_right (h is r (by simpa using hi) ?_ (fun x hx => hn x (by simp [hx])) (mem_perm hp hm).2)
    have := hp.length_eq; simp at this; omega
end Go.Proofs.Ytnbamjoadankmaa.D
/- Plain mathematics of the greatest common divisors of the minors (no program): for each integer matrix there are numbers, each a divisor of the next one, whose products are these (the elementary divisors). -/
namespace Go.Proofs.Ytnbamjoadankmaa.D
/-- The product of the first numbers. -/
def pr (s : Nat → Int) : Nat → Int
  | 0 => 1
  | k + 1 => pr s k * s k
/-- Two matrices have the same divisors. -/
def Eq2 (M N : Mat) (n m : Nat) : Prop := ∀ k d, Dv M n m k d ↔ Dv N n m k d
theorem Eq2.rfl' {M : Mat} {n m : Nat} : Eq2 M M n m := fun _ _ => Iff.rfl
theorem Eq2.symm {M N : Mat} {n m : Nat} (h : Eq2 M N n m) : Eq2 N M n m := fun k d => (h k d).symm
theorem Eq2.trans {M N K : Mat} {n m : Nat} (h : Eq2 M N n m) (g : Eq2 N K n m) : Eq2 M K n m := fun k d => (h k d).trans (g k d)
theorem Eq2.rows {M N : Mat} {n m : Nat} (h : ∀ i, i < n → Sp M n m (N i)) (g : ∀ i, i < n → Sp N n m (M i)) : Eq2 M N n m := fun _ _ => ⟨fun x => x.rows h, fun x => x.rows g⟩
theorem Eq2.tr {M N : Mat} {n m : Nat} (h : Eq2 (tr M) (tr N) m n) : Eq2 M N n m := fun k d => ⟨fun x => Dv_tr ((h k d).1 (Dv_tr x)), fun x => Dv_tr ((h k d).2 (Dv_tr x))⟩
/-- A multiple of a row is added to another one. -/
def addr (M : Mat) (p q : Nat) (c : Int) : Mat := fun i j => if i = p then M p j + c * M q j else M i j
theorem addr_eq2 {M : Mat} {n m p q : Nat} {c : Int} (hp : p < n) (hq : q < n) (hn : p ≠ q) : Eq2 M (addr M p q c) n m := by
  apply Eq2.rows
  · intro i hi
    by_cases h : i = p
    · subst h
      exact ((Sp.unit hi).add ((Sp.unit hq).mul c)).congr fun j _ => by simp [addr]
    · exact (Sp.unit hi).congr fun j _ => by simp [addr, h]
  · intro i hi
    by_cases h : i = p
    · subst h
      refine ((Sp.unit hi).add ((Sp.unit hq).mul (-c))).congr fun j _ => ?_
      simp only [addr, if_true, if_neg (Ne.symm hn)]; grind
    · exact (Sp.unit hi).congr fun j _ => by simp [addr, h]
/-- The first row is exchanged with another one. -/
def swr (M : Mat) (p : Nat) : Mat := fun i => if i = 0 then M p else if i = p then M 0 else M i
theorem swr_eq2 {M : Mat} {n m p : Nat} (hp : p < n) : Eq2 M (swr M p) n m := by
  apply Eq2.rows
  · intro i hi
    unfold swr
    split
    · exact Sp.unit hp
    · split
      · exact Sp.unit (by omega)
      · exact Sp.unit hi
  · intro i hi
    by_cases h0 : i = 0
    · subst h0
      have := Sp.unit (M := swr M p) (m := m) hp
      by_cases h : p = 0
      · subst h; simpa [swr] using this
      · simpa [swr, h] using this
    · by_cases h : i = p
      · subst h
        have := Sp.unit (M := swr M i) (n := n) (m := m) (p := 0) (by omega)
        simpa [swr] using this
      · have := Sp.unit (M := swr M p) (m := m) hi
        simpa [swr, h0, h] using this
theorem addc_eq2 {M : Mat} {n m p q : Nat} {c : Int} (hp : p < m) (hq : q < m) (hn : p ≠ q) : Eq2 M (tr (addr (tr M) p q c)) n m := Eq2.tr (addr_eq2 hp hq hn)
theorem swc_eq2 {M : Mat} {n m p : Nat} (hp : p < m) : Eq2 M (tr (swr (tr M) p)) n m := Eq2.tr (swr_eq2 hp)
/-- A first element that does not divide an element of its column can be made smaller. -/
theorem step_col {M : Mat} {n m i : Nat} (h0 : M 0 0 ≠ 0) (hi : i < n) (hd : ¬ M 0 0 ∣ M i 0) : ∃ N : Mat, Eq2 M N n m ∧ N 0 0 ≠ 0 ∧ (N 0 0).natAbs < (M 0 0).natAbs := by
  have hi0 : i ≠ 0 := by intro e; subst e; exact hd (Int.dvd_refl _)
  refine ⟨swr (addr M i 0 (-(M i 0 / M 0 0))) i, (addr_eq2 hi (by omega) hi0).trans (swr_eq2 hi), ?_⟩
  have e : swr (addr M i 0 (-(M i 0 / M 0 0))) i 0 0 = M i 0 % M 0 0 := by
    simp only [swr, addr, if_true]
    have := Int.emod_add_mul_ediv (M i 0) (M 0 0)
    grind
  rw [e]
  have h1 : M i 0 % M 0 0 ≠ 0 := fun h => hd (Int.dvd_of_emod_eq_zero h)
  have h2 := Int.emod_nonneg (M i 0) h0
  have h3 := Int.emod_lt (M i 0) h0
  exact ⟨h1, by omega⟩
theorem step_row {M : Mat} {n m j : Nat} (h0 : M 0 0 ≠ 0) (hj : j < m) (hd : ¬ M 0 0 ∣ M 0 j) : ∃ N : Mat, Eq2 M N n m ∧ N 0 0 ≠ 0 ∧ (N 0 0).natAbs < (M 0 0).natAbs := by
  obtain ⟨N, h1, h2, h3⟩ := step_col (M := tr M) (n := m) (m := n) h0 hj hd
  exact ⟨tr N, Eq2.tr h1, h2, h3⟩
/-- A matrix that is 0 in its first row and column but for the first element. -/
structure Blk (B N : Mat) (n m : Nat) (a : Int) : Prop where
  first : B 0 0 = a
  row : ∀ j, j < m → B 0 (j + 1) = 0
  col : ∀ i, i < n → B (i + 1) 0 = 0
  rest : ∀ i j, i < n → j < m → B (i + 1) (j + 1) = a * N i j
theorem Blk.tr {B N : Mat} {n m : Nat} {a : Int} (h : Blk B N n m a) : Blk (tr B) (tr N) m n a := ⟨h.first, h.col, h.row, fun i j hi hj => h.rest j i hj hi⟩
theorem Blk.shift {B N : Mat} {n m : Nat} {a : Int} (h : Blk B N n m a) {is js : List Nat} (hi : ∀ i ∈ is, i < n) (hj : ∀ j ∈ js, j < m) : mn ((is.map (· + 1)).map B) (js.map (· + 1)) = a ^ is.length * mn (is.map N) js := by
  induction is generalizing js with
  | nil => simp [mn]
  | cons i is ih =>
    rw [List.map_cons, List.map_cons, mn_cons, alt_map, List.map_cons, mn_cons, ← alt_mul]
    refine alt_congrP fun b r hp => ?_
    rw [h.rest i b (hi i (by simp)) (mem_perm hp hj).1, ih (fun x hx => hi x (by simp [hx])) (mem_perm hp hj).2, List.length_cons, Int.pow_succ]
    grind
theorem succ_list {l : List Nat} {n : Nat} (h : ∀ i ∈ l, i < n + 1) (h0 : 0 ∉ l) : ∃ k : List Nat, l = k.map (· + 1) ∧ (∀ i ∈ k, i < n) := by
  induction l with
  | nil => exact ⟨[], rfl, by simp⟩
  | cons x l ih =>
    obtain ⟨k, rfl, hk⟩ := ih (fun i hi => h i (by simp [hi])) (fun hx => h0 (by simp [hx]))
    have hx : x ≠ 0 := fun e => h0 (by simp [e])
    have hx' := h x (by simp)
    refine ⟨(x - 1) :: k, ?_, ?_⟩
    · simp; omega
    · intro i hi
      rcases List.mem_cons.1 hi with rfl | hi
      · omega
      · exact hk i hi
theorem alt_zero' {f : Nat → List Nat → Int} {js : List Nat} (h : ∀ a r, (a :: r).Perm js → f a r = 0) : alt f js = 0 := by
  rw [alt_congrP (g := fun _ _ => 0) h]; exact alt_zero js
theorem Blk.corner {B N : Mat} {n m : Nat} {a : Int} (h : Blk B N n m a) {is js : List Nat} (hi : ∀ i ∈ is, i < n) (hj : ∀ j ∈ js, j < m) : mn (B 0 :: (is.map (· + 1)).map B) (0 :: js.map (· + 1)) = a ^ (is.length + 1) * mn (is.map N) js := by
  rw [mn_cons]
  unfold alt
  rw [h.first, h.shift hi hj, alt_map, alt_zero' fun b r hp => by rw [h.row b (mem_perm hp hj).1]; omega, Int.pow_succ]
  grind
theorem Blk.noCol {B N : Mat} {n m : Nat} {a : Int} (h : Blk B N n m a) {js : List Nat} (hj : ∀ j ∈ js, j < m) (us : List (Nat → Int)) : mn (B 0 :: us) (js.map (· + 1)) = 0 := by
  rw [mn_cons, alt_map]
  exact alt_zero' fun b r hp => by rw [h.row b (mem_perm hp hj).1]; omega
/-- Each minor of such a matrix is 0, or a minor of the rest with a power. -/
theorem Blk.dvd {B N : Mat} {n m k : Nat} {a d : Int} (h : Blk B N n m a) (hd : Dv N n m k d) : Dv B (n + 1) (m + 1) (k + 1) (a ^ (k + 1) * d) := by
  intro is js hi hj hn hm
  by_cases hnd : is.Nodup
  · by_cases hjd : js.Nodup
    · by_cases h0 : 0 ∈ is
      · obtain ⟨u, v, rfl⟩ := List.append_of_mem h0
        have hp : (u ++ 0 :: v).Perm (0 :: (u ++ v)) := List.perm_middle
        have hnd' := hp.nodup_iff.1 hnd
        obtain ⟨c, _, hc⟩ := mn_permI hp
        rw [hc]
        refine Int.dvd_mul_of_dvd_right ?_
        obtain ⟨k1, e1, hk1⟩ := succ_list (l := u ++ v) (n := n) (fun i hi => hn i (hp.symm.subset (by simp [hi]))) (List.nodup_cons.1 hnd').1
        have hl1 : k1.length = k := by
          have := hp.length_eq; rw [e1, hi] at this; simp at this; omega
        rw [e1, List.map_cons]
        by_cases hj0 : 0 ∈ js
        · obtain ⟨u', v', rfl⟩ := List.append_of_mem hj0
          have hq : (u' ++ 0 :: v').Perm (0 :: (u' ++ v')) := List.perm_middle
          have hjd' := hq.nodup_iff.1 hjd
          obtain ⟨e, _, he⟩ := mn_cols hq
          rw [he _ (by rw [hj]; simp; omega)]
          refine Int.dvd_mul_of_dvd_right ?_
          obtain ⟨k2, e2, hk2⟩ := succ_list (l := u' ++ v') (n := m) (fun i hi => hm i (hq.symm.subset (by simp [hi]))) (List.nodup_cons.1 hjd').1
          have hl2 : k2.length = k := by
            have := hq.length_eq; rw [e2, hj] at this; simp at this; omega
          rw [e2, h.corner hk1 hk2, hl1]
          exact Int.mul_dvd_mul (Int.dvd_refl _) (hd k1 k2 hl1 hl2 hk1 hk2)
        · obtain ⟨k2, rfl, hk2⟩ := succ_list hm hj0
          rw [h.noCol hk2]; exact Int.dvd_zero _
      · obtain ⟨k1, rfl, hk1⟩ := succ_list hn h0
        have hl1 : k1.length = k + 1 := by simpa using hi
        by_cases hj0 : 0 ∈ js
        · obtain ⟨u', v', rfl⟩ := List.append_of_mem hj0
          have hq : (u' ++ 0 :: v').Perm (0 :: (u' ++ v')) := List.perm_middle
          obtain ⟨e, _, he⟩ := mn_cols hq
          rw [he _ (by simp at hj ⊢; omega), mn_tr _ _ _ (by simp at hj ⊢; omega), List.map_cons]
          have := h.tr.noCol hk1 ((u' ++ v').map (D.tr B))
          rw [this, Int.mul_zero]; exact Int.dvd_zero _
        · obtain ⟨k2, rfl, hk2⟩ := succ_list hm hj0
          rw [h.shift hk1 hk2, hl1]
          exact Int.mul_dvd_mul (Int.dvd_refl _) (hd.mono k1 k2 hl1 (by simpa using hj) hk1 hk2)
    · rw [mn_cols_dup hjd _ (by simp; omega)]; exact Int.dvd_zero _
  · rw [mn_dup (fun x => hnd ((List.pairwise_map.1 x).imp fun hab e => hab (by rw [e])))]; exact Int.dvd_zero _
/-- What divides multiples. -/
theorem scale {c d : Int} (hc : c ≠ 0) : ∃ e : Int, ∀ x, d ∣ c * x ↔ e ∣ x := by
  have hg : (Int.gcd d c : Int) ≠ 0 := by
    intro h
    exact hc (Int.gcd_eq_zero_iff.1 (by exact_mod_cast h)).2
  obtain ⟨e, he⟩ := Int.gcd_dvd_left (a := d) (b := c)
  refine ⟨e, fun x => ?_⟩
  rw [← Int.dvd_gcd_mul_iff_dvd_mul]
  constructor
  · intro h
    have h' : (Int.gcd d c : Int) * e ∣ (Int.gcd d c : Int) * x := by rw [← he]; exact h
    exact Int.dvd_of_mul_dvd_mul_left hg h'
  · intro h
    have h' := Int.mul_dvd_mul (Int.dvd_refl (Int.gcd d c : Int)) h
    rw [← he] at h'; exact h'
/-- The elementary divisors. -/
def Sm (M : Mat) (n m : Nat) : Prop := ∃ s : Nat → Int, (∀ t, s t ∣ s (t + 1)) ∧ ∀ k d, Dv M n m k d ↔ d ∣ pr s k
theorem Sm.eq2 {M N : Mat} {n m : Nat} (h : Sm N n m) (e : Eq2 M N n m) : Sm M n m := by
  obtain ⟨s, h1, h2⟩ := h
  exact ⟨s, h1, fun k d => (e k d).trans (h2 k d)⟩
theorem pr_zero' {s : Nat → Int} (h : ∀ t, s t = 0) (k : Nat) : pr s (k + 1) = 0 := by simp [pr, h]
/-- A matrix that is 0. -/
theorem Sm.none {M : Mat} {n m : Nat} (h : ∀ i j, i < n → j < m → M i j = 0) : Sm M n m := by
  refine ⟨fun _ => 0, fun _ => Int.dvd_refl _, fun k d => ?_⟩
  cases k with
  | zero =>
    constructor
    · intro x; exact x [] [] rfl rfl (by simp) (by simp)
    · intro x is js hi hj _ _
      have : is = [] := List.eq_nil_of_length_eq_zero hi
      subst this; exact x
  | succ k =>
    rw [pr_zero' fun _ => rfl]
    refine ⟨fun _ => Int.dvd_zero _, fun _ => ?_⟩
    intro is js hi hj hn hm
    cases is with
    | nil => simp at hi
    | cons i is =>
      rw [List.map_cons, mn_cons, alt_zero' fun b r hp => by rw [h i b (hn i (by simp)) (mem_perm hp hm).1]; omega]
      exact Int.dvd_zero _
theorem pr_shift (a : Int) (s : Nat → Int) (k : Nat) : pr (fun t => match t with | 0 => a | t + 1 => a * s t) (k + 1) = a ^ (k + 1) * pr s k := by
  induction k with
  | zero => simp [pr, Int.pow_succ]
  | succ k ih => rw [pr, ih, pr, Int.pow_succ a (k + 1)]; grind
theorem Sm.blk {B N : Mat} {n m : Nat} {a : Int} (ha : a ≠ 0) (h : Blk B N n m a) (hs : Sm N n m) : Sm B (n + 1) (m + 1) := by
  obtain ⟨s, h1, h2⟩ := hs
  refine ⟨fun t => match t with | 0 => a | t + 1 => a * s t, fun t => ?_, fun k d => ?_⟩
  · cases t with
    | zero => exact Int.dvd_mul_right _ _
    | succ t => exact Int.mul_dvd_mul (Int.dvd_refl _) (h1 t)
  · cases k with
    | zero =>
      constructor
      · intro x; exact x [] [] rfl rfl (by simp) (by simp)
      · intro x is js hi hj _ _
        have : is = [] := List.eq_nil_of_length_eq_zero hi
        subst this; exact x
    | succ k =>
      rw [pr_shift]
      constructor
      · intro hd
        obtain ⟨e, he⟩ := scale (c := a ^ (k + 1)) (d := d) (Int.pow_ne_zero ha)
        rw [he, ← h2]
        intro is js hi hj hn hm
        rw [← he, ← hi, ← h.corner hn hm]
        have := hd (0 :: is.map (· + 1)) (0 :: js.map (· + 1)) (by simp [hi]) (by simp [hj])
          (by intro i hx; rcases List.mem_cons.1 hx with rfl | hx
              · omega
              · obtain ⟨y, hy, rfl⟩ := List.mem_map.1 hx; have := hn y hy; omega)
          (by intro i hx; rcases List.mem_cons.1 hx with rfl | hx
              · omega
              · obtain ⟨y, hy, rfl⟩ := List.mem_map.1 hx; have := hm y hy; omega)
        rwa [List.map_cons] at this
      · intro hd is js hi hj hn hm
        exact Int.dvd_trans hd (h.dvd ((h2 k _).2 (Int.dvd_refl _)) is js hi hj hn hm)
theorem clear_eq2 {M : Mat} {n m : Nat} (e : Nat → Int) (hn : 0 < n) : Eq2 M (fun i j => if i = 0 then M 0 j else M i j - e i * M 0 j) n m := by
  apply Eq2.rows
  · intro i hi
    by_cases h : i = 0
    · subst h; exact (Sp.unit hi).congr fun j _ => by simp
    · refine ((Sp.unit hi).add ((Sp.unit hn).mul (-(e i)))).congr fun j _ => ?_
      simp only [if_neg h]; grind
  · intro i hi
    by_cases h : i = 0
    · subst h
      exact (Sp.unit (M := fun i j => if i = 0 then M 0 j else M i j - e i * M 0 j) hi).congr fun j _ => by simp
    · refine ((Sp.unit (M := fun i j => if i = 0 then M 0 j else M i j - e i * M 0 j) hi).add ((Sp.unit hn).mul (e i))).congr fun j _ => ?_
      simp only [if_neg h, if_true]; grind
theorem smith (n m : Nat) (M : Mat) : Sm M n m := by
  induction n generalizing m M with
  | zero => exact Sm.none fun i j hi => by omega
  | succ n ihn =>
    cases m with
    | zero => exact Sm.none fun i j _ hj => by omega
    | succ m =>
      have aux : ∀ k, ∀ M : Mat, M 0 0 ≠ 0 → (M 0 0).natAbs = k → Sm M (n + 1) (m + 1) := by
        intro k
        induction k using Nat.strongRecOn with
        | ind k ih =>
          intro M h0 hk
          by_cases hc : ∃ i, i < n + 1 ∧ ¬ M 0 0 ∣ M i 0
          · obtain ⟨i, hi, hd⟩ := hc
            obtain ⟨N, e, h1, h2⟩ := step_col (m := m + 1) h0 hi hd
            exact (ih _ (by omega) N h1 rfl).eq2 e
          by_cases hr : ∃ j, j < m + 1 ∧ ¬ M 0 0 ∣ M 0 j
          · obtain ⟨j, hj, hd⟩ := hr
            obtain ⟨N, e, h1, h2⟩ := step_row (n := n + 1) h0 hj hd
            exact (ih _ (by omega) N h1 rfl).eq2 e
          have hc' : ∀ i, i < n + 1 → M 0 0 ∣ M i 0 := fun i hi => Classical.not_not.1 fun x => hc ⟨i, hi, x⟩
          have hr' : ∀ j, j < m + 1 → M 0 0 ∣ M 0 j := fun j hj => Classical.not_not.1 fun x => hr ⟨j, hj, x⟩
          obtain ⟨C, hC⟩ : ∃ C : Mat, C = fun i j => if i = 0 then M 0 j else M i j - M i 0 / M 0 0 * M 0 j := ⟨_, rfl⟩
          have e1 : Eq2 M C (n + 1) (m + 1) := by rw [hC]; exact clear_eq2 (fun i => M i 0 / M 0 0) (by omega)
          have c0 : ∀ j, C 0 j = M 0 j := fun j => by rw [hC]; simp
          have c1 : ∀ i, i < n → C (i + 1) 0 = 0 := fun i hi => by
            rw [hC]; simp only [Nat.succ_ne_zero, if_false]
            rw [Int.ediv_mul_cancel (hc' (i + 1) (by omega))]; omega
          obtain ⟨B, hB⟩ : ∃ B : Mat, B = tr (fun j i => if j = 0 then tr C 0 i else tr C j i - M 0 j / M 0 0 * tr C 0 i) := ⟨_, rfl⟩
          have e2 : Eq2 C B (n + 1) (m + 1) := by rw [hB]; exact Eq2.tr (clear_eq2 (M := tr C) (fun j => M 0 j / M 0 0) (by omega))
          have b0 : B 0 0 = M 0 0 := by rw [hB]; simp [tr, c0]
          have b1 : ∀ j, j < m → B 0 (j + 1) = 0 := fun j hj => by
            rw [hB]; simp only [tr, Nat.add_eq_zero_iff, Nat.one_ne_zero, and_false, if_false]
            rw [c0, c0, Int.ediv_mul_cancel (hr' (j + 1) (by omega))]; omega
          have b2 : ∀ i, i < n → B (i + 1) 0 = 0 := fun i hi => by
            rw [hB]; simp only [tr, if_true]; exact c1 i hi
          have eB := e1.trans e2
          by_cases hb : ∃ i j, i < n ∧ j < m ∧ ¬ M 0 0 ∣ B (i + 1) (j + 1)
          · obtain ⟨i, j, hi, hj, hd⟩ := hb
            have e3 : Eq2 B (addr B 0 (i + 1) 1) (n + 1) (m + 1) := addr_eq2 (by omega) (by omega) (by omega)
            have a0 : addr B 0 (i + 1) 1 0 0 = M 0 0 := by simp only [addr, if_true]; rw [b0, b2 i hi]; omega
            have a1 : addr B 0 (i + 1) 1 0 (j + 1) = B (i + 1) (j + 1) := by simp only [addr, if_true]; rw [b1 j hj]; omega
            obtain ⟨N, e, h1, h2⟩ := step_row (M := addr B 0 (i + 1) 1) (n := n + 1) (m := m + 1) (j := j + 1) (by rw [a0]; exact h0) (by omega) (by rw [a0, a1]; exact hd)
            rw [a0] at h2
            exact (ih _ (by omega) N h1 rfl).eq2 (eB.trans (e3.trans e))
          · have hb' : ∀ i j, i < n → j < m → M 0 0 ∣ B (i + 1) (j + 1) := fun i j hi hj => Classical.not_not.1 fun x => hb ⟨i, j, hi, hj, x⟩
            have hblk : Blk B (fun i j => B (i + 1) (j + 1) / M 0 0) n m (M 0 0) := ⟨b0, b1, b2, fun i j hi hj => (Int.mul_ediv_cancel' (hb' i j hi hj)).symm⟩
            exact (Sm.blk h0 hblk (ihn m _)).eq2 eB
      by_cases hz : ∀ i j, i < n + 1 → j < m + 1 → M i j = 0
      · exact Sm.none hz
      · obtain ⟨i, hz⟩ := Classical.not_forall.1 hz
        obtain ⟨j, hz⟩ := Classical.not_forall.1 hz
        obtain ⟨hi, hz⟩ := Classical.not_imp.1 hz
        obtain ⟨hj, hz⟩ := Classical.not_imp.1 hz
        have e1 : Eq2 M (swr M i) (n + 1) (m + 1) := swr_eq2 hi
        have e2 : Eq2 (swr M i) (tr (swr (tr (swr M i)) j)) (n + 1) (m + 1) := swc_eq2 hj
        exact (aux _ (tr (swr (tr (swr M i)) j)) (by simpa [tr, swr] using hz) rfl).eq2 (e1.trans e2)
/-- What follows for the greatest common divisors of the minors. -/
theorem pr_dvd (s : Nat → Int) (k : Nat) : pr s k ∣ pr s (k + 1) := Int.dvd_mul_right _ _
theorem pr_square {s : Nat → Int} (h : ∀ t, s t ∣ s (t + 1)) (k : Nat) : pr s (k + 1) * pr s (k + 1) ∣ pr s k * pr s (k + 2) := by
  obtain ⟨c, hc⟩ := h k
  refine ⟨c, ?_⟩
  simp only [pr]; rw [hc]; grind
end Go.Proofs.Ytnbamjoadankmaa.D
/- Plain mathematics of Hermite forms (no program): a lattice has one, the minor in the columns of the pivots is their product, the rank. -/
namespace Go.Proofs.Ytnbamjoadankmaa.D
theorem sm_front (n : Nat) (f : Nat → Int) : sm (n + 1) f = f 0 + sm n (fun t => f (t + 1)) := by
  induction n with
  | zero => simp [sm]
  | succ n ih => rw [sm, ih, sm, Int.add_assoc]
/-- The matrix without its first row. -/
def tl (M : Mat) : Mat := fun i => M (i + 1)
theorem Sp.split {M : Mat} {n m : Nat} {v : Nat → Int} (h : Sp M (n + 1) m v) : ∃ c : Int, Sp (tl M) n m (fun j => v j - c * M 0 j) := by
  obtain ⟨c, hc⟩ := h
  refine ⟨c 0, fun t => c (t + 1), fun j hj => ?_⟩
  show v j - c 0 * M 0 j = _
  rw [hc j hj, sm_front]; simp only [tl]; omega
theorem Sp.join {M : Mat} {n m : Nat} {v : Nat → Int} (c : Int) (h : Sp (tl M) n m (fun j => v j - c * M 0 j)) : Sp M (n + 1) m v := by
  obtain ⟨e, he⟩ := h
  refine ⟨fun t => match t with | 0 => c | t + 1 => e t, fun j hj => ?_⟩
  have he' : v j - c * M 0 j = sm n (fun t => e t * tl M t j) := he j hj
  rw [sm_front]
  show v j = c * M 0 j + sm n (fun t => e t * tl M t j)
  rw [← he']; omega
/-- Hermite form, with the columns of the pivots. -/
structure Hf (H : Mat) (r m : Nat) (p : Nat → Nat) : Prop where
  lt : ∀ k, k < r → p k < m
  rise : ∀ i k, i < k → k < r → p i < p k
  pos : ∀ k, k < r → 0 < H k (p k)
  left : ∀ k j, k < r → j < p k → H k j = 0
  red : ∀ i k, i < k → k < r → 0 ≤ H i (p k) ∧ H i (p k) < H k (p k)
theorem Hf.tl {H : Mat} {r m : Nat} {p : Nat → Nat} (h : Hf H (r + 1) m p) : Hf (tl H) r m (fun k => p (k + 1)) where
  lt k hk := h.lt (k + 1) (by omega)
  rise i k hi hk := h.rise (i + 1) (k + 1) (by omega) (by omega)
  pos k hk := h.pos (k + 1) (by omega)
  left k j hk hj := h.left (k + 1) j (by omega) hj
  red i k hi hk := h.red (i + 1) (k + 1) (by omega) (by omega)
/-- What the rows behind the first one make is 0 up to its pivot. -/
theorem Sp.zero_at {M : Mat} {n m j : Nat} {v : Nat → Int} (h : Sp M n m v) (hj : j < m) (h0 : ∀ t, t < n → M t j = 0) : v j = 0 := by
  obtain ⟨c, hc⟩ := h
  rw [hc j hj, sm_congr (g := fun _ => 0) fun t ht => by rw [h0 t ht, Int.mul_zero]]; exact sm_zero n
theorem Hf.tail_zero {H : Mat} {r m : Nat} {p : Nat → Nat} (h : Hf H (r + 1) m p) {v : Nat → Int} (hv : Sp (D.tl H) r m v) {j : Nat} (hj : j ≤ p 0) : v j = 0 := by
  have := h.lt 0 (by omega)
  refine hv.zero_at (by omega) fun t ht => h.left (t + 1) j (by omega) ?_
  have := h.rise 0 (t + 1) (by omega) (by omega)
  omega
theorem Hf.front {H : Mat} {r m : Nat} {p : Nat → Nat} (h : Hf H (r + 1) m p) {v : Nat → Int} (hv : Sp H (r + 1) m v) : (∀ j, j < p 0 → v j = 0) ∧ H 0 (p 0) ∣ v (p 0) ∧ Sp (D.tl H) r m (fun j => v j - v (p 0) / H 0 (p 0) * H 0 j) := by
  obtain ⟨c, hc⟩ := hv.split
  have h0 := h.tail_zero hc (Nat.le_refl _)
  have hp := h.pos 0 (by omega)
  have e : v (p 0) = c * H 0 (p 0) := by have : v (p 0) - c * H 0 (p 0) = 0 := h0; omega
  refine ⟨fun j hj => ?_, ⟨c, by rw [e, Int.mul_comm]⟩, ?_⟩
  · have h1 := h.tail_zero hc (Nat.le_of_lt hj)
    have h2 := h.left 0 j (by omega) hj
    have h1' : v j - c * H 0 j = 0 := h1
    rw [h2] at h1'; omega
  · rw [e, Int.mul_ediv_cancel _ (by omega)]; exact hc
theorem abs_le {a b : Int} (h : a ∣ b) (hb : b ≠ 0) : a.natAbs ≤ b.natAbs := Nat.le_of_dvd (by omega) (Int.natAbs_dvd_natAbs.2 h)
/-- A sum of multiples whose elements in the columns of the pivots are too small is 0. -/
theorem Hf.small {H : Mat} {r m : Nat} {p : Nat → Nat} (h : Hf H r m p) {v : Nat → Int} (hv : Sp H r m v) (hs : ∀ k, k < r → (v (p k)).natAbs < (H k (p k)).natAbs) : ∀ j, j < m → v j = 0 := by
  induction r generalizing H p v with
  | zero => obtain ⟨c, hc⟩ := hv; exact fun j hj => hc j hj
  | succ r ih =>
    obtain ⟨_, h2, h3⟩ := h.front hv
    have h0 := hs 0 (by omega)
    have hv0 : v (p 0) = 0 := by
      rcases Classical.em (v (p 0) = 0) with e | e
      · exact e
      · have := abs_le h2 e; omega
    rw [hv0, Int.zero_ediv] at h3
    have h4 : Sp (D.tl H) r m v := h3.congr fun j _ => by omega
    exact ih h.tl h4 fun k hk => hs (k + 1) (by omega)
/-- One Hermite form. -/
theorem Hf.one {H K : Mat} {r s m : Nat} {p q : Nat → Nat} (h : Hf H r m p) (k : Hf K s m q) (h1 : ∀ i, i < s → Sp H r m (K i)) (h2 : ∀ i, i < r → Sp K s m (H i)) : r = s ∧ (∀ i, i < r → p i = q i) ∧ ∀ i j, i < r → j < m → H i j = K i j := by
  induction r generalizing H K s p q with
  | zero =>
    cases s with
    | zero => exact ⟨rfl, fun i hi => by omega, fun i j hi => by omega⟩
    | succ s =>
      obtain ⟨c, hc⟩ := h1 0 (by omega)
      have := hc (q 0) (k.lt 0 (by omega)); have := k.pos 0 (by omega)
      simp only [sm] at *; omega
  | succ r ih =>
    cases s with
    | zero =>
      obtain ⟨c, hc⟩ := h2 0 (by omega)
      have := hc (p 0) (h.lt 0 (by omega)); have := h.pos 0 (by omega)
      simp only [sm] at *; omega
    | succ s =>
      obtain ⟨a1, a2, a3⟩ := h.front (h1 0 (by omega))
      obtain ⟨b1, b2, b3⟩ := k.front (h2 0 (by omega))
      have hp := h.pos 0 (by omega); have kp := k.pos 0 (by omega)
      have e0 : p 0 = q 0 := by
        rcases Nat.lt_trichotomy (p 0) (q 0) with x | x | x
        · have := b1 (p 0) x; omega
        · exact x
        · have := a1 (q 0) x; omega
      rw [← e0] at b2 kp
      have e1 : H 0 (p 0) = K 0 (p 0) := by
        have x1 := abs_le a2 (by omega)
        have x2 := abs_le b2 (by omega)
        omega
      have t1 : ∀ i, i < s → Sp (D.tl H) r m (D.tl K i) := fun i hi => by
        have hx := (h.front (h1 (i + 1) (by omega))).2.2
        have hz : K (i + 1) (p 0) = 0 := k.left (i + 1) (p 0) (by omega) (by rw [e0]; exact k.rise 0 (i + 1) (by omega) (by omega))
        rw [hz, Int.zero_ediv] at hx
        exact hx.congr fun j _ => by simp only [D.tl]; omega
      have t2 : ∀ i, i < r → Sp (D.tl K) s m (D.tl H i) := fun i hi => by
        have hx := (k.front (h2 (i + 1) (by omega))).2.2
        have hz : H (i + 1) (q 0) = 0 := h.left (i + 1) (q 0) (by omega) (by rw [← e0]; exact h.rise 0 (i + 1) (by omega) (by omega))
        rw [hz, Int.zero_ediv] at hx
        exact hx.congr fun j _ => by simp only [D.tl]; omega
      obtain ⟨i1, i2, i3⟩ := ih h.tl k.tl t1 t2
      have d0 : Sp (D.tl H) r m (fun j => K 0 j - H 0 j) := by
        have x := a3
        rw [← e1, Int.ediv_self (by omega)] at x
        exact x.congr fun j _ => by omega
      have d1 := h.tl.small d0 fun t ht => by
        have x1 := h.red 0 (t + 1) (by omega) (by omega)
        have x2 := k.red 0 (t + 1) (by omega) (by omega)
        have x3 := i2 t ht
        have x4 := i3 t (p (t + 1)) ht (h.lt (t + 1) (by omega))
        simp only [D.tl] at x3 x4 ⊢
        rw [← x3] at x2
        omega
      refine ⟨by omega, fun i hi => ?_, fun i j hi hj => ?_⟩
      · cases i with
        | zero => exact e0
        | succ i => exact i2 i (by omega)
      · cases i with
        | zero => have : K 0 j - H 0 j = 0 := d1 j hj
                  omega
        | succ i => exact i3 i j (by omega) hj
/-- A column that is 0 in all rows. -/
theorem mn_zeroCol {vs : List (Nat → Int)} {j : Nat} (js : List Nat) (h : ∀ v ∈ vs, v j = 0) (hl : vs.length = js.length + 1) : mn vs (j :: js) = 0 := by
  rw [← map_matOf vs, mn_tr _ _ _ (by simpa using hl), List.map_cons, mn_cons]
  refine alt_zero' fun a r hp => ?_
  have ha : a < vs.length := (mem_perm hp (m := vs.length) (by simp)).1
  have : tr (matOf vs) j a = 0 := by
    show vs.getD a (fun _ => 0) j = 0
    rw [List.getD_eq_getElem?_getD, List.getElem?_eq_getElem ha]
    exact h _ (List.getElem_mem ha)
  rw [this, Int.zero_mul]
/-- The product of the pivots is a minor. -/
theorem Hf.minor {H : Mat} {r m : Nat} {p : Nat → Nat} (h : Hf H r m p) : mn ((List.range r).map H) ((List.range r).map p) = pr (fun k => H k (p k)) r := by
  suffices hs : ∀ n a, a + n = r → mn ((List.range' a n).map H) ((List.range' a n).map p) * pr (fun k => H k (p k)) a = pr (fun k => H k (p k)) r by
    have := hs r 0 (by omega)
    rw [List.range_eq_range']; simpa [pr] using this
  intro n
  induction n with
  | zero => intro a ha; simp [mn]; congr 1
  | succ n ih =>
    intro a ha
    have hi := ih (a + 1) (by omega)
    rw [List.range'_succ, List.map_cons, List.map_cons, mn_cons]
    unfold alt
    rw [alt_zero' (fun b s hp => ?_), ← hi, pr]
    · grind
    · have hl := hp.length_eq
      rw [mn_zeroCol s ?_ (by simp at hl ⊢; omega), Int.mul_zero]
      intro v hv
      obtain ⟨t, ht, rfl⟩ := List.mem_map.1 hv
      have := List.mem_range'_1.1 ht
      exact h.left t (p a) (by omega) (h.rise a t (by omega) (by omega))
theorem pr_pos {s : Nat → Int} {k : Nat} (h : ∀ t, t < k → 0 < s t) : 0 < pr s k := by
  induction k with
  | zero => exact Int.one_pos
  | succ k ih => exact Int.mul_pos (ih fun t ht => h t (by omega)) (h k (by omega))
/-- More rows than there are: all minors are 0. -/
theorem Dv.many {M : Mat} {n m k : Nat} (h : n < k) (d : Int) : Dv M n m k d := by
  intro is js hi hj hn hm
  have : ¬ is.Nodup := fun x => by
    have := (List.Nodup.length_le_of_subset x (l₂ := List.range n) fun i hi => List.mem_range.2 (hn i hi))
    simp at this; omega
  rw [mn_dup fun x => this ((List.pairwise_map.1 x).imp fun hab e => hab (by rw [e]))]
  exact Int.dvd_zero _
end Go.Proofs.Ytnbamjoadankmaa.D
/- Plain mathematics of minors (no program): Cramer's rule, lattices that hold what has a multiple in them, the rows that are orthogonal to a matrix. -/
namespace Go.Proofs.Ytnbamjoadankmaa.D
/-- The sign of a number of exchanges. -/
def sg : Nat → Int
  | 0 => 1
  | n + 1 => - sg n
theorem sg_sq (n : Nat) : sg n * sg n = 1 := by
  induction n with
  | zero => rfl
  | succ n ih => simp only [sg]; rw [Int.neg_mul_neg, ih]
/-- A row is moved behind some others. -/
theorem mn_move (u : Nat → Int) (pre vs : List (Nat → Int)) (js : List Nat) : mn (u :: (pre ++ vs)) js = sg pre.length * mn (pre ++ u :: vs) js := by
  induction pre generalizing js with
  | nil => simp [sg]
  | cons p pre ih =>
    rw [List.cons_append, mn_swap, mn_congr ih, List.cons_append, List.length_cons]
    simp only [sg]; grind
theorem mn_moveC (us : List (Nat → Int)) (j : Nat) (pre cs : List Nat) (h : us.length = pre.length + cs.length + 1) : mn us (j :: (pre ++ cs)) = sg pre.length * mn us (pre ++ j :: cs) := by
  rw [← map_matOf us, mn_tr _ _ _ (by simp; omega), mn_tr _ _ (pre ++ j :: cs) (by simp; omega)]
  simp only [List.map_cons, List.map_append]
  rw [mn_move, List.length_map]
/-- The expansion of a minor with a further row and column by this row. -/
theorem alt_set (us : List (Nat → Int)) (g : Nat → Int) (j : Nat) (pre cs : List Nat) (h : us.length = pre.length + cs.length) : alt (fun a r => g a * mn us (j :: (pre ++ r))) cs = sg pre.length * sm cs.length (fun k => g (cs.getD k 0) * mn us (pre ++ cs.set k j)) := by
  induction cs generalizing pre with
  | nil => simp [alt, sm]
  | cons c cs ih =>
    unfold alt
    have e1 := ih (pre ++ [c]) (by simp at h ⊢; omega)
    simp only [List.append_assoc, List.singleton_append, List.length_append, List.length_singleton, sg] at e1
    rw [e1, mn_moveC us j pre cs (by simpa [Nat.add_assoc] using h), List.length_cons, sm_front]
    simp only [List.getD_cons_zero, List.set_cons_zero, List.getD_cons_succ, List.set_cons_succ]
    grind
/-- Cramer's rule, with the minor of all as the rest. -/
theorem cramer (v : Nat → Int) (us : List (Nat → Int)) (j : Nat) (cs : List Nat) (h : us.length = cs.length) : v j * mn us cs = sm cs.length (fun k => v (cs.getD k 0) * mn us (cs.set k j)) + mn (v :: us) (j :: cs) := by
  have := alt_set us v j [] cs (by simpa using h)
  simp only [List.nil_append, List.length_nil, sg] at this
  rw [mn_cons]
  unfold alt
  rw [this]; omega
/-- Cramer's rule for rows. -/
theorem cramerR (M : Mat) (i : Nat) (is cs : List Nat) (j : Nat) (h : is.length = cs.length) : M i j * mn (is.map M) cs = sm is.length (fun k => M (is.getD k 0) j * mn ((is.set k i).map M) cs) + mn ((i :: is).map M) (j :: cs) := by
  have := cramer (tr M j) (cs.map (tr M)) i is (by simp; omega)
  rw [mn_tr M is cs h, mn_tr M (i :: is) (j :: cs) (by simp; omega), List.map_cons]
  have e : sm is.length (fun k => M (is.getD k 0) j * mn ((is.set k i).map M) cs) = sm is.length (fun k => tr M j (is.getD k 0) * mn (cs.map (tr M)) (is.set k i)) :=
    sm_congr fun k _ => by rw [mn_tr M (is.set k i) cs (by simpa using h)]; rfl
  rw [e]; exact this
/-- The matrix with one row more. -/
def snoc (M : Mat) (n : Nat) (v : Nat → Int) : Mat := fun i => if i < n then M i else v
theorem snoc_map {M : Mat} {n : Nat} {v : Nat → Int} {is : List Nat} (h : ∀ i ∈ is, i < n) : is.map (snoc M n v) = is.map M :=
  List.map_congr_left fun i hi => by unfold snoc; rw [if_pos (h i hi)]
theorem getD_mem {l : List Nat} {k : Nat} (h : k < l.length) : l.getD k 0 ∈ l := by
  rw [List.getD_eq_getElem?_getD, List.getElem?_eq_getElem h]; exact List.getElem_mem h
/-- A multiple of a row by each minor is in the lattice, if no greater minor with it is other than 0. -/
theorem mn_mul {M : Mat} {n m r : Nat} {v : Nat → Int} (hz : Dv (snoc M n v) (n + 1) m (r + 1) 0) {is cs : List Nat} (hi : is.length = r) (hc : cs.length = r) (hn : ∀ i ∈ is, i < n) (hm : ∀ j ∈ cs, j < m) : Sp M n m (fun j => mn (is.map M) cs * v j) := by
  have key : Sp M n m (fun j => sm is.length (fun k => mn ((is.set k n).map (snoc M n v)) cs * M (is.getD k 0) j)) :=
    Sp.sum (N := fun k => M (is.getD k 0)) fun k hk => Sp.unit (hn _ (getD_mem hk))
  refine key.congr fun j hj => ?_
  have h1 := cramerR (snoc M n v) n is cs j (by omega)
  have h2 : mn ((n :: is).map (snoc M n v)) (j :: cs) = 0 := by
    have := hz (n :: is) (j :: cs) (by simp [hi]) (by simp [hc])
      (by intro i hx; rcases List.mem_cons.1 hx with rfl | hx
          · omega
          · have := hn i hx; omega)
      (by intro i hx; rcases List.mem_cons.1 hx with rfl | hx
          · exact hj
          · exact hm i hx)
    exact Int.zero_dvd.1 this
  rw [h2, snoc_map hn] at h1
  have h3 : snoc M n v n j = v j := by unfold snoc; rw [if_neg (by omega)]
  rw [h3] at h1
  rw [Int.mul_comm, h1, Int.add_zero]
  exact sm_congr fun k hk => by
    have := hn _ (getD_mem hk)
    rw [show snoc M n v (is.getD k 0) j = M (is.getD k 0) j from by unfold snoc; rw [if_pos this], Int.mul_comm]
/-- A set of integers with sums and multiples consists of the multiples of one. -/
theorem ideal {I : Int → Prop} (h0 : I 0) (ha : ∀ x y, I x → I y → I (x + y)) (hm : ∀ c x, I x → I (c * x)) : ∃ g, I g ∧ ∀ x, I x → g ∣ x := by
  by_cases h : ∃ x, I x ∧ x ≠ 0
  · obtain ⟨x, hx, hx0⟩ := h
    suffices hs : ∀ k : Nat, ∀ x, I x → x ≠ 0 → x.natAbs = k → ∃ g, I g ∧ ∀ x, I x → g ∣ x by exact hs _ x hx hx0 rfl
    intro k
    induction k using Nat.strongRecOn with
    | ind k ih =>
      intro x hx hx0 hk
      by_cases hd : ∀ y, I y → x ∣ y
      · exact ⟨x, hx, hd⟩
      · obtain ⟨y, hy⟩ := Classical.not_forall.1 hd
        obtain ⟨hy, hn⟩ := Classical.not_imp.1 hy
        have e : y % x = y + (-(y / x)) * x := by have := Int.emod_add_mul_ediv y x; grind
        have hr : I (y % x) := by rw [e]; exact ha _ _ hy (hm _ _ hx)
        have h1 : y % x ≠ 0 := fun e => hn (Int.dvd_of_emod_eq_zero e)
        have h2 := Int.emod_nonneg y hx0
        have h3 := Int.emod_lt y hx0
        exact ih (y % x).natAbs (by omega) (y % x) hr h1 rfl
  · exact ⟨0, h0, fun x hx => by
      have : x = 0 := Classical.not_not.1 fun e => h ⟨x, hx, e⟩
      rw [this]; exact Int.dvd_refl _⟩
/-- A lattice whose greatest minors have no common divisor holds each row of its rank. -/
theorem sat {M : Mat} {n m r : Nat} {v : Nat → Int} (h1 : ∀ d, Dv M n m r d → d ∣ 1) (hz : Dv (snoc M n v) (n + 1) m (r + 1) 0) : Sp M n m v := by
  obtain ⟨g, hg, hd⟩ := ideal (I := fun x => Sp M n m (fun j => x * v j)) (Sp.zero.congr fun j _ => by simp)
    (fun x y hx hy => (hx.add hy).congr fun j _ => by rw [Int.add_mul]) (fun c x hx => (hx.mul c).congr fun j _ => by rw [Int.mul_assoc])
  have : g ∣ 1 := h1 g fun is cs hi hc hn hm => hd _ (mn_mul hz hi hc hn hm)
  obtain ⟨c, hc⟩ := this
  refine (hg.mul c).congr fun j _ => ?_
  rw [← Int.mul_assoc, Int.mul_comm c, ← hc, Int.one_mul]
/-- A row with a multiple in the lattice: no greater minor with it is other than 0. -/
theorem Dv.snoc_zero {M : Mat} {n m k : Nat} {v : Nat → Int} {d : Int} (hd : d ≠ 0) (hz : Dv M n m k 0) (hv : Sp M n m (fun j => d * v j)) : Dv (snoc M n v) (n + 1) m k 0 := by
  -- all rows times d
  have h1 : Dv (fun i j => d * snoc M n v i j) (n + 1) m k 0 := hz.rows fun i hi => by
    by_cases h : i < n
    · exact ((Sp.unit h).mul d).congr fun j _ => by simp [snoc, h]
    · exact hv.congr fun j _ => by simp [snoc, h]
  intro is js hi hj hn hm
  have h2 := h1 is js hi hj hn hm
  have e : ∀ (l : List Nat) (js : List Nat), mn (l.map fun i j => d * snoc M n v i j) js = d ^ l.length * mn (l.map (snoc M n v)) js := by
    intro l
    induction l with
    | nil => intro js; simp [mn]
    | cons i l ih =>
      intro js
      rw [List.map_cons, List.map_cons, mn_cons, mn_cons, ← alt_mul, List.length_cons, Int.pow_succ]
      exact alt_congr' (fun a r => by rw [ih]; grind) js
  rw [e] at h2
  have h3 := Int.zero_dvd.1 h2
  rcases Int.mul_eq_zero.1 h3 with h | h
  · exact absurd h (Int.pow_ne_zero hd)
  · rw [h]; exact Int.dvd_refl _
end Go.Proofs.Ytnbamjoadankmaa.D
/- Plain mathematics (no program): the rows that are orthogonal to a matrix: their rank, the double kernel, the minors of a basis. -/
namespace Go.Proofs.Ytnbamjoadankmaa.D
/-- The product of two rows. -/
def dot (m : Nat) (u v : Nat → Int) : Int := sm m (fun j => u j * v j)
theorem dot_comm (m : Nat) (u v : Nat → Int) : dot m u v = dot m v u := sm_congr fun j _ => Int.mul_comm _ _
theorem sm_alt (m : Nat) (F : Nat → Nat → List Nat → Int) (is : List Nat) : sm m (fun j => alt (fun i r => F j i r) is) = alt (fun i r => sm m (fun j => F j i r)) is := (alt_sm m F is).symm
/-- The minors with one column that varies are orthogonal to what is orthogonal to the rows. -/
theorem dot_minor (K : Mat) (m : Nat) (y : Nat → Int) (is js : List Nat) (h : is.length = js.length + 1) (h0 : ∀ i ∈ is, dot m (K i) y = 0) : sm m (fun j => mn (is.map K) (j :: js) * y j) = 0 := by
  have e : sm m (fun j => mn (is.map K) (j :: js) * y j) = sm m (fun j => alt (fun i r => K i j * y j * mn (r.map K) js) is) :=
    sm_congr fun j _ => by
      rw [mn_column K j js is h, Int.mul_comm, ← alt_mul]
      exact alt_congr' (fun i r => by grind) is
  rw [e, sm_alt]
  refine alt_zero' fun i r hp => ?_
  have hi : i ∈ is := hp.subset (by simp)
  have := sm_mul m (mn (r.map K) js) (fun j => K i j * y j)
  have h1 : sm m (fun j => K i j * y j) = 0 := h0 i hi
  rw [h1, Int.mul_zero] at this
  rw [← this]
  exact sm_congr fun j _ => Int.mul_comm _ _
theorem mn_scale (d : Int) (M : Mat) (l js : List Nat) : mn (l.map fun i j => d * M i j) js = d ^ l.length * mn (l.map M) js := by
  induction l generalizing js with
  | nil => simp [mn]
  | cons i l ih =>
    rw [List.map_cons, List.map_cons, mn_cons, mn_cons, ← alt_mul, List.length_cons, Int.pow_succ]
    exact alt_congr' (fun a r => by rw [ih]; grind) js
theorem Dv.unscale {d : Int} {M : Mat} {n m k : Nat} (hd : d ≠ 0) (h : Dv (fun i j => d * M i j) n m k 0) : Dv M n m k 0 := by
  intro is js hi hj hn hm
  have h3 := Int.zero_dvd.1 (h is js hi hj hn hm)
  rw [mn_scale] at h3
  rcases Int.mul_eq_zero.1 h3 with h | h
  · exact absurd h (Int.pow_ne_zero hd)
  · rw [h]; exact Int.dvd_refl _
/-- The columns that are not in a list. -/
def rest (m : Nat) (cs : List Nat) : List Nat := (List.range m).filter fun j => !cs.contains j
theorem mem_rest {m j : Nat} {cs : List Nat} : j ∈ rest m cs ↔ j < m ∧ j ∉ cs := by simp [rest]
theorem rest_perm {m : Nat} {cs : List Nat} (hc : cs.Nodup) (hm : ∀ j ∈ cs, j < m) : (List.range m).Perm (cs ++ rest m cs) := by
  rw [List.perm_ext_iff_of_nodup List.nodup_range]
  · intro a
    rw [List.mem_range, List.mem_append, mem_rest]
    constructor
    · intro h; by_cases x : a ∈ cs
      · exact Or.inl x
      · exact Or.inr ⟨h, x⟩
    · rintro (h | h)
      · exact hm a h
      · exact h.1
  · refine List.nodup_append.2 ⟨hc, List.Nodup.sublist List.filter_sublist List.nodup_range, ?_⟩
    intro a ha b hb e
    subst e; exact (mem_rest.1 hb).2 ha
theorem rest_length {m : Nat} {cs : List Nat} (hc : cs.Nodup) (hm : ∀ j ∈ cs, j < m) : (rest m cs).length + cs.length = m := by
  have := (rest_perm hc hm).length_eq
  simp at this; omega
/-- The sum over a list. -/
def sl (l : List Nat) (f : Nat → Int) : Int := l.foldr (fun j s => f j + s) 0
theorem sl_append (a b : List Nat) (f : Nat → Int) : sl (a ++ b) f = sl a f + sl b f := by
  induction a with
  | nil => simp [sl]
  | cons x a ih => simp only [List.cons_append]; show f x + sl (a ++ b) f = f x + sl a f + sl b f; rw [ih]; omega
theorem sl_perm {a b : List Nat} (h : a.Perm b) (f : Nat → Int) : sl a f = sl b f := by
  induction h with
  | nil => rfl
  | @cons x a b _ ih => show f x + sl a f = f x + sl b f; rw [ih]
  | swap x y l => show f y + (f x + sl l f) = f x + (f y + sl l f); omega
  | trans _ _ i j => exact i.trans j
theorem sl_range (n : Nat) (f : Nat → Int) : sl (List.range n) f = sm n f := by
  induction n with
  | zero => rfl
  | succ n ih => rw [List.range_succ, sl_append, ih]; simp [sl, sm]
theorem sl_zero {l : List Nat} {f : Nat → Int} (h : ∀ j ∈ l, f j = 0) : sl l f = 0 := by
  induction l with
  | nil => rfl
  | cons x l ih => show f x + sl l f = 0; rw [h x (by simp), ih fun j hj => h j (by simp [hj])]; rfl
theorem sl_congr {l : List Nat} {f g : Nat → Int} (h : ∀ j ∈ l, f j = g j) : sl l f = sl l g := by
  induction l with
  | nil => rfl
  | cons x l ih => show f x + sl l f = g x + sl l g; rw [h x (by simp), ih fun j hj => h j (by simp [hj])]
theorem sl_sm (l : List Nat) (f : Nat → Int) : sl l f = sm l.length (fun t => f (l.getD t 0)) := by
  induction l with
  | nil => rfl
  | cons x l ih => rw [List.length_cons, sm_front]; show f x + sl l f = _; rw [ih]; simp
/-- Rows that are orthogonal to rows of a rank have at most the rest as their rank. -/
theorem orth {A K : Mat} {a b m s : Nat} (h0 : ∀ i k, i < a → k < b → dot m (K k) (A i) = 0) (hk : ¬ Dv K b m s 0) {k : Nat} (hs : m < s + k) : Dv A a m k 0 := by
  obtain ⟨is, hk⟩ := Classical.not_forall.1 hk
  obtain ⟨cs, hk⟩ := Classical.not_forall.1 hk
  obtain ⟨hi, hk⟩ := Classical.not_imp.1 hk
  obtain ⟨hc, hk⟩ := Classical.not_imp.1 hk
  obtain ⟨hn, hk⟩ := Classical.not_imp.1 hk
  obtain ⟨hm, hk⟩ := Classical.not_imp.1 hk
  have hD : mn (is.map K) cs ≠ 0 := fun e => hk (by rw [e]; exact Int.dvd_refl _)
  have hnd : cs.Nodup := Classical.not_not.1 fun x => hD (mn_cols_dup x _ (by simp; omega))
  have hp := rest_perm hnd hm
  have hl := rest_length hnd hm
  refine Dv.unscale hD ?_
  apply Dv_tr (M := tr fun i j => mn (is.map K) cs * A i j)
  refine Dv.rows (M := fun t => tr A ((rest m cs).getD t 0)) (n := (rest m cs).length) (Dv.many (by omega) 0) fun j hj => ?_
  by_cases hjc : j ∈ cs
  · obtain ⟨u, v, rfl⟩ := List.append_of_mem hjc
    have hq : (u ++ j :: v).Perm (j :: (u ++ v)) := List.perm_middle
    have hnd' := List.nodup_cons.1 (hq.nodup_iff.1 hnd)
    obtain ⟨e, he, hee⟩ := mn_cols hq
    refine ⟨fun t => - (e * mn (is.map K) ((rest m (u ++ j :: v)).getD t 0 :: (u ++ v))), fun i hia => ?_⟩
    have h1 := dot_minor K m (A i) is (u ++ v) (by simp at hc ⊢; omega) fun k hk => h0 i k hia (hn k hk)
    rw [← sl_range, sl_perm hp, sl_append, sl_perm hq] at h1
    have h2 : sl (j :: (u ++ v)) (fun x => mn (is.map K) (x :: (u ++ v)) * A i x) = mn (is.map K) (j :: (u ++ v)) * A i j := by
      show _ + sl (u ++ v) _ = _
      rw [sl_zero fun x hx => ?_, Int.add_zero]
      rw [mn_cols_dup (fun y => (List.nodup_cons.1 y).1 hx) _ (by simp at hc ⊢; omega), Int.zero_mul]
    rw [h2, sl_sm] at h1
    show mn (is.map K) (u ++ j :: v) * A i j = _
    rw [hee _ (by rw [List.length_map, hi, hc])]
    have h3 : sm (rest m (u ++ j :: v)).length (fun t => -(e * mn (is.map K) ((rest m (u ++ j :: v)).getD t 0 :: (u ++ v))) * tr A ((rest m (u ++ j :: v)).getD t 0) i) = -e * sm (rest m (u ++ j :: v)).length (fun t => mn (is.map K) ((rest m (u ++ j :: v)).getD t 0 :: (u ++ v)) * A i ((rest m (u ++ j :: v)).getD t 0)) := by
      rw [← sm_mul]; exact sm_congr fun t _ => by simp only [tr]; grind
    rw [h3]; grind
  · have hjr : j ∈ rest m cs := mem_rest.2 ⟨hj, hjc⟩
    obtain ⟨t, ht, hte⟩ := List.getElem_of_mem hjr
    have := (Sp.unit (M := fun t => tr A ((rest m cs).getD t 0)) (n := (rest m cs).length) (m := a) ht).mul (mn (is.map K) cs)
    refine this.congr fun i _ => ?_
    have e : (rest m cs).getD t 0 = j := by rw [List.getD_eq_getElem?_getD, List.getElem?_eq_getElem ht]; exact hte
    rw [e]; rfl
theorem sm_sub (n : Nat) (f g : Nat → Int) : sm n (fun t => f t - g t) = sm n f - sm n g := by
  induction n with
  | zero => rfl
  | succ n ih => simp only [sm]; rw [ih]; omega
/-- The rows of a Hermite form are independent. -/
theorem Hf.indep {H : Mat} {r m : Nat} {p : Nat → Nat} (h : Hf H r m p) {c : Nat → Int} (h0 : ∀ j, j < m → sm r (fun t => c t * H t j) = 0) : ∀ t, t < r → c t = 0 := by
  induction r generalizing H p c with
  | zero => intro t ht; omega
  | succ r ih =>
    have hp := h.pos 0 (by omega)
    have h1 := h0 (p 0) (h.lt 0 (by omega))
    rw [sm_front, sm_congr (g := fun _ => 0) fun t ht => by rw [h.left (t + 1) (p 0) (by omega) (h.rise 0 (t + 1) (by omega) (by omega)), Int.mul_zero]] at h1
    rw [sm_zero, Int.add_zero] at h1
    have hc : c 0 = 0 := by
      rcases Int.mul_eq_zero.1 h1 with x | x
      · exact x
      · omega
    have h2 := ih h.tl (c := fun t => c (t + 1)) fun j hj => by
      have := h0 j hj
      rw [sm_front, hc] at this
      simp only [D.tl]; omega
    intro t ht
    cases t with
    | zero => exact hc
    | succ t => exact h2 t (by omega)
/-- The greatest minors of a basis of a lattice that holds what has a multiple in it have no common divisor. -/
theorem Hf.sat_minors {K : Mat} {r m : Nat} {p : Nat → Nat} (h : Hf K r m p) (hs : ∀ (d : Int) (v : Nat → Int), d ≠ 0 → Sp K r m (fun j => d * v j) → Sp K r m v) {q : Int} (hq : Dv K r m r q) : q ∣ 1 := by
  refine Classical.not_not.1 fun hn => ?_
  have hq0 : q ≠ 0 := by
    intro e; subst e
    have hm := h.minor
    have h1 := hq (List.range r) ((List.range r).map p) (by simp) (by simp) (by simp) (by
      intro j hj; obtain ⟨k, hk, rfl⟩ := List.mem_map.1 hj; exact h.lt k (List.mem_range.1 hk))
    rw [hm] at h1
    have := pr_pos (s := fun k => K k (p k)) (k := r) h.pos
    have := Int.zero_dvd.1 h1; omega
  -- the greatest size at which not all minors are divisible
  have hk : ∃ k, k < r ∧ ¬ Dv K r m k q ∧ Dv K r m (k + 1) q := by
    have h0 : ¬ Dv K r m 0 q := fun x => hn (x [] [] rfl rfl (by simp) (by simp))
    have aux : ∀ n, n ≤ r → (∃ k, k < n ∧ ¬ Dv K r m k q ∧ Dv K r m (k + 1) q) ∨ ¬ Dv K r m n q := by
      intro n
      induction n with
      | zero => intro _; exact Or.inr h0
      | succ n ih =>
        intro hr
        rcases ih (by omega) with ⟨k, hk, x⟩ | x
        · exact Or.inl ⟨k, by omega, x⟩
        · by_cases y : Dv K r m (n + 1) q
          · exact Or.inl ⟨n, by omega, x, y⟩
          · exact Or.inr y
    rcases aux r (Nat.le_refl _) with x | x
    · exact x
    · exact absurd hq x
  obtain ⟨k, hkr, hk, hk1⟩ := hk
  obtain ⟨is, hk⟩ := Classical.not_forall.1 hk
  obtain ⟨cs, hk⟩ := Classical.not_forall.1 hk
  obtain ⟨hi, hk⟩ := Classical.not_imp.1 hk
  obtain ⟨hc, hk⟩ := Classical.not_imp.1 hk
  obtain ⟨hin, hk⟩ := Classical.not_imp.1 hk
  obtain ⟨hm, hk⟩ := Classical.not_imp.1 hk
  -- a row that is not among them
  have hx : ∃ i, i < r ∧ i ∉ is := by
    refine Classical.not_not.1 fun x => ?_
    have := (List.Nodup.length_le_of_subset (List.nodup_range (n := r)) (l₂ := is) fun i hi => Classical.not_not.1 fun y => x ⟨i, List.mem_range.1 hi, y⟩)
    simp at this; omega
  obtain ⟨i, hir, hix⟩ := hx
  -- the row that is divided
  have hdv : ∀ j, j < m → q ∣ mn ((i :: is).map K) (j :: cs) := fun j hj => hk1 (i :: is) (j :: cs) (by simp [hi]) (by simp [hc])
    (by intro x hx; rcases List.mem_cons.1 hx with rfl | hx
        · exact hir
        · exact hin x hx)
    (by intro x hx; rcases List.mem_cons.1 hx with rfl | hx
        · exact hj
        · exact hm x hx)
  have hu : Sp (fun t j => if t = i then 0 else K t j) r m (fun j => sm is.length (fun l => mn ((is.set l i).map K) cs * K (is.getD l 0) j)) := by
    refine Sp.sum (N := fun l => K (is.getD l 0)) fun l hl => ?_
    have hml := getD_mem hl
    have := Sp.unit (M := fun t j => if t = i then 0 else K t j) (m := m) (hin _ hml)
    refine this.congr fun j _ => ?_
    show _ = if is.getD l 0 = i then 0 else K (is.getD l 0) j
    rw [if_neg fun e => hix (by rw [← e]; exact hml)]
  obtain ⟨e, he⟩ := hu
  have hw : Sp K r m (fun j => mn ((i :: is).map K) (j :: cs) / q) := by
    refine hs q _ hq0 ?_
    have h1 : Sp K r m (fun j => mn (is.map K) cs * K i j) := (Sp.unit hir).mul _
    have h2 : Sp K r m (fun j => sm is.length (fun l => mn ((is.set l i).map K) cs * K (is.getD l 0) j)) := Sp.sum (N := fun l => K (is.getD l 0)) fun l hl => Sp.unit (hin _ (getD_mem hl))
    refine (h1.add (h2.mul (-1))).congr fun j hj => ?_
    rw [Int.mul_ediv_cancel' (hdv j hj)]
    have := cramerR K i is cs j (by omega)
    rw [sm_congr (g := fun l => mn ((is.set l i).map K) cs * K (is.getD l 0) j) fun l _ => Int.mul_comm _ _] at this
    grind
  obtain ⟨w, hw⟩ := hw
  have hind := h.indep (c := fun t => (if t = i then mn (is.map K) cs else - e t) - q * w t) fun j hj => by
    have c1 := cramerR K i is cs j (by omega)
    have he' : sm is.length (fun l => mn ((is.set l i).map K) cs * K (is.getD l 0) j) = sm r (fun t => e t * (if t = i then 0 else K t j)) := he j hj
    rw [sm_congr (g := fun l => mn ((is.set l i).map K) cs * K (is.getD l 0) j) fun l _ => Int.mul_comm _ _, he'] at c1
    have c2 := hw j hj
    have c3 : q * (mn ((i :: is).map K) (j :: cs) / q) = mn ((i :: is).map K) (j :: cs) := Int.mul_ediv_cancel' (hdv j hj)
    have c4 : mn ((i :: is).map K) (j :: cs) / q = sm r (fun t => w t * K t j) := c2
    rw [c4] at c3
    have s1 : sm r (fun t => ((if t = i then mn (is.map K) cs else - e t) - q * w t) * K t j) = sm r (fun t => (if t = i then 1 else 0) * (mn (is.map K) cs * K t j)) - sm r (fun t => e t * (if t = i then 0 else K t j)) - q * sm r (fun t => w t * K t j) := by
      rw [← sm_mul, ← sm_sub, ← sm_sub]
      exact sm_congr fun t _ => by
        by_cases x : t = i
        · simp only [if_pos x]; grind
        · simp only [if_neg x]; grind
    rw [s1, sm_unit hir fun t => mn (is.map K) cs * K t j]
    grind
  have := hind i hir
  rw [if_pos rfl] at this
  exact hk ⟨w i, by omega⟩
/-- The double kernel: what is orthogonal to all that is orthogonal to a matrix with greatest minors without a common divisor is in its lattice. -/
theorem double {M K : Mat} {n b m r : Nat} {x : Nat → Int} (h0 : ∀ i k, i < n → k < b → dot m (K k) (M i) = 0) (hx : ∀ k, k < b → dot m (K k) x = 0) (hk : ¬ Dv K b m (m - r) 0) (hr : r ≤ m) (h1 : ∀ d, Dv M n m r d → d ∣ 1) : Sp M n m x := by
  refine sat h1 (orth (K := K) (b := b) (s := m - r) ?_ hk (by omega))
  intro i k hi hk
  unfold snoc
  split
  · exact h0 i k (by assumption) hk
  · exact hx k hk
end Go.Proofs.Ytnbamjoadankmaa.D
/- Plain mathematics (no program): minors of rising lists are enough; numbers that have the same divisors. -/
namespace Go.Proofs.Ytnbamjoadankmaa.D
theorem exists_rising (l : List Nat) (h : l.Nodup) : ∃ k : List Nat, k.Perm l ∧ k.Pairwise (· < ·) := by
  refine ⟨l.mergeSort (fun a b => decide (a ≤ b)), List.mergeSort_perm l _, ?_⟩
  have h1 : (l.mergeSort (fun a b => decide (a ≤ b))).Pairwise (fun a b => decide (a ≤ b) = true) := List.pairwise_mergeSort (by intro a b c h1 h2; simp at *; omega) (by intro a b; simp; omega) l
  have h2 : (l.mergeSort (fun a b => decide (a ≤ b))).Nodup := (List.mergeSort_perm l _).nodup_iff.2 h
  exact (h1.and h2).imp fun {a b} hab => by have := hab.1; have := hab.2; simp at *; omega
/-- The minors of rising lists of rows and columns are enough. -/
theorem Dv.rising {M : Mat} {n m k : Nat} {d : Int} (h : ∀ is js : List Nat, is.length = k → js.length = k → is.Pairwise (· < ·) → js.Pairwise (· < ·) → (∀ i ∈ is, i < n) → (∀ j ∈ js, j < m) → d ∣ mn (is.map M) js) : Dv M n m k d := by
  intro is js hi hj hn hm
  by_cases hnd : is.Nodup
  · by_cases hjd : js.Nodup
    · obtain ⟨is', hp, hr⟩ := exists_rising is hnd
      obtain ⟨js', hq, hs⟩ := exists_rising js hjd
      obtain ⟨c, _, hc⟩ := mn_permI hp.symm
      obtain ⟨e, _, he⟩ := mn_cols hq.symm
      rw [hc, he _ (by rw [List.length_map, hp.length_eq]; omega)]
      exact Int.dvd_mul_of_dvd_right (Int.dvd_mul_of_dvd_right (h is' js' (by rw [hp.length_eq, hi]) (by rw [hq.length_eq, hj]) hr hs (fun i hi => hn i (hp.subset hi)) (fun j hj => hm j (hq.subset hj))))
    · rw [mn_cols_dup hjd _ (by simp; omega)]; exact Int.dvd_zero _
  · rw [mn_dup (fun x => hnd ((List.pairwise_map.1 x).imp fun hab e => hab (by rw [e])))]; exact Int.dvd_zero _
/-- The rank and the divisors of a matrix whose lattice has a Hermite form. -/
theorem Hf.rank {M H : Mat} {n r m : Nat} {p : Nat → Nat} (h : Hf H r m p) (h1 : ∀ i, i < n → Sp H r m (M i)) (h2 : ∀ i, i < r → Sp M n m (H i)) (k : Nat) : Dv M n m k 0 ↔ r < k := by
  have e : ∀ d, Dv M n m k d ↔ Dv H r m k d := fun d => ⟨fun x => x.rows h2, fun x => x.rows h1⟩
  rw [e]
  constructor
  · intro x
    refine Classical.not_not.1 fun hk => ?_
    have hx : ∀ t, Dv H r m (k + t) 0 := by
      intro t
      induction t with
      | zero => exact x
      | succ t ih => exact ih.mono
    have h3 := hx (r - k) (List.range r) ((List.range r).map p) (by simp; omega) (by simp; omega) (by simp) (by
      intro j hj; obtain ⟨k, hk, rfl⟩ := List.mem_map.1 hj; exact h.lt k (List.mem_range.1 hk))
    rw [h.minor] at h3
    have := pr_pos (s := fun k => H k (p k)) (k := r) h.pos
    have := Int.zero_dvd.1 h3; omega
  · intro x; exact Dv.many x 0
/-- The last divisor divides the product of the pivots. -/
theorem Hf.last {M H : Mat} {n r m : Nat} {p : Nat → Nat} (h : Hf H r m p) (h2 : ∀ i, i < r → Sp M n m (H i)) {d : Int} (hd : Dv M n m r d) : d ∣ pr (fun k => H k (p k)) r := by
  rw [← h.minor]
  exact hd.rows h2 _ _ (by simp) (by simp) (by simp) (by
      intro j hj; obtain ⟨k, hk, rfl⟩ := List.mem_map.1 hj; exact h.lt k (List.mem_range.1 hk))
/-- The product of the pivots divides each greatest minor in the columns of the pivots. -/
theorem Hf.pivots {M H : Mat} {n r m : Nat} {p : Nat → Nat} (h : Hf H r m p) (h1 : ∀ i, i < n → Sp H r m (M i)) {is : List Nat} (hi : is.length = r) (hn : ∀ i ∈ is, i < n) : pr (fun k => H k (p k)) r ∣ mn (is.map M) ((List.range r).map p) := by
  -- the columns of the pivots alone
  have e : ∀ l : List Nat, ∀ N : Mat, mn (l.map N) ((List.range r).map p) = mn (l.map fun i k => N i (p k)) (List.range r) := by
    intro l N
    generalize List.range r = js
    induction l generalizing js with
    | nil => rfl
    | cons i l ih =>
      rw [List.map_cons, List.map_cons, mn_cons, mn_cons, alt_map]
      exact alt_congr' (fun a s => by rw [ih]) js
  rw [e]
  have hs : ∀ i, i < n → Sp (fun i k => H i (p k)) r r (fun k => M i (p k)) := fun i hi => by
    obtain ⟨c, hc⟩ := h1 i hi
    exact ⟨c, fun k hk => hc (p k) (h.lt k hk)⟩
  have hd : Dv (fun i k => H i (p k)) r r r (pr (fun k => H k (p k)) r) := by
    refine Dv.rising fun is js hi hj hri hrj hn hm => ?_
    have full : ∀ l : List Nat, l.length = r → l.Pairwise (· < ·) → (∀ i ∈ l, i < r) → l = List.range r := by
      intro l hl hp hb
      have hnd : l.Nodup := hp.imp fun {a b} hab e => by omega
      have hperm : l.Perm (List.range r) := by
        refine (List.perm_ext_iff_of_nodup hnd List.nodup_range).2 fun a => ⟨fun x => List.mem_range.2 (hb a x), fun x => ?_⟩
        refine Classical.not_not.1 fun y => ?_
        have := List.Nodup.length_le_of_subset (List.nodup_cons.2 ⟨y, hnd⟩) (l₂ := List.range r) (by
          intro z hz; rcases List.mem_cons.1 hz with rfl | hz
          · exact x
          · exact List.mem_range.2 (hb z hz))
        simp at this; omega
      exact hperm.eq_of_pairwise (fun a b _ _ h1 h2 => by omega) hp List.pairwise_lt_range
    rw [full is hi hri hn, full js hj hrj hm, ← e, h.minor]; exact Int.dvd_refl _
  exact Dv.rows hd (n' := n) (N := fun i k => M i (p k)) hs is (List.range r) hi (by simp) hn (by simp)
end Go.Proofs.Ytnbamjoadankmaa.D
/- Plain mathematics (no program): a lattice whose rows follow from their elements in some independent columns: its Hermite form from that on these columns. -/
namespace Go.Proofs.Ytnbamjoadankmaa.D
/-- What is closed under sums and multiples, and looks at the first m columns alone. -/
structure Sub (m : Nat) (L : (Nat → Int) → Prop) : Prop where
  zero : L (fun _ => 0)
  add : ∀ u v, L u → L v → L (fun j => u j + v j)
  mul : ∀ c u, L u → L (fun j => c * u j)
  congr : ∀ u v, (∀ j, j < m → v j = u j) → L u → L v
theorem Sub.sp (M : Mat) (n m : Nat) : Sub m (Sp M n m) := ⟨Sp.zero, fun _ _ h g => h.add g, fun c _ h => h.mul c, fun _ _ e h => h.congr e⟩
theorem Sub.sum {m : Nat} {L : (Nat → Int) → Prop} (h : Sub m L) {k : Nat} {c : Nat → Int} {N : Mat} (hn : ∀ t, t < k → L (N t)) : L (fun j => sm k (fun t => c t * N t j)) := by
  induction k with
  | zero => exact h.zero
  | succ k ih => exact h.add _ _ (ih fun t ht => hn t (by omega)) (h.mul _ _ (hn k (by omega)))
theorem Sub.of_sp {m : Nat} {L : (Nat → Int) → Prop} (h : Sub m L) {M : Mat} {n : Nat} {v : Nat → Int} (hv : Sp M n m v) (hm : ∀ t, t < n → L (M t)) : L v := by
  obtain ⟨c, hc⟩ := hv
  exact h.congr _ _ hc (h.sum hm)
/-- Some columns are independent, and each column follows from some of them. -/
structure Gr (M : Mat) (n m : Nat) (bef : Nat → Nat → Prop) (is cs : List Nat) : Prop where
  len : is.length = cs.length
  rows : ∀ i ∈ is, i < n
  cols : ∀ j ∈ cs, j < m
  ne : mn (is.map M) cs ≠ 0
  dep : ∀ j, j < m → ∃ k, k ≤ cs.length ∧ (∀ l, l < k → bef (cs.getD l 0) j) ∧ ∃ E : Int, E ≠ 0 ∧ ∃ w : Nat → Int, ∀ i, i < n → E * M i j = sm k (fun l => M i (cs.getD l 0) * w l)
/-- What follows for the rows of the lattice. -/
theorem Gr.dep_sp {M : Mat} {n m : Nat} {bef : Nat → Nat → Prop} {is cs : List Nat} (h : Gr M n m bef is cs) {j : Nat} (hj : j < m) : ∃ k, k ≤ cs.length ∧ (∀ l, l < k → bef (cs.getD l 0) j) ∧ ∃ E : Int, E ≠ 0 ∧ ∃ w : Nat → Int, ∀ v, Sp M n m v → E * v j = sm k (fun l => v (cs.getD l 0) * w l) := by
  obtain ⟨k, hk, hb, E, hE, w, hw⟩ := h.dep j hj
  refine ⟨k, hk, hb, E, hE, w, fun v hv => ?_⟩
  obtain ⟨c, hc⟩ := hv
  have e1 : sm k (fun l => v (cs.getD l 0) * w l) = sm k (fun l => sm n (fun t => c t * (M t (cs.getD l 0) * w l))) :=
    sm_congr fun l hl => by
      rw [hc _ (h.cols _ (getD_mem (by omega))), Int.mul_comm, ← sm_mul]
      exact sm_congr fun t _ => by grind
  rw [e1, sm_comm, hc j hj, ← sm_mul]
  exact sm_congr fun t ht => by
    rw [sm_mul, ← hw t ht]; grind
/-- A row of the lattice that is 0 in these columns is 0. -/
theorem Gr.zero {M : Mat} {n m : Nat} {bef : Nat → Nat → Prop} {is cs : List Nat} (h : Gr M n m bef is cs) {v : Nat → Int} (hv : Sp M n m v) (h0 : ∀ k, k < cs.length → v (cs.getD k 0) = 0) : ∀ j, j < m → v j = 0 := by
  intro j hj
  obtain ⟨k, hk, _, E, hE, w, hw⟩ := h.dep_sp hj
  have := hw v hv
  rw [sm_congr (g := fun _ => 0) fun l hl => by rw [h0 l (by omega), Int.zero_mul]] at this
  rw [sm_zero] at this
  rcases Int.mul_eq_zero.1 this with x | x
  · exact absurd x hE
  · exact x
/-- No greater minor with these is other than 0. -/
theorem Gr.minor {M : Mat} {n m : Nat} {bef : Nat → Nat → Prop} {is cs : List Nat} (h : Gr M n m bef is cs) {j : Nat} (hj : j < m) {us : List Nat} (hu : us.length = cs.length + 1) (hn : ∀ i ∈ us, i < n) : mn (us.map M) (j :: cs) = 0 := by
  obtain ⟨k, hk, _, E, hE, w, hw⟩ := h.dep j hj
  have e : E * mn (us.map M) (j :: cs) = 0 := by
    rw [mn_column M j cs us hu, ← alt_mul]
    have e1 : alt (fun i r => E * (M i j * mn (r.map M) cs)) us = alt (fun i r => sm k (fun l => w l * (M i (cs.getD l 0) * mn (r.map M) cs))) us :=
      alt_congrP fun i r hp => by
        have := hw i (mem_perm hp hn).1
        rw [← Int.mul_assoc, this, Int.mul_comm, ← sm_mul]
        exact sm_congr fun l _ => by grind
    rw [e1, alt_sm, sm_congr (g := fun _ => 0) fun l hl => ?_]
    · exact sm_zero k
    · rw [alt_mul, ← mn_column M (cs.getD l 0) cs us hu, mn_cols_dup (fun x => (List.nodup_cons.1 x).1 (getD_mem (by omega))) _ (by simpa using hu), Int.mul_zero]
  rcases Int.mul_eq_zero.1 e with x | x
  · exact absurd x hE
  · exact x
/-- Cramer's rule for the rows of the lattice. -/
theorem Gr.cramer {M : Mat} {n m : Nat} {bef : Nat → Nat → Prop} {is cs : List Nat} (h : Gr M n m bef is cs) {v : Nat → Int} (hv : Sp M n m v) {j : Nat} (hj : j < m) : v j * mn (is.map M) cs = sm cs.length (fun k => v (cs.getD k 0) * mn (is.map M) (cs.set k j)) := by
  obtain ⟨c, hc⟩ := hv
  have e1 : sm cs.length (fun k => v (cs.getD k 0) * mn (is.map M) (cs.set k j)) = sm cs.length (fun k => sm n (fun t => c t * (M t (cs.getD k 0) * mn (is.map M) (cs.set k j)))) :=
    sm_congr fun k hk => by
      rw [hc _ (h.cols _ (getD_mem hk)), Int.mul_comm, ← sm_mul]
      exact sm_congr fun t _ => by grind
  rw [e1, sm_comm, hc j hj, Int.mul_comm, ← sm_mul]
  exact sm_congr fun t ht => by
    have h1 := D.cramer (M t) (is.map M) j cs (by simpa using h.len)
    have h2 := h.minor hj (us := t :: is) (by simp [h.len]) (by
      intro i hi; rcases List.mem_cons.1 hi with rfl | hi
      · exact ht
      · exact h.rows i hi)
    rw [List.map_cons] at h2
    rw [sm_mul]
    have h3 : sm cs.length (fun k => M t (cs.getD k 0) * mn (is.map M) (cs.set k j)) = M t j * mn (is.map M) cs := by omega
    rw [h3]; grind
/-- The lattice on these columns. -/
def at' (M : Mat) (cs : List Nat) : Mat := fun i k => M i (cs.getD k 0)
theorem at_map (M : Mat) (cs l ks : List Nat) : mn (l.map (at' M cs)) ks = mn (l.map M) (ks.map fun k => cs.getD k 0) := by
  induction l generalizing ks with
  | nil => rfl
  | cons i l ih =>
    rw [List.map_cons, List.map_cons, mn_cons, mn_cons, alt_map]
    exact alt_congr' (fun a r => by rw [ih]; rfl) ks
theorem range_map (cs : List Nat) : (List.range cs.length).map (fun k => cs.getD k 0) = cs := by
  apply List.ext_getElem
  · simp
  · intro i h1 h2
    simp [List.getElem?_eq_getElem h2]
/-- It has all multiples of the minor. -/
theorem Gr.multiples {M : Mat} {n m : Nat} {bef : Nat → Nat → Prop} {is cs : List Nat} (h : Gr M n m bef is cs) (v : Nat → Int) : Sp (at' M cs) n cs.length (fun k => mn (is.map M) cs * v k) := by
  have h1 : Dv (snoc (at' M cs) n v) (n + 1) cs.length (cs.length + 1) 0 := Dv_tr (M := tr (snoc (at' M cs) n v)) (Dv.many (by omega) 0)
  have := mn_mul h1 (is := is) (cs := List.range cs.length) h.len (by simp) h.rows (by simp)
  rw [at_map, range_map] at this
  exact this
/-- The rows of the lattice with given elements in these columns. -/
theorem lift {M : Mat} {n m : Nat} {cs : List Nat} {x : Nat → Int} (hx : Sp (at' M cs) n cs.length x) : ∃ v, Sp M n m v ∧ ∀ k, k < cs.length → v (cs.getD k 0) = x k := by
  obtain ⟨c, hc⟩ := hx
  exact ⟨fun j => sm n (fun t => c t * M t j), ⟨c, fun j _ => rfl⟩, fun k hk => (hc k hk).symm⟩
theorem Gr.value {M : Mat} {n m : Nat} {bef : Nat → Nat → Prop} {is cs : List Nat} (h : Gr M n m bef is cs) {v x : Nat → Int} (hv : Sp M n m v) (hx : ∀ k, k < cs.length → v (cs.getD k 0) = x k) {j : Nat} (hj : j < m) : sm cs.length (fun k => x k * mn (is.map M) (cs.set k j)) = v j * mn (is.map M) cs := by
  rw [h.cramer hv hj]
  exact sm_congr fun k hk => by rw [hx k hk]
/-- The Hermite form from that on these columns, if they come in their order. -/
theorem Gr.hermite {M : Mat} {n m : Nat} {is cs : List Nat} (h : Gr M n m (· ≤ ·) is cs) (hr : ∀ i k, i < k → k < cs.length → cs.getD i 0 < cs.getD k 0) {H : Mat} (hH : Hf H cs.length cs.length id) (h1 : ∀ t, t < n → Sp H cs.length cs.length (at' M cs t)) (h2 : ∀ i, i < cs.length → Sp (at' M cs) n cs.length (H i)) {O : Mat} (hO : ∀ i j, i < cs.length → j < m → O i j * mn (is.map M) cs = sm cs.length (fun k => H i k * mn (is.map M) (cs.set k j))) : Hf O cs.length m (fun k => cs.getD k 0) ∧ (∀ t, t < n → Sp O cs.length m (M t)) ∧ (∀ i, i < cs.length → Sp M n m (O i)) := by
  have key : ∀ i, i < cs.length → Sp M n m (O i) ∧ ∀ k, k < cs.length → O i (cs.getD k 0) = H i k := by
    intro i hi
    obtain ⟨v, hv, hx⟩ := lift (m := m) (h2 i hi)
    have e : ∀ j, j < m → O i j = v j := fun j hj => by
      have := h.value hv hx hj
      rw [← hO i j hi hj] at this
      exact Int.eq_of_mul_eq_mul_right h.ne this
    exact ⟨hv.congr e, fun k hk => by rw [e _ (h.cols _ (getD_mem hk))]; exact hx k hk⟩
  refine ⟨⟨fun k hk => h.cols _ (getD_mem hk), hr, fun k hk => by rw [(key k hk).2 k hk]; exact hH.pos k hk, ?_, fun i k hi hk => ?_⟩, fun t ht => ?_, fun i hi => (key i hi).1⟩
  · intro k j hk hj
    have hjm : j < m := by have := h.cols _ (getD_mem hk); omega
    obtain ⟨q, hq, hb, E, hE, w, hw⟩ := h.dep_sp hjm
    have := hw _ (key k hk).1
    rw [sm_congr (g := fun _ => 0) fun l hl => ?_, sm_zero] at this
    · rcases Int.mul_eq_zero.1 this with x | x
      · exact absurd x hE
      · exact x
    · have hlk : l < k := by
        refine Classical.not_not.1 fun x => ?_
        have hb' := hb l hl
        rcases Nat.lt_or_eq_of_le (show k ≤ l by omega) with y | y
        · have := hr k l y (by omega); omega
        · subst y; omega
      rw [(key k hk).2 l (by omega), hH.left k l hk hlk, Int.zero_mul]
  · rw [(key i (by omega)).2 k hk, (key k hk).2 k hk]; exact hH.red i k hi hk
  · obtain ⟨c, hc⟩ := h1 t ht
    have hz : Sp M n m (fun j => M t j - sm cs.length (fun l => c l * O l j)) :=
      ((Sp.unit ht).add ((Sp.sum (N := O) (c := c) fun l hl => (key l hl).1).mul (-1))).congr fun j _ => by omega
    have h0 := h.zero hz fun k hk => by
      have := hc k hk
      have e : sm cs.length (fun l => c l * O l (cs.getD k 0)) = sm cs.length (fun l => c l * H l k) := sm_congr fun l hl => by rw [(key l hl).2 k hk]
      show M t (cs.getD k 0) - _ = 0
      rw [e, ← this]; simp [at']
    exact ⟨c, fun j hj => by have : M t j - sm cs.length (fun l => c l * O l j) = 0 := h0 j hj
                             omega⟩
end Go.Proofs.Ytnbamjoadankmaa.D
/- Plain mathematics (no program): columns that are chosen one after another; a row that is put into a triangular lattice. -/
namespace Go.Proofs.Ytnbamjoadankmaa.D
/-- The columns that were chosen among those that are done: greatest minors of each beginning, and none with a column that was left out. -/
structure Gd (M : Mat) (n : Nat) (bef : Nat → Nat → Prop) (done is cs : List Nat) : Prop where
  len : is.length = cs.length
  rows : ∀ i ∈ is, i < n
  cols : ∀ j ∈ cs, j ∈ done
  ne : ∀ k, k ≤ cs.length → mn ((is.take k).map M) (cs.take k) ≠ 0
  dep : ∀ j ∈ done, ∃ k, k ≤ cs.length ∧ (∀ l, l < k → bef (cs.getD l 0) j) ∧ ((∃ l, l < k ∧ cs.getD l 0 = j) ∨ ∀ i, i < n → mn ((is.take k ++ [i]).map M) (cs.take k ++ [j]) = 0)
theorem Gd.nil (M : Mat) (n : Nat) (bef : Nat → Nat → Prop) : Gd M n bef [] [] [] where
  len := rfl
  rows := by simp
  cols := by simp
  ne k hk := by simp [mn]
  dep := by simp
theorem getD_append_left {l r : List Nat} {k : Nat} (h : k < l.length) : (l ++ r).getD k 0 = l.getD k 0 := by
  simp [List.getElem?_append_left h]
theorem Gd.add {M : Mat} {n : Nat} {bef : Nat → Nat → Prop} {done is cs : List Nat} {j i : Nat} (h : Gd M n bef done is cs) (hi : i < n) (hm : mn ((is ++ [i]).map M) (cs ++ [j]) ≠ 0) (hb : ∀ c ∈ cs, bef c j) (hj : bef j j) : Gd M n bef (done ++ [j]) (is ++ [i]) (cs ++ [j]) where
  len := by simp [h.len]
  rows x hx := by
    rcases List.mem_append.1 hx with hx | hx
    · exact h.rows x hx
    · rw [List.mem_singleton.1 hx]; exact hi
  cols x hx := by
    rcases List.mem_append.1 hx with hx | hx
    · exact List.mem_append_left _ (h.cols x hx)
    · exact List.mem_append_right _ hx
  ne k hk := by
    have hl := h.len
    rcases Nat.lt_or_eq_of_le hk with x | x
    · have x' : k ≤ cs.length := by simp at x; omega
      rw [List.take_append_of_le_length (by omega), List.take_append_of_le_length x']
      exact h.ne k x'
    · have e : k = (is ++ [i]).length := by rw [x]; simp [hl]
      rw [x, List.take_length, ← x, e, List.take_length]; exact hm
  dep x hx := by
    have hl := h.len
    rcases List.mem_append.1 hx with hx | hx
    · obtain ⟨k, hk, hb', hd⟩ := h.dep x hx
      refine ⟨k, by simp; omega, fun l hlk => by rw [getD_append_left (by omega)]; exact hb' l hlk, ?_⟩
      rcases hd with ⟨l, hlk, e⟩ | hd
      · exact Or.inl ⟨l, hlk, by rw [getD_append_left (by omega)]; exact e⟩
      · refine Or.inr ?_
        rw [List.take_append_of_le_length (by omega), List.take_append_of_le_length hk]
        exact hd
    · rw [List.mem_singleton.1 hx]
      have e : (cs ++ [j]).getD cs.length 0 = j := by simp
      refine ⟨cs.length + 1, by simp, fun l hlk => ?_, Or.inl ⟨cs.length, by omega, e⟩⟩
      rcases Nat.lt_or_eq_of_le (Nat.le_of_lt_succ hlk) with y | y
      · rw [getD_append_left y]; exact hb _ (getD_mem y)
      · rw [y, e]; exact hj
theorem Gd.skip {M : Mat} {n : Nat} {bef : Nat → Nat → Prop} {done is cs : List Nat} {j : Nat} (h : Gd M n bef done is cs) (hm : ∀ i, i < n → mn ((is ++ [i]).map M) (cs ++ [j]) = 0) (hb : ∀ c ∈ cs, bef c j) : Gd M n bef (done ++ [j]) is cs where
  len := h.len
  rows := h.rows
  cols x hx := List.mem_append_left _ (h.cols x hx)
  ne := h.ne
  dep x hx := by
    rcases List.mem_append.1 hx with hx | hx
    · exact h.dep x hx
    · rw [List.mem_singleton.1 hx]
      refine ⟨cs.length, Nat.le_refl _, fun l hl => hb _ (getD_mem hl), Or.inr ?_⟩
      rw [List.take_length, ← h.len, List.take_length]; exact hm
theorem mn_snoc (M : Mat) (i : Nat) (is : List Nat) (j : Nat) (cs : List Nat) (h : is.length = cs.length) : mn ((is ++ [i]).map M) (cs ++ [j]) = mn ((i :: is).map M) (j :: cs) := by
  have e1 : (i :: is).map M = M i :: (is.map M ++ []) := by simp
  have e2 : (j :: cs) = j :: (cs ++ []) := by simp
  rw [e1, mn_move, e2, mn_moveC _ j cs [] (by simp; omega), ← Int.mul_assoc, List.length_map, h, sg_sq, Int.one_mul]
  simp
theorem Gd.gr {M : Mat} {n m : Nat} {bef : Nat → Nat → Prop} {done is cs : List Nat} (h : Gd M n bef done is cs) (hd : ∀ j, j ∈ done ↔ j < m) : Gr M n m bef is cs where
  len := h.len
  rows := h.rows
  cols j hj := (hd j).1 (h.cols j hj)
  ne := by
    have := h.ne cs.length (Nat.le_refl _)
    rwa [List.take_length, ← h.len, List.take_length] at this
  dep j hj := by
    obtain ⟨k, hk, hb, hx⟩ := h.dep j ((hd j).2 hj)
    refine ⟨k, hk, hb, ?_⟩
    rcases hx with ⟨l, hl, e⟩ | hx
    · refine ⟨1, by decide, fun t => if t = l then 1 else 0, fun i _ => ?_⟩
      have := sm_unit hl fun t => M i (cs.getD t 0)
      rw [e] at this
      rw [Int.one_mul, ← this]
      exact sm_congr fun t _ => Int.mul_comm _ _
    · refine ⟨mn ((is.take k).map M) (cs.take k), h.ne k hk, fun t => mn ((is.take k).map M) ((cs.take k).set t j), fun i hi => ?_⟩
      have hl := h.len
      have c := cramer (M i) ((is.take k).map M) j (cs.take k) (by simp; omega)
      have z := hx i hi
      rw [mn_snoc M i _ j _ (by simp; omega), List.map_cons] at z
      rw [z, Int.add_zero, Int.mul_comm] at c
      have e : (cs.take k).length = k := by simp; omega
      rw [c, e]
      refine sm_congr fun t ht => ?_
      congr 2
      simp [List.getElem?_take_of_lt ht]
/-- A unimodular change of two rows, up to what is in the lattice. -/
theorem two {m : Nat} {L : (Nat → Int) → Prop} (hL : Sub m L) {u v u' v' s t : Nat → Int} {X Y a b : Int} (e : X * a + Y * b = 1) (hu : ∀ j, j < m → u' j = X * u j + Y * v j + s j) (hv : ∀ j, j < m → v' j = a * v j - b * u j + t j) (hs : L s) (ht : L t) : (L u ∧ L v) ↔ (L u' ∧ L v') := by
  constructor
  · rintro ⟨h1, h2⟩
    exact ⟨hL.congr _ _ hu (hL.add _ _ (hL.add _ _ (hL.mul X _ h1) (hL.mul Y _ h2)) hs), hL.congr _ _ (fun j hj => by rw [hv j hj]; grind) (hL.add _ _ (hL.add _ _ (hL.mul a _ h2) (hL.mul (-b) _ h1)) ht)⟩
  · rintro ⟨h1, h2⟩
    have p1 := hL.add _ _ h1 (hL.mul (-1) _ hs)
    have p2 := hL.add _ _ h2 (hL.mul (-1) _ ht)
    refine ⟨hL.congr _ _ (fun j hj => ?_) (hL.add _ _ (hL.mul a _ p1) (hL.mul (-Y) _ p2)), hL.congr _ _ (fun j hj => ?_) (hL.add _ _ (hL.mul b _ p1) (hL.mul X _ p2))⟩
    · have := hu j hj; have := hv j hj; grind
    · have := hu j hj; have := hv j hj; grind
def unitV (d : Int) (i : Nat) : Nat → Int := fun j => if j = i then d else 0
/-- What has multiples of d alone, and in later columns alone. -/
theorem mults {m i : Nat} {d : Int} {L : (Nat → Int) → Prop} (hL : Sub m L) (hd : ∀ j, i ≤ j → j < m → L (unitV d j)) {s : Nat → Int} (h0 : ∀ j, j < i → s j = 0) (hs : ∀ j, j < m → d ∣ s j) : L s := by
  have h := hL.sum (k := m) (c := fun j => if j < i then 0 else s j / d) (N := fun j => if j < i then (fun _ => 0) else unitV d j) fun j hj => by
    by_cases x : j < i
    · simp only [if_pos x]; exact hL.zero
    · simp only [if_neg x]; exact hd j (by omega) hj
  refine hL.congr _ _ (fun j hj => ?_) h
  have e : sm m (fun t => (if t < i then 0 else s t / d) * (if t < i then (fun _ => 0) else unitV d t) j) = sm m (fun t => (if t = j then 1 else 0) * s t) := by
    refine sm_congr fun t ht => ?_
    by_cases x : t < i
    · simp only [if_pos x]; rw [h0 t x]; simp
    · simp only [if_neg x, unitV]
      by_cases y : j = t
      · subst y; rw [if_pos rfl, if_pos rfl, Int.ediv_mul_cancel (hs j hj), Int.one_mul]
      · rw [if_neg y, if_neg (Ne.symm y)]; simp
  rw [e, sm_unit hj]
end Go.Proofs.Ytnbamjoadankmaa.D
/- Plain mathematics (no program): triangular lattices that have all multiples of a number: a row is put in, the rows are reduced, the rows that a product divides. -/
namespace Go.Proofs.Ytnbamjoadankmaa.D
/-- From a row on: triangular, with all multiples of d. -/
structure Tg (h : Mat) (n : Nat) (d : Int) (i : Nat) : Prop where
  up : ∀ k j, i ≤ k → k < n → j < k → h k j = 0
  pos : ∀ k, i ≤ k → k < n → 0 < h k k
  mul : ∀ k, i ≤ k → k < n → ∀ L, Sub n L → (∀ t, k ≤ t → t < n → L (h t)) → L (unitV d k)
theorem Tg.mono {h : Mat} {n : Nat} {d : Int} {i k : Nat} (t : Tg h n d i) (hk : i ≤ k) : Tg h n d k :=
  ⟨fun a j ha => t.up a j (by omega), fun a ha => t.pos a (by omega), fun a ha => t.mul a (by omega)⟩
theorem Tg.congr {h g : Mat} {n : Nat} {d : Int} {i : Nat} (t : Tg h n d i) (e : ∀ k, i ≤ k → k < n → g k = h k) : Tg g n d i :=
  ⟨fun a j ha hn hj => by rw [e a ha hn]; exact t.up a j ha hn hj, fun a ha hn => by rw [e a ha hn]; exact t.pos a ha hn,
   fun a ha hn L hL hx => t.mul a ha hn L hL fun b hb hbn => by rw [← e b (by omega) hbn]; exact hx b hb hbn⟩
theorem Tg.mults {h : Mat} {n : Nat} {d : Int} {i : Nat} (t : Tg h n d i) {L : (Nat → Int) → Prop} (hL : Sub n L) (hx : ∀ k, i ≤ k → k < n → L (h k)) {s : Nat → Int} (h0 : ∀ j, j < i → s j = 0) (hs : ∀ j, j < n → d ∣ s j) : L s :=
  D.mults hL (fun j hj hn => t.mul j hj hn L hL fun b hb hbn => hx b (by omega) hbn) h0 hs
/-- The start: all multiples of d. -/
theorem Tg.start {n : Nat} {d : Int} (hd : 0 < d) : Tg (fun i => unitV d i) n d 0 where
  up k j _ _ hj := by simp [unitV]; omega
  pos k _ _ := by simp [unitV]; exact hd
  mul k _ hk L _ hx := hx k (Nat.le_refl _) hk
/-- A row without its first elements. -/
def cut (i : Nat) (v : Nat → Int) : Nat → Int := fun j => if j < i then 0 else v j
def upd (h : Mat) (i : Nat) (u : Nat → Int) : Mat := fun k => if k = i then u else h k
/-- A row is put in, from a column on. -/
inductive Ins (d : Int) (n : Nat) : Nat → Mat → (Nat → Int) → Mat → Prop
  | done {h : Mat} {v : Nat → Int} : Ins d n n h v h
  | skip {i : Nat} {h h' : Mat} {v v' : Nat → Int} : i < n → d ∣ v i → (∀ j, i < j → j < n → v' j = v j) → Ins d n (i + 1) h v' h' → Ins d n i h v h'
  | step {i : Nat} {h h' : Mat} {v v' u : Nat → Int} (x G X Y a b : Int) : i < n → d ∣ v i - x → X * h i i + Y * x = G → 0 < G → h i i = a * G → x = b * G →
      (∀ j, j < i → u j = 0) → u i = G → (∀ j, i < j → j < n → d ∣ u j - (X * h i j + Y * v j)) → (∀ j, i < j → j < n → d ∣ v' j - (a * v j - b * h i j)) →
      Ins d n (i + 1) (upd h i u) v' h' → Ins d n i h v h'
theorem Ins.spec {d : Int} {n i : Nat} {h h' : Mat} {v : Nat → Int} (t : Ins d n i h v h') (hT : Tg h n d i) : (∀ k, k < i → h' k = h k) ∧ Tg h' n d i ∧ ∀ L, Sub n L → (((∀ k, i ≤ k → k < n → L (h k)) ∧ L (cut i v)) ↔ ∀ k, i ≤ k → k < n → L (h' k)) := by
  induction t with
  | @done h v =>
    refine ⟨fun _ _ => rfl, hT, fun L hL => ⟨fun x => x.1, fun x => ⟨x, hL.congr _ _ (fun j hj => ?_) hL.zero⟩⟩⟩
    simp [cut, hj]
  | @skip i h h' v v' hi hd hv _ ih =>
    obtain ⟨h1, h2, h3⟩ := ih (hT.mono (by omega))
    have key : ∀ L, Sub n L → (((∀ k, i ≤ k → k < n → L (h k)) ∧ L (cut i v)) ↔ ∀ k, i ≤ k → k < n → L (h' k)) := by
      intro L hL
      have e : (∀ k, i ≤ k → k < n → L (h k)) → (L (cut i v) ↔ L (cut (i + 1) v')) := by
        intro hx
        have hs : L (fun j => if j = i then v i else 0) := hT.mults hL hx (fun j hj => by simp; omega) fun j _ => by
          by_cases y : j = i
          · simp only [if_pos y]; exact hd
          · simp only [if_neg y]; exact Int.dvd_zero _
        constructor
        · intro y
          refine hL.congr _ _ (fun j hj => ?_) (hL.add _ _ y (hL.mul (-1) _ hs))
          by_cases a : j < i
          · simp [cut, a, show j < i + 1 by omega, show ¬ j = i by omega]
          · by_cases b : j = i
            · subst b; simp [cut]; omega
            · simp [cut, a, b, show ¬ j < i + 1 by omega, hv j (by omega) hj]
        · intro y
          refine hL.congr _ _ (fun j hj => ?_) (hL.add _ _ y hs)
          by_cases a : j < i
          · simp [cut, a, show j < i + 1 by omega, show ¬ j = i by omega]
          · by_cases b : j = i
            · subst b; simp [cut]
            · simp [cut, a, b, show ¬ j < i + 1 by omega, hv j (by omega) hj]
      constructor
      · rintro ⟨x, y⟩ k hk hn
        rcases Nat.lt_or_eq_of_le hk with z | z
        · exact (h3 L hL).1 ⟨fun k hk => x k (by omega), (e x).1 y⟩ k z hn
        · subst z; rw [h1 i (by omega)]; exact x i (Nat.le_refl _) hn
      · intro x
        have y := (h3 L hL).2 fun k hk hn => x k (by omega) hn
        have xi : ∀ k, i ≤ k → k < n → L (h k) := fun k hk hn => by
          rcases Nat.lt_or_eq_of_le hk with z | z
          · exact y.1 k z hn
          · subst z; rw [← h1 i (by omega)]; exact x i (Nat.le_refl _) hn
        exact ⟨xi, (e xi).2 y.2⟩
    refine ⟨fun k hk => h1 k (by omega), ⟨fun k j hk hn hj => ?_, fun k hk hn => ?_, fun k hk hn L hL hx => ?_⟩, key⟩
    · rcases Nat.lt_or_eq_of_le hk with z | z
      · exact h2.up k j z hn hj
      · subst z; rw [h1 i (by omega)]; exact hT.up i j (Nat.le_refl _) hn hj
    · rcases Nat.lt_or_eq_of_le hk with z | z
      · exact h2.pos k z hn
      · subst z; rw [h1 i (by omega)]; exact hT.pos i (Nat.le_refl _) hn
    · rcases Nat.lt_or_eq_of_le hk with z | z
      · exact h2.mul k z hn L hL hx
      · subst z; exact hT.mul i (Nat.le_refl _) hn L hL ((key L hL).2 hx).1
  | @step i h h' v v' u x G X Y a b hi hx hG hG0 ha hb hu0 hui hu hv _ ih =>
    have hT2 : Tg (upd h i u) n d (i + 1) := (hT.mono (by omega)).congr fun k hk _ => by simp [upd, show ¬ k = i by omega]
    obtain ⟨h1, h2, h3⟩ := ih hT2
    have hi' : h' i = u := by rw [h1 i (by omega)]; simp [upd]
    have hup : ∀ k, i < k → upd h i u k = h k := fun k hk => by simp [upd, show ¬ k = i by omega]
    have hXY : X * a + Y * b = 1 := by
      have : (X * a + Y * b) * G = 1 * G := by rw [ha, hb] at hG; grind
      exact Int.eq_of_mul_eq_mul_right (by omega) this
    have e : ∀ L, Sub n L → (∀ k, i < k → k < n → L (h k)) → ((L (h i) ∧ L (cut i v)) ↔ (L u ∧ L (cut (i + 1) v'))) := by
      intro L hL hr
      have hm : ∀ s : Nat → Int, (∀ j, j < i + 1 → s j = 0) → (∀ j, j < n → d ∣ s j) → L s := fun s h0 hs => (hT.mono (by omega)).mults hL (fun k hk hn => hr k hk hn) h0 hs
      -- first the element of the column, up to multiples of d
      have eq1 : (L (h i) ∧ L (cut i v)) ↔ (L (h i) ∧ L (fun j => if j < i then 0 else if j = i then x else v j)) := by
        have hs : L (h i) → L (fun j => if j = i then v i - x else 0) := fun hhi => hT.mults hL (fun k hk hn => by
          rcases Nat.lt_or_eq_of_le hk with z | z
          · exact hr k z hn
          · subst z; exact hhi) (fun j hj => by simp; omega) fun j _ => by
            by_cases y : j = i
            · simp only [if_pos y]; exact hx
            · simp only [if_neg y]; exact Int.dvd_zero _
        constructor
        · rintro ⟨p, q⟩
          refine ⟨p, hL.congr _ _ (fun j hj => ?_) (hL.add _ _ q (hL.mul (-1) _ (hs p)))⟩
          by_cases a : j < i
          · simp [cut, a, show ¬ j = i by omega]
          · by_cases b : j = i
            · subst b; simp [cut]; omega
            · simp [cut, a, b]
        · rintro ⟨p, q⟩
          refine ⟨p, hL.congr _ _ (fun j hj => ?_) (hL.add _ _ q (hs p))⟩
          by_cases a : j < i
          · simp [cut, a, show ¬ j = i by omega]
          · by_cases b : j = i
            · subst b; simp [cut]; omega
            · simp [cut, a, b]
      rw [eq1]
      refine two hL (s := fun j => if j ≤ i then 0 else u j - (X * h i j + Y * v j)) (t := fun j => if j ≤ i then 0 else v' j - (a * v j - b * h i j)) hXY (fun j hj => ?_) (fun j hj => ?_) (hm _ (fun j hj => by simp; omega) fun j hj => ?_) (hm _ (fun j hj => by simp; omega) fun j hj => ?_)
      · by_cases a1 : j < i
        · simp only [if_pos a1, if_pos (show j ≤ i by omega)]
          rw [hu0 j a1, hT.up i j (Nat.le_refl _) hi a1]; simp
        · by_cases b1 : j = i
          · subst b1; simp only [if_neg a1, if_true, Nat.le_refl]; rw [hui]; omega
          · simp only [if_neg a1, if_neg b1, if_neg (show ¬ j ≤ i by omega)]; omega
      · by_cases a1 : j < i
        · simp only [cut, if_pos a1, if_pos (show j ≤ i by omega), if_pos (show j < i + 1 by omega)]
          rw [hT.up i j (Nat.le_refl _) hi a1]; simp
        · by_cases b1 : j = i
          · subst b1; simp only [cut, if_neg a1, if_true, Nat.le_refl, if_pos (show j < j + 1 by omega)]; rw [ha, hb]; grind
          · simp only [cut, if_neg a1, if_neg b1, if_neg (show ¬ j ≤ i by omega), if_neg (show ¬ j < i + 1 by omega)]; omega
      · by_cases a1 : j ≤ i
        · simp only [if_pos a1]; exact Int.dvd_zero _
        · simp only [if_neg a1]; exact hu j (by omega) hj
      · by_cases a1 : j ≤ i
        · simp only [if_pos a1]; exact Int.dvd_zero _
        · simp only [if_neg a1]; exact hv j (by omega) hj
    have key : ∀ L, Sub n L → (((∀ k, i ≤ k → k < n → L (h k)) ∧ L (cut i v)) ↔ ∀ k, i ≤ k → k < n → L (h' k)) := by
      intro L hL
      constructor
      · rintro ⟨p, q⟩ k hk hn
        have pr : ∀ k, i < k → k < n → L (h k) := fun k hk => p k (by omega)
        have := (e L hL pr).1 ⟨p i (Nat.le_refl _) hi, q⟩
        rcases Nat.lt_or_eq_of_le hk with z | z
        · exact (h3 L hL).1 ⟨fun k hk hn => by rw [hup k hk]; exact pr k hk hn, this.2⟩ k z hn
        · subst z; rw [hi']; exact this.1
      · intro p
        have q := (h3 L hL).2 fun k hk hn => p k (by omega) hn
        have pr : ∀ k, i < k → k < n → L (h k) := fun k hk hn => by rw [← hup k hk]; exact q.1 k hk hn
        have hui' : L u := by rw [← hi']; exact p i (Nat.le_refl _) hi
        have := (e L hL pr).2 ⟨hui', q.2⟩
        exact ⟨fun k hk hn => by
          rcases Nat.lt_or_eq_of_le hk with z | z
          · exact pr k z hn
          · subst z; exact this.1, this.2⟩
    refine ⟨fun k hk => by rw [h1 k (by omega)]; simp [upd, show ¬ k = i by omega], ⟨fun k j hk hn hj => ?_, fun k hk hn => ?_, fun k hk hn L hL hx => ?_⟩, key⟩
    · rcases Nat.lt_or_eq_of_le hk with z | z
      · exact h2.up k j z hn hj
      · subst z; rw [hi']; exact hu0 j hj
    · rcases Nat.lt_or_eq_of_le hk with z | z
      · exact h2.pos k z hn
      · subst z; rw [hi', hui]; exact hG0
    · rcases Nat.lt_or_eq_of_le hk with z | z
      · exact h2.mul k z hn L hL hx
      · subst z; exact hT.mul i (Nat.le_refl _) hn L hL ((key L hL).2 hx).1
/-- A row of a triangular lattice that is 0 in the first columns is made of the later rows. -/
theorem Tg.tail {h : Mat} {n : Nat} {d : Int} (t : Tg h n d 0) (i : Nat) {c : Nat → Int} (hi : i ≤ n) (h0 : ∀ j, j < i → sm n (fun k => c k * h k j) = 0) : ∀ k, k < i → c k = 0 := by
  intro k hk
  induction k using Nat.strongRecOn with
  | ind k ih =>
    have h1 := h0 k hk
    have e : sm n (fun t => c t * h t k) = sm n (fun t => (if t = k then 1 else 0) * (c k * h k k)) := by
      refine sm_congr fun s hs => ?_
      rcases Nat.lt_trichotomy s k with x | x | x
      · rw [ih s x (by omega), if_neg (by omega)]; simp
      · subst x; rw [if_pos rfl, Int.one_mul]
      · rw [t.up s k (by omega) hs x, if_neg (by omega)]; simp
    rw [e, sm_unit (by omega) fun _ => c k * h k k] at h1
    have := t.pos k (by omega) (by omega)
    rcases Int.mul_eq_zero.1 h1 with x | x
    · exact x
    · omega
end Go.Proofs.Ytnbamjoadankmaa.D
/- Plain mathematics (no program): the rows of a triangular lattice are reduced; the rows whose product with a given one a number divides. -/
namespace Go.Proofs.Ytnbamjoadankmaa.D
/-- A row is reduced by later rows. -/
inductive Rw (d : Int) (n : Nat) (h : Mat) : Nat → (Nat → Int) → (Nat → Int) → Prop
  | done {u : Nat → Int} : Rw d n h n u u
  | step {k : Nat} {u u1 u' : Nat → Int} (q : Int) : k < n → (∀ j, j < k → u1 j = u j) → u1 k = u k - q * h k k → 0 ≤ u1 k → u1 k < h k k → (∀ j, k < j → j < n → d ∣ u1 j - (u j - q * h k j)) → Rw d n h (k + 1) u1 u' → Rw d n h k u u'
theorem Rw.spec {d : Int} {n k : Nat} {h : Mat} {u u' : Nat → Int} (r : Rw d n h k u u') (hT : Tg h n d k) : (∀ j, j < k → u' j = u j) ∧ (∀ j, k ≤ j → j < n → 0 ≤ u' j ∧ u' j < h j j) ∧ ∀ L, Sub n L → (∀ t, k ≤ t → t < n → L (h t)) → (L u ↔ L u') := by
  induction r with
  | done => exact ⟨fun _ _ => rfl, fun j hj hn => by omega, fun L _ _ => Iff.rfl⟩
  | @step k u u1 u' q hk h0 h1 h2 h3 h4 _ ih =>
    obtain ⟨i1, i2, i3⟩ := ih (hT.mono (by omega))
    refine ⟨fun j hj => by rw [i1 j (by omega), h0 j hj], fun j hj hn => ?_, fun L hL hx => ?_⟩
    · rcases Nat.lt_or_eq_of_le hj with z | z
      · exact i2 j z hn
      · subst z; rw [i1 k (by omega)]; exact ⟨h2, h3⟩
    · rw [← i3 L hL fun t ht hn => hx t (by omega) hn]
      have hs : L (fun j => if j ≤ k then 0 else u1 j - (u j - q * h k j)) := (hT.mono (Nat.le_succ k)).mults hL (fun t ht hn => hx t (by omega) hn) (fun j hj => by simp; omega) fun j hj => by
        by_cases y : j ≤ k
        · simp only [if_pos y]; exact Int.dvd_zero _
        · simp only [if_neg y]; exact h4 j (by omega) hj
      have hw := hx k (Nat.le_refl _) hk
      have e : ∀ j, j < n → u1 j = u j - q * h k j + if j ≤ k then 0 else u1 j - (u j - q * h k j) := by
        intro j _
        by_cases y : j ≤ k
        · rw [if_pos y]
          rcases Nat.lt_or_eq_of_le y with z | z
          · rw [h0 j z, hT.up k j (Nat.le_refl _) hk z]; simp
          · subst z; rw [h1]; simp
        · rw [if_neg y]; omega
      constructor
      · intro p
        exact hL.congr _ _ (fun j hj => by rw [e j hj]; grind) (hL.add _ _ (hL.add _ _ p (hL.mul (-q) _ hw)) hs)
      · intro p
        exact hL.congr _ _ (fun j hj => by have := e j hj; grind) (hL.add _ _ (hL.add _ _ p (hL.mul q _ hw)) (hL.mul (-1) _ hs))
/-- All rows are reduced: Hermite form. -/
theorem reduced {d : Int} {n : Nat} {h h' : Mat} (hT : Tg h n d 0) (hr : ∀ i, i < n → Rw d n h' (i + 1) (h i) (h' i)) : Hf h' n n id ∧ Tg h' n d 0 ∧ ∀ L, Sub n L → ((∀ k, k < n → L (h k)) ↔ ∀ k, k < n → L (h' k)) := by
  have aux : ∀ m, m ≤ n → Tg h' n d (n - m) ∧ (∀ L, Sub n L → ((∀ k, n - m ≤ k → k < n → L (h k)) ↔ ∀ k, n - m ≤ k → k < n → L (h' k))) ∧ (∀ i k, n - m ≤ i → i < k → k < n → 0 ≤ h' i k ∧ h' i k < h' k k) := by
    intro m
    induction m with
    | zero => intro _; exact ⟨⟨fun k j hk hn => by omega, fun k hk hn => by omega, fun k hk hn => by exfalso; omega⟩, fun L _ => ⟨fun _ k hk hn => by omega, fun _ k hk hn => by omega⟩, fun i k hi hk hn => by omega⟩
    | succ m ih =>
      intro hm
      obtain ⟨t, e, b⟩ := ih (by omega)
      have hi : n - m = n - (m + 1) + 1 := by omega
      rw [hi] at t e b
      obtain ⟨i, hii⟩ : ∃ i, i = n - (m + 1) := ⟨_, rfl⟩
      rw [← hii] at t e b ⊢
      have hin : i < n := by omega
      obtain ⟨r1, r2, r3⟩ := (hr i hin).spec t
      have e' : ∀ L, Sub n L → ((∀ k, i ≤ k → k < n → L (h k)) ↔ ∀ k, i ≤ k → k < n → L (h' k)) := by
        intro L hL
        constructor
        · intro x k hk hn
          have y := (e L hL).1 fun k hk hn => x k (by omega) hn
          rcases Nat.lt_or_eq_of_le hk with z | z
          · exact y k z hn
          · rw [← z]; exact (r3 L hL y).1 (x i (Nat.le_refl _) hin)
        · intro x k hk hn
          have y := (e L hL).2 fun k hk hn => x k (by omega) hn
          rcases Nat.lt_or_eq_of_le hk with z | z
          · exact y k z hn
          · rw [← z]; exact (r3 L hL fun k hk hn => x k (by omega) hn).2 (x i (Nat.le_refl _) hin)
      refine ⟨⟨fun k j hk hn hj => ?_, fun k hk hn => ?_, fun k hk hn L hL hx => ?_⟩, e', fun a k ha hk hn => ?_⟩
      · rcases Nat.lt_or_eq_of_le hk with z | z
        · exact t.up k j z hn hj
        · rw [← z, r1 j (by omega)]; exact hT.up i j (by omega) hin (by omega)
      · rcases Nat.lt_or_eq_of_le hk with z | z
        · exact t.pos k z hn
        · rw [← z, r1 i (by omega)]; exact hT.pos i (by omega) hin
      · rcases Nat.lt_or_eq_of_le hk with z | z
        · exact t.mul k z hn L hL hx
        · rw [← z] at hx ⊢; exact hT.mul i (by omega) hin L hL ((e' L hL).2 hx)
      · rcases Nat.lt_or_eq_of_le ha with z | z
        · exact b a k z hk hn
        · rw [← z]; exact r2 k (by omega) hn
  obtain ⟨t, e, b⟩ := aux n (Nat.le_refl _)
  rw [Nat.sub_self] at t e b
  refine ⟨⟨fun k hk => hk, fun i k hi _ => hi, fun k hk => t.pos k (by omega) hk, fun k j hk hj => t.up k j (by omega) hk hj, fun i k hi hk => b i k (by omega) hi hk⟩, t, fun L hL => ?_⟩
  have := e L hL
  exact ⟨fun x k hk => this.1 (fun k _ hk => x k hk) k (by omega) hk, fun x k hk => this.2 (fun k _ hk => x k hk) k (by omega) hk⟩
/-- Rows are put in, one after another. -/
inductive Inss (d : Int) (n : Nat) (B : Mat) : Nat → Mat → Prop
  | zero : Inss d n B 0 (fun i => unitV d i)
  | succ {k : Nat} {h h' : Mat} : Inss d n B k h → Ins d n 0 h (B k) h' → Inss d n B (k + 1) h'
theorem Inss.spec {d : Int} {n k : Nat} {B h : Mat} (hd : 0 < d) (t : Inss d n B k h) : Tg h n d 0 ∧ ∀ L, Sub n L → (((∀ i, i < n → L (unitV d i)) ∧ ∀ i, i < k → L (B i)) ↔ ∀ i, i < n → L (h i)) := by
  induction t with
  | zero => exact ⟨Tg.start hd, fun L _ => ⟨fun x => x.1, fun x => ⟨x, fun i hi => by omega⟩⟩⟩
  | @succ k h h' _ hi ih =>
    obtain ⟨t, e⟩ := ih
    obtain ⟨_, t', e'⟩ := hi.spec t
    refine ⟨t', fun L hL => ?_⟩
    have c : L (cut 0 (B k)) ↔ L (B k) := ⟨hL.congr _ _ fun j _ => by simp [cut], hL.congr _ _ fun j _ => by simp [cut]⟩
    have h1 := e L hL
    have h2 := e' L hL
    rw [c] at h2
    constructor
    · rintro ⟨x, y⟩ i hin
      exact h2.1 ⟨fun k _ hk => h1.1 ⟨x, fun i hi => y i (by omega)⟩ k hk, y k (by omega)⟩ i (by omega) hin
    · intro x
      obtain ⟨p, q⟩ := h2.2 fun i _ hi => x i hi
      obtain ⟨r, s⟩ := h1.2 fun i hi => p i (by omega) hi
      refine ⟨r, fun i hi => ?_⟩
      rcases Nat.lt_or_eq_of_le (Nat.le_of_lt_succ hi) with z | z
      · exact s i z
      · subst z; exact q
/-- The rows of a lattice whose product with c is divisible by d. -/
theorem divisible {d : Int} {n : Nat} {b B h h' : Mat} {c : Nat → Int} (hd : 0 < d) (hb : ∀ x : Nat → Int, Sp b n n (fun j => d * x j))
    (hB : ∀ i, i < n → d ∣ B i 0 - sm n (fun j => c j * b i j)) (hB' : ∀ i j, i < n → j < n → B i (j + 1) = b i j)
    (hi : Inss d (n + 1) B n h) (hr : ∀ i, i < n + 1 → Rw d (n + 1) h' (i + 1) (h i) (h' i)) :
    Hf (fun i j => h' (i + 1) (j + 1)) n n id ∧ ∀ x, Sp (fun i j => h' (i + 1) (j + 1)) n n x ↔ Sp b n n x ∧ d ∣ sm n (fun j => c j * x j) := by
  obtain ⟨t, e⟩ := hi.spec hd
  obtain ⟨hf, t', e'⟩ := reduced t hr
  refine ⟨⟨fun k hk => hk, fun i k hi _ => hi, fun k hk => hf.pos (k + 1) (by omega), fun k j hk hj => hf.left (k + 1) (j + 1) (by omega) (by simp only [id] at *; omega), fun i k hi hk => hf.red (i + 1) (k + 1) (by omega) (by omega)⟩, fun x => ⟨fun hx => ?_, fun hx => ?_⟩⟩
  · -- the lattice of the rows with the product
    have hL : Sub (n + 1) (fun v => Sp b n n (fun j => v (j + 1)) ∧ d ∣ v 0 - sm n (fun j => c j * v (j + 1))) := by
      refine ⟨⟨Sp.zero, ?_⟩, fun u v hu hv => ⟨hu.1.add hv.1, ?_⟩, fun a u hu => ⟨hu.1.mul a, ?_⟩, fun u v h hu => ⟨hu.1.congr fun j hj => h (j + 1) (by omega), ?_⟩⟩
      · rw [sm_congr (g := fun _ => 0) fun j _ => by simp, sm_zero]; exact Int.dvd_zero _
      · have : u 0 + v 0 - sm n (fun j => c j * (u (j + 1) + v (j + 1))) = (u 0 - sm n (fun j => c j * u (j + 1))) + (v 0 - sm n (fun j => c j * v (j + 1))) := by
          rw [sm_congr (g := fun j => c j * u (j + 1) + c j * v (j + 1)) fun j _ => Int.mul_add _ _ _, sm_add]; omega
        show d ∣ u 0 + v 0 - sm n (fun j => c j * (u (j + 1) + v (j + 1)))
        rw [this]; exact Int.dvd_add hu.2 hv.2
      · have : a * u 0 - sm n (fun j => c j * (a * u (j + 1))) = a * (u 0 - sm n (fun j => c j * u (j + 1))) := by
          rw [sm_congr (g := fun j => a * (c j * u (j + 1))) fun j _ => by grind, sm_mul, Int.mul_sub]
        show d ∣ a * u 0 - sm n (fun j => c j * (a * u (j + 1)))
        rw [this]; exact Int.dvd_mul_of_dvd_right hu.2
      · rw [h 0 (by omega), sm_congr (g := fun j => c j * u (j + 1)) fun j hj => by rw [h (j + 1) (by omega)]]; exact hu.2
    have h1 : ∀ i, i < n + 1 → Sp b n n (fun j => h' i (j + 1)) ∧ d ∣ h' i 0 - sm n (fun j => c j * h' i (j + 1)) := by
      refine (e' _ hL).1 ((e _ hL).1 ⟨fun i hi => ?_, fun i hi => ?_⟩)
      · cases i with
        | zero => exact ⟨Sp.zero.congr fun j _ => by simp [unitV], by
            rw [sm_congr (g := fun _ => 0) fun j _ => by simp [unitV], sm_zero]; simp [unitV]⟩
        | succ i =>
          refine ⟨(hb fun j => if j = i then 1 else 0).congr fun j _ => ?_, ?_⟩
          · by_cases x : j = i
            · subst x; simp [unitV]
            · simp [unitV, x]
          · have e1 : unitV d (i + 1) 0 = 0 := by simp [unitV]
            rw [e1]
            refine Int.dvd_sub (Int.dvd_zero _) (sm_dvd fun j _ => ?_)
            by_cases x : j = i
            · subst x; simp only [unitV, if_true]; exact Int.dvd_mul_left _ _
            · simp [unitV, x]
      · refine ⟨(Sp.unit hi).congr fun j hj => hB' i j hi hj, ?_⟩
        rw [sm_congr (g := fun j => c j * b i j) fun j hj => by rw [hB' i j hi hj]]
        exact hB i hi
    have h2 := hL.of_sp (M := fun i => h' (i + 1)) (n := n) (v := fun j => match j with | 0 => 0 | j + 1 => x j) (by
      obtain ⟨w, hw⟩ := hx
      refine ⟨w, fun j hj => ?_⟩
      cases j with
      | zero =>
        rw [sm_congr (g := fun _ => 0) fun t ht => ?_, sm_zero]
        show w t * h' (t + 1) 0 = 0
        rw [hf.left (t + 1) 0 (by omega) (by simp [id]), Int.mul_zero]
      | succ j => exact hw j (by omega)) fun i hi => h1 (i + 1) (by omega)
    refine ⟨h2.1, ?_⟩
    have h3 : d ∣ 0 - sm n (fun j => c j * x j) := h2.2
    have h4 := Int.dvd_sub (Int.dvd_zero d) h3
    have h5 : 0 - (0 - sm n (fun j => c j * x j)) = sm n (fun j => c j * x j) := by omega
    rwa [h5] at h4
  · obtain ⟨hx1, hx2⟩ := hx
    obtain ⟨w, hw⟩ := hx1
    have hS := Sub.sp h' (n + 1) (n + 1)
    have hall := (e _ hS).2 ((e' _ hS).2 fun k hk => Sp.unit hk)
    -- the sum of the rows that were put in
    have hsum : Sp h' (n + 1) (n + 1) (fun j => sm n (fun t => w t * B t j)) := hS.sum hall.2
    have hz : d ∣ sm n (fun t => w t * B t 0) := by
      have e1 : sm n (fun t => w t * B t 0) = sm n (fun t => w t * (B t 0 - sm n (fun j => c j * b t j))) + sm n (fun j => c j * x j) := by
        have e2 : sm n (fun j => c j * x j) = sm n (fun t => w t * sm n (fun j => c j * b t j)) := by
          rw [sm_congr (g := fun j => sm n (fun t => c j * (w t * b t j))) fun j hj => by rw [hw j hj, sm_mul], sm_comm]
          exact sm_congr fun t _ => by rw [← sm_mul]; exact sm_congr fun j _ => by grind
        rw [e2, ← sm_add]; exact sm_congr fun t _ => by grind
      rw [e1]
      exact Int.dvd_add (sm_dvd fun t ht => Int.dvd_mul_of_dvd_right (hB t ht)) hx2
    obtain ⟨q, hq⟩ := hz
    have hv : Sp h' (n + 1) (n + 1) (fun j => match j with | 0 => 0 | j + 1 => x j) := by
      refine (hsum.add ((hall.1 0 (by omega)).mul (-q))).congr fun j hj => ?_
      cases j with
      | zero => show 0 = sm n (fun t => w t * B t 0) + -q * unitV d 0 0
                rw [hq]; simp only [unitV, if_true]; grind
      | succ j =>
        show x j = sm n (fun t => w t * B t (j + 1)) + -q * unitV d 0 (j + 1)
        have e3 : sm n (fun t => w t * B t (j + 1)) = sm n (fun t => w t * b t j) := sm_congr fun t ht => by rw [hB' t j ht (by omega)]
        rw [hw j (by omega), e3]; simp [unitV]
    obtain ⟨y, hy⟩ := hv
    have y0 := t'.tail 1 (c := y) (by omega) (fun j hj => by
      have : j = 0 := by omega
      subst this; exact (hy 0 (by omega)).symm) 0 (by omega)
    refine ⟨fun t => y (t + 1), fun j hj => ?_⟩
    have h3 : x j = sm (n + 1) (fun t => y t * h' t (j + 1)) := hy (j + 1) (by omega)
    rw [h3, sm_front, y0]; simp
end Go.Proofs.Ytnbamjoadankmaa.D
/- Plain mathematics (no program): the rows that are orthogonal to a matrix, from their elements in the columns that were not chosen. -/
namespace Go.Proofs.Ytnbamjoadankmaa.D
theorem mn_set (us : List (Nat → Int)) {cs : List Nat} {k : Nat} (hk : k < cs.length) (j : Nat) (hu : us.length = cs.length) : mn us (cs.set k j) = sg k * mn us (j :: cs.eraseIdx k) := by
  rw [List.set_eq_take_append_cons_drop, if_pos hk, List.eraseIdx_eq_take_drop_succ, mn_moveC us j _ _ (by simp; omega), ← Int.mul_assoc]
  have : (cs.take k).length = k := by simp; omega
  rw [this, sg_sq, Int.one_mul]
theorem getD_set_self {cs : List Nat} {k : Nat} : cs.set k (cs.getD k 0) = cs := by
  apply List.ext_getElem
  · simp
  · intro i h1 h2
    rw [List.getElem_set]
    split
    · rename_i e; subst e; simp [List.getElem?_eq_getElem h2]
    · rfl
theorem nodup_inj {l : List Nat} (h : l.Nodup) {i j : Nat} (hi : i < l.length) (hj : j < l.length) (e : l[i] = l[j]) : i = j := by
  have hp := List.pairwise_iff_getElem.1 h
  rcases Nat.lt_trichotomy i j with x | x | x
  · exact absurd e (hp i j hi hj x)
  · exact x
  · exact absurd e.symm (hp j i hj hi x)
theorem getD_at {l : List Nat} {i : Nat} (hi : i < l.length) : l.getD i 0 = l[i] := by
  rw [List.getD_eq_getElem?_getD, List.getElem?_eq_getElem hi]; rfl
theorem getD_inj {cs : List Nat} (h : cs.Nodup) {k l : Nat} (hk : k < cs.length) (hl : l < cs.length) (e : cs.getD k 0 = cs.getD l 0) : k = l := by
  rw [getD_at hk, getD_at hl] at e
  exact nodup_inj h hk hl e
/-- A column that comes twice. -/
theorem mn_set_dup {us : List (Nat → Int)} {cs : List Nat} {k l : Nat} (hk : k < cs.length) (hl : l < cs.length) (hkl : k ≠ l) (hu : us.length = cs.length) : mn us (cs.set k (cs.getD l 0)) = 0 := by
  refine mn_cols_dup (fun x => ?_) us (by simpa using hu)
  have h1 : (cs.set k (cs.getD l 0))[k]'(by simpa using hk) = cs.getD l 0 := by simp
  have h2 : (cs.set k (cs.getD l 0))[l]'(by simpa using hl) = cs.getD l 0 := by
    rw [List.getElem_set_ne hkl]; exact (getD_at hl).symm
  exact hkl (nodup_inj x _ _ (h1.trans h2.symm))
/-- The sum over all columns, by those that were chosen and the others. -/
theorem sm_split {m : Nat} {cs : List Nat} (hc : cs.Nodup) (hm : ∀ j ∈ cs, j < m) (f : Nat → Int) : sm m f = sm cs.length (fun k => f (cs.getD k 0)) + sm (rest m cs).length (fun t => f ((rest m cs).getD t 0)) := by
  rw [← sl_range, sl_perm (rest_perm hc hm), sl_append, sl_sm, sl_sm]
/-- What is orthogonal to the rows follows from its elements in the other columns. -/
theorem ker_col {M : Mat} {m : Nat} {is cs : List Nat} (hl : is.length = cs.length) (hc : cs.Nodup) (hm : ∀ j ∈ cs, j < m) {y : Nat → Int} (h0 : ∀ i ∈ is, dot m (M i) y = 0) {k : Nat} (hk : k < cs.length) : mn (is.map M) cs * y (cs.getD k 0) + sm (rest m cs).length (fun t => y ((rest m cs).getD t 0) * mn (is.map M) (cs.set k ((rest m cs).getD t 0))) = 0 := by
  have h1 : sm m (fun j => mn (is.map M) (cs.set k j) * y j) = 0 := by
    have hd := dot_minor M m y is (cs.eraseIdx k) (by rw [List.length_eraseIdx]; simp [hk]; omega) h0
    rw [sm_congr (g := fun j => sg k * (mn (is.map M) (j :: cs.eraseIdx k) * y j)) fun j _ => by rw [mn_set _ hk j (by simpa using hl), Int.mul_assoc], sm_mul, hd, Int.mul_zero]
  rw [sm_split hc hm] at h1
  have h2 : sm cs.length (fun l => mn (is.map M) (cs.set k (cs.getD l 0)) * y (cs.getD l 0)) = mn (is.map M) cs * y (cs.getD k 0) := by
    have := sm_unit hk fun l => mn (is.map M) cs * y (cs.getD l 0)
    rw [← this]
    refine sm_congr fun l hl' => ?_
    by_cases x : l = k
    · subst x; rw [getD_set_self, if_pos rfl, Int.one_mul]
    · rw [mn_set_dup hk hl' (Ne.symm x) (by simpa using hl), if_neg x]; simp
  rw [h2, sm_congr (g := fun t => y ((rest m cs).getD t 0) * mn (is.map M) (cs.set k ((rest m cs).getD t 0))) fun t _ => Int.mul_comm _ _] at h1
  exact h1
theorem rest_rising (m : Nat) (cs : List Nat) : (rest m cs).Pairwise (· < ·) := List.Pairwise.filter _ List.pairwise_lt_range
theorem rest_lt {m : Nat} {cs : List Nat} {i k : Nat} (hik : i < k) (hk : k < (rest m cs).length) : (rest m cs).getD i 0 < (rest m cs).getD k 0 := by
  rw [getD_at hk, getD_at (by omega)]
  exact List.pairwise_iff_getElem.1 (rest_rising m cs) i k (by omega) hk hik
theorem getD_of_mem {l : List Nat} {x : Nat} (h : x ∈ l) : ∃ k, k < l.length ∧ l.getD k 0 = x := by
  obtain ⟨k, hk, e⟩ := List.getElem_of_mem h
  exact ⟨k, hk, by rw [getD_at hk]; exact e⟩
/-- Conversely, what follows from its elements in the other columns is orthogonal to all rows. -/
theorem Gr.ker {M : Mat} {n m : Nat} {bef : Nat → Nat → Prop} {is cs : List Nat} (h : Gr M n m bef is cs) (hc : cs.Nodup) {y : Nat → Int} (hy : ∀ k, k < cs.length → mn (is.map M) cs * y (cs.getD k 0) + sm (rest m cs).length (fun t => y ((rest m cs).getD t 0) * mn (is.map M) (cs.set k ((rest m cs).getD t 0))) = 0) {i : Nat} (hi : i < n) : dot m (M i) y = 0 := by
  have e : mn (is.map M) cs * dot m (M i) y = 0 := by
    unfold dot
    rw [sm_split hc h.cols, Int.mul_add, ← sm_mul, ← sm_mul]
    -- the chosen columns by the others
    have e1 : sm cs.length (fun k => mn (is.map M) cs * (M i (cs.getD k 0) * y (cs.getD k 0))) = sm cs.length (fun k => - sm (rest m cs).length (fun t => y ((rest m cs).getD t 0) * (M i (cs.getD k 0) * mn (is.map M) (cs.set k ((rest m cs).getD t 0))))) := by
      refine sm_congr fun k hk => ?_
      have := hy k hk
      have e2 : sm (rest m cs).length (fun t => y ((rest m cs).getD t 0) * (M i (cs.getD k 0) * mn (is.map M) (cs.set k ((rest m cs).getD t 0)))) = M i (cs.getD k 0) * sm (rest m cs).length (fun t => y ((rest m cs).getD t 0) * mn (is.map M) (cs.set k ((rest m cs).getD t 0))) := by
        rw [← sm_mul]; exact sm_congr fun t _ => by grind
      rw [e2]; grind
    have e3 : sm (rest m cs).length (fun t => mn (is.map M) cs * (M i ((rest m cs).getD t 0) * y ((rest m cs).getD t 0))) = sm (rest m cs).length (fun t => sm cs.length (fun k => y ((rest m cs).getD t 0) * (M i (cs.getD k 0) * mn (is.map M) (cs.set k ((rest m cs).getD t 0))))) := by
      refine sm_congr fun t ht => ?_
      have hr := (mem_rest.1 (getD_mem ht)).1
      have c := h.cramer (Sp.unit hi) hr
      rw [sm_mul, ← c]; grind
    rw [e1, e3, sm_comm, ← sm_add]
    rw [sm_congr (g := fun _ => 0) fun k _ => by omega, sm_zero]
  rcases Int.mul_eq_zero.1 e with x | x
  · exact absurd x h.ne
  · exact x
/-- The Hermite form of the rows that are orthogonal to a matrix, from the elements in the columns that were not chosen. -/
theorem Gr.kernel {M : Mat} {n m : Nat} {is cs : List Nat} (h : Gr M n m (· ≥ ·) is cs) (hc : cs.Nodup) {X : Mat} (hX : Hf X (rest m cs).length (rest m cs).length id)
    (hS : ∀ x, Sp X (rest m cs).length (rest m cs).length x ↔ ∀ k, k < cs.length → mn (is.map M) cs ∣ sm (rest m cs).length (fun t => mn (is.map M) (cs.set k ((rest m cs).getD t 0)) * x t))
    {O : Mat} (hO1 : ∀ i t, i < (rest m cs).length → t < (rest m cs).length → O i ((rest m cs).getD t 0) = X i t)
    (hO2 : ∀ i k, i < (rest m cs).length → k < cs.length → mn (is.map M) cs * O i (cs.getD k 0) = - sm (rest m cs).length (fun t => X i t * mn (is.map M) (cs.set k ((rest m cs).getD t 0)))) :
    Hf O (rest m cs).length m (fun t => (rest m cs).getD t 0) ∧ (∀ i k, i < (rest m cs).length → k < n → dot m (M k) (O i) = 0) ∧ ∀ y, (∀ k, k < n → dot m (M k) y = 0) → Sp O (rest m cs).length m y := by
  have hker : ∀ i k, i < (rest m cs).length → k < n → dot m (M k) (O i) = 0 := fun i k hi hk => h.ker hc (fun l hl => by
    have e : sm (rest m cs).length (fun t => O i ((rest m cs).getD t 0) * mn (is.map M) (cs.set l ((rest m cs).getD t 0))) = sm (rest m cs).length (fun t => X i t * mn (is.map M) (cs.set l ((rest m cs).getD t 0))) := sm_congr fun t ht => by rw [hO1 i t hi ht]
    rw [hO2 i l hi hl, e]; omega) hk
  -- a chosen column behind which all others are 0
  have hzero : ∀ y, (∀ k, k < n → dot m (M k) y = 0) → ∀ c, (∀ t, t < (rest m cs).length → (rest m cs).getD t 0 < c → y ((rest m cs).getD t 0) = 0) → ∀ k, k < cs.length → cs.getD k 0 < c → y (cs.getD k 0) = 0 := by
    intro y hy c hz k hk hkc
    have h1 := ker_col h.len hc h.cols (fun i hi => hy i (h.rows i hi)) hk
    rw [sm_congr (g := fun _ => 0) fun t ht => ?_, sm_zero, Int.add_zero] at h1
    · rcases Int.mul_eq_zero.1 h1 with x | x
      · exact absurd x h.ne
      · exact x
    · by_cases hlt : (rest m cs).getD t 0 < c
      · rw [hz t ht hlt, Int.zero_mul]
      · -- a later column does not depend on this one
        have hr := mem_rest.1 (getD_mem ht)
        obtain ⟨q, hq, hb, E, hE, w, hw⟩ := h.dep _ hr.1
        have hkq : q ≤ k ∨ ∃ l, l < q ∧ l = k := by
          rcases Nat.lt_or_ge k q with x | x
          · exact Or.inr ⟨k, x, rfl⟩
          · exact Or.inl x
        have hkq : q ≤ k := by
          rcases hkq with x | ⟨l, hl, e⟩
          · exact x
          · subst e; have := hb l hl; omega
        have hz' : E * mn (is.map M) (cs.set k ((rest m cs).getD t 0)) = 0 := by
          rw [mn_set _ hk _ (by simpa using h.len), mn_column M _ _ is (by rw [List.length_eraseIdx]; simp [hk]; have := h.len; omega), ← Int.mul_assoc, Int.mul_comm E, Int.mul_assoc, ← alt_mul]
          have e1 : alt (fun i r => E * (M i ((rest m cs).getD t 0) * mn (r.map M) (cs.eraseIdx k))) is = alt (fun i r => sm q (fun l => w l * (M i (cs.getD l 0) * mn (r.map M) (cs.eraseIdx k)))) is :=
            alt_congrP fun i r hp => by
              have := hw i (mem_perm hp h.rows).1
              rw [← Int.mul_assoc, this, Int.mul_comm, ← sm_mul]
              exact sm_congr fun l _ => by grind
          rw [e1, alt_sm, sm_congr (g := fun _ => 0) fun l hl => ?_, sm_zero, Int.mul_zero]
          rw [alt_mul, ← mn_column M (cs.getD l 0) _ is (by rw [List.length_eraseIdx]; simp [hk]; have := h.len; omega)]
          have h2 := mn_set (is.map M) hk (cs.getD l 0) (by simpa using h.len)
          rw [mn_set_dup hk (by omega) (by omega) (by simpa using h.len)] at h2
          have h3 : mn (is.map M) (cs.getD l 0 :: cs.eraseIdx k) = 0 := by
            have := sg_sq k
            have h4 : sg k * (sg k * mn (is.map M) (cs.getD l 0 :: cs.eraseIdx k)) = 0 := by rw [← h2]; simp
            rw [← Int.mul_assoc, this, Int.one_mul] at h4; exact h4
          rw [h3, Int.mul_zero]
        rcases Int.mul_eq_zero.1 hz' with x | x
        · exact absurd x hE
        · rw [x, Int.mul_zero]
  refine ⟨⟨fun t ht => (mem_rest.1 (getD_mem ht)).1, fun i k hik hk => rest_lt hik hk, fun t ht => by rw [hO1 t t ht ht]; exact hX.pos t ht, fun t j ht hj => ?_, fun i t hit ht => by rw [hO1 i t (by omega) ht, hO1 t t ht ht]; exact hX.red i t hit ht⟩, hker, fun y hy => ?_⟩
  · have hjm : j < m := by have := (mem_rest.1 (getD_mem ht)).1; omega
    have hfree : ∀ s, s < (rest m cs).length → (rest m cs).getD s 0 < (rest m cs).getD t 0 → O t ((rest m cs).getD s 0) = 0 := fun s hs hst => by
      rw [hO1 t s ht hs]
      refine hX.left t s ht ?_
      rcases Nat.lt_trichotomy s t with x | x | x
      · exact x
      · subst x; omega
      · have := rest_lt x hs; omega
    by_cases x : j ∈ cs
    · obtain ⟨k, hk, e⟩ := getD_of_mem x
      have := hzero (O t) (fun k hk => hker t k ht hk) _ hfree k hk (by rw [e]; exact hj)
      rwa [e] at this
    · obtain ⟨s, hs, e⟩ := getD_of_mem (mem_rest.2 ⟨hjm, x⟩)
      have := hfree s hs (by rw [e]; exact hj)
      rwa [e] at this
  · -- the elements in the other columns are in the lattice
    have h1 : Sp X (rest m cs).length (rest m cs).length (fun t => y ((rest m cs).getD t 0)) := (hS _).2 fun k hk => by
      have := ker_col h.len hc h.cols (fun i hi => hy i (h.rows i hi)) hk
      rw [sm_congr (g := fun t => y ((rest m cs).getD t 0) * mn (is.map M) (cs.set k ((rest m cs).getD t 0))) fun t _ => Int.mul_comm _ _]
      exact ⟨- y (cs.getD k 0), by rw [Int.mul_neg]; omega⟩
    obtain ⟨c, hc'⟩ := h1
    refine ⟨c, ?_⟩
    -- the difference is orthogonal, and 0 in the other columns
    have hd : ∀ k, k < n → dot m (M k) (fun j => y j - sm (rest m cs).length (fun t => c t * O t j)) = 0 := by
      intro k hk
      have e1 : dot m (M k) (fun j => y j - sm (rest m cs).length (fun t => c t * O t j)) = dot m (M k) y - sm (rest m cs).length (fun t => c t * dot m (M k) (O t)) := by
        unfold dot
        have e2 : sm (rest m cs).length (fun t => c t * sm m (fun j => M k j * O t j)) = sm m (fun j => M k j * sm (rest m cs).length (fun t => c t * O t j)) := by
          rw [sm_congr (g := fun t => sm m (fun j => c t * (M k j * O t j))) fun t _ => (sm_mul m (c t) _).symm, sm_comm]
          exact sm_congr fun j _ => by rw [← sm_mul]; exact sm_congr fun t _ => by grind
        rw [e2, ← sm_sub]; exact sm_congr fun j _ => by rw [Int.mul_sub]
      rw [e1, hy k hk, sm_congr (g := fun _ => 0) fun t ht => by rw [hker t k ht hk, Int.mul_zero], sm_zero]; rfl
    have hf : ∀ s, s < (rest m cs).length → y ((rest m cs).getD s 0) - sm (rest m cs).length (fun t => c t * O t ((rest m cs).getD s 0)) = 0 := fun s hs => by
      have h2 : y ((rest m cs).getD s 0) = sm (rest m cs).length (fun t => c t * X t s) := hc' s hs
      rw [h2, sm_congr (f := fun t => c t * O t ((rest m cs).getD s 0)) (g := fun t => c t * X t s) fun t ht => by rw [hO1 t s ht hs]]; omega
    intro j hj
    have : y j - sm (rest m cs).length (fun t => c t * O t j) = 0 := by
      by_cases x : j ∈ cs
      · obtain ⟨k, hk, e⟩ := getD_of_mem x
        have := hzero _ hd m (fun s hs _ => hf s hs) k hk (by rw [e]; exact hj)
        rwa [e] at this
      · obtain ⟨s, hs, e⟩ := getD_of_mem (mem_rest.2 ⟨hj, x⟩)
        have := hf s hs
        rwa [e] at this
    omega
end Go.Proofs.Ytnbamjoadankmaa.D
/- Plain mathematics (no program): bounds of minors by the sums of the absolute values in the rows. -/
namespace Go.Proofs.Ytnbamjoadankmaa.D
/-- The sum of the absolute values of a row. -/
def rs (m : Nat) (u : Nat → Int) : Nat := match m with
  | 0 => 0
  | m + 1 => rs m u + (u m).natAbs
/-- The product of these sums. -/
def pl (m : Nat) : List (Nat → Int) → Nat
  | [] => 1
  | u :: us => rs m u * pl m us
def sn (l : List Nat) (f : Nat → Nat) : Nat := match l with
  | [] => 0
  | a :: l => f a + sn l f
theorem sn_append (a b : List Nat) (f : Nat → Nat) : sn (a ++ b) f = sn a f + sn b f := by
  induction a with
  | nil => simp [sn]
  | cons x a ih => simp only [List.cons_append, sn]; rw [ih]; omega
theorem sn_perm {a b : List Nat} (h : a.Perm b) (f : Nat → Nat) : sn a f = sn b f := by
  induction h with
  | nil => rfl
  | cons x _ ih => simp only [sn]; rw [ih]
  | swap x y l => simp only [sn]; omega
  | trans _ _ i j => exact i.trans j
theorem sn_range (m : Nat) (u : Nat → Int) : sn (List.range m) (fun j => (u j).natAbs) = rs m u := by
  induction m with
  | zero => rfl
  | succ n ih => rw [List.range_succ, sn_append, ih]; simp [sn, rs]
theorem sn_le {m : Nat} {js : List Nat} (h : js.Nodup) (hm : ∀ j ∈ js, j < m) (u : Nat → Int) : sn js (fun j => (u j).natAbs) ≤ rs m u := by
  rw [← sn_range, sn_perm (rest_perm h hm), sn_append]; omega
theorem sn_mul (l : List Nat) (f : Nat → Nat) (c : Nat) : sn l (fun j => f j * c) = sn l f * c := by
  induction l with
  | nil => simp [sn]
  | cons x l ih => simp only [sn]; rw [ih, Nat.add_mul]
theorem alt_abs {f : Nat → List Nat → Int} {g : Nat → Nat} {js : List Nat} (h : ∀ a r, (a :: r).Perm js → (f a r).natAbs ≤ g a) : (alt f js).natAbs ≤ sn js g := by
  induction js generalizing f with
  | nil => simp [alt]
  | cons j js ih =>
    unfold alt
    have h1 := h j js (List.Perm.refl _)
    have h2 := ih (f := fun a r => f a (j :: r)) fun a r hr => h a (j :: r) ((List.Perm.swap j a r).trans (hr.cons j))
    simp only [sn]; omega
/-- The bound. -/
theorem mn_abs {m : Nat} {us : List (Nat → Int)} {js : List Nat} (h : js.Nodup) (hm : ∀ j ∈ js, j < m) : (mn us js).natAbs ≤ pl m us := by
  induction us generalizing js with
  | nil => simp [mn, pl]
  | cons u us ih =>
    rw [mn_cons]
    have h1 : (alt (fun j r => u j * mn us r) js).natAbs ≤ sn js (fun j => (u j).natAbs * pl m us) := alt_abs fun a r hp => by
      rw [Int.natAbs_mul]
      have hn := List.nodup_cons.1 (hp.nodup_iff.2 h)
      exact Nat.mul_le_mul_left _ (ih hn.2 (mem_perm hp hm).2)
    rw [sn_mul] at h1
    exact Nat.le_trans h1 (Nat.mul_le_mul_right _ (sn_le h hm u))
/-- The product over a list. -/
def pn (l : List Nat) (f : Nat → Nat) : Nat := match l with
  | [] => 1
  | a :: l => f a * pn l f
theorem pn_append (a b : List Nat) (f : Nat → Nat) : pn (a ++ b) f = pn a f * pn b f := by
  induction a with
  | nil => simp [pn]
  | cons x a ih => simp only [List.cons_append, pn]; rw [ih, Nat.mul_assoc]
theorem pn_perm {a b : List Nat} (h : a.Perm b) (f : Nat → Nat) : pn a f = pn b f := by
  induction h with
  | nil => rfl
  | cons x _ ih => simp only [pn]; rw [ih]
  | swap x y l => simp only [pn]; rw [← Nat.mul_assoc, ← Nat.mul_assoc, Nat.mul_comm (f y)]
  | trans _ _ i j => exact i.trans j
theorem pn_pos {l : List Nat} {f : Nat → Nat} (h : ∀ i ∈ l, 0 < f i) : 0 < pn l f := by
  induction l with
  | nil => exact Nat.one_pos
  | cons x l ih => exact Nat.mul_pos (h x (by simp)) (ih fun i hi => h i (by simp [hi]))
/-- The volume of the first n rows. -/
def vol (M : Mat) (m : Nat) : Nat → Nat
  | 0 => 1
  | n + 1 => vol M m n * (if rs m (M n) = 0 then 1 else rs m (M n))
theorem vol_range (M : Mat) (m n : Nat) : vol M m n = pn (List.range n) (fun i => if rs m (M i) = 0 then 1 else rs m (M i)) := by
  induction n with
  | zero => rfl
  | succ n ih => rw [List.range_succ, pn_append, ← ih]; simp [pn, vol]
theorem pl_map (M : Mat) (m : Nat) (is : List Nat) : pl m (is.map M) ≤ pn is (fun i => if rs m (M i) = 0 then 1 else rs m (M i)) := by
  induction is with
  | nil => exact Nat.le_refl _
  | cons i is ih =>
    rw [List.map_cons]; simp only [pl, pn]
    refine Nat.mul_le_mul ?_ ih
    split <;> omega
theorem pn_vol {M : Mat} {m n : Nat} {is : List Nat} (h : is.Nodup) (hn : ∀ i ∈ is, i < n) : pn is (fun i => if rs m (M i) = 0 then 1 else rs m (M i)) ≤ vol M m n := by
  rw [vol_range, pn_perm (rest_perm h hn), pn_append]
  exact Nat.le_mul_of_pos_right _ (pn_pos fun i _ => by split <;> omega)
/-- No minor exceeds the volume. -/
theorem mn_vol {M : Mat} {m n : Nat} {is js : List Nat} (hi : is.Nodup) (hn : ∀ i ∈ is, i < n) (hj : js.Nodup) (hm : ∀ j ∈ js, j < m) : (mn (is.map M) js).natAbs ≤ vol M m n :=
  Nat.le_trans (mn_abs hj hm) (Nat.le_trans (pl_map M m is) (pn_vol hi hn))
theorem vol_pos (M : Mat) (m n : Nat) : 0 < vol M m n := by
  rw [vol_range]; exact pn_pos fun i _ => by split <;> omega
theorem vol_mono (M : Mat) (m n : Nat) : vol M m n ≤ vol M m (n + 1) := by
  simp only [vol]; exact Nat.le_mul_of_pos_right _ (by split <;> omega)
end Go.Proofs.Ytnbamjoadankmaa.D
/- Plain mathematics (no program): ranks, the number of rows of a kernel, and the greatest common divisors as numbers. -/
namespace Go.Proofs.Ytnbamjoadankmaa.D
theorem dv_up {M : Mat} {n m k t : Nat} {d : Int} (h : Dv M n m k d) : Dv M n m (k + t) d := by
  induction t with
  | zero => exact h
  | succ t ih => exact ih.mono
/-- The number of the chosen columns is the rank. -/
theorem Gr.rank {M : Mat} {n m : Nat} {bef : Nat → Nat → Prop} {is cs : List Nat} (h : Gr M n m bef is cs) (k : Nat) : Dv M n m k 0 ↔ cs.length < k := by
  constructor
  · intro x
    refine Classical.not_not.1 fun hk => ?_
    have h1 := dv_up (t := cs.length - k) x is cs (by rw [h.len]; omega) (by omega) h.rows h.cols
    exact h.ne (Int.zero_dvd.1 h1)
  · intro hk
    refine Dv.unscale h.ne ?_
    apply Dv_tr (M := tr fun i j => mn (is.map M) cs * M i j)
    refine Dv.rows (M := fun t => tr M (cs.getD t 0)) (n := cs.length) (Dv.many hk 0) fun j hj => ?_
    refine ⟨fun t => mn (is.map M) (cs.set t j), fun i hi => ?_⟩
    show mn (is.map M) cs * M i j = _
    rw [Int.mul_comm, h.cramer (Sp.unit hi) hj]
    exact sm_congr fun t _ => Int.mul_comm _ _
/-- Columns can be chosen. -/
theorem Gd.exists_from (M : Mat) (n : Nat) (bef : Nat → Nat → Prop) (hr : ∀ j, bef j j) (l : List Nat) : ∀ done is cs, Gd M n bef done is cs → (∀ c ∈ cs, ∀ j ∈ l, bef c j) → l.Pairwise bef → ∃ is' cs', Gd M n bef (done ++ l) is' cs' := by
  induction l with
  | nil => intro done is cs h _ _; exact ⟨is, cs, by simpa using h⟩
  | cons j l ih =>
    intro done is cs h hb hp
    have hp' := List.pairwise_cons.1 hp
    have e : done ++ j :: l = (done ++ [j]) ++ l := by simp
    rw [e]
    by_cases x : ∃ i, i < n ∧ mn ((is ++ [i]).map M) (cs ++ [j]) ≠ 0
    · obtain ⟨i, hi, hm⟩ := x
      refine ih _ _ _ (h.add hi hm (fun c hc => hb c hc j (by simp)) (hr j)) (fun c hc k hk => ?_) hp'.2
      rcases List.mem_append.1 hc with y | y
      · exact hb c y k (by simp [hk])
      · rw [List.mem_singleton.1 y]; exact hp'.1 k hk
    · exact ih _ _ _ (h.skip (fun i hi => Classical.not_not.1 fun y => x ⟨i, hi, y⟩) fun c hc => hb c hc j (by simp)) (fun c hc k hk => hb c hc k (by simp [hk])) hp'.2
theorem Gr.nodup {M : Mat} {n m : Nat} {bef : Nat → Nat → Prop} {is cs : List Nat} (h : Gr M n m bef is cs) : cs.Nodup :=
  Classical.not_not.1 fun x => h.ne (mn_cols_dup x _ (by simpa using h.len))
theorem Gr.exists_le (M : Mat) (n m : Nat) : ∃ is cs, Gr M n m (· ≤ ·) is cs := by
  obtain ⟨is, cs, h⟩ := Gd.exists_from M n (· ≤ ·) (fun j => Nat.le_refl j) (List.range m) [] [] [] (Gd.nil M n _) (by simp) (List.pairwise_lt_range.imp fun h => Nat.le_of_lt h)
  exact ⟨is, cs, h.gr fun j => by simp⟩
/-- The kernel has as many rows as the rank leaves. -/
theorem ker_count {M K : Mat} {n m b : Nat} {p : Nat → Nat} (hK : Hf K b m p) (h1 : ∀ i k, i < b → k < n → dot m (M k) (K i) = 0) (h2 : ∀ y, (∀ k, k < n → dot m (M k) y = 0) → Sp K b m y) {r : Nat} (hr : ∀ k, Dv M n m k 0 ↔ r < k) : r ≤ m ∧ b = m - r := by
  obtain ⟨is, cs, h⟩ := Gr.exists_le M n m
  have hc := h.nodup
  have hl := rest_length hc h.cols
  have hrc : r = cs.length := by
    have a := hr (cs.length); have b := hr (cs.length + 1)
    rw [h.rank] at a b
    have : ¬ cs.length < cs.length := Nat.lt_irrefl _
    have : r < cs.length + 1 := b.1 (by omega)
    have : ¬ r < cs.length := fun x => Nat.lt_irrefl _ (a.2 x)
    omega
  refine ⟨by omega, ?_⟩
  have hb1 : b ≤ m - r := by
    refine Classical.not_not.1 fun x => ?_
    have hn : ¬ Dv M n m r 0 := fun y => Nat.lt_irrefl _ ((hr r).1 y)
    have := orth (A := K) (K := M) (a := b) (b := n) (s := r) (fun i k hi hk => h1 i k hi hk) hn (k := b) (by omega)
    have h3 := (hK.rank (M := K) (n := b) (fun i hi => Sp.unit hi) (fun i hi => Sp.unit hi) b).1 this
    omega
  have hb2 : m - r ≤ b := by
    refine Classical.not_not.1 fun x => ?_
    -- a row of the kernel for each column that was not chosen
    have hv : ∀ t, t < (rest m cs).length → ∃ y : Nat → Int, (∀ k, k < n → dot m (M k) y = 0) ∧ ∀ s, s < (rest m cs).length → y ((rest m cs).getD s 0) = if s = t then mn (is.map M) cs else 0 := by
      intro t ht
      obtain ⟨y, hy⟩ : ∃ y : Nat → Int, (∀ s, s < (rest m cs).length → y ((rest m cs).getD s 0) = if s = t then mn (is.map M) cs else 0) ∧ ∀ k, k < cs.length → y (cs.getD k 0) = - mn (is.map M) (cs.set k ((rest m cs).getD t 0)) := by
        refine ⟨fun j => if j ∈ cs then - mn (is.map M) (cs.set (cs.idxOf j) ((rest m cs).getD t 0)) else if j = (rest m cs).getD t 0 then mn (is.map M) cs else 0, fun s hs => ?_, fun k hk => ?_⟩
        · have := (mem_rest.1 (getD_mem hs)).2
          simp only [if_neg this]
          by_cases e : s = t
          · subst e; simp
          · have hne : ¬ (rest m cs).getD s 0 = (rest m cs).getD t 0 := fun y => e (getD_inj ((rest_rising m cs).imp fun hab => Nat.ne_of_lt hab) hs ht y)
            rw [if_neg e, if_neg hne]
        · have hm := getD_mem hk
          simp only [if_pos hm]
          have hi : cs.idxOf (cs.getD k 0) < cs.length := List.idxOf_lt_length_iff.2 hm
          have e : cs.idxOf (cs.getD k 0) = k := getD_inj hc hi hk (by rw [getD_at hi]; exact List.getElem_idxOf hi)
          rw [e]
      refine ⟨y, fun k hk => h.ker hc (fun l hl => ?_) hk, hy.1⟩
      rw [hy.2 l hl]
      have e : sm (rest m cs).length (fun s => y ((rest m cs).getD s 0) * mn (is.map M) (cs.set l ((rest m cs).getD s 0))) = sm (rest m cs).length (fun s => (if s = t then 1 else 0) * (mn (is.map M) cs * mn (is.map M) (cs.set l ((rest m cs).getD s 0)))) := sm_congr fun s hs => by
        rw [hy.1 s hs]
        by_cases z : s = t
        · rw [if_pos z, if_pos z, Int.one_mul]
        · rw [if_neg z, if_neg z]; simp
      rw [e, sm_unit ht fun s => mn (is.map M) cs * mn (is.map M) (cs.set l ((rest m cs).getD s 0))]
      grind
    obtain ⟨Y, hY⟩ : ∃ Y : Mat, ∀ t, t < (rest m cs).length → (∀ k, k < n → dot m (M k) (Y t) = 0) ∧ ∀ s, s < (rest m cs).length → Y t ((rest m cs).getD s 0) = if s = t then mn (is.map M) cs else 0 :=
      ⟨fun t => if ht : t < (rest m cs).length then Classical.choose (hv t ht) else fun _ => 0, fun t ht => by
        simp only [dif_pos ht]; exact Classical.choose_spec (hv t ht)⟩
    have hz : Dv Y (rest m cs).length m (rest m cs).length 0 := Dv.rows (M := K) (n := b) (Dv.many (by omega) 0) fun t ht => h2 _ (hY t ht).1
    have h3 := hz (List.range (rest m cs).length) (rest m cs) (by simp) rfl (by simp) (fun j hj => (mem_rest.1 hj).1)
    -- the minor in these columns is a power
    have h4 : mn ((List.range (rest m cs).length).map Y) (rest m cs) = mn ((List.range (rest m cs).length).map fun i k => mn (is.map M) cs * (if k = i then 1 else 0)) (List.range (rest m cs).length) := by
      have g : ∀ l ks : List Nat, (∀ i ∈ l, i < (rest m cs).length) → (∀ k ∈ ks, k < (rest m cs).length) → mn (l.map Y) (ks.map fun k => (rest m cs).getD k 0) = mn (l.map fun i k => mn (is.map M) cs * (if k = i then 1 else 0)) ks := by
        intro l
        induction l with
        | nil => intro ks _ _; rfl
        | cons i l ih =>
          intro ks hi hk
          rw [List.map_cons, List.map_cons, mn_cons, mn_cons, alt_map]
          refine alt_congrP fun a r hp => ?_
          have := mem_perm hp hk
          rw [ih r (fun x hx => hi x (by simp [hx])) this.2, (hY i (hi i (by simp))).2 a this.1]
          by_cases z : a = i
          · rw [if_pos z, if_pos z, Int.mul_one]
          · rw [if_neg z, if_neg z, Int.mul_zero]
      have := g (List.range (rest m cs).length) (List.range (rest m cs).length) (by simp) (by simp)
      rw [range_map] at this; exact this
    rw [h4, mn_scale] at h3
    have hid : Hf (fun i k => if k = i then (1 : Int) else 0) (rest m cs).length (rest m cs).length id := ⟨fun k hk => hk, fun i k hi _ => hi, fun k _ => by simp, fun k j _ hj => if_neg (by simp only [id] at hj; omega), fun i k hi _ => by simp only [id]; rw [if_neg (by omega)]; simp⟩
    have h5 := hid.minor
    have e5 : (List.range (rest m cs).length).map id = List.range (rest m cs).length := List.map_id _
    rw [e5] at h5
    rw [h5] at h3
    rcases Int.mul_eq_zero.1 (Int.zero_dvd.1 h3) with z | z
    · exact absurd z (Int.pow_ne_zero h.ne)
    · have := pr_pos (s := fun k => if (id k) = k then (1 : Int) else 0) (k := (rest m cs).length) fun t _ => by simp
      omega
  omega
/-- Numbers with the same divisors. -/
theorem same_dvd {a b : Int} (h : ∀ d, d ∣ a ↔ d ∣ b) : a.natAbs = b.natAbs :=
  Nat.dvd_antisymm (Int.natAbs_dvd_natAbs.2 ((h a).1 (Int.dvd_refl a))) (Int.natAbs_dvd_natAbs.2 ((h b).2 (Int.dvd_refl b)))
/-- What the greatest common divisors of the minors do. -/
theorem gcds {M : Mat} {n m : Nat} {g : Nat → Nat} (h : ∀ k d, Dv M n m k d ↔ d ∣ (g k : Int)) (k : Nat) : g k ∣ g (k + 1) ∧ g (k + 1) * g (k + 1) ∣ g k * g (k + 2) ∧ g 0 = 1 := by
  obtain ⟨s, h1, h2⟩ := smith n m M
  have e : ∀ k, g k = (pr s k).natAbs := fun k => by
    have := same_dvd (a := (g k : Int)) (b := pr s k) fun d => (h k d).symm.trans (h2 k d)
    simpa using this
  refine ⟨?_, ?_, ?_⟩
  · rw [e, e]; exact Int.natAbs_dvd_natAbs.2 (pr_dvd s k)
  · rw [e, e, e, ← Int.natAbs_mul, ← Int.natAbs_mul]; exact Int.natAbs_dvd_natAbs.2 (pr_square h1 k)
  · rw [e]; rfl
end Go.Proofs.Ytnbamjoadankmaa.D
/- Plain mathematics (no program): a lattice of full rank has a triangular basis; a box of representatives; lattices with at least as many representatives. -/
namespace Go.Proofs.Ytnbamjoadankmaa.D
/-- A triangular basis. -/
structure Tb (b : Nat) (L : (Nat → Int) → Prop) (h : Mat) : Prop where
  up : ∀ i j, i < b → j < i → h i j = 0
  pos : ∀ i, i < b → 0 < h i i
  mem : ∀ i, i < b → L (h i)
  all : ∀ v, L v → Sp h b b v
theorem Tb.exists {b : Nat} {L : (Nat → Int) → Prop} (hL : Sub b L) {N : Int} (hN : N ≠ 0) (hm : ∀ j, j < b → L (unitV N j)) : ∃ h, Tb b L h := by
  have h1 : ∀ i, i < b → ∃ u : Nat → Int, L u ∧ (∀ j, j < i → u j = 0) ∧ 0 < u i ∧ ∀ v, L v → (∀ j, j < i → v j = 0) → u i ∣ v i := by
    intro i hi
    obtain ⟨g, ⟨u, hu, hu0, hg⟩, hd⟩ := ideal (I := fun x => ∃ v, L v ∧ (∀ j, j < i → v j = 0) ∧ v i = x) ⟨_, hL.zero, fun _ _ => rfl, rfl⟩
      (fun x y ⟨u, hu, hu0, e⟩ ⟨v, hv, hv0, f⟩ => ⟨_, hL.add _ _ hu hv, fun j hj => by show u j + v j = 0; rw [hu0 j hj, hv0 j hj]; rfl, by show u i + v i = _; rw [e, f]⟩)
      (fun c x ⟨u, hu, hu0, e⟩ => ⟨_, hL.mul c _ hu, fun j hj => by show c * u j = 0; rw [hu0 j hj, Int.mul_zero], by show c * u i = _; rw [e]⟩)
    have hgN : g ∣ N := hd N ⟨_, hm i hi, fun j hj => by simp [unitV]; omega, by simp [unitV]⟩
    have hg0 : g ≠ 0 := fun e => hN (by rw [e] at hgN; exact Int.zero_dvd.1 hgN)
    rcases Int.lt_trichotomy g 0 with x | x | x
    · refine ⟨_, hL.mul (-1) _ hu, fun j hj => by show -1 * u j = 0; rw [hu0 j hj]; rfl, by show 0 < -1 * u i; omega, fun v hv hv0 => ?_⟩
      have := hd (v i) ⟨v, hv, hv0, rfl⟩
      show -1 * u i ∣ v i
      rw [hg]; rw [show -1 * g = -g by omega]; exact Int.neg_dvd.2 this
    · exact absurd x hg0
    · exact ⟨u, hu, hu0, by omega, fun v hv hv0 => by rw [hg]; exact hd (v i) ⟨v, hv, hv0, rfl⟩⟩
  obtain ⟨h, hh⟩ : ∃ h : Mat, ∀ i, i < b → L (h i) ∧ (∀ j, j < i → h i j = 0) ∧ 0 < h i i ∧ ∀ v, L v → (∀ j, j < i → v j = 0) → h i i ∣ v i :=
    ⟨fun i => if hi : i < b then Classical.choose (h1 i hi) else fun _ => 0, fun i hi => by simp only [dif_pos hi]; exact Classical.choose_spec (h1 i hi)⟩
  refine ⟨h, fun i j hi hj => (hh i hi).2.1 j hj, fun i hi => (hh i hi).2.2.1, fun i hi => (hh i hi).1, ?_⟩
  suffices hs : ∀ t, t ≤ b → ∀ v, L v → (∀ j, j < b - t → v j = 0) → Sp h b b v from fun v hv => hs b (Nat.le_refl _) v hv fun j hj => by omega
  intro t
  induction t with
  | zero => intro _ v _ h0; exact Sp.zero.congr fun j hj => h0 j (by omega)
  | succ t ih =>
    intro ht v hv h0
    obtain ⟨c, hc⟩ := (hh (b - (t + 1)) (by omega)).2.2.2 v hv h0
    have h2 := ih (by omega) _ (hL.add _ _ hv (hL.mul (-c) _ (hh (b - (t + 1)) (by omega)).1)) fun j hj => by
      rcases Nat.lt_or_ge j (b - (t + 1)) with x | x
      · show v j + -c * h (b - (t + 1)) j = 0
        rw [h0 j x, (hh (b - (t + 1)) (by omega)).2.1 j x]; simp
      · have e : j = b - (t + 1) := by omega
        show v j + -c * h (b - (t + 1)) j = 0
        rw [e, hc]; grind
    exact (h2.add ((Sp.unit (M := h) (n := b) (m := b) (p := b - (t + 1)) (by omega)).mul c)).congr fun j _ => by grind
/-- The rows from 0 to less than the elements of the diagonal. -/
def box (h : Mat) : Nat → List (Nat → Int)
  | 0 => [fun _ => 0]
  | k + 1 => (box h k).flatMap fun z => (List.range (h k k).toNat).map fun (a : Nat) (j : Nat) => if j = k then (a : Int) else z j
def size (h : Mat) : Nat → Nat
  | 0 => 1
  | k + 1 => size h k * (h k k).toNat
theorem box_length (h : Mat) (k : Nat) : (box h k).length = size h k := by
  induction k with
  | zero => rfl
  | succ k ih =>
    simp only [box, size]
    rw [← ih]
    induction box h k with
    | nil => simp
    | cons z l ihl => rw [List.flatMap_cons, List.length_append, ihl, List.length_map, List.length_range, List.length_cons, Nat.succ_mul, Nat.add_comm]
theorem mem_box {h : Mat} {k : Nat} (hp : ∀ i, i < k → 0 < h i i) {z : Nat → Int} : z ∈ box h k ↔ (∀ i, i < k → 0 ≤ z i ∧ z i < h i i) ∧ ∀ i, k ≤ i → z i = 0 := by
  induction k generalizing z with
  | zero =>
    simp only [box, List.mem_singleton]
    constructor
    · rintro rfl; exact ⟨fun i hi => by omega, fun _ _ => rfl⟩
    · rintro ⟨_, h0⟩; exact funext fun i => h0 i (by omega)
  | succ k ih =>
    simp only [box, List.mem_flatMap, List.mem_map, List.mem_range]
    constructor
    · rintro ⟨y, hy, a, ha, rfl⟩
      have := (ih fun i hi => hp i (by omega)).1 hy
      refine ⟨fun i hi => ?_, fun i hi => ?_⟩
      · by_cases x : i = k
        · subst x; simp only [if_true]; omega
        · simp only [if_neg x]; exact this.1 i (by omega)
      · simp only [if_neg (show ¬ i = k by omega)]; exact this.2 i (by omega)
    · rintro ⟨h1, h2⟩
      refine ⟨fun j => if j < k then z j else 0, (ih fun i hi => hp i (by omega)).2 ⟨fun i hi => ?_, fun i hi => ?_⟩, (z k).toNat, ?_, ?_⟩
      · rw [if_pos hi]; exact h1 i (by omega)
      · rw [if_neg (by omega)]
      · have := h1 k (by omega); omega
      · funext j
        by_cases x : j = k
        · subst x; simp only [if_true]; have := h1 j (by omega); omega
        · simp only [if_neg x]
          by_cases y : j < k
          · simp only [if_pos y]
          · simp only [if_neg y]; rw [h2 j (by omega)]
theorem box_nodup {h : Mat} {k : Nat} (hp : ∀ i, i < k → 0 < h i i) : (box h k).Nodup := by
  induction k with
  | zero => simp [box]
  | succ k ih =>
    have hb : ∀ z ∈ box h k, z k = 0 := fun z hz => ((mem_box fun i hi => hp i (by omega)).1 hz).2 k (Nat.le_refl _)
    simp only [box]
    refine List.pairwise_flatMap.2 ⟨fun z _ => ?_, ?_⟩
    · refine List.pairwise_map.2 (List.nodup_range.imp fun {a c} hab e => hab ?_)
      have := congrFun e k; simp at this; omega
    · refine (ih fun i hi => hp i (by omega)).imp_of_mem fun {y z} hy hz hne => ?_
      intro u hu v hv e
      obtain ⟨a, _, rfl⟩ := List.mem_map.1 hu
      obtain ⟨c, _, rfl⟩ := List.mem_map.1 hv
      refine hne (funext fun j => ?_)
      by_cases x : j = k
      · rw [x, hb y hy, hb z hz]
      · have := congrFun e j; simpa [x] using this
/-- Each row has a representative in the box. -/
theorem Tb.rep {b : Nat} {L : (Nat → Int) → Prop} {h : Mat} (hL : Sub b L) (t : Tb b L h) (z : Nat → Int) : ∃ y, y ∈ box h b ∧ L (fun j => z j - y j) := by
  suffices hs : ∀ k, k ≤ b → ∃ y : Nat → Int, (∀ i, i < k → 0 ≤ y i ∧ y i < h i i) ∧ L (fun j => z j - y j) by
    obtain ⟨y, h1, h2⟩ := hs b (Nat.le_refl _)
    refine ⟨fun j => if j < b then y j else 0, (mem_box t.pos).2 ⟨fun i hi => by rw [if_pos hi]; exact h1 i hi, fun i hi => if_neg (by omega)⟩, hL.congr _ _ (fun j hj => ?_) h2⟩
    simp only [if_pos hj]
  intro k
  induction k with
  | zero => intro _; exact ⟨z, fun i hi => by omega, hL.congr _ _ (fun j _ => by omega) hL.zero⟩
  | succ k ih =>
    intro hk
    obtain ⟨y, h1, h2⟩ := ih (by omega)
    have hp := t.pos k (by omega)
    refine ⟨fun j => y j - y k / h k k * h k j, fun i hi => ?_, hL.congr _ _ (fun j _ => by grind) (hL.add _ _ h2 (hL.mul (y k / h k k) _ (t.mem k (by omega))))⟩
    rcases Nat.lt_or_eq_of_le (Nat.le_of_lt_succ hi) with x | x
    · have : y i - y k / h k k * h k i = y i := by rw [t.up k i (by omega) x]; simp
      show 0 ≤ y i - _ ∧ y i - _ < _
      rw [this]; exact h1 i x
    · subst x
      have e : y i - y i / h i i * h i i = y i % h i i := by have := Int.emod_add_mul_ediv (y i) (h i i); grind
      show 0 ≤ y i - _ ∧ y i - _ < _
      rw [e]
      exact ⟨Int.emod_nonneg _ (by omega), Int.emod_lt_of_pos _ hp⟩
/-- Two rows of the box that differ by a row of the lattice are equal. -/
theorem Tb.inj {b : Nat} {L : (Nat → Int) → Prop} {h : Mat} (t : Tb b L h) {y z : Nat → Int} (hy : y ∈ box h b) (hz : z ∈ box h b) (e : L (fun j => y j - z j)) : y = z := by
  obtain ⟨y1, y2⟩ := (mem_box t.pos).1 hy
  obtain ⟨z1, z2⟩ := (mem_box t.pos).1 hz
  obtain ⟨c, hc⟩ := t.all _ e
  have key : ∀ k, k < b → c k = 0 := by
    intro k
    induction k using Nat.strongRecOn with
    | ind k ih =>
      intro hk
      have h1 : y k - z k = sm b (fun t => c t * h t k) := hc k hk
      have e : sm b (fun s => c s * h s k) = sm b (fun s => (if s = k then 1 else 0) * (c k * h k k)) := by
        refine sm_congr fun s hs => ?_
        rcases Nat.lt_trichotomy s k with x | x | x
        · rw [ih s x hs, if_neg (by omega)]; simp
        · subst x; rw [if_pos rfl, Int.one_mul]
        · rw [t.up s k hs x, if_neg (by omega)]; simp
      rw [e, sm_unit hk fun _ => c k * h k k] at h1
      have a1 := y1 k hk; have a2 := z1 k hk
      refine Classical.not_not.1 fun x => ?_
      have h2 : h k k ∣ y k - z k := ⟨c k, by rw [h1, Int.mul_comm]⟩
      have h3 : y k - z k ≠ 0 := fun w => by
        rw [w] at h1
        rcases Int.mul_eq_zero.1 h1.symm with q | q
        · exact x q
        · omega
      have := abs_le h2 h3
      omega
  funext j
  by_cases hj : j < b
  · have h1 : y j - z j = sm b (fun t => c t * h t j) := hc j hj
    rw [sm_congr (g := fun _ => 0) fun s hs => by rw [key s hs, Int.zero_mul], sm_zero] at h1
    omega
  · rw [y2 j (by omega), z2 j (by omega)]
/-- A map of rows that sees the one lattice in the other: no more representatives. -/
theorem Tb.le {a b : Nat} {L L' : (Nat → Int) → Prop} {h h' : Mat} (hL' : Sub b L') (t : Tb a L h) (t' : Tb b L' h') (f : (Nat → Int) → Nat → Int) (hf : ∀ y z, L' (fun j => f y j - f z j) → L (fun j => y j - z j)) : size h a ≤ size h' b := by
  rw [← box_length, ← box_length]
  have hc : ∀ z : Nat → Int, ∃ y, y ∈ box h' b ∧ L' (fun j => f z j - y j) := fun z => t'.rep hL' (f z)
  obtain ⟨g, hg⟩ : ∃ g : (Nat → Int) → Nat → Int, ∀ z, g z ∈ box h' b ∧ L' (fun j => f z j - g z j) := ⟨fun z => Classical.choose (hc z), fun z => Classical.choose_spec (hc z)⟩
  have hn : ((box h a).map g).Nodup := by
    refine List.pairwise_map.2 ((box_nodup t.pos).imp_of_mem fun {y z} hy hz hne e => hne ?_)
    refine t.inj hy hz (hf y z ?_)
    have h1 := (hg y).2; have h2 := (hg z).2
    rw [← e] at h2
    exact hL'.congr _ _ (fun j _ => by omega) (hL'.add _ _ h1 (hL'.mul (-1) _ h2))
  have := List.Nodup.length_le_of_subset hn (l₂ := box h' b) fun y hy => by
    obtain ⟨z, _, rfl⟩ := List.mem_map.1 hy
    exact (hg z).1
  simpa using this
end Go.Proofs.Ytnbamjoadankmaa.D
/- Plain mathematics (no program): no greatest minor of a basis of a kernel exceeds the minor of the matrix in the other columns. -/
namespace Go.Proofs.Ytnbamjoadankmaa.D
theorem full_list {r : Nat} {l : List Nat} (hl : l.length = r) (hp : l.Pairwise (· < ·)) (hb : ∀ i ∈ l, i < r) : l = List.range r := by
  have hnd : l.Nodup := hp.imp fun {a b} hab => Nat.ne_of_lt hab
  have hperm : l.Perm (List.range r) := by
    refine (List.perm_ext_iff_of_nodup hnd List.nodup_range).2 fun a => ⟨fun x => List.mem_range.2 (hb a x), fun x => ?_⟩
    refine Classical.not_not.1 fun y => ?_
    have := List.Nodup.length_le_of_subset (List.nodup_cons.2 ⟨y, hnd⟩) (l₂ := List.range r) (by
      intro z hz; rcases List.mem_cons.1 hz with rfl | hz
      · exact x
      · exact List.mem_range.2 (hb z hz))
    simp at this; omega
  exact hperm.eq_of_pairwise (fun a b _ _ h1 h2 => by omega) hp List.pairwise_lt_range
/-- The greatest minors of a square matrix. -/
theorem full_dvd (A : Mat) (b : Nat) (d : Int) : Dv A b b b d ↔ d ∣ mn ((List.range b).map A) (List.range b) := by
  constructor
  · intro h; exact h _ _ (by simp) (by simp) (by simp) (by simp)
  · intro h
    exact Dv.rising fun is js hi hj hri hrj hn hm => by rw [full_list hi hri hn, full_list hj hrj hm]; exact h
/-- The minor of a triangular matrix. -/
theorem tri_minor {h : Mat} {r : Nat} (hu : ∀ i j, i < r → j < i → h i j = 0) : mn ((List.range r).map h) (List.range r) = pr (fun k => h k k) r := by
  suffices hs : ∀ n a, a + n = r → mn ((List.range' a n).map h) (List.range' a n) * pr (fun k => h k k) a = pr (fun k => h k k) r by
    have := hs r 0 (by omega)
    rw [List.range_eq_range']; simpa [pr] using this
  intro n
  induction n with
  | zero => intro a ha; simp [mn]; congr 1
  | succ n ih =>
    intro a ha
    have hi := ih (a + 1) (by omega)
    rw [List.range'_succ, List.map_cons, mn_cons]
    unfold alt
    rw [alt_zero' (fun b s hp => ?_), ← hi, pr]
    · grind
    · have hl := hp.length_eq
      rw [mn_zeroCol s ?_ (by simp at hl ⊢; omega), Int.mul_zero]
      intro v hv
      obtain ⟨t, ht, rfl⟩ := List.mem_map.1 hv
      have := List.mem_range'_1.1 ht
      exact hu t a (by omega) (by omega)
theorem size_pr {h : Mat} {b : Nat} (hp : ∀ i, i < b → 0 < h i i) : (pr (fun k => h k k) b).natAbs = size h b := by
  induction b with
  | zero => rfl
  | succ b ih =>
    have := hp b (by omega)
    simp only [pr, size]
    rw [Int.natAbs_mul, ih fun i hi => hp i (by omega)]
    congr 1; omega
/-- The minor of a square matrix is the number of the representatives. -/
theorem Tb.det {b : Nat} {A h : Mat} (t : Tb b (Sp A b b) h) : (mn ((List.range b).map A) (List.range b)).natAbs = size h b := by
  rw [← size_pr t.pos, ← tri_minor t.up]
  refine same_dvd fun d => ?_
  rw [← full_dvd, ← full_dvd]
  exact ⟨fun x => x.rows t.mem, fun x => x.rows fun i hi => t.all _ (Sp.unit hi)⟩
theorem rest_rest {m : Nat} {S : List Nat} (hp : S.Pairwise (· < ·)) (hm : ∀ j ∈ S, j < m) : rest m (rest m S) = S := by
  have h1 : (rest m (rest m S)).Pairwise (· < ·) := rest_rising m _
  have hperm : (rest m (rest m S)).Perm S := by
    refine (List.perm_ext_iff_of_nodup (h1.imp fun {a b} hab => Nat.ne_of_lt hab) (hp.imp fun {a b} hab => Nat.ne_of_lt hab)).2 fun a => ?_
    rw [mem_rest, mem_rest]
    constructor
    · rintro ⟨x, y⟩; exact Classical.not_not.1 fun z => y ⟨x, z⟩
    · intro x; exact ⟨hm a x, fun y => y.2 x⟩
  exact hperm.eq_of_pairwise (fun a b _ _ h1 h2 => by omega) h1 hp
/-- The columns with a minor other than 0 of the greatest size are independent, and all others follow from them. -/
theorem gr_of {M : Mat} {n m : Nat} {is cs : List Nat} (hl : is.length = cs.length) (hn : ∀ i ∈ is, i < n) (hm : ∀ j ∈ cs, j < m) (h0 : mn (is.map M) cs ≠ 0) (hz : Dv M n m (cs.length + 1) 0) : Gr M n m (fun _ _ => True) is cs where
  len := hl
  rows := hn
  cols := hm
  ne := h0
  dep j hj := by
    refine ⟨cs.length, Nat.le_refl _, fun _ _ => trivial, mn (is.map M) cs, h0, fun k => mn (is.map M) (cs.set k j), fun i hi => ?_⟩
    have c := cramer (M i) (is.map M) j cs (by simpa using hl)
    have z := hz (i :: is) (j :: cs) (by simp [hl]) (by simp) (by
      intro x hx; rcases List.mem_cons.1 hx with rfl | hx
      · exact hi
      · exact hn x hx) (by
      intro x hx; rcases List.mem_cons.1 hx with rfl | hx
      · exact hj
      · exact hm x hx)
    rw [List.map_cons] at z
    rw [Int.zero_dvd.1 z, Int.add_zero] at c
    rw [Int.mul_comm]; exact c
/-- A row of the kernel for each column that was not chosen. -/
theorem Gr.ker_unit {M : Mat} {n m : Nat} {bef : Nat → Nat → Prop} {is cs : List Nat} (h : Gr M n m bef is cs) (z : Nat → Int) : ∃ y : Nat → Int, (∀ k, k < n → dot m (M k) y = 0) ∧ ∀ s, s < (rest m cs).length → y ((rest m cs).getD s 0) = mn (is.map M) cs * z s := by
  have hc := h.nodup
  obtain ⟨y, hy1, hy2⟩ : ∃ y : Nat → Int, (∀ s, s < (rest m cs).length → y ((rest m cs).getD s 0) = mn (is.map M) cs * z s) ∧ ∀ k, k < cs.length → y (cs.getD k 0) = - sm (rest m cs).length (fun t => z t * mn (is.map M) (cs.set k ((rest m cs).getD t 0))) := by
    refine ⟨fun j => if j ∈ cs then - sm (rest m cs).length (fun t => z t * mn (is.map M) (cs.set (cs.idxOf j) ((rest m cs).getD t 0))) else mn (is.map M) cs * z ((rest m cs).idxOf j), fun s hs => ?_, fun k hk => ?_⟩
    · have hms := getD_mem hs
      have hn := (mem_rest.1 hms).2
      simp only [if_neg hn]
      have hi : (rest m cs).idxOf ((rest m cs).getD s 0) < (rest m cs).length := List.idxOf_lt_length_iff.2 hms
      have e : (rest m cs).idxOf ((rest m cs).getD s 0) = s := getD_inj ((rest_rising m cs).imp fun hab => Nat.ne_of_lt hab) hi hs (by rw [getD_at hi]; exact List.getElem_idxOf hi)
      rw [e]
    · have hmk := getD_mem hk
      simp only [if_pos hmk]
      have hi : cs.idxOf (cs.getD k 0) < cs.length := List.idxOf_lt_length_iff.2 hmk
      have e : cs.idxOf (cs.getD k 0) = k := getD_inj hc hi hk (by rw [getD_at hi]; exact List.getElem_idxOf hi)
      rw [e]
  refine ⟨y, fun k hk => h.ker hc (fun l hl => ?_) hk, hy1⟩
  rw [hy2 l hl]
  have e : sm (rest m cs).length (fun t => y ((rest m cs).getD t 0) * mn (is.map M) (cs.set l ((rest m cs).getD t 0))) = mn (is.map M) cs * sm (rest m cs).length (fun t => z t * mn (is.map M) (cs.set l ((rest m cs).getD t 0))) := by
    rw [← sm_mul]; exact sm_congr fun t ht => by rw [hy1 t ht, Int.mul_assoc]
  rw [e]; grind
/-- The bound. -/
theorem ker_minor {M K : Mat} {n m b : Nat} {is cs S : List Nat} (hl : is.length = cs.length) (hn : ∀ i ∈ is, i < n) (hm : ∀ j ∈ cs, j < m) (h0 : mn (is.map M) cs ≠ 0) (hz : Dv M n m (cs.length + 1) 0)
    (h1 : ∀ i k, i < b → k < n → dot m (M k) (K i) = 0) (h2 : ∀ y, (∀ k, k < n → dot m (M k) y = 0) → Sp K b m y)
    (hS : S.Pairwise (· < ·)) (hSm : ∀ j ∈ S, j < m) (hb : S.length = b) (hbm : b + cs.length = m) : (mn ((List.range b).map K) S).natAbs ≤ (mn (is.map M) (rest m S)).natAbs := by
  have hSn : S.Nodup := hS.imp fun {a b} hab => Nat.ne_of_lt hab
  have hTl := rest_length hSn hSm
  have hT : (rest m S).length = cs.length := by omega
  have hTm : ∀ j ∈ rest m S, j < m := fun j hj => (mem_rest.1 hj).1
  have hTn : (rest m S).Nodup := (rest_rising m S).imp fun {a b} hab => Nat.ne_of_lt hab
  by_cases hD : mn (is.map M) (rest m S) = 0
  · -- both are 0
    suffices hs : mn ((List.range b).map K) S = 0 by rw [hs]; simp
    refine Classical.not_not.1 fun hk => h0 ?_
    have hA : Dv (fun i => M (is.getD i 0)) cs.length m cs.length 0 := by
      refine Dv.unscale hk ?_
      apply Dv_tr (M := tr fun i j => mn ((List.range b).map K) S * M (is.getD i 0) j)
      refine Dv.rows (M := fun t i => M (is.getD i 0) ((rest m S).getD t 0)) (n := cs.length) ?_ fun j hj => ?_
      · rw [full_dvd]
        have e := mn_tr (fun t i => M (is.getD i 0) ((rest m S).getD t 0)) (List.range cs.length) (List.range cs.length) rfl
        rw [e]
        have e2 := at_map (fun i => M (is.getD i 0)) (rest m S) (List.range cs.length) (List.range cs.length)
        have e3 : (List.range cs.length).map (fun k => (rest m S).getD k 0) = rest m S := by rw [← hT]; exact range_map _
        have e4 : (List.range cs.length).map (fun i => M (is.getD i 0)) = is.map M := by
          rw [← hl]
          have := congrArg (List.map M) (range_map is)
          rwa [List.map_map] at this
        rw [e3, e4, hD] at e2
        have e5 : tr (fun t i => M (is.getD i 0) ((rest m S).getD t 0)) = at' (fun i => M (is.getD i 0)) (rest m S) := rfl
        rw [e5, e2]; exact Int.dvd_refl _
      · -- each column follows from those of the rest
        by_cases x : j ∈ S
        · obtain ⟨l, hlS, e⟩ := getD_of_mem x
          refine ⟨fun t => - mn ((List.range b).map K) (S.set l ((rest m S).getD t 0)), fun i hi => ?_⟩
          have c := ker_col (M := K) (m := m) (is := List.range b) (cs := S) (by simp [hb]) hSn hSm (y := M (is.getD i 0)) (fun k hk => by rw [dot_comm]; exact h1 k _ (List.mem_range.1 hk) (hn _ (getD_mem (by omega)))) hlS
          rw [e] at c
          show mn ((List.range b).map K) S * M (is.getD i 0) j = _
          rw [hT] at c
          have e6 : sm cs.length (fun t => -mn ((List.range b).map K) (S.set l ((rest m S).getD t 0)) * M (is.getD i 0) ((rest m S).getD t 0)) = -1 * sm cs.length (fun t => M (is.getD i 0) ((rest m S).getD t 0) * mn ((List.range b).map K) (S.set l ((rest m S).getD t 0))) := by
            rw [← sm_mul]; exact sm_congr fun t _ => by grind
          rw [e6]; omega
        · obtain ⟨t, ht, e⟩ := getD_of_mem (mem_rest.2 ⟨hj, x⟩)
          have := (Sp.unit (M := fun t i => M (is.getD i 0) ((rest m S).getD t 0)) (n := cs.length) (m := cs.length) (p := t) (by omega)).mul (mn ((List.range b).map K) S)
          exact this.congr fun i _ => by rw [e]; rfl
    have := hA (List.range cs.length) cs (by simp) rfl (by simp) hm
    have e4 : (List.range cs.length).map (fun i => M (is.getD i 0)) = is.map M := by
      rw [← hl]
      have := congrArg (List.map M) (range_map is)
      rwa [List.map_map] at this
    rw [e4] at this
    exact Int.zero_dvd.1 this
  · have hG := gr_of (M := M) (n := n) (m := m) (is := is) (cs := rest m S) (by omega) hn hTm hD (by rw [hT]; exact hz)
    have hrr := rest_rest hS hSm
    -- the lattice of the kernel in the columns S
    have hLK : Sub b (Sp (at' K S) b b) := Sub.sp _ _ _
    obtain ⟨hk, tk⟩ := Tb.exists hLK (N := mn (is.map M) (rest m S)) hD fun j hj => by
      obtain ⟨y, hy1, hy2⟩ := hG.ker_unit (unitV 1 j)
      rw [hrr] at hy2
      obtain ⟨c, hc⟩ := h2 y hy1
      refine ⟨c, fun s hs => ?_⟩
      have h3 := hy2 s (by omega)
      have h4 := hc (S.getD s 0) (hSm _ (getD_mem (by omega)))
      rw [h3] at h4
      show unitV _ j s = sm b (fun t => c t * K t (S.getD s 0))
      rw [← h4]; simp only [unitV]
      by_cases x : s = j
      · rw [if_pos x, if_pos x, Int.mul_one]
      · rw [if_neg x, if_neg x, Int.mul_zero]
    -- the lattice of the columns of the rest
    obtain ⟨N, hN⟩ : ∃ N : Mat, N = fun t i => M (is.getD i 0) ((rest m S).getD t 0) := ⟨_, rfl⟩
    have hdet : mn ((List.range cs.length).map N) (List.range cs.length) = mn (is.map M) (rest m S) := by
      rw [hN]
      have e := mn_tr (fun t i => M (is.getD i 0) ((rest m S).getD t 0)) (List.range cs.length) (List.range cs.length) rfl
      rw [e]
      have e2 := at_map (fun i => M (is.getD i 0)) (rest m S) (List.range cs.length) (List.range cs.length)
      have e3 : (List.range cs.length).map (fun k => (rest m S).getD k 0) = rest m S := by rw [← hT]; exact range_map _
      have e4 : (List.range cs.length).map (fun i => M (is.getD i 0)) = is.map M := by
        rw [← hl]
        have := congrArg (List.map M) (range_map is)
        rwa [List.map_map] at this
      rw [e3, e4] at e2
      exact e2
    have hLM : Sub cs.length (Sp N cs.length cs.length) := Sub.sp _ _ _
    obtain ⟨hh, th⟩ := Tb.exists hLM (N := mn (is.map M) (rest m S)) hD fun j hj => by
      have := mn_mul (M := N) (n := cs.length) (m := cs.length) (r := cs.length) (v := unitV 1 j) (Dv_tr (M := tr (snoc N cs.length (unitV 1 j))) (Dv.many (by omega) 0)) (is := List.range cs.length) (cs := List.range cs.length) (by simp) (by simp) (by simp) (by simp)
      rw [hdet] at this
      refine this.congr fun i _ => ?_
      simp only [unitV]
      by_cases x : i = j
      · rw [if_pos x, if_pos x, Int.mul_one]
      · rw [if_neg x, if_neg x, Int.mul_zero]
    have e1 : (mn ((List.range b).map K) S).natAbs = size hk b := by
      rw [← tk.det, at_map, ← hb, range_map]
    have e2 : (mn (is.map M) (rest m S)).natAbs = size hh cs.length := by rw [← th.det, hdet]
    rw [e1, e2]
    refine Tb.le hLM tk th (fun z i => sm b (fun s => M (is.getD i 0) (S.getD s 0) * z s)) fun y z hyz => ?_
    obtain ⟨x, hx⟩ := hyz
    -- the row with these elements
    obtain ⟨Y, hY1, hY2⟩ : ∃ Y : Nat → Int, (∀ s, s < b → Y (S.getD s 0) = y s - z s) ∧ ∀ t, t < cs.length → Y ((rest m S).getD t 0) = - x t := by
      refine ⟨fun j => if j ∈ S then y (S.idxOf j) - z (S.idxOf j) else - x ((rest m S).idxOf j), fun s hs => ?_, fun t ht => ?_⟩
      · have hms := getD_mem (l := S) (k := s) (by omega)
        simp only [if_pos hms]
        have hi : S.idxOf (S.getD s 0) < S.length := List.idxOf_lt_length_iff.2 hms
        have e : S.idxOf (S.getD s 0) = s := getD_inj hSn hi (by omega) (by rw [getD_at hi]; exact List.getElem_idxOf hi)
        rw [e]
      · have hmt := getD_mem (l := rest m S) (k := t) (by omega)
        simp only [if_neg (mem_rest.1 hmt).2]
        have hi : (rest m S).idxOf ((rest m S).getD t 0) < (rest m S).length := List.idxOf_lt_length_iff.2 hmt
        have e : (rest m S).idxOf ((rest m S).getD t 0) = t := getD_inj hTn hi (by omega) (by rw [getD_at hi]; exact List.getElem_idxOf hi)
        rw [e]
    have hker : ∀ i, i < cs.length → dot m (M (is.getD i 0)) Y = 0 := by
      intro i hi
      unfold dot
      rw [sm_split hSn hSm, hT, hb]
      have p1 : sm b (fun s => M (is.getD i 0) (S.getD s 0) * Y (S.getD s 0)) = sm b (fun s => M (is.getD i 0) (S.getD s 0) * y s) - sm b (fun s => M (is.getD i 0) (S.getD s 0) * z s) := by
        rw [← sm_sub]; exact sm_congr fun s hs => by rw [hY1 s hs, Int.mul_sub]
      have p2 : sm cs.length (fun t => M (is.getD i 0) ((rest m S).getD t 0) * Y ((rest m S).getD t 0)) = - sm cs.length (fun t => x t * N t i) := by
        rw [show - sm cs.length (fun t => x t * N t i) = -1 * sm cs.length (fun t => x t * N t i) by omega, ← sm_mul]
        exact sm_congr fun t ht => by rw [hY2 t ht, hN]; grind
      have p3 : sm b (fun s => M (is.getD i 0) (S.getD s 0) * y s) - sm b (fun s => M (is.getD i 0) (S.getD s 0) * z s) = sm cs.length (fun t => x t * N t i) := hx i hi
      rw [p1, p2, p3]; omega
    have hall : ∀ k, k < n → dot m (M k) Y = 0 := by
      intro k hkn
      have e : mn (is.map M) (rest m S) * dot m (M k) Y = 0 := by
        have e1 : mn (is.map M) (rest m S) * dot m (M k) Y = sm m (fun j => sm is.length (fun l => mn ((is.set l k).map M) (rest m S) * (M (is.getD l 0) j * Y j))) := by
          unfold dot
          rw [← sm_mul]
          refine sm_congr fun j hj => ?_
          have c := cramerR M k is (rest m S) j (by omega)
          have z := hz (k :: is) (j :: rest m S) (by simp [hl]) (by simp [hT]) (by
            intro x hx; rcases List.mem_cons.1 hx with rfl | hx
            · exact hkn
            · exact hn x hx) (by
            intro x hx; rcases List.mem_cons.1 hx with rfl | hx
            · exact hj
            · exact hTm x hx)
          rw [Int.zero_dvd.1 z, Int.add_zero] at c
          rw [← Int.mul_assoc, Int.mul_comm (mn _ _), c, Int.mul_comm, ← sm_mul]
          exact sm_congr fun l _ => by grind
        rw [e1, sm_comm, sm_congr (g := fun _ => 0) fun l hll => ?_, sm_zero]
        rw [sm_mul]
        have := hker l (by omega)
        unfold dot at this
        rw [this, Int.mul_zero]
      rcases Int.mul_eq_zero.1 e with q | q
      · exact absurd q hD
      · exact q
    obtain ⟨c, hc⟩ := h2 Y hall
    exact ⟨c, fun s hs => (hY1 s hs).symm.trans (hc _ (hSm _ (getD_mem (by omega))))⟩
end Go.Proofs.Ytnbamjoadankmaa.D
/- Plain mathematics (no program): bounds of the elements of Hermite forms and kernels; a row that is taken apart. -/
namespace Go.Proofs.Ytnbamjoadankmaa.D
theorem sm_abs (n : Nat) (f : Nat → Int) (g : Nat → Nat) (h : ∀ t, t < n → (f t).natAbs ≤ g t) : (sm n f).natAbs ≤ rs n (fun t => (g t : Int)) := by
  induction n with
  | zero => simp [sm, rs]
  | succ n ih =>
    have := ih fun t ht => h t (by omega)
    have := h n (by omega)
    simp only [sm, rs]; omega
theorem rs_const (n : Nat) (c : Nat) : rs n (fun _ => (c : Int)) = n * c := by
  induction n with
  | zero => simp [rs]
  | succ n ih => simp only [rs]; rw [ih, Nat.succ_mul]; simp
theorem rs_le {n : Nat} {u v : Nat → Int} (h : ∀ t, t < n → (u t).natAbs ≤ (v t).natAbs) : rs n u ≤ rs n v := by
  induction n with
  | zero => exact Nat.le_refl _
  | succ n ih => have := ih fun t ht => h t (by omega); have := h n (by omega); simp only [rs]; omega
/-- A minor with a column in the place of another one. -/
theorem mn_set_vol {M : Mat} {m n : Nat} {is cs : List Nat} {k j : Nat} (hl : is.length = cs.length) (hn : ∀ i ∈ is, i < n) (hm : ∀ c ∈ cs, c < m) (hj : j < m) : (mn (is.map M) (cs.set k j)).natAbs ≤ vol M m n := by
  by_cases h1 : is.Nodup
  · by_cases h2 : (cs.set k j).Nodup
    · refine mn_vol h1 hn h2 fun c hc => ?_
      rcases List.mem_or_eq_of_mem_set hc with x | x
      · exact hm c x
      · omega
    · rw [mn_cols_dup h2 _ (by simpa using hl)]; simp
  · rw [mn_dup (fun x => h1 ((List.pairwise_map.1 x).imp fun hab e => hab (by rw [e])))]; simp
theorem pr_dvd_of {s : Nat → Int} {n k : Nat} (h : k < n) : s k ∣ pr s n := by
  induction n with
  | zero => omega
  | succ n ih =>
    by_cases x : k = n
    · subst x; exact Int.dvd_mul_left _ _
    · exact Int.dvd_mul_of_dvd_left (ih (by omega)) 
/-- In the columns of the pivots there is a minor other than 0. -/
theorem Hf.rows_at {M H : Mat} {n r m : Nat} {p : Nat → Nat} (h : Hf H r m p) (h2 : ∀ i, i < r → Sp M n m (H i)) : ∃ is : List Nat, is.length = r ∧ (∀ i ∈ is, i < n) ∧ mn (is.map M) ((List.range r).map p) ≠ 0 := by
  refine Classical.not_not.1 fun hx => ?_
  have hz : Dv (at' M ((List.range r).map p)) n r r 0 := by
    refine Dv.rising fun is js hi hj _ hrj hn hm => ?_
    rw [full_list hj hrj hm, at_map]
    have e : (List.range r).map (fun k => ((List.range r).map p).getD k 0) = (List.range r).map p := by
      have := range_map ((List.range r).map p)
      rwa [List.length_map, List.length_range] at this
    rw [e, Classical.not_not.1 fun y => hx ⟨is, hi, hn, y⟩]; exact Int.dvd_refl _
  have hg : ∀ k, k < r → ((List.range r).map p).getD k 0 = p k := fun k hk => by
    rw [getD_at (by simpa using hk)]; simp
  have h3 : Dv (at' H ((List.range r).map p)) r r r 0 := hz.rows fun i hi => by
    obtain ⟨c, hc⟩ := h2 i hi
    exact ⟨c, fun k hk => by
      show H i _ = sm n fun t => c t * M t _
      exact hc _ (by rw [hg k hk]; exact h.lt k hk)⟩
  have h4 := (full_dvd _ _ _).1 h3
  rw [at_map] at h4
  have e : (List.range r).map (fun k => ((List.range r).map p).getD k 0) = (List.range r).map p := by
    have := range_map ((List.range r).map p)
    rwa [List.length_map, List.length_range] at this
  rw [e, h.minor] at h4
  have := pr_pos (s := fun k => H k (p k)) (k := r) h.pos
  have := Int.zero_dvd.1 h4; omega
theorem Hf.entry_piv {H : Mat} {r m : Nat} {p : Nat → Nat} (h : Hf H r m p) {i k : Nat} (hi : i < r) (hk : k < r) : 0 ≤ H i (p k) ∧ H i (p k) ≤ H k (p k) := by
  rcases Nat.lt_trichotomy i k with x | x | x
  · have := h.red i k x hk; omega
  · subst x; have := h.pos i hi; omega
  · have := h.left i (p k) hi (h.rise k i x hi); have := h.pos k hk; omega
/-- The elements of a Hermite form. -/
theorem Hf.bound {M H : Mat} {n r m : Nat} {p : Nat → Nat} (h : Hf H r m p) (h1 : ∀ i, i < n → Sp H r m (M i)) (h2 : ∀ i, i < r → Sp M n m (H i)) {i j : Nat} (hi : i < r) (hj : j < m) : (H i j).natAbs ≤ r * vol M m n := by
  obtain ⟨is, hl, hn, h0⟩ := h.rows_at h2
  have hz : Dv M n m (((List.range r).map p).length + 1) 0 := by rw [h.rank h1 h2]; simp
  have hm : ∀ c ∈ (List.range r).map p, c < m := fun c hc => by
    obtain ⟨k, hk, rfl⟩ := List.mem_map.1 hc; exact h.lt k (List.mem_range.1 hk)
  have hG := gr_of (M := M) (n := n) (m := m) (is := is) (cs := (List.range r).map p) (by simp [hl]) hn hm h0 hz
  have c := hG.cramer (h2 i hi) hj
  have hd := h.pivots h1 hl hn
  have hD : 0 < (mn (is.map M) ((List.range r).map p)).natAbs := by omega
  have hb : (H i j * mn (is.map M) ((List.range r).map p)).natAbs ≤ r * ((mn (is.map M) ((List.range r).map p)).natAbs * vol M m n) := by
    rw [c, ← rs_const]
    have e : ((List.range r).map p).length = r := by simp
    rw [e]
    refine sm_abs r _ (fun _ => (mn (is.map M) ((List.range r).map p)).natAbs * vol M m n) fun k hk => ?_
    rw [Int.natAbs_mul]
    refine Nat.mul_le_mul ?_ (mn_set_vol (by simp [hl]) hn hm hj)
    have hg : ((List.range r).map p).getD k 0 = p k := by rw [getD_at (by simpa using hk)]; simp
    rw [hg]
    have h3 := h.entry_piv hi hk
    have h4 := abs_le (Int.dvd_trans (pr_dvd_of (s := fun k => H k (p k)) hk) hd) h0
    omega
  rw [Int.natAbs_mul, ← Nat.mul_assoc, Nat.mul_comm r, Nat.mul_assoc, Nat.mul_comm (H i j).natAbs] at hb
  exact Nat.le_of_mul_le_mul_left hb hD
/-- The elements of a kernel. -/
theorem Hf.ker_bound {M K : Mat} {n b m r : Nat} {q : Nat → Nat} (h : Hf K b m q) (h1 : ∀ i k, i < b → k < n → dot m (M k) (K i) = 0) (h2 : ∀ y, (∀ k, k < n → dot m (M k) y = 0) → Sp K b m y)
    (hr : ∀ k, Dv M n m k 0 ↔ r < k) {i j : Nat} (hi : i < b) (hj : j < m) : (K i j).natAbs ≤ m * vol M m n := by
  obtain ⟨is, cs, hG⟩ := Gr.exists_le M n m
  have hrc : cs.length = r := by
    have a := hr (cs.length); have b := hr (cs.length + 1)
    rw [hG.rank] at a b
    have : r < cs.length + 1 := b.1 (by omega)
    have : ¬ r < cs.length := fun x => Nat.lt_irrefl _ (a.2 x)
    omega
  obtain ⟨hrm, hb⟩ := ker_count h h1 h2 hr
  have hz : Dv M n m (cs.length + 1) 0 := by rw [hr]; omega
  have hQm : ∀ c ∈ (List.range b).map q, c < m := fun c hc => by
    obtain ⟨k, hk, rfl⟩ := List.mem_map.1 hc; exact h.lt k (List.mem_range.1 hk)
  have hQp : ((List.range b).map q).Pairwise (· < ·) := by
    refine List.pairwise_map.2 (List.pairwise_iff_getElem.2 fun x y hx hy hxy => ?_)
    simp at hx hy ⊢
    exact h.rise x y hxy hy
  have hQn : ((List.range b).map q).Nodup := hQp.imp fun {a b} hab => Nat.ne_of_lt hab
  have hm := ker_minor hG.len hG.rows hG.cols hG.ne hz h1 h2 hQp hQm (by simp) (by omega)
  rw [h.minor] at hm
  have hpp := pr_pos (s := fun k => K k (q k)) (k := b) h.pos
  have hTl := rest_length hQn hQm
  have hTm : ∀ c ∈ rest m ((List.range b).map q), c < m := fun c hc => (mem_rest.1 hc).1
  have hTn : (rest m ((List.range b).map q)).Nodup := (rest_rising m _).imp fun {a b} hab => Nat.ne_of_lt hab
  have hlT : is.length = (rest m ((List.range b).map q)).length := by rw [hG.len]; simp at hTl; omega
  have hD : 0 < (mn (is.map M) (rest m ((List.range b).map q))).natAbs := by omega
  have hDV : (mn (is.map M) (rest m ((List.range b).map q))).natAbs ≤ vol M m n := by
    by_cases x : is.Nodup
    · exact mn_vol x hG.rows hTn hTm
    · exfalso
      refine hG.ne (mn_dup (fun y => x ((List.pairwise_map.1 y).imp fun hab e => hab (by rw [e]))) _)
  have hpiv : ∀ k, k < b → (K k (q k)).natAbs ≤ (mn (is.map M) (rest m ((List.range b).map q))).natAbs := fun k hk => by
    have := abs_le (pr_dvd_of (s := fun k => K k (q k)) hk) (by omega)
    omega
  have hg : ∀ k, k < b → ((List.range b).map q).getD k 0 = q k := fun k hk => by rw [getD_at (by simpa using hk)]; simp
  have hm1 : 1 ≤ m := by omega
  by_cases x : j ∈ (List.range b).map q
  · obtain ⟨k, hk, rfl⟩ := List.mem_map.1 x
    have hk' := List.mem_range.1 hk
    have h3 := h.entry_piv hi hk'
    have h4 := hpiv k hk'
    have : vol M m n ≤ m * vol M m n := Nat.le_mul_of_pos_left _ hm1
    omega
  · obtain ⟨l, hll, e⟩ := getD_of_mem (mem_rest.2 ⟨hj, x⟩)
    have c := ker_col (M := M) (m := m) hlT hTn hTm (y := K i) (fun k hk => h1 i k hi (hG.rows k hk)) hll
    rw [e, rest_rest hQp hQm] at c
    have e1 : ((List.range b).map q).length = b := by simp
    rw [e1] at c
    have hb2 : (mn (is.map M) (rest m ((List.range b).map q)) * K i j).natAbs ≤ b * ((mn (is.map M) (rest m ((List.range b).map q))).natAbs * vol M m n) := by
      have e2 : mn (is.map M) (rest m ((List.range b).map q)) * K i j = - sm b (fun t => K i (((List.range b).map q).getD t 0) * mn (is.map M) ((rest m ((List.range b).map q)).set l (((List.range b).map q).getD t 0))) := by omega
      rw [e2, Int.natAbs_neg, ← rs_const]
      refine sm_abs b _ (fun _ => (mn (is.map M) (rest m ((List.range b).map q))).natAbs * vol M m n) fun t ht => ?_
      rw [Int.natAbs_mul]
      refine Nat.mul_le_mul ?_ (mn_set_vol hlT hG.rows hTm (hQm _ (getD_mem (by simpa using ht))))
      rw [hg t ht]
      have h3 := h.entry_piv hi ht
      have h4 := hpiv t ht
      omega
    rw [Int.natAbs_mul, ← Nat.mul_assoc, Nat.mul_comm b, Nat.mul_assoc] at hb2
    have h5 := Nat.le_of_mul_le_mul_left hb2 hD
    exact Nat.le_trans h5 (Nat.mul_le_mul_right _ (by omega))
/-- A row is taken apart by the pivots, one after another. -/
def tk (H : Mat) (p : Nat → Nat) (v : Nat → Int) : Nat → Nat → Int
  | 0 => v
  | k + 1 => fun j => tk H p v k j - tk H p v k (p k) / H k (p k) * H k j
def ck (H : Mat) (p : Nat → Nat) (v : Nat → Int) (k : Nat) : Int := tk H p v k (p k) / H k (p k)
theorem tk_shift (H : Mat) (p : Nat → Nat) (v : Nat → Int) (k : Nat) : tk H p v (k + 1) = tk (tl H) (fun t => p (t + 1)) (fun j => v j - v (p 0) / H 0 (p 0) * H 0 j) k := by
  induction k with
  | zero => rfl
  | succ k ih =>
    rw [show tk H p v (k + 1 + 1) = (fun j => tk H p v (k + 1) j - tk H p v (k + 1) (p (k + 1)) / H (k + 1) (p (k + 1)) * H (k + 1) j) from rfl, ih]; rfl
theorem Hf.taken {H : Mat} {r m : Nat} {p : Nat → Nat} (h : Hf H r m p) {v : Nat → Int} (hv : Sp H r m v) : (∀ k, k < r → H k (p k) ∣ tk H p v k (p k)) ∧ ∀ j, j < m → tk H p v r j = 0 := by
  induction r generalizing H p v with
  | zero => obtain ⟨c, hc⟩ := hv; exact ⟨fun k hk => by omega, fun j hj => hc j hj⟩
  | succ r ih =>
    obtain ⟨_, f2, f3⟩ := h.front hv
    obtain ⟨i1, i2⟩ := ih h.tl f3
    refine ⟨fun k hk => ?_, fun j hj => ?_⟩
    · cases k with
      | zero => exact f2
      | succ k => rw [tk_shift]; exact i1 k (by omega)
    · rw [tk_shift]; exact i2 j hj
theorem tk_sum (H : Mat) (p : Nat → Nat) (v : Nat → Int) (k j : Nat) : tk H p v k j = v j - sm k (fun l => ck H p v l * H l j) := by
  induction k with
  | zero => simp [tk, sm]
  | succ k ih =>
    show tk H p v k j - tk H p v k (p k) / H k (p k) * H k j = _
    rw [sm, ih, ck]; omega
theorem rs_mul (k : Nat) (f : Nat → Int) (c : Nat) : rs k (fun l => (((f l).natAbs * c : Nat) : Int)) = rs k f * c := by
  induction k with
  | zero => simp [rs]
  | succ k ih => simp only [rs]; rw [ih, Nat.add_mul, Int.natAbs_natCast]
/-- The multiples that are taken. -/
theorem Hf.ck_bound {H : Mat} {r m : Nat} {p : Nat → Nat} (h : Hf H r m p) {v : Nat → Int} {B : Nat} (hB : ∀ j, j < m → (v j).natAbs ≤ B) {k : Nat} (hk : k ≤ r) : rs k (ck H p v) + B ≤ B * 2 ^ k := by
  induction k with
  | zero => simp [rs]
  | succ k ih =>
    have hi := ih (by omega)
    have hp := h.pos k (by omega)
    have hc : (ck H p v k).natAbs ≤ B + rs k (ck H p v) := by
      have e : tk H p v k (p k) = v (p k) - sm k (fun l => ck H p v l * H l (p k)) := tk_sum H p v k (p k)
      have h1 : (sm k (fun l => ck H p v l * H l (p k))).natAbs ≤ rs k (ck H p v) * (H k (p k)).natAbs := by
        have h2 := sm_abs k (fun l => ck H p v l * H l (p k)) (fun l => (ck H p v l).natAbs * (H k (p k)).natAbs) fun l hl => by
          rw [Int.natAbs_mul]
          refine Nat.mul_le_mul_left _ ?_
          have := h.red l k hl (by omega); omega
        rwa [rs_mul] at h2
      obtain ⟨P, hP⟩ := Int.eq_ofNat_of_zero_le (Int.le_of_lt hp)
      have hPa : (H k (p k)).natAbs = P := by omega
      rw [hPa] at h1
      have hvb := hB (p k) (h.lt k (by omega))
      have hP1 : 1 ≤ P := by omega
      have hBP : B ≤ B * P := Nat.le_mul_of_pos_right _ hP1
      obtain ⟨R, hR⟩ : ∃ R, R = rs k (ck H p v) := ⟨_, rfl⟩
      rw [← hR] at h1 ⊢
      have hx : (tk H p v k (p k)).natAbs ≤ (B + R) * P := by rw [e, Nat.add_mul]; omega
      have hx' : -((B + R : Nat) : Int) * (P : Int) ≤ tk H p v k (p k) ∧ tk H p v k (p k) ≤ ((B + R : Nat) : Int) * (P : Int) := by
        have : ((B + R : Nat) : Int) * (P : Int) = (((B + R) * P : Nat) : Int) := by simp
        rw [Int.neg_mul, this]; omega
      unfold ck
      rw [hP]
      have a1 := Int.le_ediv_of_mul_le (show (0 : Int) < (P : Int) by omega) hx'.1
      have a2 := Int.ediv_le_of_le_mul (show (0 : Int) < (P : Int) by omega) hx'.2
      omega
    simp only [rs]
    rw [Nat.pow_succ, ← Nat.mul_assoc]; omega
end Go.Proofs.Ytnbamjoadankmaa.D

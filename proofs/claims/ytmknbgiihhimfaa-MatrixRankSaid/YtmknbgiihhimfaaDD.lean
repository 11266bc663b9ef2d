/- Plain mathematics of minors of integer matrices (no program): the expansion by the first row, exchanges of rows, the expansion by the first column, the transposed matrix. -/

namespace Go.Proofs.Ytmknbgiihhimfaa.D
/-- The alternating sum over all ways to take one element out of a list. -/
def alt (f : Nat → List Nat → Int) : List Nat → Int
  | [] => 0
  | j :: js => f j js - alt (fun a r => f a (j :: r)) js
/-- The minor of some rows in some columns: its expansion by the first row. -/
def mn : List (Nat → Int) → List Nat → Int
  | [], _ => 1
  | v :: vs, js => alt (fun j r => v j * mn vs r) js
theorem alt_congrP {f g : Nat → List Nat → Int} {js : List Nat} (h : ∀ a r, (a :: r).Perm js → f a r = g a r) : alt f js = alt g js := by
  induction js generalizing f g with
  | nil => rfl
  | cons j js ih =>
    unfold alt
    rw [h j js (List.Perm.refl _), ih (f := fun a r => f a (j :: r)) (g := fun a r => g a (j :: r)) fun a r hr => h a (j :: r) ((List.Perm.swap j a r).trans (hr.cons j))]
theorem alt_congr {f g : Nat → List Nat → Int} {js : List Nat} (h : ∀ a r, r.length + 1 = js.length → f a r = g a r) : alt f js = alt g js :=
  alt_congrP fun a r hp => h a r (by simpa using hp.length_eq)
theorem alt_map (f : Nat → List Nat → Int) (g : Nat → Nat) (js : List Nat) : alt f (js.map g) = alt (fun a r => f (g a) (r.map g)) js := by
  induction js generalizing f with
  | nil => rfl
  | cons j js ih => rw [List.map_cons]; unfold alt; rw [ih]; rfl
theorem alt_dvd {d : Int} {f : Nat → List Nat → Int} {js : List Nat} (h : ∀ a r, (a :: r).Perm js → d ∣ f a r) : d ∣ alt f js := by
  induction js generalizing f with
  | nil => exact Int.dvd_zero d
  | cons j js ih =>
    unfold alt
    exact Int.dvd_sub (h j js (List.Perm.refl _)) (ih fun a r hr => h a (j :: r) ((List.Perm.swap j a r).trans (hr.cons j)))
theorem alt_congr' {f g : Nat → List Nat → Int} (h : ∀ a r, f a r = g a r) (js : List Nat) : alt f js = alt g js := alt_congr fun a r _ => h a r
theorem alt_add (f g : Nat → List Nat → Int) (js : List Nat) : alt (fun a r => f a r + g a r) js = alt f js + alt g js := by
  induction js generalizing f g with
  | nil => rfl
  | cons j js ih => simp only [alt]; rw [ih]; omega
theorem alt_sub (f g : Nat → List Nat → Int) (js : List Nat) : alt (fun a r => f a r - g a r) js = alt f js - alt g js := by
  induction js generalizing f g with
  | nil => rfl
  | cons j js ih => simp only [alt]; rw [ih]; omega
theorem alt_mul (c : Int) (f : Nat → List Nat → Int) (js : List Nat) : alt (fun a r => c * f a r) js = c * alt f js := by
  induction js generalizing f with
  | nil => simp [alt]
  | cons j js ih => simp only [alt]; rw [ih, Int.mul_sub]
theorem alt_zero (js : List Nat) : alt (fun _ _ => 0) js = 0 := by
  induction js with
  | nil => rfl
  | cons j js ih => simp only [alt]; rw [ih]; rfl
theorem alt_neg (f : Nat → List Nat → Int) (js : List Nat) : alt (fun a r => - f a r) js = - alt f js := by
  have := alt_mul (-1) f js
  simp only [Int.neg_one_mul] at this; exact this
/-- Taking two elements out in the other order turns the sign. -/
theorem alt_swap (f : Nat → Nat → List Nat → Int) (js : List Nat) : alt (fun a r => alt (fun b r' => f a b r') r) js = - alt (fun a r => alt (fun b r' => f b a r') r) js := by
  induction js generalizing f with
  | nil => rfl
  | cons j js ih =>
    simp only [alt]
    rw [alt_sub, alt_sub]
    have key : ∀ a b x y : Int, x = -y → a - (b - x) = -(b - (a - y)) := by intros; omega
    exact key _ _ _ _ (ih fun a b r => f a b (j :: r))
/-- Sums over two lists may be exchanged. -/
theorem alt_comm (f : Nat → List Nat → Nat → List Nat → Int) (is js : List Nat) : alt (fun i r => alt (fun j s => f i r j s) js) is = alt (fun j s => alt (fun i r => f i r j s) is) js := by
  induction is generalizing f with
  | nil => simp only [alt]; exact (alt_zero js).symm
  | cons i is ih =>
    simp only [alt]
    rw [ih fun i' r j s => f i' (i :: r) j s, ← alt_sub]
theorem mn_cons (v : Nat → Int) (vs : List (Nat → Int)) (js : List Nat) : mn (v :: vs) js = alt (fun j r => v j * mn vs r) js := rfl
theorem mn_nil (js : List Nat) : mn [] js = 1 := rfl
theorem mn_cons_nil (v : Nat → Int) (vs : List (Nat → Int)) : mn (v :: vs) [] = 0 := rfl
/-- Exchange of the first two rows. -/
theorem mn_swap (u v : Nat → Int) (vs : List (Nat → Int)) (js : List Nat) : mn (u :: v :: vs) js = - mn (v :: u :: vs) js := by
  simp only [mn_cons]
  simp only [← alt_mul]
  rw [alt_swap (fun a b r => u a * (v b * mn vs r))]
  congr 1
  exact alt_congr' (fun a r => alt_congr' (fun b r' => by rw [← Int.mul_assoc, ← Int.mul_assoc, Int.mul_comm (u b)]) r) js
theorem mn_same (u : Nat → Int) (vs : List (Nat → Int)) (js : List Nat) : mn (u :: u :: vs) js = 0 := by
  have := mn_swap u u vs js; omega
theorem mn_congr {v : Nat → Int} {vs us : List (Nat → Int)} {c : Int} (h : ∀ js, mn vs js = c * mn us js) (js : List Nat) : mn (v :: vs) js = c * mn (v :: us) js := by
  rw [mn_cons, mn_cons, ← alt_mul]
  exact alt_congr' (fun a r => by rw [h, ← Int.mul_assoc, ← Int.mul_assoc, Int.mul_comm c]) js
/-- The rows in another order. -/
theorem mn_perm {vs us : List (Nat → Int)} (h : vs.Perm us) : ∃ c : Int, (c = 1 ∨ c = -1) ∧ ∀ js, mn vs js = c * mn us js := by
  induction h with
  | nil => exact ⟨1, Or.inl rfl, fun js => by omega⟩
  | cons v _ ih => obtain ⟨c, hc, h⟩ := ih; exact ⟨c, hc, mn_congr h⟩
  | swap u v l => exact ⟨-1, Or.inr rfl, fun js => by rw [mn_swap]; omega⟩
  | trans _ _ ih1 ih2 =>
    obtain ⟨c, hc, h⟩ := ih1; obtain ⟨e, he, h'⟩ := ih2
    refine ⟨c * e, ?_, fun js => by rw [h, h', Int.mul_assoc]⟩
    rcases hc with rfl | rfl <;> rcases he with rfl | rfl <;> simp
/-- A row that comes twice. -/
theorem mn_twice {u : Nat → Int} {a b : List (Nat → Int)} (h : u ∈ b) (js : List Nat) : mn (u :: a ++ b) js = 0 := by
  obtain ⟨c, d, rfl⟩ := List.append_of_mem h
  have hp : (u :: a ++ (c ++ u :: d)).Perm (u :: u :: (a ++ c ++ d)) := by
    rw [List.cons_append]
    refine List.Perm.cons u ?_
    rw [← List.append_assoc]
    exact List.perm_middle
  obtain ⟨e, _, h⟩ := mn_perm hp
  rw [h, mn_same]; omega
theorem mn_dup {us : List (Nat → Int)} (h : ¬ us.Nodup) (js : List Nat) : mn us js = 0 := by
  induction us generalizing js with
  | nil => exact absurd List.nodup_nil h
  | cons u us ih =>
    by_cases hu : u ∈ us
    · exact mn_twice (a := []) hu js
    · rw [List.nodup_cons] at h
      have h1 : ¬ us.Nodup := fun x => h ⟨hu, x⟩
      rw [mn_cons, alt_congr' (g := fun _ _ => 0) (fun a r => by rw [ih h1]; omega), alt_zero]
/-- Rows of a matrix. -/
abbrev Mat := Nat → Nat → Int
def tr (M : Mat) : Mat := fun i j => M j i
/-- The expansion by the first column. -/
theorem mn_column (M : Mat) (j : Nat) (js is : List Nat) (h : is.length = js.length + 1) : mn (is.map M) (j :: js) = alt (fun i r => M i j * mn (r.map M) js) is := by
  induction is generalizing js with
  | nil => simp at h
  | cons i is ih =>
    rw [List.map_cons, mn_cons]
    simp only [alt]
    congr 1
    have h0 : is.length = js.length := by simpa using h
    have e1 : alt (fun a r => M i a * mn (is.map M) (j :: r)) js = alt (fun a r => alt (fun i' r' => M i a * (M i' j * mn (r'.map M) r)) is) js :=
      alt_congr fun a r hr => by rw [ih r (by omega), alt_mul]
    rw [e1, alt_comm]
    exact (alt_congr' (fun a r => by
      rw [List.map_cons, mn_cons, ← alt_mul]
      exact alt_congr' (fun b s => by rw [← Int.mul_assoc, ← Int.mul_assoc, Int.mul_comm (M i b)]) js) is).symm
/-- The minor of the transposed matrix. -/
theorem mn_tr (M : Mat) (is js : List Nat) (h : is.length = js.length) : mn (is.map M) js = mn (js.map (tr M)) is := by
  induction js generalizing is with
  | nil => have : is = [] := List.eq_nil_of_length_eq_zero h
           subst this; rfl
  | cons j js ih =>
    rw [mn_column M j js is (by simpa using h), List.map_cons, mn_cons]
    exact alt_congr fun a r hr => by rw [ih r (by simp at h; omega)]; rfl
/-- Any list of rows is a list of rows of a matrix. -/
def matOf (vs : List (Nat → Int)) : Mat := fun i => vs.getD i fun _ => 0
theorem map_matOf (vs : List (Nat → Int)) : (List.range vs.length).map (matOf vs) = vs := by
  apply List.ext_getElem
  · simp
  · intro i h1 h2
    simp [matOf, List.getElem?_eq_getElem h2]
/-- Rows of a matrix in another order: the sign is that of the order alone. -/
theorem mn_permI {is ks : List Nat} (h : is.Perm ks) : ∃ c : Int, (c = 1 ∨ c = -1) ∧ ∀ (M : Mat) (js : List Nat), mn (is.map M) js = c * mn (ks.map M) js := by
  induction h with
  | nil => exact ⟨1, Or.inl rfl, fun M js => by omega⟩
  | cons v _ ih => obtain ⟨c, hc, h⟩ := ih; exact ⟨c, hc, fun M => mn_congr (h M)⟩
  | swap u v l => exact ⟨-1, Or.inr rfl, fun M js => by rw [List.map_cons, List.map_cons, mn_swap, List.map_cons, List.map_cons]; omega⟩
  | trans _ _ ih1 ih2 =>
    obtain ⟨c, hc, h⟩ := ih1; obtain ⟨e, he, h'⟩ := ih2
    refine ⟨c * e, ?_, fun M js => by rw [h, h', Int.mul_assoc]⟩
    rcases hc with rfl | rfl <;> rcases he with rfl | rfl <;> simp
/-- The columns in another order. -/
theorem mn_cols {js ks : List Nat} (h : js.Perm ks) : ∃ c : Int, (c = 1 ∨ c = -1) ∧ ∀ vs : List (Nat → Int), vs.length = js.length → mn vs js = c * mn vs ks := by
  obtain ⟨c, hc, h'⟩ := mn_permI h
  refine ⟨c, hc, fun vs hv => ?_⟩
  have hl := h.length_eq
  rw [← map_matOf vs, mn_tr _ _ js (by simpa using hv), mn_tr _ _ ks (by simp; omega)]
  exact h' _ _
theorem mn_cols_dup {js : List Nat} (h : ¬ js.Nodup) (vs : List (Nat → Int)) (hv : vs.length = js.length) : mn vs js = 0 := by
  rw [← map_matOf vs, mn_tr _ _ js (by simpa using hv)]
  exact mn_dup (fun x => h ((List.pairwise_map.1 x).imp fun hab e => hab (by rw [e]))) _
end Go.Proofs.Ytmknbgiihhimfaa.D
/- Plain mathematics of the greatest common divisors of the minors of an integer matrix (no program): operations on rows and columns keep them; each divides the next one, and its square divides the product of those next to it. -/
namespace Go.Proofs.Ytmknbgiihhimfaa.D
/-- The sum of the first n numbers. -/
def sm : Nat → (Nat → Int) → Int
  | 0, _ => 0
  | n + 1, f => sm n f + f n
theorem sm_congr {n : Nat} {f g : Nat → Int} (h : ∀ t, t < n → f t = g t) : sm n f = sm n g := by
  induction n with
  | zero => rfl
  | succ n ih => unfold sm; rw [ih fun t ht => h t (by omega), h n (by omega)]
theorem sm_add (n : Nat) (f g : Nat → Int) : sm n (fun t => f t + g t) = sm n f + sm n g := by
  induction n with
  | zero => rfl
  | succ n ih => simp only [sm]; rw [ih]; omega
theorem sm_mul (n : Nat) (c : Int) (f : Nat → Int) : sm n (fun t => c * f t) = c * sm n f := by
  induction n with
  | zero => simp [sm]
  | succ n ih => simp only [sm]; rw [ih, Int.mul_add]
theorem sm_zero (n : Nat) : sm n (fun _ => 0) = 0 := by
  induction n with
  | zero => rfl
  | succ n ih => simp only [sm]; rw [ih]; rfl
theorem sm_unit {n p : Nat} (hp : p < n) (f : Nat → Int) : sm n (fun t => (if t = p then 1 else 0) * f t) = f p := by
  induction n with
  | zero => omega
  | succ n ih =>
    simp only [sm]
    by_cases h : p = n
    · subst h
      rw [sm_congr (g := fun _ => 0) fun t ht => by rw [if_neg (by omega)]; omega, sm_zero, if_pos rfl]; omega
    · rw [ih (by omega), if_neg (Ne.symm h)]; omega
theorem sm_comm (n m : Nat) (f : Nat → Nat → Int) : sm n (fun i => sm m (fun j => f i j)) = sm m (fun j => sm n (fun i => f i j)) := by
  induction n with
  | zero => simp only [sm]; exact (sm_zero m).symm
  | succ n ih => simp only [sm]; rw [ih, ← sm_add]
theorem sm_dvd {d : Int} {n : Nat} {f : Nat → Int} (h : ∀ t, t < n → d ∣ f t) : d ∣ sm n f := by
  induction n with
  | zero => exact Int.dvd_zero d
  | succ n ih => exact Int.dvd_add (ih fun t ht => h t (by omega)) (h n (by omega))
/-- A row is a sum of multiples of the first n rows, in the first m columns. -/
def Sp (M : Mat) (n m : Nat) (v : Nat → Int) : Prop := ∃ c : Nat → Int, ∀ j, j < m → v j = sm n (fun t => c t * M t j)
theorem Sp.unit {M : Mat} {n m p : Nat} (hp : p < n) : Sp M n m (M p) := ⟨fun t => if t = p then 1 else 0, fun j _ => (sm_unit hp fun t => M t j).symm⟩
theorem Sp.add {M : Mat} {n m : Nat} {u v : Nat → Int} (hu : Sp M n m u) (hv : Sp M n m v) : Sp M n m (fun j => u j + v j) := by
  obtain ⟨c, hc⟩ := hu; obtain ⟨e, he⟩ := hv
  refine ⟨fun t => c t + e t, fun j hj => ?_⟩
  show u j + v j = _
  rw [hc j hj, he j hj, ← sm_add]
  exact sm_congr fun t _ => by rw [Int.add_mul]
theorem Sp.mul {M : Mat} {n m : Nat} {u : Nat → Int} (a : Int) (hu : Sp M n m u) : Sp M n m (fun j => a * u j) := by
  obtain ⟨c, hc⟩ := hu
  refine ⟨fun t => a * c t, fun j hj => ?_⟩
  show a * u j = _
  rw [hc j hj, ← sm_mul]
  exact sm_congr fun t _ => by rw [Int.mul_assoc]
theorem Sp.congr {M : Mat} {n m : Nat} {u v : Nat → Int} (hu : Sp M n m u) (h : ∀ j, j < m → v j = u j) : Sp M n m v := by
  obtain ⟨c, hc⟩ := hu
  exact ⟨c, fun j hj => (h j hj).trans (hc j hj)⟩
theorem Sp.zero {M : Mat} {n m : Nat} : Sp M n m (fun _ => 0) := ⟨fun _ => 0, fun j _ => by rw [sm_congr (g := fun _ => 0) fun t _ => by simp, sm_zero]⟩
theorem Sp.sum {M : Mat} {n m : Nat} {k : Nat} {c : Nat → Int} {N : Mat} (h : ∀ t, t < k → Sp M n m (N t)) : Sp M n m (fun j => sm k (fun t => c t * N t j)) := by
  induction k with
  | zero => exact Sp.zero
  | succ k ih => exact (ih fun t ht => h t (by omega)).add ((h k (by omega)).mul (c k))
theorem Sp.trans {M N : Mat} {n n' m : Nat} {u : Nat → Int} (hu : Sp N n' m u) (h : ∀ t, t < n' → Sp M n m (N t)) : Sp M n m u := by
  obtain ⟨c, hc⟩ := hu
  exact (Sp.sum h).congr hc
/-- A number divides all minors of a size. -/
def Dv (M : Mat) (n m k : Nat) (d : Int) : Prop := ∀ is js : List Nat, is.length = k → js.length = k → (∀ i ∈ is, i < n) → (∀ j ∈ js, j < m) → d ∣ mn (is.map M) js
theorem Dv_tr {M : Mat} {n m k : Nat} {d : Int} (h : Dv M n m k d) : Dv (tr M) m n k d := fun is js hi hj hn hm => by
  rw [mn_tr (tr M) is js (by omega)]
  exact h js is hj hi hm hn
/-- A sum of multiples of minors with the given rows. -/
inductive Cb (M : Mat) (n m k : Nat) : (List Nat → Int) → Prop
  | zero {f : List Nat → Int} : (∀ js, (∀ j ∈ js, j < m) → f js = 0) → Cb M n m k f
  | step {f g : List Nat → Int} (c : Int) (ts : List Nat) : ts.length = k → (∀ t ∈ ts, t < n) → Cb M n m k g → (∀ js, (∀ j ∈ js, j < m) → f js = c * mn (ts.map M) js + g js) → Cb M n m k f
theorem Cb.congr {M : Mat} {n m k : Nat} {f g : List Nat → Int} (h : Cb M n m k g) (e : ∀ js, (∀ j ∈ js, j < m) → f js = g js) : Cb M n m k f := by
  cases h with
  | zero h => exact Cb.zero fun js hj => (e js hj).trans (h js hj)
  | step c ts hl ht hg hh => exact Cb.step c ts hl ht hg fun js hj => (e js hj).trans (hh js hj)
theorem Cb.add {M : Mat} {n m k : Nat} {f g : List Nat → Int} (hf : Cb M n m k f) (hg : Cb M n m k g) : Cb M n m k (fun js => f js + g js) := by
  induction hf with
  | zero h => exact hg.congr fun js hj => by rw [h js hj]; omega
  | step c ts hl ht _ hh ih => exact Cb.step c ts hl ht ih fun js hj => by rw [hh js hj]; omega
theorem Cb.mul {M : Mat} {n m k : Nat} {f : List Nat → Int} (a : Int) (hf : Cb M n m k f) : Cb M n m k (fun js => a * f js) := by
  induction hf with
  | zero h => exact Cb.zero fun js hj => by rw [h js hj, Int.mul_zero]
  | step c ts hl ht _ hh ih => exact Cb.step (a * c) ts hl ht ih fun js hj => by rw [hh js hj, Int.mul_add, Int.mul_assoc]
theorem Cb.sum {M : Mat} {n m k : Nat} (q : Nat) {c : Nat → Int} {F : Nat → List Nat → Int} (h : ∀ t, t < q → Cb M n m k (F t)) : Cb M n m k (fun js => sm q (fun t => c t * F t js)) := by
  induction q with
  | zero => exact Cb.zero fun js _ => rfl
  | succ q ih => exact (ih fun t ht => h t (by omega)).add ((h q (by omega)).mul (c q))
theorem mem_perm {m a : Nat} {r js : List Nat} (hp : (a :: r).Perm js) (h : ∀ j ∈ js, j < m) : a < m ∧ ∀ j ∈ r, j < m :=
  ⟨h a (hp.subset (by simp)), fun j hj => h j (hp.subset (by simp [hj]))⟩
theorem Cb.cons {M : Mat} {n m k : Nat} {f : List Nat → Int} {t : Nat} (ht : t < n) (hf : Cb M n m k f) : Cb M n m (k + 1) (fun js => alt (fun a r => M t a * f r) js) := by
  induction hf with
  | zero h =>
    refine Cb.zero fun js hj => ?_
    rw [alt_congrP (g := fun _ _ => 0) fun a r hp => by rw [h r (mem_perm hp hj).2, Int.mul_zero]]
    exact alt_zero js
  | step c ts hl hts _ hh ih =>
    refine Cb.step c (t :: ts) (by simp [hl]) (by simpa using ⟨ht, hts⟩) ih fun js hj => ?_
    rw [List.map_cons, mn_cons, ← alt_mul, ← alt_add]
    exact alt_congrP fun a r hp => by rw [hh r (mem_perm hp hj).2, Int.mul_add, ← Int.mul_assoc, ← Int.mul_assoc, Int.mul_comm (M t a) c]
theorem alt_sm (n : Nat) (F : Nat → Nat → List Nat → Int) (js : List Nat) : alt (fun a r => sm n (fun t => F t a r)) js = sm n (fun t => alt (fun a r => F t a r) js) := by
  induction n with
  | zero => simp only [sm]; exact alt_zero js
  | succ n ih => simp only [sm]; rw [alt_add, ih]
theorem Cb.rows {M : Mat} {n m : Nat} {us : List (Nat → Int)} (h : ∀ u ∈ us, Sp M n m u) : Cb M n m us.length (mn us) := by
  induction us with
  | nil => exact Cb.step 1 [] rfl (by simp) (Cb.zero (f := fun _ => 0) fun _ _ => rfl) fun js _ => by simp [mn]
  | cons u us ih =>
    obtain ⟨c, hc⟩ := h u (by simp)
    have hi := ih fun v hv => h v (by simp [hv])
    have h2 : Cb M n m (us.length + 1) (fun js => sm n (fun t => c t * alt (fun a r => M t a * mn us r) js)) := Cb.sum n fun t ht => Cb.cons ht hi
    refine h2.congr fun js hj => ?_
    rw [mn_cons]
    have e : alt (fun a r => u a * mn us r) js = alt (fun a r => sm n (fun t => c t * (M t a * mn us r))) js :=
      alt_congrP fun a r hp => by
        rw [hc a (mem_perm hp hj).1, Int.mul_comm, ← sm_mul]
        exact sm_congr fun t _ => by grind
    rw [e, alt_sm]
    exact sm_congr fun t _ => alt_mul _ _ _
theorem Cb.dvd {M : Mat} {n m k : Nat} {d : Int} {f : List Nat → Int} (hf : Cb M n m k f) (h : Dv M n m k d) {js : List Nat} (hl : js.length = k) (hj : ∀ j ∈ js, j < m) : d ∣ f js := by
  induction hf with
  | zero h0 => rw [h0 js hj]; exact Int.dvd_zero d
  | step c ts hts ht _ hh ih => rw [hh js hj]; exact Int.dvd_add (Int.dvd_mul_of_dvd_right (h ts js hts hl ht hj)) ih
/-- What divides the minors of a matrix divides those of each matrix whose rows are sums of multiples of its rows. -/
theorem Dv.rows {M N : Mat} {n n' m k : Nat} {d : Int} (h : Dv M n m k d) (hs : ∀ i, i < n' → Sp M n m (N i)) : Dv N n' m k d := fun is js hi hj hn hm => by
  have := Cb.rows (M := M) (n := n) (m := m) (us := is.map N) (by
    intro u hu
    obtain ⟨i, hi, rfl⟩ := List.mem_map.1 hu
    exact hs i (hn i hi))
  rw [List.length_map, hi] at this
  exact this.dvd h hj hm
theorem Dv.mono {M : Mat} {n m k : Nat} {d : Int} (h : Dv M n m k d) : Dv M n m (k + 1) d := by
  intro is js hi hj hn hm
  cases is with
  | nil => simp at hi
  | cons i is =>
    rw [List.map_cons, mn_cons]
    refine alt_dvd fun a r hp => Int.dvd_mul_of_dvd_right (h is r (by simpa using hi) ?_ (fun x hx => hn x (by simp [hx])) (mem_perm hp hm).2)
    have := hp.length_eq; simp at this; omega
end Go.Proofs.Ytmknbgiihhimfaa.D
/- Plain mathematics of the greatest common divisors of the minors (no program): for each integer matrix there are numbers, each a divisor of the next one, whose products are these (the elementary divisors). -/
namespace Go.Proofs.Ytmknbgiihhimfaa.D
/-- The product of the first numbers. -/
def pr (s : Nat → Int) : Nat → Int
  | 0 => 1
  | k + 1 => pr s k * s k
/-- Two matrices have the same divisors. -/
def Eq2 (M N : Mat) (n m : Nat) : Prop := ∀ k d, Dv M n m k d ↔ Dv N n m k d
theorem Eq2.rfl' {M : Mat} {n m : Nat} : Eq2 M M n m := fun _ _ => Iff.rfl
theorem Eq2.symm {M N : Mat} {n m : Nat} (h : Eq2 M N n m) : Eq2 N M n m := fun k d => (h k d).symm
theorem Eq2.trans {M N K : Mat} {n m : Nat} (h : Eq2 M N n m) (g : Eq2 N K n m) : Eq2 M K n m := fun k d => (h k d).trans (g k d)
theorem Eq2.rows {M N : Mat} {n m : Nat} (h : ∀ i, i < n → Sp M n m (N i)) (g : ∀ i, i < n → Sp N n m (M i)) : Eq2 M N n m := fun _ _ => ⟨fun x => x.rows h, fun x => x.rows g⟩
theorem Eq2.tr {M N : Mat} {n m : Nat} (h : Eq2 (tr M) (tr N) m n) : Eq2 M N n m := fun k d => ⟨fun x => Dv_tr ((h k d).1 (Dv_tr x)), fun x => Dv_tr ((h k d).2 (Dv_tr x))⟩
/-- A multiple of a row is added to another one. -/
def addr (M : Mat) (p q : Nat) (c : Int) : Mat := fun i j => if i = p then M p j + c * M q j else M i j
theorem addr_eq2 {M : Mat} {n m p q : Nat} {c : Int} (hp : p < n) (hq : q < n) (hn : p ≠ q) : Eq2 M (addr M p q c) n m := by
  apply Eq2.rows
  · intro i hi
    by_cases h : i = p
    · subst h
      exact ((Sp.unit hi).add ((Sp.unit hq).mul c)).congr fun j _ => by simp [addr]
    · exact (Sp.unit hi).congr fun j _ => by simp [addr, h]
  · intro i hi
    by_cases h : i = p
    · subst h
      refine ((Sp.unit hi).add ((Sp.unit hq).mul (-c))).congr fun j _ => ?_
      simp only [addr, if_true, if_neg (Ne.symm hn)]; grind
    · exact (Sp.unit hi).congr fun j _ => by simp [addr, h]
/-- The first row is exchanged with another one. -/
def swr (M : Mat) (p : Nat) : Mat := fun i => if i = 0 then M p else if i = p then M 0 else M i
theorem swr_eq2 {M : Mat} {n m p : Nat} (hp : p < n) : Eq2 M (swr M p) n m := by
  apply Eq2.rows
  · intro i hi
    unfold swr
    split
    · exact Sp.unit hp
    · split
      · exact Sp.unit (by omega)
      · exact Sp.unit hi
  · intro i hi
    by_cases h0 : i = 0
    · subst h0
      have := Sp.unit (M := swr M p) (m := m) hp
      by_cases h : p = 0
      · subst h; simpa [swr] using this
      · simpa [swr, h] using this
    · by_cases h : i = p
      · subst h
        have := Sp.unit (M := swr M i) (n := n) (m := m) (p := 0) (by omega)
        simpa [swr] using this
      · have := Sp.unit (M := swr M p) (m := m) hi
        simpa [swr, h0, h] using this
theorem addc_eq2 {M : Mat} {n m p q : Nat} {c : Int} (hp : p < m) (hq : q < m) (hn : p ≠ q) : Eq2 M (tr (addr (tr M) p q c)) n m := Eq2.tr (addr_eq2 hp hq hn)
theorem swc_eq2 {M : Mat} {n m p : Nat} (hp : p < m) : Eq2 M (tr (swr (tr M) p)) n m := Eq2.tr (swr_eq2 hp)
/-- A first element that does not divide an element of its column can be made smaller. -/
theorem step_col {M : Mat} {n m i : Nat} (h0 : M 0 0 ≠ 0) (hi : i < n) (hd : ¬ M 0 0 ∣ M i 0) : ∃ N : Mat, Eq2 M N n m ∧ N 0 0 ≠ 0 ∧ (N 0 0).natAbs < (M 0 0).natAbs := by
  have hi0 : i ≠ 0 := by intro e; subst e; exact hd (Int.dvd_refl _)
  refine ⟨swr (addr M i 0 (-(M i 0 / M 0 0))) i, (addr_eq2 hi (by omega) hi0).trans (swr_eq2 hi), ?_⟩
  have e : swr (addr M i 0 (-(M i 0 / M 0 0))) i 0 0 = M i 0 % M 0 0 := by
    simp only [swr, addr, if_true]
    have := Int.emod_add_mul_ediv (M i 0) (M 0 0)
    grind
  rw [e]
  have h1 : M i 0 % M 0 0 ≠ 0 := fun h => hd (Int.dvd_of_emod_eq_zero h)
  have h2 := Int.emod_nonneg (M i 0) h0
  have h3 := Int.emod_lt (M i 0) h0
  exact ⟨h1, by omega⟩
theorem step_row {M : Mat} {n m j : Nat} (h0 : M 0 0 ≠ 0) (hj : j < m) (hd : ¬ M 0 0 ∣ M 0 j) : ∃ N : Mat, Eq2 M N n m ∧ N 0 0 ≠ 0 ∧ (N 0 0).natAbs < (M 0 0).natAbs := by
  obtain ⟨N, h1, h2, h3⟩ := step_col (M := tr M) (n := m) (m := n) h0 hj hd
  exact ⟨tr N, Eq2.tr h1, h2, h3⟩
/-- A matrix that is 0 in its first row and column but for the first element. -/
structure Blk (B N : Mat) (n m : Nat) (a : Int) : Prop where
  first : B 0 0 = a
  row : ∀ j, j < m → B 0 (j + 1) = 0
  col : ∀ i, i < n → B (i + 1) 0 = 0
  rest : ∀ i j, i < n → j < m → B (i + 1) (j + 1) = a * N i j
theorem Blk.tr {B N : Mat} {n m : Nat} {a : Int} (h : Blk B N n m a) : Blk (tr B) (tr N) m n a := ⟨h.first, h.col, h.row, fun i j hi hj => h.rest j i hj hi⟩
theorem Blk.shift {B N : Mat} {n m : Nat} {a : Int} (h : Blk B N n m a) {is js : List Nat} (hi : ∀ i ∈ is, i < n) (hj : ∀ j ∈ js, j < m) : mn ((is.map (· + 1)).map B) (js.map (· + 1)) = a ^ is.length * mn (is.map N) js := by
  induction is generalizing js with
  | nil => simp [mn]
  | cons i is ih =>
    rw [List.map_cons, List.map_cons, mn_cons, alt_map, List.map_cons, mn_cons, ← alt_mul]
    refine alt_congrP fun b r hp => ?_
    rw [h.rest i b (hi i (by simp)) (mem_perm hp hj).1, ih (fun x hx => hi x (by simp [hx])) (mem_perm hp hj).2, List.length_cons, Int.pow_succ]
    grind
theorem succ_list {l : List Nat} {n : Nat} (h : ∀ i ∈ l, i < n + 1) (h0 : 0 ∉ l) : ∃ k : List Nat, l = k.map (· + 1) ∧ (∀ i ∈ k, i < n) := by
  induction l with
  | nil => exact ⟨[], rfl, by simp⟩
  | cons x l ih =>
    obtain ⟨k, rfl, hk⟩ := ih (fun i hi => h i (by simp [hi])) (fun hx => h0 (by simp [hx]))
    have hx : x ≠ 0 := fun e => h0 (by simp [e])
    have hx' := h x (by simp)
    refine ⟨(x - 1) :: k, ?_, ?_⟩
    · simp; omega
    · intro i hi
      rcases List.mem_cons.1 hi with rfl | hi
      · omega
      · exact hk i hi
theorem alt_zero' {f : Nat → List Nat → Int} {js : List Nat} (h : ∀ a r, (a :: r).Perm js → f a r = 0) : alt f js = 0 := by
  rw [alt_congrP (g := fun _ _ => 0) h]; exact alt_zero js
theorem Blk.corner {B N : Mat} {n m : Nat} {a : Int} (h : Blk B N n m a) {is js : List Nat} (hi : ∀ i ∈ is, i < n) (hj : ∀ j ∈ js, j < m) : mn (B 0 :: (is.map (· + 1)).map B) (0 :: js.map (· + 1)) = a ^ (is.length + 1) * mn (is.map N) js := by
  rw [mn_cons]
  unfold alt
  rw [h.first, h.shift hi hj, alt_map, alt_zero' fun b r hp => by rw [h.row b (mem_perm hp hj).1]; omega, Int.pow_succ]
  grind
theorem Blk.noCol {B N : Mat} {n m : Nat} {a : Int} (h : Blk B N n m a) {js : List Nat} (hj : ∀ j ∈ js, j < m) (us : List (Nat → Int)) : mn (B 0 :: us) (js.map (· + 1)) = 0 := by
  rw [mn_cons, alt_map]
  exact alt_zero' fun b r hp => by rw [h.row b (mem_perm hp hj).1]; omega
/-- Each minor of such a matrix is 0, or a minor of the rest with a power. -/
theorem Blk.dvd {B N : Mat} {n m k : Nat} {a d : Int} (h : Blk B N n m a) (hd : Dv N n m k d) : Dv B (n + 1) (m + 1) (k + 1) (a ^ (k + 1) * d) := by
  intro is js hi hj hn hm
  by_cases hnd : is.Nodup
  · by_cases hjd : js.Nodup
    · by_cases h0 : 0 ∈ is
      · obtain ⟨u, v, rfl⟩ := List.append_of_mem h0
        have hp : (u ++ 0 :: v).Perm (0 :: (u ++ v)) := List.perm_middle
        have hnd' := hp.nodup_iff.1 hnd
        obtain ⟨c, _, hc⟩ := mn_permI hp
        rw [hc]
        refine Int.dvd_mul_of_dvd_right ?_
        obtain ⟨k1, e1, hk1⟩ := succ_list (l := u ++ v) (n := n) (fun i hi => hn i (hp.symm.subset (by simp [hi]))) (List.nodup_cons.1 hnd').1
        have hl1 : k1.length = k := by
          have := hp.length_eq; rw [e1, hi] at this; simp at this; omega
        rw [e1, List.map_cons]
        by_cases hj0 : 0 ∈ js
        · obtain ⟨u', v', rfl⟩ := List.append_of_mem hj0
          have hq : (u' ++ 0 :: v').Perm (0 :: (u' ++ v')) := List.perm_middle
          have hjd' := hq.nodup_iff.1 hjd
          obtain ⟨e, _, he⟩ := mn_cols hq
          rw [he _ (by rw [hj]; simp; omega)]
          refine Int.dvd_mul_of_dvd_right ?_
          obtain ⟨k2, e2, hk2⟩ := succ_list (l := u' ++ v') (n := m) (fun i hi => hm i (hq.symm.subset (by simp [hi]))) (List.nodup_cons.1 hjd').1
          have hl2 : k2.length = k := by
            have := hq.length_eq; rw [e2, hj] at this; simp at this; omega
          rw [e2, h.corner hk1 hk2, hl1]
          exact Int.mul_dvd_mul (Int.dvd_refl _) (hd k1 k2 hl1 hl2 hk1 hk2)
        · obtain ⟨k2, rfl, hk2⟩ := succ_list hm hj0
          rw [h.noCol hk2]; exact Int.dvd_zero _
      · obtain ⟨k1, rfl, hk1⟩ := succ_list hn h0
        have hl1 : k1.length = k + 1 := by simpa using hi
        by_cases hj0 : 0 ∈ js
        · obtain ⟨u', v', rfl⟩ := List.append_of_mem hj0
          have hq : (u' ++ 0 :: v').Perm (0 :: (u' ++ v')) := List.perm_middle
          obtain ⟨e, _, he⟩ := mn_cols hq
          rw [he _ (by simp at hj ⊢; omega), mn_tr _ _ _ (by simp at hj ⊢; omega), List.map_cons]
          have := h.tr.noCol hk1 ((u' ++ v').map (D.tr B))
          rw [this, Int.mul_zero]; exact Int.dvd_zero _
        · obtain ⟨k2, rfl, hk2⟩ := succ_list hm hj0
          rw [h.shift hk1 hk2, hl1]
          exact Int.mul_dvd_mul (Int.dvd_refl _) (hd.mono k1 k2 hl1 (by simpa using hj) hk1 hk2)
    · rw [mn_cols_dup hjd _ (by simp; omega)]; exact Int.dvd_zero _
  · rw [mn_dup (fun x => hnd ((List.pairwise_map.1 x).imp fun hab e => hab (by rw [e])))]; exact Int.dvd_zero _
/-- What divides multiples. -/
theorem scale {c d : Int} (hc : c ≠ 0) : ∃ e : Int, ∀ x, d ∣ c * x ↔ e ∣ x := by
  have hg : (Int.gcd d c : Int) ≠ 0 := by
    intro h
    exact hc (Int.gcd_eq_zero_iff.1 (by exact_mod_cast h)).2
  obtain ⟨e, he⟩ := Int.gcd_dvd_left (a := d) (b := c)
  refine ⟨e, fun x => ?_⟩
  rw [← Int.dvd_gcd_mul_iff_dvd_mul]
  constructor
  · intro h
    have h' : (Int.gcd d c : Int) * e ∣ (Int.gcd d c : Int) * x := by rw [← he]; exact h
    exact Int.dvd_of_mul_dvd_mul_left hg h'
  · intro h
    have h' := Int.mul_dvd_mul (Int.dvd_refl (Int.gcd d c : Int)) h
    rw [← he] at h'; exact h'
/-- The elementary divisors. -/
def Sm (M : Mat) (n m : Nat) : Prop := ∃ s : Nat → Int, (∀ t, s t ∣ s (t + 1)) ∧ ∀ k d, Dv M n m k d ↔ d ∣ pr s k
theorem Sm.eq2 {M N : Mat} {n m : Nat} (h : Sm N n m) (e : Eq2 M N n m) : Sm M n m := by
  obtain ⟨s, h1, h2⟩ := h
  exact ⟨s, h1, fun k d => (e k d).trans (h2 k d)⟩
theorem pr_zero' {s : Nat → Int} (h : ∀ t, s t = 0) (k : Nat) : pr s (k + 1) = 0 := by simp [pr, h]
/-- A matrix that is 0. -/
theorem Sm.none {M : Mat} {n m : Nat} (h : ∀ i j, i < n → j < m → M i j = 0) : Sm M n m := by
  refine ⟨fun _ => 0, fun _ => Int.dvd_refl _, fun k d => ?_⟩
  cases k with
  | zero =>
    constructor
    · intro x; exact x [] [] rfl rfl (by simp) (by simp)
    · intro x is js hi hj _ _
      have : is = [] := List.eq_nil_of_length_eq_zero hi
      subst this; exact x
  | succ k =>
    rw [pr_zero' fun _ => rfl]
    refine ⟨fun _ => Int.dvd_zero _, fun _ => ?_⟩
    intro is js hi hj hn hm
    cases is with
    | nil => simp at hi
    | cons i is =>
      rw [List.map_cons, mn_cons, alt_zero' fun b r hp => by rw [h i b (hn i (by simp)) (mem_perm hp hm).1]; omega]
      exact Int.dvd_zero _
theorem pr_shift (a : Int) (s : Nat → Int) (k : Nat) : pr (fun t => match t with | 0 => a | t + 1 => a * s t) (k + 1) = a ^ (k + 1) * pr s k := by
  induction k with
  | zero => simp [pr, Int.pow_succ]
  | succ k ih => rw [pr, ih, pr, Int.pow_succ a (k + 1)]; grind
theorem Sm.blk {B N : Mat} {n m : Nat} {a : Int} (ha : a ≠ 0) (h : Blk B N n m a) (hs : Sm N n m) : Sm B (n + 1) (m + 1) := by
  obtain ⟨s, h1, h2⟩ := hs
  refine ⟨fun t => match t with | 0 => a | t + 1 => a * s t, fun t => ?_, fun k d => ?_⟩
  · cases t with
    | zero => exact Int.dvd_mul_right _ _
    | succ t => exact Int.mul_dvd_mul (Int.dvd_refl _) (h1 t)
  · cases k with
    | zero =>
      constructor
      · intro x; exact x [] [] rfl rfl (by simp) (by simp)
      · intro x is js hi hj _ _
        have : is = [] := List.eq_nil_of_length_eq_zero hi
        subst this; exact x
    | succ k =>
      rw [pr_shift]
      constructor
      · intro hd
        obtain ⟨e, he⟩ := scale (c := a ^ (k + 1)) (d := d) (Int.pow_ne_zero ha)
        rw [he, ← h2]
        intro is js hi hj hn hm
        rw [← he, ← hi, ← h.corner hn hm]
        have := hd (0 :: is.map (· + 1)) (0 :: js.map (· + 1)) (by simp [hi]) (by simp [hj])
          (by intro i hx; rcases List.mem_cons.1 hx with rfl | hx
              · omega
              · obtain ⟨y, hy, rfl⟩ := List.mem_map.1 hx; have := hn y hy; omega)
          (by intro i hx; rcases List.mem_cons.1 hx with rfl | hx
              · omega
              · obtain ⟨y, hy, rfl⟩ := List.mem_map.1 hx; have := hm y hy; omega)
        rwa [List.map_cons] at this
      · intro hd is js hi hj hn hm
        exact Int.dvd_trans hd (h.dvd ((h2 k _).2 (Int.dvd_refl _)) is js hi hj hn hm)
theorem clear_eq2 {M : Mat} {n m : Nat} (e : Nat → Int) (hn : 0 < n) : Eq2 M (fun i j => if i = 0 then M 0 j else M i j - e i * M 0 j) n m := by
  apply Eq2.rows
  · intro i hi
    by_cases h : i = 0
    · subst h; exact (Sp.unit hi).congr fun j _ => by simp
    · refine ((Sp.unit hi).add ((Sp.unit hn).mul (-(e i)))).congr fun j _ => ?_
      simp only [if_neg h]; grind
  · intro i hi
    by_cases h : i = 0
    · subst h
      exact (Sp.unit (M := fun i j => if i = 0 then M 0 j else M i j - e i * M 0 j) hi).congr fun j _ => by simp
    · refine ((Sp.unit (M := fun i j => if i = 0 then M 0 j else M i j - e i * M 0 j) hi).add ((Sp.unit hn).mul (e i))).congr fun j _ => ?_
      simp only [if_neg h, if_true]; grind
theorem smith (n m : Nat) (M : Mat) : Sm M n m := by
  induction n generalizing m M with
  | zero => exact Sm.none fun i j hi => by omega
  | succ n ihn =>
    cases m with
    | zero => exact Sm.none fun i j _ hj => by omega
    | succ m =>
      have aux : ∀ k, ∀ M : Mat, M 0 0 ≠ 0 → (M 0 0).natAbs = k → Sm M (n + 1) (m + 1) := by
        intro k
        induction k using Nat.strongRecOn with
        | ind k ih =>
          intro M h0 hk
          by_cases hc : ∃ i, i < n + 1 ∧ ¬ M 0 0 ∣ M i 0
          · obtain ⟨i, hi, hd⟩ := hc
            obtain ⟨N, e, h1, h2⟩ := step_col (m := m + 1) h0 hi hd
            exact (ih _ (by omega) N h1 rfl).eq2 e
          by_cases hr : ∃ j, j < m + 1 ∧ ¬ M 0 0 ∣ M 0 j
          · obtain ⟨j, hj, hd⟩ := hr
            obtain ⟨N, e, h1, h2⟩ := step_row (n := n + 1) h0 hj hd
            exact (ih _ (by omega) N h1 rfl).eq2 e
          have hc' : ∀ i, i < n + 1 → M 0 0 ∣ M i 0 := fun i hi => Classical.not_not.1 fun x => hc ⟨i, hi, x⟩
          have hr' : ∀ j, j < m + 1 → M 0 0 ∣ M 0 j := fun j hj => Classical.not_not.1 fun x => hr ⟨j, hj, x⟩
          obtain ⟨C, hC⟩ : ∃ C : Mat, C = fun i j => if i = 0 then M 0 j else M i j - M i 0 / M 0 0 * M 0 j := ⟨_, rfl⟩
          have e1 : Eq2 M C (n + 1) (m + 1) := by rw [hC]; exact clear_eq2 (fun i => M i 0 / M 0 0) (by omega)
          have c0 : ∀ j, C 0 j = M 0 j := fun j => by rw [hC]; simp
          have c1 : ∀ i, i < n → C (i + 1) 0 = 0 := fun i hi => by
            rw [hC]; simp only [Nat.succ_ne_zero, if_false]
            rw [Int.ediv_mul_cancel (hc' (i + 1) (by omega))]; omega
          obtain ⟨B, hB⟩ : ∃ B : Mat, B = tr (fun j i => if j = 0 then tr C 0 i else tr C j i - M 0 j / M 0 0 * tr C 0 i) := ⟨_, rfl⟩
          have e2 : Eq2 C B (n + 1) (m + 1) := by rw [hB]; exact Eq2.tr (clear_eq2 (M := tr C) (fun j => M 0 j / M 0 0) (by omega))
          have b0 : B 0 0 = M 0 0 := by rw [hB]; simp [tr, c0]
          have b1 : ∀ j, j < m → B 0 (j + 1) = 0 := fun j hj => by
            rw [hB]; simp only [tr, Nat.add_eq_zero_iff, Nat.one_ne_zero, and_false, if_false]
            rw [c0, c0, Int.ediv_mul_cancel (hr' (j + 1) (by omega))]; omega
          have b2 : ∀ i, i < n → B (i + 1) 0 = 0 := fun i hi => by
            rw [hB]; simp only [tr, if_true]; exact c1 i hi
          have eB := e1.trans e2
          by_cases hb : ∃ i j, i < n ∧ j < m ∧ ¬ M 0 0 ∣ B (i + 1) (j + 1)
          · obtain ⟨i, j, hi, hj, hd⟩ := hb
            have e3 : Eq2 B (addr B 0 (i + 1) 1) (n + 1) (m + 1) := addr_eq2 (by omega) (by omega) (by omega)
            have a0 : addr B 0 (i + 1) 1 0 0 = M 0 0 := by simp only [addr, if_true]; rw [b0, b2 i hi]; omega
            have a1 : addr B 0 (i + 1) 1 0 (j + 1) = B (i + 1) (j + 1) := by simp only [addr, if_true]; rw [b1 j hj]; omega
            obtain ⟨N, e, h1, h2⟩ := step_row (M := addr B 0 (i + 1) 1) (n := n + 1) (m := m + 1) (j := j + 1) (by rw [a0]; exact h0) (by omega) (by rw [a0, a1]; exact hd)
            rw [a0] at h2
            exact (ih _ (by omega) N h1 rfl).eq2 (eB.trans (e3.trans e))
          · have hb' : ∀ i j, i < n → j < m → M 0 0 ∣ B (i + 1) (j + 1) := fun i j hi hj => Classical.not_not.1 fun x => hb ⟨i, j, hi, hj, x⟩
            have hblk : Blk B (fun i j => B (i + 1) (j + 1) / M 0 0) n m (M 0 0) := ⟨b0, b1, b2, fun i j hi hj => (Int.mul_ediv_cancel' (hb' i j hi hj)).symm⟩
            exact (Sm.blk h0 hblk (ihn m _)).eq2 eB
      by_cases hz : ∀ i j, i < n + 1 → j < m + 1 → M i j = 0
      · exact Sm.none hz
      · obtain ⟨i, hz⟩ := Classical.not_forall.1 hz
        obtain ⟨j, hz⟩ := Classical.not_forall.1 hz
        obtain ⟨hi, hz⟩ := Classical.not_imp.1 hz
        obtain ⟨hj, hz⟩ := Classical.not_imp.1 hz
        have e1 : Eq2 M (swr M i) (n + 1) (m + 1) := swr_eq2 hi
        have e2 : Eq2 (swr M i) (tr (swr (tr (swr M i)) j)) (n + 1) (m + 1) := swc_eq2 hj
        exact (aux _ (tr (swr (tr (swr M i)) j)) (by simpa [tr, swr] using hz) rfl).eq2 (e1.trans e2)
/-- What follows for the greatest common divisors of the minors. -/
theorem pr_dvd (s : Nat → Int) (k : Nat) : pr s k ∣ pr s (k + 1) := Int.dvd_mul_right _ _
theorem pr_square {s : Nat → Int} (h : ∀ t, s t ∣ s (t + 1)) (k : Nat) : pr s (k + 1) * pr s (k + 1) ∣ pr s k * pr s (k + 2) := by
  obtain ⟨c, hc⟩ := h k
  refine ⟨c, ?_⟩
  simp only [pr]; rw [hc]; grind
end Go.Proofs.Ytmknbgiihhimfaa.D
/- Plain mathematics of Hermite forms (no program): a lattice has one, the minor in the columns of the pivots is their product, the rank. -/
namespace Go.Proofs.Ytmknbgiihhimfaa.D
theorem sm_front (n : Nat) (f : Nat → Int) : sm (n + 1) f = f 0 + sm n (fun t => f (t + 1)) := by
  induction n with
  | zero => simp [sm]
  | succ n ih => rw [sm, ih, sm, Int.add_assoc]
/-- The matrix without its first row. -/
def tl (M : Mat) : Mat := fun i => M (i + 1)
theorem Sp.split {M : Mat} {n m : Nat} {v : Nat → Int} (h : Sp M (n + 1) m v) : ∃ c : Int, Sp (tl M) n m (fun j => v j - c * M 0 j) := by
  obtain ⟨c, hc⟩ := h
  refine ⟨c 0, fun t => c (t + 1), fun j hj => ?_⟩
  show v j - c 0 * M 0 j = _
  rw [hc j hj, sm_front]; simp only [tl]; omega
theorem Sp.join {M : Mat} {n m : Nat} {v : Nat → Int} (c : Int) (h : Sp (tl M) n m (fun j => v j - c * M 0 j)) : Sp M (n + 1) m v := by
  obtain ⟨e, he⟩ := h
  refine ⟨fun t => match t with | 0 => c | t + 1 => e t, fun j hj => ?_⟩
  have he' : v j - c * M 0 j = sm n (fun t => e t * tl M t j) := he j hj
  rw [sm_front]
  show v j = c * M 0 j + sm n (fun t => e t * tl M t j)
  rw [← he']; omega
/-- Hermite form, with the columns of the pivots. -/
structure Hf (H : Mat) (r m : Nat) (p : Nat → Nat) : Prop where
  lt : ∀ k, k < r → p k < m
  rise : ∀ i k, i < k → k < r → p i < p k
  pos : ∀ k, k < r → 0 < H k (p k)
  left : ∀ k j, k < r → j < p k → H k j = 0
  red : ∀ i k, i < k → k < r → 0 ≤ H i (p k) ∧ H i (p k) < H k (p k)
theorem Hf.tl {H : Mat} {r m : Nat} {p : Nat → Nat} (h : Hf H (r + 1) m p) : Hf (tl H) r m (fun k => p (k + 1)) where
  lt k hk := h.lt (k + 1) (by omega)
  rise i k hi hk := h.rise (i + 1) (k + 1) (by omega) (by omega)
  pos k hk := h.pos (k + 1) (by omega)
  left k j hk hj := h.left (k + 1) j (by omega) hj
  red i k hi hk := h.red (i + 1) (k + 1) (by omega) (by omega)
/-- What the rows behind the first one make is 0 up to its pivot. -/
theorem Sp.zero_at {M : Mat} {n m j : Nat} {v : Nat → Int} (h : Sp M n m v) (hj : j < m) (h0 : ∀ t, t < n → M t j = 0) : v j = 0 := by
  obtain ⟨c, hc⟩ := h
  rw [hc j hj, sm_congr (g := fun _ => 0) fun t ht => by rw [h0 t ht, Int.mul_zero]]; exact sm_zero n
theorem Hf.tail_zero {H : Mat} {r m : Nat} {p : Nat → Nat} (h : Hf H (r + 1) m p) {v : Nat → Int} (hv : Sp (D.tl H) r m v) {j : Nat} (hj : j ≤ p 0) : v j = 0 := by
  have := h.lt 0 (by omega)
  refine hv.zero_at (by omega) fun t ht => h.left (t + 1) j (by omega) ?_
  have := h.rise 0 (t + 1) (by omega) (by omega)
  omega
theorem Hf.front {H : Mat} {r m : Nat} {p : Nat → Nat} (h : Hf H (r + 1) m p) {v : Nat → Int} (hv : Sp H (r + 1) m v) : (∀ j, j < p 0 → v j = 0) ∧ H 0 (p 0) ∣ v (p 0) ∧ Sp (D.tl H) r m (fun j => v j - v (p 0) / H 0 (p 0) * H 0 j) := by
  obtain ⟨c, hc⟩ := hv.split
  have h0 := h.tail_zero hc (Nat.le_refl _)
  have hp := h.pos 0 (by omega)
  have e : v (p 0) = c * H 0 (p 0) := by have : v (p 0) - c * H 0 (p 0) = 0 := h0; omega
  refine ⟨fun j hj => ?_, ⟨c, by rw [e, Int.mul_comm]⟩, ?_⟩
  · have h1 := h.tail_zero hc (Nat.le_of_lt hj)
    have h2 := h.left 0 j (by omega) hj
    have h1' : v j - c * H 0 j = 0 := h1
    rw [h2] at h1'; omega
  · rw [e, Int.mul_ediv_cancel _ (by omega)]; exact hc
theorem abs_le {a b : Int} (h : a ∣ b) (hb : b ≠ 0) : a.natAbs ≤ b.natAbs := Nat.le_of_dvd (by omega) (Int.natAbs_dvd_natAbs.2 h)
/-- A sum of multiples whose elements in the columns of the pivots are too small is 0. -/
theorem Hf.small {H : Mat} {r m : Nat} {p : Nat → Nat} (h : Hf H r m p) {v : Nat → Int} (hv : Sp H r m v) (hs : ∀ k, k < r → (v (p k)).natAbs < (H k (p k)).natAbs) : ∀ j, j < m → v j = 0 := by
  induction r generalizing H p v with
  | zero => obtain ⟨c, hc⟩ := hv; exact fun j hj => hc j hj
  | succ r ih =>
    obtain ⟨_, h2, h3⟩ := h.front hv
    have h0 := hs 0 (by omega)
    have hv0 : v (p 0) = 0 := by
      rcases Classical.em (v (p 0) = 0) with e | e
      · exact e
      · have := abs_le h2 e; omega
    rw [hv0, Int.zero_ediv] at h3
    have h4 : Sp (D.tl H) r m v := h3.congr fun j _ => by omega
    exact ih h.tl h4 fun k hk => hs (k + 1) (by omega)
/-- One Hermite form. -/
theorem Hf.one {H K : Mat} {r s m : Nat} {p q : Nat → Nat} (h : Hf H r m p) (k : Hf K s m q) (h1 : ∀ i, i < s → Sp H r m (K i)) (h2 : ∀ i, i < r → Sp K s m (H i)) : r = s ∧ (∀ i, i < r → p i = q i) ∧ ∀ i j, i < r → j < m → H i j = K i j := by
  induction r generalizing H K s p q with
  | zero =>
    cases s with
    | zero => exact ⟨rfl, fun i hi => by omega, fun i j hi => by omega⟩
    | succ s =>
      obtain ⟨c, hc⟩ := h1 0 (by omega)
      have := hc (q 0) (k.lt 0 (by omega)); have := k.pos 0 (by omega)
      simp only [sm] at *; omega
  | succ r ih =>
    cases s with
    | zero =>
      obtain ⟨c, hc⟩ := h2 0 (by omega)
      have := hc (p 0) (h.lt 0 (by omega)); have := h.pos 0 (by omega)
      simp only [sm] at *; omega
    | succ s =>
      obtain ⟨a1, a2, a3⟩ := h.front (h1 0 (by omega))
      obtain ⟨b1, b2, b3⟩ := k.front (h2 0 (by omega))
      have hp := h.pos 0 (by omega); have kp := k.pos 0 (by omega)
      have e0 : p 0 = q 0 := by
        rcases Nat.lt_trichotomy (p 0) (q 0) with x | x | x
        · have := b1 (p 0) x; omega
        · exact x
        · have := a1 (q 0) x; omega
      rw [← e0] at b2 kp
      have e1 : H 0 (p 0) = K 0 (p 0) := by
        have x1 := abs_le a2 (by omega)
        have x2 := abs_le b2 (by omega)
        omega
      have t1 : ∀ i, i < s → Sp (D.tl H) r m (D.tl K i) := fun i hi => by
        have hx := (h.front (h1 (i + 1) (by omega))).2.2
        have hz : K (i + 1) (p 0) = 0 := k.left (i + 1) (p 0) (by omega) (by rw [e0]; exact k.rise 0 (i + 1) (by omega) (by omega))
        rw [hz, Int.zero_ediv] at hx
        exact hx.congr fun j _ => by simp only [D.tl]; omega
      have t2 : ∀ i, i < r → Sp (D.tl K) s m (D.tl H i) := fun i hi => by
        have hx := (k.front (h2 (i + 1) (by omega))).2.2
        have hz : H (i + 1) (q 0) = 0 := h.left (i + 1) (q 0) (by omega) (by rw [← e0]; exact h.rise 0 (i + 1) (by omega) (by omega))
        rw [hz, Int.zero_ediv] at hx
        exact hx.congr fun j _ => by simp only [D.tl]; omega
      obtain ⟨i1, i2, i3⟩ := ih h.tl k.tl t1 t2
      have d0 : Sp (D.tl H) r m (fun j => K 0 j - H 0 j) := by
        have x := a3
        rw [← e1, Int.ediv_self (by omega)] at x
        exact x.congr fun j _ => by omega
      have d1 := h.tl.small d0 fun t ht => by
        have x1 := h.red 0 (t + 1) (by omega) (by omega)
        have x2 := k.red 0 (t + 1) (by omega) (by omega)
        have x3 := i2 t ht
        have x4 := i3 t (p (t + 1)) ht (h.lt (t + 1) (by omega))
        simp only [D.tl] at x3 x4 ⊢
        rw [← x3] at x2
        omega
      refine ⟨by omega, fun i hi => ?_, fun i j hi hj => ?_⟩
      · cases i with
        | zero => exact e0
        | succ i => exact i2 i (by omega)
      · cases i with
        | zero => have : K 0 j - H 0 j = 0 := d1 j hj
                  omega
        | succ i => exact i3 i j (by omega) hj
/-- A column that is 0 in all rows. -/
theorem mn_zeroCol {vs : List (Nat → Int)} {j : Nat} (js : List Nat) (h : ∀ v ∈ vs, v j = 0) (hl : vs.length = js.length + 1) : mn vs (j :: js) = 0 := by
  rw [← map_matOf vs, mn_tr _ _ _ (by simpa using hl), List.map_cons, mn_cons]
  refine alt_zero' fun a r hp => ?_
  have ha : a < vs.length := (mem_perm hp (m := vs.length) (by simp)).1
  have : tr (matOf vs) j a = 0 := by
    show vs.getD a (fun _ => 0) j = 0
    rw [List.getD_eq_getElem?_getD, List.getElem?_eq_getElem ha]
    exact h _ (List.getElem_mem ha)
  rw [this, Int.zero_mul]
/-- The product of the pivots is a minor. -/
theorem Hf.minor {H : Mat} {r m : Nat} {p : Nat → Nat} (h : Hf H r m p) : mn ((List.range r).map H) ((List.range r).map p) = pr (fun k => H k (p k)) r := by
  suffices hs : ∀ n a, a + n = r → mn ((List.range' a n).map H) ((List.range' a n).map p) * pr (fun k => H k (p k)) a = pr (fun k => H k (p k)) r by
    have := hs r 0 (by omega)
    rw [List.range_eq_range']; simpa [pr] using this
  intro n
  induction n with
  | zero => intro a ha; simp [mn]; congr 1
  | succ n ih =>
    intro a ha
    have hi := ih (a + 1) (by omega)
    rw [List.range'_succ, List.map_cons, List.map_cons, mn_cons]
    unfold alt
    rw [alt_zero' (fun b s hp => ?_), ← hi, pr]
    · grind
    · have hl := hp.length_eq
      rw [mn_zeroCol s ?_ (by simp at hl ⊢; omega), Int.mul_zero]
      intro v hv
      obtain ⟨t, ht, rfl⟩ := List.mem_map.1 hv
      have := List.mem_range'_1.1 ht
      exact h.left t (p a) (by omega) (h.rise a t (by omega) (by omega))
theorem pr_pos {s : Nat → Int} {k : Nat} (h : ∀ t, t < k → 0 < s t) : 0 < pr s k := by
  induction k with
  | zero => exact Int.one_pos
  | succ k ih => exact Int.mul_pos (ih fun t ht => h t (by omega)) (h k (by omega))
/-- More rows than there are: all minors are 0. -/
theorem Dv.many {M : Mat} {n m k : Nat} (h : n < k) (d : Int) : Dv M n m k d := by
  intro is js hi hj hn hm
  have : ¬ is.Nodup := fun x => by
    have := (List.Nodup.length_le_of_subset x (l₂ := List.range n) fun i hi => List.mem_range.2 (hn i hi))
    simp at this; omega
  rw [mn_dup fun x => this ((List.pairwise_map.1 x).imp fun hab e => hab (by rw [e]))]
  exact Int.dvd_zero _
end Go.Proofs.Ytmknbgiihhimfaa.D

/- Plain arithmetic of lists of limbs to the base 2^32 (no program): values, canonical lists, trimming. -/
namespace Go.Proofs.YtomgihlkbmaleaaDoor.M
/-- All are limbs. -/
def Ok (l : List Int) : Prop := ∀ x ∈ l, 0 ≤ x ∧ x < 4294967296
/-- The value. -/
def val : List Int → Int
  | [] => 0
  | x :: xs => x + 4294967296 * val xs
/-- The power of the base. -/
def pw (n : Nat) : Int := 4294967296 ^ n
theorem pw_zero : pw 0 = 1 := rfl
theorem pw_succ (n : Nat) : pw (n + 1) = 4294967296 * pw n := by unfold pw; rw [Int.pow_succ, Int.mul_comm]
theorem pw_pos (n : Nat) : 0 < pw n := by
  induction n with
  | zero => simp [pw]
  | succ n ih => rw [pw_succ]; omega
theorem pw_add (m n : Nat) : pw (m + n) = pw m * pw n := by unfold pw; rw [Int.pow_add]
theorem pw_le {m n : Nat} (h : m ≤ n) : pw m ≤ pw n := by
  induction n with
  | zero => have : m = 0 := by omega
            subst this; omega
  | succ n ih =>
    by_cases e : m = n + 1
    · subst e; omega
    · have := ih (by omega); have := pw_pos n; rw [pw_succ]; omega
theorem Ok.nil : Ok [] := by intro x h; cases h
theorem Ok.cons {x : Int} {l : List Int} (h0 : 0 ≤ x) (h1 : x < 4294967296) (h : Ok l) : Ok (x :: l) := by
  intro y hy; rcases List.mem_cons.1 hy with rfl | hy
  · exact ⟨h0, h1⟩
  · exact h y hy
theorem Ok.tail {x : Int} {l : List Int} (h : Ok (x :: l)) : Ok l := fun y hy => h y (by simp [hy])
theorem Ok.head {x : Int} {l : List Int} (h : Ok (x :: l)) : 0 ≤ x ∧ x < 4294967296 := h x (by simp)
theorem Ok.append {l m : List Int} (h : Ok l) (k : Ok m) : Ok (l ++ m) := by
  intro y hy; rcases List.mem_append.1 hy with hy | hy
  · exact h y hy
  · exact k y hy
theorem Ok.left {l m : List Int} (h : Ok (l ++ m)) : Ok l := fun y hy => h y (by simp [hy])
theorem Ok.right {l m : List Int} (h : Ok (l ++ m)) : Ok m := fun y hy => h y (by simp [hy])
theorem Ok.take {l : List Int} (h : Ok l) (n : Nat) : Ok (l.take n) := fun y hy => h y (List.mem_of_mem_take hy)
theorem Ok.drop {l : List Int} (h : Ok l) (n : Nat) : Ok (l.drop n) := fun y hy => h y (List.mem_of_mem_drop hy)
theorem Ok.getD {l : List Int} (h : Ok l) (i : Nat) : 0 ≤ l.getD i 0 ∧ l.getD i 0 < 4294967296 := by
  by_cases hi : i < l.length
  · rw [List.getD_eq_getElem?_getD, List.getElem?_eq_getElem hi]; exact h _ (List.getElem_mem hi)
  · rw [List.getD_eq_getElem?_getD, List.getElem?_eq_none (by omega)]; simp
theorem Ok.set {l : List Int} (h : Ok l) (i : Nat) {x : Int} (h0 : 0 ≤ x) (h1 : x < 4294967296) : Ok (l.set i x) := by
  intro y hy; rcases List.mem_or_eq_of_mem_set hy with hy | rfl
  · exact h y hy
  · exact ⟨h0, h1⟩
theorem Ok.replicate (n : Nat) : Ok (List.replicate n 0) := by intro y hy; rw [List.mem_replicate] at hy; rw [hy.2]; omega
theorem val_append (xs ys : List Int) : val (xs ++ ys) = val xs + pw xs.length * val ys := by
  induction xs with
  | nil => simp [val, pw_zero]
  | cons x xs ih =>
    simp only [List.cons_append, val, ih, List.length_cons, pw_succ]
    rw [Int.mul_add, Int.mul_assoc]; omega
theorem val_snoc (xs : List Int) (y : Int) : val (xs ++ [y]) = val xs + pw xs.length * y := by
  rw [val_append]; simp [val]
theorem take_snoc (l : List Int) (i : Nat) (h : i < l.length) : l.take (i + 1) = l.take i ++ [l.getD i 0] := by
  rw [List.take_succ_eq_append_getElem h, List.getD_eq_getElem?_getD, List.getElem?_eq_getElem h]; rfl
theorem val_take_succ (l : List Int) (i : Nat) (h : i < l.length) : val (l.take (i + 1)) = val (l.take i) + pw i * l.getD i 0 := by
  rw [take_snoc l i h, val_snoc, List.length_take, Nat.min_eq_left (by omega)]
/-- Beyond the end the limbs are 0. -/
theorem val_take_succ' (l : List Int) (i : Nat) : val (l.take (i + 1)) = val (l.take i) + pw i * l.getD i 0 := by
  by_cases h : i < l.length
  · exact val_take_succ l i h
  · rw [List.take_of_length_le (by omega), List.take_of_length_le (by omega), List.getD_eq_getElem?_getD, List.getElem?_eq_none (by omega)]; simp
theorem val_nonneg {l : List Int} (h : Ok l) : 0 ≤ val l := by
  induction l with
  | nil => simp [val]
  | cons x xs ih => have := ih h.tail; have := h.head; simp only [val]; omega
theorem val_lt {l : List Int} (h : Ok l) : val l < pw l.length := by
  induction l with
  | nil => simp [val, pw_zero]
  | cons x xs ih => have := ih h.tail; have := h.head; simp only [val, List.length_cons, pw_succ]; omega
theorem val_replicate (n : Nat) : val (List.replicate n 0) = 0 := by
  induction n with
  | zero => rfl
  | succ n ih => rw [List.replicate_succ, val, ih]; rfl
/-- The canonical list of a number. -/
def limbs (n : Nat) : List Int := if h : n = 0 then [] else ((n % 4294967296 : Nat) : Int) :: limbs (n / 4294967296)
termination_by n
decreasing_by omega
theorem limbs_zero : limbs 0 = [] := by unfold limbs; simp
theorem limbs_pos (n : Nat) (h : n ≠ 0) : limbs n = ((n % 4294967296 : Nat) : Int) :: limbs (n / 4294967296) := by
  conv => lhs; unfold limbs
  simp [h]
theorem val_limbs (n : Nat) : val (limbs n) = n := by
  induction n using Nat.strongRecOn with
  | ind n ih =>
    by_cases h : n = 0
    · subst h; simp [limbs_zero, val]
    · rw [limbs_pos n h, val, ih (n / 4294967296) (by omega)]; omega
theorem ok_limbs (n : Nat) : Ok (limbs n) := by
  induction n using Nat.strongRecOn with
  | ind n ih =>
    by_cases h : n = 0
    · subst h; rw [limbs_zero]; exact Ok.nil
    · rw [limbs_pos n h]; exact Ok.cons (by omega) (by omega) (ih _ (by omega))
theorem limbs_val {l : List Int} (h : Ok l) (hl : l.getLast? ≠ some 0) : limbs (val l).toNat = l := by
  induction l with
  | nil => simp [val, limbs_zero]
  | cons x xs ih =>
    have hx := h.head
    have hn := val_nonneg h.tail
    have hne : (val (x :: xs)).toNat ≠ 0 := by
      intro h0
      simp only [val] at h0
      have hx0 : x = 0 := by omega
      have hv : val xs = 0 := by omega
      cases xs with
      | nil => subst hx0; simp at hl
      | cons y ys =>
        have := ih h.tail (by simpa [List.getLast?_cons_cons] using hl)
        rw [hv] at this
        simp [limbs_zero] at this
    rw [limbs_pos _ hne]
    have e1 : (((val (x :: xs)).toNat % 4294967296 : Nat) : Int) = x := by simp only [val]; omega
    have e2 : (val (x :: xs)).toNat / 4294967296 = (val xs).toNat := by simp only [val]; omega
    rw [e1, e2]
    cases xs with
    | nil => simp [val, limbs_zero]
    | cons y ys => rw [ih h.tail (by simpa [List.getLast?_cons_cons] using hl)]
theorem limbs_last (n : Nat) : (limbs n).getLast? ≠ some 0 := by
  induction n using Nat.strongRecOn with
  | ind n ih =>
    by_cases h : n = 0
    · subst h; simp [limbs_zero]
    · rw [limbs_pos n h]
      by_cases h2 : n / 4294967296 = 0
      · rw [h2, limbs_zero]; simp; omega
      · rw [limbs_pos _ h2, List.getLast?_cons_cons, ← limbs_pos _ h2]; exact ih _ (by omega)
theorem limbs_inj {a b : Nat} (h : limbs a = limbs b) : a = b := by
  have := val_limbs a; rw [h, val_limbs] at this; omega
theorem limbs_nil {n : Nat} : limbs n = [] ↔ n = 0 := by
  constructor
  · intro h; have := val_limbs n; rw [h] at this; simp [val] at this; omega
  · rintro rfl; exact limbs_zero
theorem limbs_length_le {n k : Nat} : (limbs n).length ≤ k ↔ (n : Int) < pw k := by
  constructor
  · intro h
    have h1 := val_lt (ok_limbs n)
    rw [val_limbs] at h1
    have := pw_le h; omega
  · intro h
    induction k generalizing n with
    | zero => simp [pw_zero] at h; have : n = 0 := by omega
              subst this; simp [limbs_zero]
    | succ k ih =>
      by_cases h0 : n = 0
      · subst h0; simp [limbs_zero]
      · rw [limbs_pos n h0, List.length_cons]
        have := @ih (n / 4294967296) (by rw [pw_succ] at h; omega)
        omega
/-- Zeros at the end struck. -/
def trimL (l : List Int) : List Int := limbs (val l).toNat
theorem trimL_snoc0 {l : List Int} : trimL (l ++ [0]) = trimL l := by unfold trimL; rw [val_snoc]; simp
theorem trimL_of_last {l : List Int} (h : Ok l) (hl : l.getLast? ≠ some 0) : trimL l = l := limbs_val h hl
theorem trimL_nil : trimL [] = [] := by simp [trimL, val, limbs_zero]
/-- One step of striking: the last of the first k + 1 is 0. -/
theorem trimL_step {l : List Int} {k : Nat} (hk : k < l.length) (h0 : l.getD k 0 = 0) : trimL (l.take (k + 1)) = trimL (l.take k) := by
  rw [take_snoc l k hk, h0, trimL_snoc0]
theorem trimL_stop {l : List Int} {k : Nat} (h : Ok l) (hk : k < l.length) (h0 : l.getD k 0 ≠ 0) : trimL (l.take (k + 1)) = l.take (k + 1) := by
  refine trimL_of_last (h.take _) ?_
  rw [take_snoc l k hk]; simpa using h0
theorem trimL_eq {l : List Int} {v : Nat} (h : val l = v) : trimL l = limbs v := by unfold trimL; rw [h]; rfl
theorem trimL_prefix {l : List Int} (h : Ok l) (n : Nat) (hn : l.length = n) : ∃ k, k ≤ l.length ∧ trimL l = l.take k := by
  induction n generalizing l with
  | zero => have : l = [] := by simpa using hn
            subst this; exact ⟨0, by simp, by simp [trimL_nil]⟩
  | succ n ih =>
    obtain ⟨xs, x, rfl⟩ : ∃ xs x, l = xs ++ [x] := ⟨l.dropLast, l.getLast (by intro h; simp [h] at hn), (List.dropLast_concat_getLast _).symm⟩
    by_cases h0 : x = 0
    · subst h0
      obtain ⟨k, hk, e⟩ := ih h.left (by simp at hn; omega)
      exact ⟨k, by simp; omega, by rw [trimL_snoc0, e, List.take_append_of_le_length hk]⟩
    · exact ⟨xs.length + 1, by simp, by rw [trimL_of_last h (by simpa using h0), List.take_of_length_le (by simp)]⟩
/-- Whether a list is a natural number of the document. -/
def isNat (l : List Int) : Bool := decide (l.length ≤ 640) && !(decide (l.getLast? = some 0))
theorem isNat_limbs {n : Nat} (h : (n : Int) < pw 640) : isNat (limbs n) = true := by
  simp [isNat, limbs_length_le.2 h, limbs_last n]
theorem isNat_iff {l : List Int} (h : Ok l) : isNat l = true ↔ ∃ n : Nat, (n : Int) < pw 640 ∧ l = limbs n := by
  constructor
  · intro hi
    simp [isNat] at hi
    have e := limbs_val h hi.2
    have := val_lt h
    have := val_nonneg h
    refine ⟨(val l).toNat, ?_, e.symm⟩
    have := pw_le hi.1
    omega
  · rintro ⟨n, hn, rfl⟩; exact isNat_limbs hn
theorem isNat_length {l : List Int} (h : isNat l = true) : l.length ≤ 640 := by simp [isNat] at h; exact h.1
theorem isNat_last {l : List Int} (h : isNat l = true) : l.getLast? ≠ some 0 := by simp [isNat] at h; exact h.2
/-- One step of a sum: the limb and the carry that are left. -/
theorem sum_step (P a b c s t : Int) : s + P * c = t → s + P * ((a + b + c) % 4294967296) + 4294967296 * P * ((a + b + c) / 4294967296) = t + P * a + P * b := by
  intro h
  have e : (a + b + c) % 4294967296 + 4294967296 * ((a + b + c) / 4294967296) = a + b + c := Int.emod_add_mul_ediv _ _
  have e2 : P * ((a + b + c) % 4294967296) + 4294967296 * P * ((a + b + c) / 4294967296) = P * (a + b + c) := by
    rw [← e, Int.mul_add, e, Int.mul_comm 4294967296 P, Int.mul_assoc]
  have e3 : P * (a + b + c) = P * a + P * b + P * c := by rw [Int.mul_add, Int.mul_add]
  omega
/-- The sign of a comparison. -/
def cmpI (x y : Int) : Int := if x < y then -1 else if y < x then 1 else 0
theorem cmpI_lt {x y : Int} (h : x < y) : cmpI x y = -1 := by simp [cmpI, h]
theorem cmpI_gt {x y : Int} (h : y < x) : cmpI x y = 1 := by simp [cmpI, h]; omega
theorem cmpI_eq (x : Int) : cmpI x x = 0 := by simp [cmpI]
theorem val_split (l : List Int) (i : Nat) (h : i < l.length) : val l = val (l.take i) + pw i * l.getD i 0 + pw (i + 1) * val (l.drop (i + 1)) := by
  conv => lhs; rw [← List.take_append_drop (i + 1) l]
  rw [val_append, val_take_succ l i h, List.length_take, Nat.min_eq_left (by omega)]
theorem val_ge {l : List Int} (h : Ok l) (hl : l.getLast? ≠ some 0) (hne : l ≠ []) : pw (l.length - 1) ≤ val l := by
  obtain ⟨xs, x, rfl⟩ : ∃ xs x, l = xs ++ [x] := ⟨l.dropLast, l.getLast hne, (List.dropLast_concat_getLast hne).symm⟩
  rw [val_snoc]
  have h1 := val_nonneg h.left
  have h2 : 1 ≤ x := by
    have := (h.right x (by simp)).1
    have : x ≠ 0 := by simpa using hl
    omega
  have h3 := pw_pos xs.length
  have h4 : pw xs.length * 1 ≤ pw xs.length * x := Int.mul_le_mul_of_nonneg_left h2 (by omega)
  simp; omega
/-- A shorter canonical list is less. -/
theorem val_lt_of_len {a b : List Int} (ha : Ok a) (hb : Ok b) (hl : b.getLast? ≠ some 0) (h : a.length < b.length) : val a < val b := by
  have h1 := val_lt ha
  have h2 := val_ge hb hl (by intro e; subst e; simp at h)
  have h3 := pw_le (show a.length ≤ b.length - 1 by omega)
  omega
/-- Lists that agree beyond a place are in the order of their limbs there. -/
theorem val_lt_of_limb {a b : List Int} (ha : Ok a) (hb : Ok b) (i : Nat) (hia : i < a.length) (hib : i < b.length) (hd : a.drop (i + 1) = b.drop (i + 1)) (h : a.getD i 0 < b.getD i 0) : val a < val b := by
  rw [val_split a i hia, val_split b i hib, hd]
  have h1 := val_lt (ha.take i)
  have h2 := val_nonneg (hb.take i)
  rw [List.length_take, Nat.min_eq_left (by omega)] at h1
  have h3 := pw_pos i
  have h4 : pw i * (a.getD i 0 + 1) ≤ pw i * b.getD i 0 := Int.mul_le_mul_of_nonneg_left (by omega) (by omega)
  rw [Int.mul_add] at h4
  omega
theorem drop_step (l : List Int) (i : Nat) (h : i < l.length) : l.drop i = l.getD i 0 :: l.drop (i + 1) := by
  rw [List.drop_eq_getElem_cons h, List.getD_eq_getElem?_getD, List.getElem?_eq_getElem h]; rfl
end Go.Proofs.YtomgihlkbmaleaaDoor.M

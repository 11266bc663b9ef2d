/- Plain arithmetic of decimal texts: digits, groups of digits, the number of a text. -/
import Derived.Test.YtegjhkjmejckdaaDoorMath
namespace Go.Proofs.YtegjhkjmejckdaaDoor.M
theorem snocInd {α : Type} {p : List α → Prop} (h0 : p []) (h1 : ∀ l c, p l → p (l ++ [c])) : ∀ l, p l := by
  have key : ∀ n (l : List α), l.length = n → p l := by
    intro n
    induction n with
    | zero => intro l hl; have : l = [] := by simpa using hl
              subst this; exact h0
    | succ n ih =>
      intro l hl
      obtain ⟨xs, x, rfl⟩ : ∃ xs x, l = xs ++ [x] := ⟨l.dropLast, l.getLast (by intro h; simp [h] at hl), (List.dropLast_concat_getLast _).symm⟩
      exact h1 _ _ (ih xs (by simpa using hl))
  exact fun l => key l.length l rfl
/-- k decimal digits as letters, the least one first. -/
def fdig : Nat → Nat → List Int
  | 0, _ => []
  | k + 1, n => ((48 + n % 10 : Nat) : Int) :: fdig k (n / 10)
theorem fdig_length (k n : Nat) : (fdig k n).length = k := by
  induction k generalizing n with
  | zero => rfl
  | succ k ih => simp [fdig, ih]
theorem fdig_add (j k n : Nat) : fdig (j + k) n = fdig j n ++ fdig k (n / 10 ^ j) := by
  induction j generalizing n with
  | zero => simp [fdig]
  | succ j ih =>
    rw [show j + 1 + k = (j + k) + 1 from by omega]
    simp only [fdig, ih, List.cons_append]
    rw [Nat.div_div_eq_div_mul, Nat.pow_succ, Nat.mul_comm 10]
theorem fdig_mod (k n : Nat) : fdig k (n % 10 ^ k) = fdig k n := by
  induction k generalizing n with
  | zero => rfl
  | succ k ih =>
    simp only [fdig]
    have e1 : n % 10 ^ (k + 1) % 10 = n % 10 := by rw [Nat.pow_succ]; exact Nat.mod_mul_left_mod n (10 ^ k) 10
    have e2 : n % 10 ^ (k + 1) / 10 = n / 10 % 10 ^ k := by rw [Nat.pow_succ, Nat.mul_comm]; exact Nat.mod_mul_right_div_self n 10 (10 ^ k)
    rw [e1, e2, ih]
theorem fdig_zero (k : Nat) : fdig k 0 = List.replicate k 48 := by
  induction k with
  | zero => rfl
  | succ k ih => simp only [fdig, Nat.zero_div, ih, List.replicate_succ]; rfl
/-- All decimal digits as letters, the least one first. -/
def dig (n : Nat) : List Int := if h : n = 0 then [] else ((48 + n % 10 : Nat) : Int) :: dig (n / 10)
termination_by n
decreasing_by omega
theorem dig_zero : dig 0 = [] := by unfold dig; simp
theorem dig_pos (n : Nat) (h : n ≠ 0) : dig n = ((48 + n % 10 : Nat) : Int) :: dig (n / 10) := by
  conv => lhs; unfold dig
  simp [h]
theorem dig_last (n : Nat) : (dig n).getLast? ≠ some 48 := by
  induction n using Nat.strongRecOn with
  | ind n ih =>
    by_cases h : n = 0
    · subst h; simp [dig_zero]
    · rw [dig_pos n h]
      by_cases h2 : n / 10 = 0
      · rw [h2, dig_zero]; simp; omega
      · rw [dig_pos _ h2, List.getLast?_cons_cons, ← dig_pos _ h2]; exact ih _ (by omega)
theorem fdig_eq (k n : Nat) (h : n < 10 ^ k) : ∃ j, fdig k n = dig n ++ List.replicate j 48 := by
  induction k generalizing n with
  | zero => simp at h; subst h; exact ⟨0, by simp [fdig, dig_zero]⟩
  | succ k ih =>
    by_cases h0 : n = 0
    · subst h0; exact ⟨k + 1, by rw [fdig_zero, dig_zero]; rfl⟩
    · obtain ⟨j, hj⟩ := ih (n / 10) (by rw [Nat.pow_succ] at h; exact Nat.div_lt_of_lt_mul (by rw [Nat.mul_comm]; exact h))
      exact ⟨j, by rw [dig_pos n h0]; simp only [fdig, hj, List.cons_append]⟩
theorem dig_range (n : Nat) : ∀ x ∈ dig n, 48 ≤ x ∧ x ≤ 57 := by
  induction n using Nat.strongRecOn with
  | ind n ih =>
    by_cases h : n = 0
    · subst h; rw [dig_zero]; intro x hx; cases hx
    · rw [dig_pos n h]; intro x hx
      rcases List.mem_cons.1 hx with rfl | hx
      · omega
      · exact ih _ (by omega) x hx
theorem fdig_range (k n : Nat) : ∀ x ∈ fdig k n, 48 ≤ x ∧ x ≤ 57 := by
  induction k generalizing n with
  | zero => intro x hx; cases hx
  | succ k ih => intro x hx; rcases List.mem_cons.1 hx with rfl | hx
                 · omega
                 · exact ih _ x hx
/-- The text of a natural number, as letters. -/
def text (n : Nat) : List Int := if n = 0 then [48] else (dig n).reverse
/-- The number of decimal letters, the first one first. -/
def dval (l : List Int) : Nat := l.foldl (fun a c => a * 10 + (c - 48).toNat) 0
theorem dval_snoc (l : List Int) (c : Int) : dval (l ++ [c]) = dval l * 10 + (c - 48).toNat := by simp [dval]
theorem dval_append (l m : List Int) : dval (l ++ m) = dval l * 10 ^ m.length + dval m := by
  induction m using snocInd with
  | h0 => simp [dval]
  | h1 m c ih =>
    rw [← List.append_assoc, dval_snoc, ih, dval_snoc, List.length_append, List.length_singleton, Nat.pow_succ, Nat.add_mul, Nat.mul_assoc]; omega
theorem dval_rev_dig (n : Nat) : dval (dig n).reverse = n := by
  induction n using Nat.strongRecOn with
  | ind n ih =>
    by_cases h : n = 0
    · subst h; rw [dig_zero]; rfl
    · rw [dig_pos n h, List.reverse_cons, dval_snoc, ih (n / 10) (by omega)]; omega
theorem dval_text (n : Nat) : dval (text n) = n := by
  unfold text; split
  · rename_i h; subst h; rfl
  · exact dval_rev_dig n
/-- Whether letters are a decimal text. -/
def isDec (l : List Int) : Bool := !l.isEmpty && (l.all fun c => decide (48 ≤ c) && decide (c ≤ 57)) && (decide (l.head? ≠ some 48) || decide (l = [48]))
theorem isDec_text (n : Nat) : isDec (text n) = true := by
  unfold text; split
  · decide
  · rename_i h
    have hr := dig_range n
    have hl := dig_last n
    have hne : dig n ≠ [] := by rw [dig_pos n h]; simp
    simp only [isDec, Bool.and_eq_true, Bool.or_eq_true, Bool.not_eq_true', List.isEmpty_eq_false_iff, List.all_eq_true, decide_eq_true_eq]
    refine ⟨⟨by simpa using hne, fun x hx => hr x (by simpa using hx)⟩, .inl ?_⟩
    rw [List.head?_reverse]; exact hl
theorem dig_dval {l : List Int} (hr : ∀ x ∈ l, 48 ≤ x ∧ x ≤ 57) (h0 : l.head? ≠ some 48) : (dig (dval l)).reverse = l := by
  induction l using snocInd with
  | h0 => simp [dval, dig_zero]
  | h1 l c ih =>
    have hc := hr c (by simp)
    have hl : ∀ x ∈ l, 48 ≤ x ∧ x ≤ 57 := fun x hx => hr x (by simp [hx])
    rw [dval_snoc]
    have hne : dval l * 10 + (c - 48).toNat ≠ 0 := by
      intro h
      have h1 : dval l = 0 := by omega
      have h2 : c = 48 := by omega
      cases l with
      | nil => subst h2; simp at h0
      | cons y ys =>
        have := ih hl (by simpa using h0)
        rw [h1, dig_zero] at this
        simp at this
    rw [dig_pos _ hne, List.reverse_cons]
    have e1 : (dval l * 10 + (c - 48).toNat) / 10 = dval l := by omega
    have e2 : (((48 + (dval l * 10 + (c - 48).toNat) % 10 : Nat)) : Int) = c := by omega
    rw [e1, e2]
    cases l with
    | nil => simp [dval, dig_zero]
    | cons y ys => rw [ih hl (by simpa using h0)]
theorem text_dval {l : List Int} (h : isDec l = true) : text (dval l) = l := by
  simp only [isDec, Bool.and_eq_true, Bool.or_eq_true, Bool.not_eq_true', List.isEmpty_eq_false_iff, List.all_eq_true, decide_eq_true_eq] at h
  obtain ⟨⟨hne, hr⟩, h1⟩ := h
  rcases h1 with h1 | h1
  · have hd := dig_dval (fun x hx => by simpa using hr x hx) h1
    unfold text; split
    · rename_i h0; rw [h0, dig_zero] at hd; simp at hd; exact absurd hd hne
    · exact hd
  · subst h1; rfl
theorem text_inj {a b : Nat} (h : text a = text b) : a = b := by rw [← dval_text a, h, dval_text]
theorem dval_lt {l : List Int} (hr : ∀ x ∈ l, 48 ≤ x ∧ x ≤ 57) : dval l < 10 ^ l.length := by
  induction l using snocInd with
  | h0 => simp [dval]
  | h1 l c ih =>
    have := ih (fun x hx => hr x (by simp [hx]))
    have hc := hr c (by simp)
    rw [dval_snoc, List.length_append, List.length_singleton, Nat.pow_succ]; omega
end Go.Proofs.YtegjhkjmejckdaaDoor.M

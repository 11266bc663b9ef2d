/- Plain mathematics of what the reference reads as a rational number. -/
import Derived.Test.YthfpkjeobdajiabGreatDoorR17
namespace Go.Proofs.YthfpkjeobdajiabGreatDoor
namespace M
open Go.Lib
/-- The integer that letters say, behind those that are read; -1 if one of them is no digit. -/
def numFrom : Int → List UInt8 → Int
  | n, [] => n
  | n, b :: r => if b.toNat < 48 ∨ 57 < b.toNat then -1 else numFrom (10 * n + ((b.toNat : Int) - 48)) r
def numR (l : List UInt8) : Int := if l.length = 0 ∨ 10 < l.length then -1 else numFrom 0 l
theorem numFrom_digit (n : Int) (k : Nat) (hk : k < 10) (r : List UInt8) : numFrom n (UInt8.ofNat (48 + k) :: r) = numFrom (10 * n + k) r := by
  have e : (UInt8.ofNat (48 + k)).toNat = 48 + k := by simp; omega
  simp only [numFrom, e]
  rw [if_neg (by omega)]
  congr 1; omega
theorem numFrom_digits (u : Nat) : ∀ r, numFrom 0 (decDigits u ++ r) = numFrom u r := by
  induction u using Nat.strongRecOn with
  | ind u ih =>
    intro r
    rw [decDigits]
    split
    · rename_i h
      rw [List.singleton_append, numFrom_digit 0 u h]; congr 1; omega
    · rw [List.append_assoc, ih (u / 10) (by omega), List.singleton_append, numFrom_digit _ _ (by omega)]; congr 1; omega
theorem numR_digits (u : Nat) (h : u ≤ 1000000000) : numR (decDigits u) = u := by
  have h1 := nDigits_le 9 u (by omega)
  have h2 := nDigits_pos u
  have h3 := decDigits_length u
  unfold numR
  rw [if_neg (by omega)]
  have := numFrom_digits u []
  rw [List.append_nil] at this
  rw [this]; rfl
theorem numFrom_bounds : ∀ (l : List UInt8) (n : Int), 0 ≤ n → -1 ≤ numFrom n l ∧ numFrom n l < (n + 1) * 10 ^ l.length := by
  intro l
  induction l with
  | nil => intro n h; simp only [numFrom, List.length_nil]; omega
  | cons b r ih =>
    intro n h
    have hb := b.toNat_lt
    have hp : (0 : Int) < 10 ^ r.length := Int.pow_pos (by decide)
    simp only [numFrom, List.length_cons]
    split
    · refine ⟨by omega, ?_⟩
      have : 0 < (n + 1) * 10 ^ (r.length + 1) := Int.mul_pos (by omega) (Int.pow_pos (by decide))
      omega
    · rename_i hd
      have h1 := ih (10 * n + ((b.toNat : Int) - 48)) (by omega)
      refine ⟨h1.1, Int.lt_of_lt_of_le h1.2 ?_⟩
      rw [Int.pow_succ, Int.mul_comm (10 ^ r.length) 10, ← Int.mul_assoc]
      exact Int.mul_le_mul_of_nonneg_right (by omega) (by omega)
theorem numR_bounds (l : List UInt8) : -1 ≤ numR l ∧ numR l < 10000000000 := by
  unfold numR
  split
  · omega
  · rename_i h
    have h1 := numFrom_bounds l 0 (by omega)
    have h2 : (10 : Int) ^ l.length ≤ 10 ^ 10 := by
      have : (10 : Nat) ^ l.length ≤ 10 ^ 10 := Nat.pow_le_pow_right (by omega) (by omega)
      exact_mod_cast this
    omega
theorem itoa_parts (n : Int) : itoa n = (if n < 0 then [45] else []) ++ decDigits n.natAbs := by
  unfold itoa
  split
  · rfl
  · rw [List.nil_append]; congr 1; omega
theorem digits_head (u : Nat) (r t : List UInt8) : decDigits u ++ r ≠ 45 :: t := by
  intro h
  have h1 := decDigits_all u
  have h2 := decDigits_ne u
  cases hd : decDigits u with
  | nil => exact h2 hd
  | cons b l =>
    rw [hd] at h h1
    have h3 := h1 b (by simp)
    simp only [List.cons_append, List.cons.injEq] at h
    rw [h.1] at h3
    simp at h3
theorem digits_no47 (u : Nat) : (47 : UInt8) ∉ decDigits u := by
  intro h
  have := decDigits_all _ _ h
  simp at this
/-- What is behind the sign. -/
def bodyL (n d : Int) : List UInt8 := decDigits n.natAbs ++ if d = 1 then [] else 47 :: itoa d
theorem textL_parts (n d : Int) : textL n d = (if n < 0 then [45] else []) ++ bodyL n d := by
  unfold textL bodyL
  by_cases hd : d = 1
  · rw [if_pos hd, if_pos hd, itoa_parts, List.append_nil]
  · rw [if_neg hd, if_neg hd, itoa_parts, List.append_assoc]
theorem slash_unique {a b a' b' : List UInt8} (h : a ++ 47 :: b = a' ++ 47 :: b') (ha : (47 : UInt8) ∉ a) (ha' : (47 : UInt8) ∉ a') : a = a' ∧ b = b' := by
  have h1 := cut_hit a b 47 ha
  have h2 := cut_hit a' b' 47 ha'
  rw [h, h2] at h1
  simp only [Prod.mk.injEq] at h1
  exact ⟨h1.1.symm, h1.2.1.symm⟩
/-- The sign and what is behind it are read back. -/
theorem sign_back {n d : Int} {neg : Bool} {t : List UInt8} (h : textL n d = (if neg then [45] else []) ++ t) (ht : neg = false → t.head? ≠ some 45) : neg = decide (n < 0) ∧ bodyL n d = t := by
  rw [textL_parts] at h
  by_cases hn : n < 0
  · rw [if_pos hn] at h
    cases neg with
    | true => simp only [if_true, List.singleton_append, List.cons.injEq, true_and] at h; exact ⟨by simp [hn], h⟩
    | false => simp only [List.singleton_append, Bool.false_eq_true, if_false, List.nil_append] at h; exact absurd (by rw [← h]; rfl) (ht rfl)
  · rw [if_neg hn] at h
    cases neg with
    | true => simp only [if_true, List.nil_append, List.singleton_append] at h; exact absurd h (digits_head _ _ _)
    | false => simp only [List.nil_append, Bool.false_eq_true, if_false] at h; exact ⟨by simp [hn], h⟩
theorem body_plain {n d : Int} {t : List UInt8} (hv : validQ n d = true) (h : bodyL n d = t) (ht : (47 : UInt8) ∉ t) : numR t = n.natAbs ∧ d = 1 := by
  have hb := validQ_bd _ _ hv
  have := hb.lo
  have := hb.hi
  unfold bodyL at h
  by_cases hd : d = 1
  · rw [if_pos hd, List.append_nil] at h
    rw [← h]; exact ⟨numR_digits _ (by omega), hd⟩
  · rw [if_neg hd] at h
    exact absurd (by rw [← h]; simp) ht
theorem body_slash {n d : Int} {a b : List UInt8} (hv : validQ n d = true) (h : bodyL n d = a ++ 47 :: b) (ha : (47 : UInt8) ∉ a) : numR a = n.natAbs ∧ numR b = d := by
  have hb := validQ_bd _ _ hv
  have := hb.lo
  have := hb.hi
  have := hb.pos
  have := hb.top
  unfold bodyL at h
  by_cases hd : d = 1
  · rw [if_pos hd, List.append_nil] at h
    exact absurd (by rw [h]; simp) (digits_no47 n.natAbs)
  · rw [if_neg hd] at h
    obtain ⟨h1, h2⟩ := slash_unique h (digits_no47 _) ha
    have e : itoa d = decDigits d.toNat := by unfold itoa; rw [if_neg (by omega)]
    rw [← h1, ← h2, e]
    exact ⟨numR_digits _ (by omega), by rw [numR_digits _ (by omega)]; omega⟩
theorem readQ_one {l : List UInt8} {n d : Int} (hc : ∀ n' d', validQ n' d' = true → textL n' d' = l → n' = n ∧ d' = d) : readQ l = if validQ n d = true ∧ textL n d = l then ⟨n, d, 0⟩ else ⟨0, 0, 8⟩ := by
  split
  · rename_i h
    rw [← h.2]; exact readQ_text n d h.1
  · rename_i h
    refine readQ_err fun he => h ?_
    obtain ⟨n', d', e'⟩ : ∃ n' d', readQ l = ⟨n', d', 0⟩ := ⟨(readQ l).n, (readQ l).d, by rw [← he]⟩
    obtain ⟨h1, h2⟩ := readQ_ok e'
    obtain ⟨rfl, rfl⟩ := hc _ _ h1 h2
    exact ⟨h1, h2⟩
theorem readQ_none {l : List UInt8} (hc : ∀ n' d', validQ n' d' = true → textL n' d' = l → False) : readQ l = ⟨0, 0, 8⟩ := by
  refine readQ_err fun he => ?_
  obtain ⟨n', d', e'⟩ : ∃ n' d', readQ l = ⟨n', d', 0⟩ := ⟨(readQ l).n, (readQ l).d, by rw [← he]⟩
  obtain ⟨h1, h2⟩ := readQ_ok e'
  exact hc _ _ h1 h2
/-- The number that is read: the sign's, without a slash, or with one. -/
def withSign (neg : Bool) (n : Int) : Int := if neg then -n else n
theorem cand_plain {neg : Bool} {t l : List UInt8} (hl : l = (if neg then [45] else []) ++ t) (ht : neg = false → t.head? ≠ some 45) (h47 : (47 : UInt8) ∉ t) (n d : Int) (hv : validQ n d = true) (h : textL n d = l) :
    0 ≤ numR t ∧ n = withSign neg (numR t) ∧ d = 1 := by
  rw [hl] at h
  obtain ⟨h1, h2⟩ := sign_back h ht
  obtain ⟨h3, h4⟩ := body_plain hv h2 h47
  refine ⟨by omega, ?_, h4⟩
  rw [h3, h1]
  unfold withSign
  by_cases hn : n < 0
  · simp [hn]; omega
  · simp [hn]; omega
theorem cand_slash {neg : Bool} {a b l : List UInt8} (hl : l = (if neg then [45] else []) ++ (a ++ 47 :: b)) (ht : neg = false → (a ++ 47 :: b).head? ≠ some 45) (h47 : (47 : UInt8) ∉ a) (n d : Int) (hv : validQ n d = true) (h : textL n d = l) :
    0 ≤ numR a ∧ 0 ≤ numR b ∧ n = withSign neg (numR a) ∧ d = numR b := by
  rw [hl] at h
  obtain ⟨h1, h2⟩ := sign_back h ht
  obtain ⟨h3, h4⟩ := body_slash hv h2 h47
  have hb := validQ_bd _ _ hv
  have := hb.pos
  refine ⟨by omega, by omega, ?_, h4.symm⟩
  rw [h3, h1]
  unfold withSign
  by_cases hn : n < 0
  · simp [hn]; omega
  · simp [hn]; omega
end M
end Go.Proofs.YthfpkjeobdajiabGreatDoor

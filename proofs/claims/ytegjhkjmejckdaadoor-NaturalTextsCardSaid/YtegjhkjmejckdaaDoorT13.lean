/- plain facts of texts. -/
import Derived.Test.YtegjhkjmejckdaaDoorT12
import Derived.Test.YtegjhkjmejckdaaDoorXMath
namespace Go.Proofs.YtegjhkjmejckdaaDoor
open Go.RowKit M
theorem letters_tx (a : Nat) : letters (tx a) = text a := by
  unfold letters tx strOfNums
  simp only [List.toList_toArray, List.map_map]
  conv => rhs; rw [← List.map_id (text a)]
  refine List.map_congr_left fun x hx => ?_
  have := text_range a x hx
  simp only [Function.comp, id]
  rw [UInt8.toNat_ofNat']
  omega
theorem tx_toList (a : Nat) : (tx a).toList = (text a).map byteOf := by
  rw [ByteArray.toList_eq]
  unfold tx strOfNums
  simp only [List.toList_toArray]
  rfl
theorem tx_size (a : Nat) : (tx a).size = (text a).length := by
  unfold tx strOfNums
  simp [ByteArray.size]
theorem str_letters (s : ByteArray) : strOfNums (letters s) = s := by
  apply ByteArray.ext
  unfold strOfNums letters
  simp only [List.map_map]
  have : (s.data.toList.map ((fun n : Int => UInt8.ofNat n.toNat) ∘ fun b : UInt8 => (b.toNat : Int))) = s.data.toList := by
    conv => rhs; rw [← List.map_id s.data.toList]
    refine List.map_congr_left fun x _ => ?_
    simp
  rw [this]
theorem tx_dval {s : ByteArray} (h : isDec (letters s) = true) : tx (dval (letters s)) = s := by
  unfold tx; rw [text_dval h, str_letters]
theorem text_ge {a : Nat} (h : a ≠ 0) : 10 ^ ((text a).length - 1) ≤ a := by
  have hb := isDec_text a
  simp only [isDec, Bool.and_eq_true, Bool.or_eq_true, Bool.not_eq_true', List.isEmpty_eq_false_iff, List.all_eq_true, decide_eq_true_eq] at hb
  have r := text_range a
  have v := dval_text a
  cases hl : text a with
  | nil => rw [hl] at hb; exact absurd rfl hb.1.1
  | cons c l =>
    rw [hl] at hb r v
    rcases hb.2 with k | k
    · have hc := r c (by simp)
      have : c ≠ 48 := by simpa using k
      rw [dval_cons] at v
      have p2 : 1 * 10 ^ l.length ≤ (c - 48).toNat * 10 ^ l.length := Nat.mul_le_mul_right _ (by omega)
      have e : (c :: l).length - 1 = l.length := by simp
      rw [e]
      omega
    · rw [k] at v
      exact absurd v.symm h
theorem len_bound (k : Nat) {a : Nat} (h : (a : Int) < pw k) (h0 : a ≠ 0) : (text a).length - 1 < 10 * k := by
  have h1 := text_ge h0
  have e : pw k = ((4294967296 ^ k : Nat) : Int) := by unfold pw; exact (Int.natCast_pow 4294967296 k).symm
  rw [e] at h
  have h2 : a < 4294967296 ^ k := Int.ofNat_lt.1 h
  have h3 : (4294967296 : Nat) ^ k ≤ (10 ^ 10) ^ k := Nat.pow_le_pow_left (by decide) k
  rw [← Nat.pow_mul] at h3
  exact (Nat.pow_lt_pow_iff_right (by decide)).1 (Nat.lt_of_lt_of_le (Nat.lt_of_le_of_lt h1 h2) h3)
theorem tx_bound {a : Nat} (h : Fits a) : (tx a).size ≤ 6401 := by
  rw [tx_size]
  by_cases h0 : a = 0
  · subst h0; decide
  · have := len_bound 640 h.lt h0
    omega
theorem tx_small {a : Nat} (h : Fits a) : (tx a).size ≤ maxLen := by
  have := tx_bound h
  unfold maxLen
  omega
end Go.Proofs.YtegjhkjmejckdaaDoor

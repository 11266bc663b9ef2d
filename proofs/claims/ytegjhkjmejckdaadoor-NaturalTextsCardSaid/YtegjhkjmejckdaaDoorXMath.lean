/- decimal texts: a digit more, and their order. -/
import Derived.Test.YtegjhkjmejckdaaDoorTMath
import GoSem.Op.String
namespace Go.Proofs.YtegjhkjmejckdaaDoor
open M
theorem text_push {a d : Nat} (h : a ≠ 0) (hd : d ≤ 9) : text (a * 10 + d) = text a ++ [((48 + d : Nat) : Int)] := by
  have hne : a * 10 + d ≠ 0 := by omega
  have e1 : (a * 10 + d) % 10 = d := by omega
  have e2 : (a * 10 + d) / 10 = a := by omega
  simp only [text, if_neg h, if_neg hne]
  rw [dig_pos _ hne, e1, e2, List.reverse_cons]
theorem dval_cons (c : Int) (l : List Int) : dval (c :: l) = (c - 48).toNat * 10 ^ l.length + dval l := by
  have := dval_append [c] l
  simpa [dval] using this
/-- The byte of a letter. -/
def byteOf (c : Int) : UInt8 := UInt8.ofNat c.toNat
theorem byteOf_nat {c : Int} (h : 48 ≤ c ∧ c ≤ 57) : (byteOf c).toNat = c.toNat := by
  unfold byteOf; rw [UInt8.toNat_ofNat']; omega
theorem lex_digits : ∀ (l m : List Int), l.length = m.length → (∀ x ∈ l, 48 ≤ x ∧ x ≤ 57) → (∀ x ∈ m, 48 ≤ x ∧ x ≤ 57) → Op.bytesLess (l.map byteOf) (m.map byteOf) = decide (dval l < dval m)
  | [], [], _, _, _ => rfl
  | c :: l, d :: m, hl, h1, h2 => by
    have hc := h1 c (by simp)
    have hd := h2 d (by simp)
    have hlen : l.length = m.length := by simpa using hl
    have r1 : ∀ x ∈ l, 48 ≤ x ∧ x ≤ 57 := fun x hx => h1 x (by simp [hx])
    have r2 : ∀ x ∈ m, 48 ≤ x ∧ x ≤ 57 := fun x hx => h2 x (by simp [hx])
    have ih := lex_digits l m hlen r1 r2
    have b1 := dval_lt r1
    have b2 := dval_lt r2
    rw [← hlen] at b2
    simp only [List.map_cons, Op.bytesLess, ih]
    rw [dval_cons, dval_cons, ← hlen]
    have t1 := byteOf_nat hc
    have t2 := byteOf_nat hd
    rcases Int.lt_trichotomy c d with h | h | h
    · have e : byteOf c < byteOf d := by rw [UInt8.lt_iff_toNat_lt, t1, t2]; omega
      have hm : ((c - 48).toNat + 1) * 10 ^ l.length ≤ (d - 48).toNat * 10 ^ l.length := Nat.mul_le_mul_right _ (by omega)
      rw [Nat.add_mul, Nat.one_mul] at hm
      have : (c - 48).toNat * 10 ^ l.length + dval l < (d - 48).toNat * 10 ^ l.length + dval m := by omega
      simp [e, this]
    · subst h
      have e : ¬ byteOf c < byteOf c := by rw [UInt8.lt_iff_toNat_lt]; omega
      simp [e]
    · have e : ¬ byteOf c < byteOf d := by rw [UInt8.lt_iff_toNat_lt, t1, t2]; omega
      have e2 : (byteOf c == byteOf d) = false := beq_eq_false_iff_ne.2 fun k => by
        have := congrArg UInt8.toNat k
        rw [t1, t2] at this; omega
      have hm : ((d - 48).toNat + 1) * 10 ^ l.length ≤ (c - 48).toNat * 10 ^ l.length := Nat.mul_le_mul_right _ (by omega)
      rw [Nat.add_mul, Nat.one_mul] at hm
      have : ¬ (c - 48).toNat * 10 ^ l.length + dval l < (d - 48).toNat * 10 ^ l.length + dval m := by omega
      simp [e, e2, this]
theorem text_range (a : Nat) : ∀ x ∈ text a, 48 ≤ x ∧ x ≤ 57 := by
  have h := isDec_text a
  simp only [isDec, Bool.and_eq_true, List.all_eq_true, decide_eq_true_eq] at h
  exact fun x hx => h.1.2 x hx
theorem text_len_lt {a b : Nat} (h : (text a).length < (text b).length) : a < b := by
  have ha := dval_lt (text_range a)
  rw [dval_text] at ha
  have hb := isDec_text b
  simp only [isDec, Bool.and_eq_true, Bool.or_eq_true, Bool.not_eq_true', List.isEmpty_eq_false_iff, List.all_eq_true, decide_eq_true_eq] at hb
  have h0 : (text a).length ≠ 0 := by
    have := isDec_text a
    simp only [isDec, Bool.and_eq_true, Bool.not_eq_true', List.isEmpty_eq_false_iff] at this
    intro e; exact this.1.1 (List.length_eq_zero_iff.1 e)
  have r := text_range b
  have v := dval_text b
  cases hl : text b with
  | nil => rw [hl] at h; simp at h
  | cons c l =>
    rw [hl] at h hb r v
    rcases hb.2 with k | k
    · have hc := r c (by simp)
      have : c ≠ 48 := by simpa using k
      rw [dval_cons] at v
      have p1 : 10 ^ (text a).length ≤ 10 ^ l.length := Nat.pow_le_pow_right (by omega) (by simp at h; omega)
      have p2 : 1 * 10 ^ l.length ≤ (c - 48).toNat * 10 ^ l.length := Nat.mul_le_mul_right _ (by omega)
      omega
    · rw [k, List.length_singleton] at h; omega
theorem text_order (a b : Nat) : ((text a).length < (text b).length ∨ ((text a).length = (text b).length ∧ Op.bytesLess ((text a).map byteOf) ((text b).map byteOf) = true)) ↔ a < b := by
  constructor
  · rintro (h | ⟨h, k⟩)
    · exact text_len_lt h
    · rw [lex_digits _ _ h (text_range a) (text_range b)] at k
      simpa [dval_text] using k
  · intro h
    rcases Nat.lt_trichotomy (text a).length (text b).length with k | k | k
    · exact Or.inl k
    · refine Or.inr ⟨k, ?_⟩
      rw [lex_digits _ _ k (text_range a) (text_range b)]
      simpa [dval_text] using h
    · have := text_len_lt k; omega
end Go.Proofs.YtegjhkjmejckdaaDoor

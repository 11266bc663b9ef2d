/- natural: slices that come in; texts. -/
import Derived.Test.YthfpkjeobdajiaaDoorT10
import Derived.Test.YthfpkjeobdajiaaDoorNB
import GoSem.Op.String
namespace Go.Proofs.YthfpkjeobdajiaaDoor
open Go.RowKit M
theorem row_rd {w : World} {a : Option Addr} {len cap : Nat} {zs : List Int}
    (h : (a = none ∧ len = 0 ∧ cap = 0 ∧ zs = []) ∨ ∃ x, a = some x ∧ len ≤ cap ∧ cap ≤ maxLen ∧ zs.length = cap ∧ (∀ i, i < zs.length → w.cell? (x.add i) = some (.int .u32 (zs.getD i 0))) ∧ ∀ n ∈ zs, (Lit.int .u32 n).wf = true) :
    ∃ l, Rd w (.slice a len cap) l ∧ l.length = len ∧ CellsK .u32 w a l := by
  rcases h with ⟨rfl, rfl, rfl, rfl⟩ | ⟨x, rfl, hl, hm, hz, hc, hw⟩
  · exact ⟨[], Rd.nil w, rfl, CellsK.nil⟩
  · have hlen : (zs.take len).length = len := by rw [List.length_take]; omega
    have hcells : CellsK .u32 w (some x) (zs.take len) := by
      intro hne
      have hpos : 0 < (zs.take len).length := List.length_pos_iff.2 hne
      have h0 := hc 0 (by omega)
      refine ⟨x, rfl, ?_, fun i hi => ?_⟩
      · rw [add_zero_addr] at h0
        cases hh : w.heap[x.block]? with
        | none => simp only [World.cell?, hh] at h0; cases h0
        | some o => exact (Array.getElem?_eq_some_iff.1 hh).1
      · rw [hc i (by omega)]
        simp [List.getD, List.getElem?_take, show i < len from by omega]
    have hok : Ok (zs.take len) := fun y hy => by
      have := hw y (List.mem_of_mem_take hy)
      simp [Lit.wf, IntKind.min, IntKind.max, IntKind.signed, IntKind.bits] at this
      omega
    exact ⟨zs.take len, ⟨hok, some x, cap, by rw [hlen], by omega, hm, hcells⟩, hlen, hcells⟩
/-- A slice that came in is a number, or it is none. -/
theorem row_cases {w : World} {a : Option Addr} {len cap : Nat} {zs : List Int}
    (h : (a = none ∧ len = 0 ∧ cap = 0 ∧ zs = []) ∨ ∃ x, a = some x ∧ len ≤ cap ∧ cap ≤ maxLen ∧ zs.length = cap ∧ (∀ i, i < zs.length → w.cell? (x.add i) = some (.int .u32 (zs.getD i 0))) ∧ ∀ n ∈ zs, (Lit.int .u32 n).wf = true) :
    (∃ n, Nm w (.slice a len cap) n) ∨ ∀ w', Below w.heap.size w w' → Calls Tryd.prog 5 #[.slice a len cap] w' fun e w2 => e = .returned (.bool false) ∧ w' = w2 := by
  obtain ⟨l, hr, hl, hc⟩ := row_rd h
  by_cases hn : isNat l = true
  · obtain ⟨n, hlt, rfl⟩ := (isNat_iff hr.ok).1 hn
    exact Or.inl ⟨n, ⟨hlt⟩, hr⟩
  · refine Or.inr fun w' hb => ?_
    have := valid_any a l len cap w' hl (hc.keep hb)
    rwa [show isNat l = false by simpa using hn] at this
end Go.Proofs.YthfpkjeobdajiaaDoor
namespace Go.Proofs.YthfpkjeobdajiaaDoor
open M
theorem text_push {a d : Nat} (h : a ≠ 0) (hd : d ≤ 9) : text (a * 10 + d) = text a ++ [((48 + d : Nat) : Int)] := by
  have hne : a * 10 + d ≠ 0 := by omega
  have e1 : (a * 10 + d) % 10 = d := by omega
  have e2 : (a * 10 + d) / 10 = a := by omega
  simp only [text, if_neg h, if_neg hne]
  rw [dig_pos _ hne, e1, e2, List.reverse_cons]
theorem dval_cons (c : Int) (l : List Int) : dval (c :: l) = (c - 48).toNat * 10 ^ l.length + dval l := by
  have := dval_append [c] l
  simpa [dval] using this
/-- The byte of a letter. -/
def byteOf (c : Int) : UInt8 := UInt8.ofNat c.toNat
theorem byteOf_nat {c : Int} (h : 48 ≤ c ∧ c ≤ 57) : (byteOf c).toNat = c.toNat := by
  unfold byteOf; rw [UInt8.toNat_ofNat']; omega
theorem lex_digits : ∀ (l m : List Int), l.length = m.length → (∀ x ∈ l, 48 ≤ x ∧ x ≤ 57) → (∀ x ∈ m, 48 ≤ x ∧ x ≤ 57) → Op.bytesLess (l.map byteOf) (m.map byteOf) = decide (dval l < dval m)
  | [], [], _, _, _ => rfl
  | c :: l, d :: m, hl, h1, h2 => by
    have hc := h1 c (by simp)
    have hd := h2 d (by simp)
    have hlen : l.length = m.length := by simpa using hl
    have r1 : ∀ x ∈ l, 48 ≤ x ∧ x ≤ 57 := fun x hx => h1 x (by simp [hx])
    have r2 : ∀ x ∈ m, 48 ≤ x ∧ x ≤ 57 := fun x hx => h2 x (by simp [hx])
    have ih := lex_digits l m hlen r1 r2
    have b1 := dval_lt r1
    have b2 := dval_lt r2
    rw [← hlen] at b2
    simp only [List.map_cons, Op.bytesLess, ih]
    rw [dval_cons, dval_cons, ← hlen]
    have t1 := byteOf_nat hc
    have t2 := byteOf_nat hd
    rcases Int.lt_trichotomy c d with h | h | h
    · have e : byteOf c < byteOf d := by rw [UInt8.lt_iff_toNat_lt, t1, t2]; omega
      have hm : ((c - 48).toNat + 1) * 10 ^ l.length ≤ (d - 48).toNat * 10 ^ l.length := Nat.mul_le_mul_right _ (by omega)
      rw [Nat.add_mul, Nat.one_mul] at hm
      have : (c - 48).toNat * 10 ^ l.length + dval l < (d - 48).toNat * 10 ^ l.length + dval m := by omega
      simp [e, this]
    · subst h
      have e : ¬ byteOf c < byteOf c := by rw [UInt8.lt_iff_toNat_lt]; omega
      simp [e]
    · have e : ¬ byteOf c < byteOf d := by rw [UInt8.lt_iff_toNat_lt, t1, t2]; omega
      have e2 : (byteOf c == byteOf d) = false := beq_eq_false_iff_ne.2 fun k => by
        have := congrArg UInt8.toNat k
        rw [t1, t2] at this; omega
      have hm : ((d - 48).toNat + 1) * 10 ^ l.length ≤ (c - 48).toNat * 10 ^ l.length := Nat.mul_le_mul_right _ (by omega)
      rw [Nat.add_mul, Nat.one_mul] at hm
      have : ¬ (c - 48).toNat * 10 ^ l.length + dval l < (d - 48).toNat * 10 ^ l.length + dval m := by omega
      simp [e, e2, this]
theorem text_range (a : Nat) : ∀ x ∈ text a, 48 ≤ x ∧ x ≤ 57 := by
  have h := isDec_text a
  simp only [isDec, Bool.and_eq_true, List.all_eq_true, decide_eq_true_eq] at h
  exact fun x hx => h.1.2 x hx
theorem text_len_lt {a b : Nat} (h : (text a).length < (text b).length) : a < b := by
  have ha := dval_lt (text_range a)
  rw [dval_text] at ha
  have hb := isDec_text b
  simp only [isDec, Bool.and_eq_true, Bool.or_eq_true, Bool.not_eq_true', List.isEmpty_eq_false_iff, List.all_eq_true, decide_eq_true_eq] at hb
  have h0 : (text a).length ≠ 0 := by
    have := isDec_text a
    simp only [isDec, Bool.and_eq_true, Bool.not_eq_true', List.isEmpty_eq_false_iff] at this
    intro e; exact this.1.1 (List.length_eq_zero_iff.1 e)
  have r := text_range b
  have v := dval_text b
  cases hl : text b with
  | nil => rw [hl] at h; simp at h
  | cons c l =>
    rw [hl] at h hb r v
    rcases hb.2 with k | k
    · have hc := r c (by simp)
      have : c ≠ 48 := by simpa using k
      rw [dval_cons] at v
      have p1 : 10 ^ (text a).length ≤ 10 ^ l.length := Nat.pow_le_pow_right (by omega) (by simp at h; omega)
      have p2 : 1 * 10 ^ l.length ≤ (c - 48).toNat * 10 ^ l.length := Nat.mul_le_mul_right _ (by omega)
      omega
    · rw [k, List.length_singleton] at h; omega
theorem text_order (a b : Nat) : ((text a).length < (text b).length ∨ ((text a).length = (text b).length ∧ Op.bytesLess ((text a).map byteOf) ((text b).map byteOf) = true)) ↔ a < b := by
  constructor
  · rintro (h | ⟨h, k⟩)
    · exact text_len_lt h
    · rw [lex_digits _ _ h (text_range a) (text_range b)] at k
      simpa [dval_text] using k
  · intro h
    rcases Nat.lt_trichotomy (text a).length (text b).length with k | k | k
    · exact Or.inl k
    · refine Or.inr ⟨k, ?_⟩
      rw [lex_digits _ _ k (text_range a) (text_range b)]
      simpa [dval_text] using h
    · have := text_len_lt k; omega
end Go.Proofs.YthfpkjeobdajiaaDoor
namespace Go.Proofs.YthfpkjeobdajiaaDoor
open Go.RowKit M
/-- What a call leaves, whatever number and code it is. -/
def StepV (w : World) (L : List (Value × Nat)) (e : Ending) (w' : World) : Prop := ∃ v s c, e = .returned (.tuple #[v, .int .i64 c]) ∧ Live w' ((v, s) :: L) ∧ Below w.heap.size w w'
theorem mul_var {w : World} {L : List (Value × Nat)} {va vb : Value} {a b : Nat} (hL : Live w L) (ha : (va, a) ∈ L) (hb : (vb, b) ∈ L) : Calls Tryd.prog 14 #[va, vb] w (StepV w L) := by
  rcases fits_or (a * b) with h | h
  · exact (mul_ok hL ha hb h).mono fun _ _ ⟨v, he, hl, hb⟩ => ⟨v, _, _, he, hl, hb⟩
  · exact (mul_big hL ha hb h).mono fun _ _ ⟨v, he, hl, hb⟩ => ⟨v, _, _, he, hl, hb⟩
theorem add_var {w : World} {L : List (Value × Nat)} {va vb : Value} {a b : Nat} (hL : Live w L) (ha : (va, a) ∈ L) (hb : (vb, b) ∈ L) : Calls Tryd.prog 10 #[va, vb] w (StepV w L) := by
  rcases fits_or (a + b) with h | h
  · exact (add_ok hL ha hb h).mono fun _ _ ⟨v, he, hl, hb⟩ => ⟨v, _, _, he, hl, hb⟩
  · exact (add_over hL ha hb h).mono fun _ _ ⟨v, he, hl, hb⟩ => ⟨v, _, _, he, hl, hb⟩
theorem pow_var {w : World} {L : List (Value × Nat)} {va : Value} {a : Nat} (x : Nat) (hL : Live w L) (ha : (va, a) ∈ L) (hx : x < 2 ^ 63) : Calls Tryd.prog 18 #[va, .int .i64 x] w (StepV w L) := by
  rcases fits_or (a ^ x) with h | h
  · exact (pow_ok x hL ha hx h).mono fun _ _ ⟨v, he, hl, hb⟩ => ⟨v, _, _, he, hl, hb⟩
  · exact (pow_over x hL ha hx h).mono fun _ _ ⟨v, he, hl, hb⟩ => ⟨v, _, _, he, hl, hb⟩
theorem len_zero : (((limbs 0).length : Int) == 0) = true := by rw [limbs_zero]; rfl
theorem len_pos {a : Nat} (h : a ≠ 0) : (((limbs a).length : Int) == 0) = false := by
  have : (limbs a).length ≠ 0 := fun e => h (limbs_nil.1 (List.length_eq_zero_iff.1 e))
  exact beq_eq_false_iff_ne.2 (by omega)
end Go.Proofs.YthfpkjeobdajiaaDoor
namespace Go.Proofs.YthfpkjeobdajiaaDoor
open Go.RowKit M
theorem letters_tx (a : Nat) : letters (tx a) = text a := by
  unfold letters tx strOfNums
  simp only [List.toList_toArray, List.map_map]
  conv => rhs; rw [← List.map_id (text a)]
  refine List.map_congr_left fun x hx => ?_
  have := text_range a x hx
  simp only [Function.comp, id]
  rw [UInt8.toNat_ofNat']
  omega
theorem tx_toList (a : Nat) : (tx a).toList = (text a).map byteOf := by
  rw [ByteArray.toList_eq]
  unfold tx strOfNums
  simp only [List.toList_toArray]
  rfl
theorem tx_size (a : Nat) : (tx a).size = (text a).length := by
  unfold tx strOfNums
  simp [ByteArray.size]
theorem str_letters (s : ByteArray) : strOfNums (letters s) = s := by
  apply ByteArray.ext
  unfold strOfNums letters
  simp only [List.map_map]
  have : (s.data.toList.map ((fun n : Int => UInt8.ofNat n.toNat) ∘ fun b : UInt8 => (b.toNat : Int))) = s.data.toList := by
    conv => rhs; rw [← List.map_id s.data.toList]
    refine List.map_congr_left fun x _ => ?_
    simp
  rw [this]
theorem tx_dval {s : ByteArray} (h : isDec (letters s) = true) : tx (dval (letters s)) = s := by
  unfold tx; rw [text_dval h, str_letters]
theorem text_ge {a : Nat} (h : a ≠ 0) : 10 ^ ((text a).length - 1) ≤ a := by
  have hb := isDec_text a
  simp only [isDec, Bool.and_eq_true, Bool.or_eq_true, Bool.not_eq_true', List.isEmpty_eq_false_iff, List.all_eq_true, decide_eq_true_eq] at hb
  have r := text_range a
  have v := dval_text a
  cases hl : text a with
  | nil => rw [hl] at hb; exact absurd rfl hb.1.1
  | cons c l =>
    rw [hl] at hb r v
    rcases hb.2 with k | k
    · have hc := r c (by simp)
      have : c ≠ 48 := by simpa using k
      rw [dval_cons] at v
      have p2 : 1 * 10 ^ l.length ≤ (c - 48).toNat * 10 ^ l.length := Nat.mul_le_mul_right _ (by omega)
      have e : (c :: l).length - 1 = l.length := by simp
      rw [e]
      omega
    · rw [k] at v
      exact absurd v.symm h
theorem len_bound (k : Nat) {a : Nat} (h : (a : Int) < pw k) (h0 : a ≠ 0) : (text a).length - 1 < 10 * k := by
  have h1 := text_ge h0
  have e : pw k = ((4294967296 ^ k : Nat) : Int) := by unfold pw; exact (Int.natCast_pow 4294967296 k).symm
  rw [e] at h
  have h2 : a < 4294967296 ^ k := Int.ofNat_lt.1 h
  have h3 : (4294967296 : Nat) ^ k ≤ (10 ^ 10) ^ k := Nat.pow_le_pow_left (by decide) k
  rw [← Nat.pow_mul] at h3
  exact (Nat.pow_lt_pow_iff_right (by decide)).1 (Nat.lt_of_lt_of_le (Nat.lt_of_le_of_lt h1 h2) h3)
theorem tx_bound {a : Nat} (h : Fits a) : (tx a).size ≤ 6401 := by
  rw [tx_size]
  by_cases h0 : a = 0
  · subst h0; decide
  · have := len_bound 640 h.lt h0
    omega
theorem tx_small {a : Nat} (h : Fits a) : (tx a).size ≤ maxLen := by
  have := tx_bound h
  unfold maxLen
  omega
end Go.Proofs.YthfpkjeobdajiaaDoor

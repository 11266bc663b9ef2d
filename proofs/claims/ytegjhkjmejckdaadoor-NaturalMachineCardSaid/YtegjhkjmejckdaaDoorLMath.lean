/- Plain arithmetic of the whole long division. -/
import Derived.Test.YtegjhkjmejckdaaDoorDMath
namespace Go.Proofs.YtegjhkjmejckdaaDoor.M
/-- A part of a list whose value is small has the value of the list. -/
theorem val_take_of_lt {L : List Int} {n : Nat} (hL : Ok L) (h : val L < pw n) : val (L.take n) = val L ∧ ∀ m, n ≤ m → val (L.drop m) = 0 := by
  have key : ∀ m, n ≤ m → val (L.drop m) = 0 := by
    intro m hm
    have h0 := val_nonneg (hL.drop m)
    by_cases e : val (L.drop m) = 0
    · exact e
    · exfalso
      have h1 : val L = val (L.take m) + pw (L.take m).length * val (L.drop m) := by
        conv => lhs; rw [← List.take_append_drop m L]
        rw [val_append]
      by_cases hl : L.length ≤ m
      · rw [List.drop_eq_nil_of_le hl] at e; exact e rfl
      · rw [List.length_take, Nat.min_eq_left (by omega)] at h1
        have h2 := val_nonneg (hL.take m)
        have h3 := pw_le hm
        have h4 := pw_pos m
        have h5 : pw m * 1 ≤ pw m * val (L.drop m) := Int.mul_le_mul_of_nonneg_left (by omega) (by omega)
        omega
  refine ⟨?_, key⟩
  have h1 : val L = val (L.take n) + pw (L.take n).length * val (L.drop n) := by
    conv => lhs; rw [← List.take_append_drop n L]
    rw [val_append]
  rw [key n (Nat.le_refl _), Int.mul_zero, Int.add_zero] at h1
  exact h1.symm
/-- The divisor, shifted so that its highest bit is set: its highest limb but one is above 0, the one above is 0. -/
theorem shifted_top {B RB : List Int} {n s t : Nat} {top : Int} (hB : Ok B) (hRB : Ok RB) (hn : B.length = n + 1) (hRn : RB.length = n + 2) (htop : B.getD n 0 = top) (h1 : 1 ≤ top) (hbl : top < 2 ^ t) (hst : s + t = 32)
    (hv : val RB = val B * 2 ^ s) : val RB < pw (n + 1) ∧ 0 < (RB.take (n + 1)).getD n 0 := by
  have hp : (0 : Int) < 2 ^ s := Int.pow_pos (by omega)
  have e32 : (2 : Int) ^ t * 2 ^ s = 4294967296 := by rw [← Int.pow_add, show t + s = 32 from by omega]; rfl
  have hB2 : val B = val (B.take n) + pw n * top := by
    have e := val_take_succ B n (by omega)
    rw [List.take_of_length_le (by omega), htop] at e; exact e
  have hl := val_lt (hB.take n)
  rw [List.length_take, Nat.min_eq_left (by omega)] at hl
  have hl0 := val_nonneg (hB.take n)
  have hpn := pw_pos n
  have hlt : val RB < pw (n + 1) := by
    have a1 : pw n * (top + 1) ≤ pw n * 2 ^ t := Int.mul_le_mul_of_nonneg_left (by omega) (by omega)
    rw [Int.mul_add, Int.mul_one] at a1
    have a2 : val B < pw n * 2 ^ t := by omega
    have a3 : val B * 2 ^ s < pw n * 2 ^ t * 2 ^ s := Int.mul_lt_mul_of_pos_right a2 hp
    rw [Int.mul_assoc, e32] at a3
    rw [hv, pw_succ, Int.mul_comm 4294967296]; exact a3
  refine ⟨hlt, ?_⟩
  have hD := (val_take_of_lt hRB hlt).1
  have hDok := hRB.take (n + 1)
  have hDlen : (RB.take (n + 1)).length = n + 1 := by rw [List.length_take]; omega
  have hD2 : val (RB.take (n + 1)) = val ((RB.take (n + 1)).take n) + pw n * (RB.take (n + 1)).getD n 0 := by
    have e := val_take_succ (RB.take (n + 1)) n (by omega)
    rw [List.take_of_length_le (show (RB.take (n + 1)).length ≤ n + 1 by omega)] at e; exact e
  have hlo := val_lt (hDok.take n)
  rw [List.length_take, hDlen, Nat.min_eq_left (by omega)] at hlo
  have h0 := (hDok.getD n).1
  by_cases e : (RB.take (n + 1)).getD n 0 = 0
  · exfalso
    rw [e, Int.mul_zero, Int.add_zero] at hD2
    have a1 : pw n * 1 ≤ pw n * top := Int.mul_le_mul_of_nonneg_left h1 (by omega)
    have a2 : val B * 1 ≤ val B * 2 ^ s := Int.mul_le_mul_of_nonneg_left (by omega) (by omega)
    omega
  · omega
/-- The long division with k limbs of the quotient still to come. -/
def LdRel (RA D : List Int) (k : Nat) (R Q : List Int) : Prop := R.length = RA.length ∧ val R + val D * (pw k * val Q) = val RA ∧ val R < pw k * val D
theorem ldRel_step {RA D R Q R' C : List Int} {k n : Nat} {t : Int} (hR : Ok R) (hR' : Ok R') (hD : Ok D) (hDn : D.length = n) (hDpos : 0 < val D) (h : LdRel RA D (k + 1) R Q) (hkn : k + n + 1 ≤ R.length)
    (ht : t = val ((R.drop k).take (n + 1)) / val D) (hw : Win R k (n + 1) C R') (hC : val C = val ((R.drop k).take (n + 1)) % val D) : LdRel RA D k R' (t :: Q) := by
  obtain ⟨h1, h2, h3⟩ := h
  have hlen := hw.len (by omega)
  have hz : val (R.drop (k + (n + 1))) = 0 := by
    refine (val_take_of_lt (n := k + 1 + n) hR ?_).2 _ (by omega)
    have a1 := val_lt hD
    rw [hDn] at a1
    have a2 : pw (k + 1) * val D ≤ pw (k + 1) * pw n := Int.mul_le_mul_of_nonneg_left (by omega) (by have := pw_pos (k + 1); omega)
    rw [← pw_add] at a2
    omega
  have hvR := val_win R k (n + 1) (by omega)
  have hvR' := hw.val (by omega)
  rw [hz, Int.mul_zero, Int.add_zero] at hvR hvR'
  have he := Int.emod_add_mul_ediv (val ((R.drop k).take (n + 1))) (val D)
  rw [← ht, ← hC] at he
  have hclt := Int.emod_lt_of_pos (val ((R.drop k).take (n + 1))) hDpos
  rw [← hC] at hclt
  generalize val ((R.drop k).take (n + 1)) = V at *
  refine ⟨hlen.trans h1, ?_, ?_⟩
  · have e1 : val D * (pw k * val (t :: Q)) = pw k * (val D * t) + val D * (pw (k + 1) * val Q) := by
      simp only [val]
      rw [Int.mul_add (pw k), Int.mul_add (val D), Int.mul_left_comm (val D) (pw k) t, pw_succ, Int.mul_left_comm (pw k) 4294967296, Int.mul_assoc 4294967296]
    have e2 : pw k * V = pw k * val C + pw k * (val D * t) := by rw [← he, Int.mul_add]
    rw [e1, hvR']; rw [hvR] at h2; omega
  · rw [hvR']
    have a1 := val_lt (hR.take k)
    rw [List.length_take, Nat.min_eq_left (by omega)] at a1
    have a2 : pw k * (val C + 1) ≤ pw k * val D := Int.mul_le_mul_of_nonneg_left (by omega) (by have := pw_pos k; omega)
    rw [Int.mul_add, Int.mul_one] at a2
    omega
theorem ldRel_small {RA D R Q : List Int} {k n : Nat} (hR : Ok R) (hD : Ok D) (h : LdRel RA D (k + 1) R Q) (hkn : k + n + 1 ≤ R.length) : val ((R.drop k).take (n + 1)) < 4294967296 * val D := by
  obtain ⟨_, _, h3⟩ := h
  have hvR := val_win R k (n + 1) (by omega)
  have a1 := val_nonneg (hR.take k)
  have a2 := val_nonneg (hR.drop (k + (n + 1)))
  have a3 : 0 ≤ pw (k + (n + 1)) * val (R.drop (k + (n + 1))) := Int.mul_nonneg (by have := pw_pos (k + (n + 1)); omega) a2
  have a4 : pw k * val ((R.drop k).take (n + 1)) < pw k * (4294967296 * val D) := by
    rw [pw_succ, Int.mul_comm 4294967296, Int.mul_assoc] at h3
    omega
  exact Int.lt_of_mul_lt_mul_left a4 (by have := pw_pos k; omega)
theorem ldRel_start {A B RA D : List Int} {n m s : Nat} (hA : Ok A) (hB : Ok B) (lB : B.getLast? ≠ some 0) (hn : B.length = n) (hm : A.length = m) (hn0 : n ≠ 0) (hnm : n ≤ m) (hRA : val RA = val A * 2 ^ s) (hD : val D = val B * 2 ^ s) : LdRel RA D (m - n + 1) RA [] := by
  refine ⟨rfl, by simp [val], ?_⟩
  have hp : (0 : Int) < 2 ^ s := Int.pow_pos (by omega)
  have h1 := val_ge hB lB (by intro e; subst e; simp at hn; omega)
  rw [hn] at h1
  have h2 := val_lt hA
  rw [hm] at h2
  have h3 : pw (m - n + 1) * pw (n - 1) ≤ pw (m - n + 1) * val B := Int.mul_le_mul_of_nonneg_left h1 (by have := pw_pos (m - n + 1); omega)
  rw [← pw_add, show m - n + 1 + (n - 1) = m from by omega] at h3
  rw [hRA, hD, ← Int.mul_assoc]
  exact Int.mul_lt_mul_of_pos_right (by omega) hp
theorem ldRel_end {A B RA D R Q : List Int} {s : Nat} (hA : Ok A) (hR : Ok R) (hB : 0 < val B) (hRA : val RA = val A * 2 ^ s) (hD : val D = val B * 2 ^ s) (h : LdRel RA D 0 R Q) :
    val Q = val A / val B ∧ val R / 2 ^ s = val A % val B := by
  obtain ⟨_, h2, h3⟩ := h
  have hp : (0 : Int) < 2 ^ s := Int.pow_pos (by omega)
  rw [pw_zero, Int.one_mul] at h2 h3
  rw [hRA, hD] at h2
  rw [hD] at h3
  have h0 := val_nonneg hR
  generalize (2 : Int) ^ s = T at *
  have e : val R = (val A - val B * val Q) * T := by
    rw [Int.sub_mul, Int.mul_assoc, Int.mul_comm (val Q) T, ← Int.mul_assoc]
    omega
  rw [e] at h0 h3
  have r0 : 0 ≤ val A - val B * val Q := by
    by_cases hneg : val A - val B * val Q < 0
    · have : (val A - val B * val Q) * T < 0 := Int.mul_neg_of_neg_of_pos hneg hp
      omega
    · omega
  have r1 : val A - val B * val Q < val B := Int.lt_of_mul_lt_mul_right h3 (by omega)
  have key := Int.ediv_emod_unique (a := val A) (b := val B) (r := val A - val B * val Q) (q := val Q) hB
  have hk := key.2 ⟨by omega, r0, r1⟩
  refine ⟨hk.1.symm, ?_⟩
  rw [e, Int.mul_ediv_cancel _ (by omega)]; exact hk.2.symm
end Go.Proofs.YtegjhkjmejckdaaDoor.M

/- texts of pitches, in plain mathematics. -/
import Derived.Lib.AtoiTie
import Derived.Lib.AtoiAllCases
import Derived.Lib.ItoaNum
import Derived.Lib.Join
import Derived.Lib.SlTrimSet
import Derived.Test.YtdlfnonlalkjdaaGreatDoorP9
namespace Go.Proofs.YtdlfnonlalkjdaaGreatDoor
open M Go.Lib
theorem decDigits_all (u : Nat) : ∀ b ∈ decDigits u, 48 ≤ b.toNat ∧ b.toNat ≤ 57 := by
  induction u using Nat.strongRecOn with
  | ind u ih =>
    intro b hb
    rw [decDigits] at hb
    split at hb
    · simp only [List.mem_singleton] at hb
      subst hb
      simp; omega
    · rcases List.mem_append.1 hb with hb | hb
      · exact ih (u / 10) (by omega) b hb
      · simp only [List.mem_singleton] at hb
        subst hb
        simp; omega
theorem decDigits_ne (u : Nat) : decDigits u ≠ [] := by
  intro h; have h1 := decDigits_length u; rw [h, List.length_nil] at h1; have := nDigits_pos u; omega
theorem decFrom_append (l r : List UInt8) : ∀ acc, decFrom acc (l ++ r) = (decFrom acc l).bind fun m => decFrom m r := by
  induction l with
  | nil => intro acc; rfl
  | cons b l ih =>
    intro acc
    simp only [List.cons_append, decFrom]
    cases digitVal b with
    | none => rfl
    | some d => exact ih _
theorem digitVal_of (k : Nat) (h : k < 10) : digitVal (UInt8.ofNat (48 + k)) = some k := by
  have e : (UInt8.ofNat (48 + k)).toNat = 48 + k := by simp; omega
  simp only [digitVal, e]; rw [if_pos (by omega)]; congr 1; omega
theorem decFrom_decDigits (u : Nat) : decFrom 0 (decDigits u) = some u := by
  induction u using Nat.strongRecOn with
  | ind u ih =>
    rw [decDigits]
    split
    · rename_i h
      simp only [decFrom, digitVal_of u h]; congr 1; omega
    · rw [decFrom_append, ih (u / 10) (by omega)]
      simp only [Option.bind_some, decFrom, digitVal_of (u % 10) (by omega)]
      congr 1; omega
theorem decNat_decDigits (u : Nat) : decNat (decDigits u) = some u := by
  unfold decNat
  rw [if_neg (by simpa using decDigits_ne u)]; exact decFrom_decDigits u
theorem atoi_itoa (n : Int) : atoi (itoa n) = some n := by
  unfold itoa
  split
  · simp only [atoi, beq_self_eq_true, if_true, decNat_decDigits, Option.map_some]
    congr 1; omega
  · have hall := decDigits_all n.toNat
    have hd := decNat_decDigits n.toNat
    generalize hl : decDigits n.toNat = l at *
    cases l with
    | nil => exact absurd hl (decDigits_ne _)
    | cons b r =>
      have hb := hall b (by simp)
      have h45 : ¬ (b == 45) = true := by intro h; have : b = 45 := by simpa using h
                                          subst this; simp at hb
      have h43 : ¬ (b == 43) = true := by intro h; have : b = 43 := by simpa using h
                                          subst this; simp at hb
      simp only [atoi, if_neg h45, if_neg h43, hd, Option.map_some]
      congr 1; omega
theorem nDigits_le (k : Nat) : ∀ u, u < 10 ^ (k + 1) → nDigits u ≤ k + 1 := by
  induction k with
  | zero => intro u h; rw [nDigits_small (by simpa using h)]; omega
  | succ k ih =>
    intro u h
    by_cases h10 : u < 10
    · rw [nDigits_small h10]; omega
    · rw [nDigits_big h10]
      have := ih (u / 10) (by rw [Nat.pow_succ] at h; omega)
      omega
theorem itoa_len (n : Int) (h1 : -1000000000 ≤ n) (h2 : n ≤ 1000000000) : (itoa n).length ≤ 11 := by
  unfold itoa
  split
  · have := nDigits_le 9 n.natAbs (by omega)
    simp only [List.length_cons, decDigits_length]; omega
  · have := nDigits_le 9 n.toNat (by omega)
    rw [decDigits_length]; omega
theorem atoiAll_itoa (n : Int) (h1 : -1000000000 ≤ n) (h2 : n ≤ 1000000000) : atoiAll (itoa n) = .ok n := by
  rw [atoiAll_short _ (by have := itoa_len n h1 h2; omega), atoi_itoa]; rfl
theorem itoa_no47 (n : Int) : (47 : UInt8) ∉ itoa n := by
  unfold itoa
  split
  · intro h
    rcases List.mem_cons.1 h with h | h
    · simp at h
    · have := decDigits_all _ _ h; simp at this
  · intro h
    have := decDigits_all _ _ h; simp at this
/-- What a term's exponent and 12 have in common. -/
def gE (e : Int) : Nat := Nat.gcd e.natAbs 12
theorem gE_dvd12 (e : Int) : gE e ∣ 12 := Nat.gcd_dvd_right _ _
theorem gE_pos (e : Int) : 0 < gE e := Nat.gcd_pos_of_pos_right _ (by omega)
theorem gE_le (e : Int) : gE e ≤ 12 := Nat.le_of_dvd (by omega) (gE_dvd12 e)
theorem gE_mul (e : Int) : (gE e : Int) * (e / (gE e : Int)) = e := Int.mul_ediv_cancel' (Int.ofNat_dvd_left.2 (Nat.gcd_dvd_left _ _))
/-- The text of a term, of exponents that are not 0. -/
def tailL (e : Int) : List UInt8 := if e = 12 then [] else 94 :: (itoa (e / (gE e : Int)) ++ (if gE e < 12 then 47 :: itoa ((12 / gE e : Nat) : Int) else []))
def termL (p : Nat) (e : Int) : List UInt8 := itoa (p : Int) ++ tailL e
/-- The terms of a list of indices; the text. -/
def termsL (v : Nat → Int) (l : List (Ix v)) : List (List UInt8) := l.map fun x => termL (pr x.i) (v x.i)
def textL (v : Nat → Int) : List UInt8 := if ixs v 6 = [] then [49] else join (termsL v (ixs v 6)) [42]
end Go.Proofs.YtdlfnonlalkjdaaGreatDoor

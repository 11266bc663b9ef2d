/- logarithms of the primes, enclosed: there is a power N to which 2^lo <= p^N <= 2^hi. -/
import Derived.Test.YtdlfnonlalkjdaaDoorPMath
namespace Go.Proofs.YtdlfnonlalkjdaaDoor
open M
/-- m * 2^s is at most p^k; it is at least p^k. -/
structure LgL (p k m s : Nat) : Prop where
  out : m * 2 ^ s ≤ p ^ k
structure LgU (p k m s : Nat) : Prop where
  out : p ^ k ≤ m * 2 ^ s
/-- Squared, times p if b is 1, cut by t bits (downwards, upwards). -/
def sqL (p b t m : Nat) : Nat := (m * m * p ^ b) / 2 ^ t
def sqU (p b t m : Nat) : Nat := (m * m * p ^ b + (2 ^ t - 1)) / 2 ^ t
theorem LgL.sq {p k m s : Nat} (h : LgL p k m s) (b t : Nat) : LgL p (2 * k + b) (sqL p b t m) (2 * s + t) := by
  obtain ⟨h⟩ := h
  constructor
  have h1 : sqL p b t m * 2 ^ t ≤ m * m * p ^ b := Nat.div_mul_le_self _ _
  have e1 : sqL p b t m * 2 ^ (2 * s + t) = (sqL p b t m * 2 ^ t) * 2 ^ (2 * s) := by rw [Nat.pow_add]; ac_rfl
  have e2 : 2 ^ (2 * s) = 2 ^ s * 2 ^ s := by rw [Nat.two_mul, Nat.pow_add]
  have e3 : p ^ (2 * k + b) = (p ^ k * p ^ k) * p ^ b := by rw [Nat.pow_add, Nat.two_mul, Nat.pow_add]
  rw [e1, e2, e3]
  refine Nat.le_trans (Nat.mul_le_mul_right _ h1) ?_
  have e4 : m * m * p ^ b * (2 ^ s * 2 ^ s) = (m * 2 ^ s) * (m * 2 ^ s) * p ^ b := by ac_rfl
  rw [e4]
  exact Nat.mul_le_mul_right _ (Nat.mul_le_mul h h)
theorem LgU.sq {p k m s : Nat} (h : LgU p k m s) (b t : Nat) : LgU p (2 * k + b) (sqU p b t m) (2 * s + t) := by
  obtain ⟨h⟩ := h
  constructor
  have hp : 0 < 2 ^ t := Nat.pow_pos (by omega)
  have h1 : m * m * p ^ b ≤ sqU p b t m * 2 ^ t := by
    have h2 := Nat.div_add_mod (m * m * p ^ b + (2 ^ t - 1)) (2 ^ t)
    have h3 := Nat.mod_lt (m * m * p ^ b + (2 ^ t - 1)) hp
    have h4 : sqU p b t m * 2 ^ t = 2 ^ t * ((m * m * p ^ b + (2 ^ t - 1)) / 2 ^ t) := Nat.mul_comm _ _
    omega
  have e1 : sqU p b t m * 2 ^ (2 * s + t) = (sqU p b t m * 2 ^ t) * 2 ^ (2 * s) := by rw [Nat.pow_add]; ac_rfl
  have e2 : 2 ^ (2 * s) = 2 ^ s * 2 ^ s := by rw [Nat.two_mul, Nat.pow_add]
  have e3 : p ^ (2 * k + b) = (p ^ k * p ^ k) * p ^ b := by rw [Nat.pow_add, Nat.two_mul, Nat.pow_add]
  rw [e1, e2, e3]
  refine Nat.le_trans ?_ (Nat.mul_le_mul_right _ h1)
  have e4 : m * m * p ^ b * (2 ^ s * 2 ^ s) = (m * 2 ^ s) * (m * 2 ^ s) * p ^ b := by ac_rfl
  rw [e4]
  exact Nat.mul_le_mul_right _ (Nat.mul_le_mul h h)
/-- A way of many steps. -/
def wayL (p : Nat) : List (Nat × Nat) → Nat × Nat × Nat → Nat × Nat × Nat
  | [], r => r
  | x :: l, r => wayL p l (2 * r.1 + x.1, sqL p x.1 x.2 r.2.1, 2 * r.2.2 + x.2)
def wayU (p : Nat) : List (Nat × Nat) → Nat × Nat × Nat → Nat × Nat × Nat
  | [], r => r
  | x :: l, r => wayU p l (2 * r.1 + x.1, sqU p x.1 x.2 r.2.1, 2 * r.2.2 + x.2)
theorem wayL_ok (p : Nat) (l : List (Nat × Nat)) : ∀ r : Nat × Nat × Nat, LgL p r.1 r.2.1 r.2.2 → LgL p (wayL p l r).1 (wayL p l r).2.1 (wayL p l r).2.2 := by
  induction l with
  | nil => exact fun r h => h
  | cons x l ih => exact fun r h => ih _ (h.sq x.1 x.2)
theorem wayU_ok (p : Nat) (l : List (Nat × Nat)) : ∀ r : Nat × Nat × Nat, LgU p r.1 r.2.1 r.2.2 → LgU p (wayU p l r).1 (wayU p l r).2.1 (wayU p l r).2.2 := by
  induction l with
  | nil => exact fun r h => h
  | cons x l ih => exact fun r h => ih _ (h.sq x.1 x.2)
theorem way_lo {p N : Nat} (l : List (Nat × Nat)) (m s j lo : Nat) (hw : wayL p l (1, p, 0) = (N, m, s)) (hj : 2 ^ j ≤ m) (hs : lo = j + s) : 2 ^ lo ≤ p ^ N := by
  have h := wayL_ok p l (1, p, 0) ⟨by simp⟩
  rw [hw] at h
  have h := h.out
  simp only at h
  refine Nat.le_trans ?_ h
  rw [hs, Nat.pow_add]
  exact Nat.mul_le_mul_right _ hj
theorem way_up {p N : Nat} (l : List (Nat × Nat)) (m s j hi : Nat) (hw : wayU p l (1, p, 0) = (N, m, s)) (hj : m ≤ 2 ^ j) (hs : hi = j + s) : p ^ N ≤ 2 ^ hi := by
  have h := wayU_ok p l (1, p, 0) ⟨by simp⟩
  rw [hw] at h
  have h := h.out
  simp only at h
  refine Nat.le_trans h ?_
  rw [hs, Nat.pow_add]
  exact Nat.mul_le_mul_right _ hj
/-- What is said of one prime. -/
structure Lgp (p N lo hi : Nat) : Prop where
  l : 2 ^ lo ≤ p ^ N
  u : p ^ N ≤ 2 ^ hi
theorem lg_3 (N : Nat) (h : N = 1000000000) : Lgp 3 N 1584962500 1584962501 where
  l := way_lo [(1, 0), (1, 0), (0, 0), (1, 0), (1, 30), (1, 65), (0, 64), (0, 63), (1, 65), (1, 65), (0, 64), (1, 64), (0, 64), (1, 65), (1, 65), (0, 63), (0, 63), (1, 66), (0, 63), (1, 64), (0, 64), (0, 64), (0, 64), (0, 63), (0, 63), (0, 63), (0, 64), (0, 63), (0, 63)] 15204752984177383024 1584962437 63 1584962500 (by subst h; decide +kernel) (by decide +kernel) (by decide +kernel)
  u := way_up [(1, 0), (1, 0), (0, 0), (1, 0), (1, 30), (1, 65), (0, 64), (0, 63), (1, 65), (1, 65), (0, 64), (1, 64), (0, 64), (1, 65), (1, 65), (0, 63), (0, 63), (1, 66), (0, 63), (1, 64), (0, 64), (0, 64), (0, 64), (0, 63), (0, 63), (0, 63), (0, 64), (0, 63), (0, 63)] 15204752984212373888 1584962437 64 1584962501 (by subst h; decide +kernel) (by decide +kernel) (by decide +kernel)
theorem lg_5 (N : Nat) (h : N = 1000000000) : Lgp 5 N 2321928094 2321928095 where
  l := way_lo [(1, 0), (1, 0), (0, 0), (1, 4), (1, 65), (1, 67), (0, 63), (0, 64), (1, 65), (1, 66), (0, 64), (1, 66), (0, 64), (1, 67), (1, 65), (0, 64), (0, 64), (1, 66), (0, 63), (1, 66), (0, 64), (0, 64), (0, 63), (0, 63), (0, 64), (0, 64), (0, 64), (0, 64), (0, 63)] 17061311433491557725 2321928031 63 2321928094 (by subst h; decide +kernel) (by decide +kernel) (by decide +kernel)
  u := way_up [(1, 0), (1, 0), (0, 0), (1, 4), (1, 65), (1, 67), (0, 63), (0, 64), (1, 65), (1, 66), (0, 64), (1, 66), (0, 64), (1, 67), (1, 65), (0, 64), (0, 64), (1, 66), (0, 63), (1, 66), (0, 64), (0, 64), (0, 63), (0, 63), (0, 64), (0, 64), (0, 64), (0, 64), (0, 63)] 17061311433576080788 2321928031 64 2321928095 (by subst h; decide +kernel) (by decide +kernel) (by decide +kernel)
theorem lg_7 (N : Nat) (h : N = 1000000000) : Lgp 7 N 2807354922 2807354923 where
  l := way_lo [(1, 0), (1, 0), (0, 0), (1, 18), (1, 66), (1, 67), (0, 63), (0, 63), (1, 66), (1, 66), (0, 64), (1, 66), (0, 63), (1, 67), (1, 65), (0, 64), (0, 64), (1, 67), (0, 63), (1, 66), (0, 63), (0, 63), (0, 63), (0, 64), (0, 63), (0, 64), (0, 63), (0, 64), (0, 63)] 9599095027329778709 2807354859 63 2807354922 (by subst h; decide +kernel) (by decide +kernel) (by decide +kernel)
  u := way_up [(1, 0), (1, 0), (0, 0), (1, 18), (1, 66), (1, 67), (0, 63), (0, 63), (1, 66), (1, 66), (0, 64), (1, 66), (0, 63), (1, 67), (1, 65), (0, 64), (0, 64), (1, 67), (0, 63), (1, 66), (0, 63), (0, 63), (0, 63), (0, 64), (0, 63), (0, 64), (0, 63), (0, 64), (0, 63)] 9599095027378838173 2807354859 64 2807354923 (by subst h; decide +kernel) (by decide +kernel) (by decide +kernel)
theorem lg_11 (N : Nat) (h : N = 1000000000) : Lgp 11 N 3459431618 3459431619 where
  l := way_lo [(1, 0), (1, 0), (0, 0), (1, 37), (1, 67), (1, 66), (0, 64), (0, 63), (1, 67), (1, 68), (0, 63), (1, 67), (0, 63), (1, 66), (1, 67), (0, 63), (0, 64), (1, 67), (0, 64), (1, 67), (0, 63), (0, 64), (0, 64), (0, 63), (0, 63), (0, 63), (0, 63), (0, 64), (0, 63)] 14346148338266147853 3459431555 63 3459431618 (by subst h; decide +kernel) (by decide +kernel) (by decide +kernel)
  u := way_up [(1, 0), (1, 0), (0, 0), (1, 37), (1, 67), (1, 66), (0, 64), (0, 63), (1, 67), (1, 68), (0, 63), (1, 67), (0, 63), (1, 66), (1, 67), (0, 63), (0, 64), (1, 67), (0, 64), (1, 67), (0, 63), (0, 64), (0, 64), (0, 63), (0, 63), (0, 63), (0, 63), (0, 64), (0, 63)] 14346148338359715503 3459431555 64 3459431619 (by subst h; decide +kernel) (by decide +kernel) (by decide +kernel)
theorem lg_13 (N : Nat) (h : N = 1000000000) : Lgp 13 N 3700439718 3700439719 where
  l := way_lo [(1, 0), (1, 0), (0, 0), (1, 44), (1, 67), (1, 67), (0, 63), (0, 64), (1, 67), (1, 67), (0, 64), (1, 67), (0, 64), (1, 67), (1, 67), (0, 63), (0, 64), (1, 67), (0, 63), (1, 68), (0, 63), (0, 64), (0, 63), (0, 64), (0, 63), (0, 63), (0, 64), (0, 64), (0, 63)] 10170977633150717827 3700439655 63 3700439718 (by subst h; decide +kernel) (by decide +kernel) (by decide +kernel)
  u := way_up [(1, 0), (1, 0), (0, 0), (1, 44), (1, 67), (1, 67), (0, 63), (0, 64), (1, 67), (1, 67), (0, 64), (1, 67), (0, 64), (1, 67), (1, 67), (0, 63), (0, 64), (1, 67), (0, 63), (1, 68), (0, 63), (0, 64), (0, 63), (0, 64), (0, 63), (0, 63), (0, 64), (0, 64), (0, 63)] 10170977633207977716 3700439655 64 3700439719 (by subst h; decide +kernel) (by decide +kernel) (by decide +kernel)
theorem lgp_same {N M : Nat} (h : N = M) : Lgp 2 N M M := by
  subst h; exact ⟨Nat.le_refl _, Nat.le_refl _⟩
/-- The enclosing numbers of the primes' logarithms. -/
def loN (i : Nat) : Nat := if i = 0 then 1000000000 else if i = 1 then 1584962500 else if i = 2 then 2321928094 else if i = 3 then 2807354922 else if i = 4 then 3459431618 else 3700439718
def hiN (i : Nat) : Nat := if i = 0 then 1000000000 else if i = 1 then 1584962501 else if i = 2 then 2321928095 else if i = 3 then 2807354923 else if i = 4 then 3459431619 else 3700439719
theorem lg_all : ∃ N, 0 < N ∧ ∀ i, i < 6 → Lgp (pr i) N (loN i) (hiN i) := by
  obtain ⟨N, h⟩ : ∃ N, N = 1000000000 := ⟨_, rfl⟩
  refine ⟨N, by omega, fun i hi => ?_⟩
  have : i = 0 ∨ i = 1 ∨ i = 2 ∨ i = 3 ∨ i = 4 ∨ i = 5 := by omega
  rcases this with rfl | rfl | rfl | rfl | rfl | rfl
  · exact lgp_same h
  · exact lg_3 N h
  · exact lg_5 N h
  · exact lg_7 N h
  · exact lg_11 N h
  · exact lg_13 N h
def aLo (v : Nat → Int) : Nat → Nat
  | 0 => 0
  | n + 1 => aLo v n + (v n).toNat * loN n
def aHi (v : Nat → Int) : Nat → Nat
  | 0 => 0
  | n + 1 => aHi v n + (v n).toNat * hiN n
/-- The ends of the size of exponents. -/
def mLo (v : Nat → Int) : Int := (aLo v 6 : Int) - aHi (neg v) 6
def mHi (v : Nat → Int) : Int := (aHi v 6 : Int) - aLo (neg v) 6
theorem upN_pow_le {N : Nat} (h : ∀ i, i < 6 → Lgp (pr i) N (loN i) (hiN i)) (v : Nat → Int) (n : Nat) (hn : n ≤ 6) : upN v n ^ N ≤ 2 ^ aHi v n := by
  induction n with
  | zero => simp [upN, aHi]
  | succ n ih =>
    simp only [upN, aHi]
    rw [Nat.mul_pow, Nat.pow_add]
    refine Nat.mul_le_mul (ih (by omega)) ?_
    have h1 := (h n (by omega)).u
    rw [← Nat.pow_mul, Nat.mul_comm (v n).toNat N, Nat.pow_mul, Nat.mul_comm (v n).toNat (hiN n), Nat.pow_mul]
    exact Nat.pow_le_pow_left h1 _
theorem upN_le_pow {N : Nat} (h : ∀ i, i < 6 → Lgp (pr i) N (loN i) (hiN i)) (v : Nat → Int) (n : Nat) (hn : n ≤ 6) : 2 ^ aLo v n ≤ upN v n ^ N := by
  induction n with
  | zero => simp [upN, aLo]
  | succ n ih =>
    simp only [upN, aLo]
    rw [Nat.mul_pow, Nat.pow_add]
    refine Nat.mul_le_mul (ih (by omega)) ?_
    have h1 := (h n (by omega)).l
    have e1 : (pr n ^ (v n).toNat) ^ N = (pr n ^ N) ^ (v n).toNat := by rw [← Nat.pow_mul, ← Nat.pow_mul, Nat.mul_comm]
    have e2 : 2 ^ ((v n).toNat * loN n) = (2 ^ loN n) ^ (v n).toNat := by rw [← Nat.pow_mul, Nat.mul_comm]
    rw [e1, e2]
    exact Nat.pow_le_pow_left h1 _
/-- A size that isn't above 0 (is below 0): the exact comparison says the same. -/
theorem sg_of_hi {v : Nat → Int} (h : mHi v ≤ 0) : sg v ≤ 0 := by
  obtain ⟨N, hN, hL⟩ := lg_all
  have h1 := upN_pow_le hL v 6 (by omega)
  have h2 := upN_le_pow hL (neg v) 6 (by omega)
  have h3 : aHi v 6 ≤ aLo (neg v) 6 := by unfold mHi at h; omega
  refine cmpI_le.2 (Int.ofNat_le.2 ?_)
  have h4 : up v ^ N ≤ dn v ^ N := Nat.le_trans h1 (Nat.le_trans (Nat.pow_le_pow_right (by omega) h3) h2)
  exact (Nat.pow_le_pow_iff_left (by omega)).1 h4
theorem sg_of_hi' {v : Nat → Int} (h : mHi v < 0) : sg v = -1 := by
  obtain ⟨N, hN, hL⟩ := lg_all
  have h1 := upN_pow_le hL v 6 (by omega)
  have h2 := upN_le_pow hL (neg v) 6 (by omega)
  have h3 : aHi v 6 < aLo (neg v) 6 := by unfold mHi at h; omega
  have h4 : up v ^ N < dn v ^ N := Nat.lt_of_le_of_lt h1 (Nat.lt_of_lt_of_le (Nat.pow_lt_pow_right (by omega) h3) h2)
  have h5 : up v < dn v := (Nat.pow_lt_pow_iff_left (by omega)).1 h4
  exact if_pos (Int.ofNat_lt.2 h5)
theorem mLo_neg (v : Nat → Int) : mLo (neg v) = -mHi v := by unfold mLo mHi; rw [neg_neg']; omega
theorem mHi_neg (v : Nat → Int) : mHi (neg v) = -mLo v := by unfold mLo mHi; rw [neg_neg']; omega
theorem sg_of_lo {v : Nat → Int} (h : 0 ≤ mLo v) : 0 ≤ sg v := by
  have h1 : mHi (neg v) ≤ 0 := by rw [mHi_neg]; omega
  have h2 := sg_of_hi h1
  rw [sg_neg] at h2; omega
theorem sg_of_lo' {v : Nat → Int} (h : 0 < mLo v) : sg v = 1 := by
  have h1 : mHi (neg v) < 0 := by rw [mHi_neg]; omega
  have h2 := sg_of_hi' h1
  rw [sg_neg] at h2; omega
/-- The terms of the sums. -/
def tLo (i : Nat) (x : Int) : Int := if 0 ≤ x then x * (loN i : Int) else x * (hiN i : Int)
def tHi (i : Nat) (x : Int) : Int := if 0 ≤ x then x * (hiN i : Int) else x * (loN i : Int)
theorem term_of (x : Int) (c d : Nat) : ((x.toNat * c : Nat) : Int) - (((-x).toNat * d : Nat) : Int) = if 0 ≤ x then x * (c : Int) else x * (d : Int) := by
  by_cases h : 0 ≤ x
  · obtain ⟨n, rfl⟩ := Int.eq_ofNat_of_zero_le h
    rw [if_pos h]
    have : (-(n : Int)).toNat = 0 := by omega
    rw [this]; simp
  · rw [if_neg h]
    have h0 : x.toNat = 0 := by omega
    have h1 : ((-x).toNat : Int) = -x := by omega
    rw [h0, Nat.zero_mul, Int.natCast_mul, h1, Int.neg_mul]; simp
theorem mLo_eq (v : Nat → Int) : mLo v = tLo 0 (v 0) + tLo 1 (v 1) + tLo 2 (v 2) + tLo 3 (v 3) + tLo 4 (v 4) + tLo 5 (v 5) := by
  simp only [mLo, aLo, aHi, neg, tLo, ← term_of]; omega
theorem mHi_eq (v : Nat → Int) : mHi v = tHi 0 (v 0) + tHi 1 (v 1) + tHi 2 (v 2) + tHi 3 (v 3) + tHi 4 (v 4) + tHi 5 (v 5) := by
  simp only [mHi, aLo, aHi, neg, tHi, ← term_of]; omega
end Go.Proofs.YtdlfnonlalkjdaaDoor

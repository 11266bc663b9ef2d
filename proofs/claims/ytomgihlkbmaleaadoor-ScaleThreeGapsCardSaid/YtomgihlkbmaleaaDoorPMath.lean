/- plain mathematics of pitches: products of powers of the six primes, their order, what they are made of. -/
import Derived.Test.YtomgihlkbmaleaaDoorMath
namespace Go.Proofs.YtomgihlkbmaleaaDoor
open M
/-- The primes. -/
def pr (i : Nat) : Nat := if i = 0 then 2 else if i = 1 then 3 else if i = 2 then 5 else if i = 3 then 7 else if i = 4 then 11 else 13
/-- The product of the first n primes to the power of what is above 0. -/
def upN (v : Nat → Int) : Nat → Nat
  | 0 => 1
  | n + 1 => upN v n * pr n ^ (v n).toNat
def up (v : Nat → Int) : Nat := upN v 6
def neg (v : Nat → Int) : Nat → Int := fun i => -v i
def dn (v : Nat → Int) : Nat := up (neg v)
def sg (v : Nat → Int) : Int := cmpI (up v) (dn v)
theorem pr_pos (i : Nat) : 0 < pr i := by unfold pr; repeat' split
                                          all_goals omega
theorem upN_pos (v : Nat → Int) (n : Nat) : 0 < upN v n := by
  induction n with
  | zero => exact Nat.one_pos
  | succ n ih => exact Nat.mul_pos ih (Nat.pow_pos (pr_pos n))
theorem up_pos (v : Nat → Int) : 0 < up v := upN_pos v 6
theorem upN_congr {u v : Nat → Int} {n : Nat} (h : ∀ i, i < n → (u i).toNat = (v i).toNat) : upN u n = upN v n := by
  induction n with
  | zero => rfl
  | succ n ih => unfold upN; rw [ih fun i hi => h i (by omega), h n (by omega)]
theorem up_congr {u v : Nat → Int} (h : ∀ i, i < 6 → (u i).toNat = (v i).toNat) : up u = up v := upN_congr h
theorem upN_smul (k : Nat) (v : Nat → Int) (n : Nat) : upN (fun i => (k : Int) * v i) n = upN v n ^ k := by
  induction n with
  | zero => simp [upN]
  | succ n ih =>
    show upN (fun i => (k : Int) * v i) n * pr n ^ ((k : Int) * v n).toNat = (upN v n * pr n ^ (v n).toNat) ^ k
    rw [ih, Nat.mul_pow, ← Nat.pow_mul]
    congr 2
    rcases Int.le_total 0 (v n) with h | h
    · obtain ⟨m, hm⟩ := Int.eq_ofNat_of_zero_le h
      rw [hm]; have : (k : Int) * (m : Int) = ((m * k : Nat) : Int) := by simp [Int.mul_comm]
      rw [this]; rfl
    · have h1 : (k : Int) * v n ≤ 0 := Int.mul_nonpos_of_nonneg_of_nonpos (by omega) h
      rw [Int.toNat_of_nonpos h1, Int.toNat_of_nonpos h, Nat.zero_mul]
theorem up_smul (k : Nat) (v : Nat → Int) : up (fun i => (k : Int) * v i) = up v ^ k := upN_smul k v 6
theorem dn_smul (k : Nat) (v : Nat → Int) : dn (fun i => (k : Int) * v i) = dn v ^ k := by
  unfold dn; rw [← up_smul]; apply up_congr; intro i _; simp only [neg]; rw [Int.mul_neg]
theorem cmpI_le {x y : Int} : cmpI x y ≤ 0 ↔ x ≤ y := by
  unfold cmpI
  by_cases h : x < y
  · rw [if_pos h]; omega
  · rw [if_neg h]; split <;> omega
theorem cmpI_zero {x y : Int} : cmpI x y = 0 ↔ x = y := by
  unfold cmpI
  by_cases h : x < y
  · rw [if_pos h]; omega
  · rw [if_neg h]; split <;> omega
theorem cmpI_neg (x y : Int) : cmpI y x = -cmpI x y := by
  unfold cmpI
  rcases Int.lt_trichotomy x y with h | h | h
  · rw [if_neg (by omega), if_pos h, if_pos h]; rfl
  · subst h; simp
  · rw [if_pos h, if_neg (by omega), if_pos h]
theorem cmpI_mono {a b c d : Nat} (h : a < b ↔ c < d) (h' : b < a ↔ d < c) : cmpI a b = cmpI c d := by
  unfold cmpI
  have e1 : ((a : Int) < b) = ((c : Int) < d) := by rw [Int.ofNat_lt, Int.ofNat_lt]; exact propext h
  have e2 : ((b : Int) < a) = ((d : Int) < c) := by rw [Int.ofNat_lt, Int.ofNat_lt]; exact propext h'
  simp only [e1, e2]
theorem pow_lt_iff {a b k : Nat} (hk : 0 < k) : a ^ k < b ^ k ↔ a < b := Nat.pow_lt_pow_iff_left (by omega)
theorem sg_smul {k : Nat} (hk : 0 < k) (v : Nat → Int) : sg (fun i => (k : Int) * v i) = sg v := by
  unfold sg; rw [up_smul, dn_smul]; exact cmpI_mono (pow_lt_iff hk) (pow_lt_iff hk)
theorem sg_congr {u v : Nat → Int} (h : ∀ i, i < 6 → u i = v i) : sg u = sg v := by
  have h1 : up u = up v := up_congr fun i hi => by rw [h i hi]
  have h2 : dn u = dn v := up_congr fun i hi => by simp only [neg]; rw [h i hi]
  unfold sg; rw [h1, h2]
theorem neg_neg' (v : Nat → Int) : neg (neg v) = v := by funext i; simp [neg]
theorem sg_neg (v : Nat → Int) : sg (neg v) = -sg v := by
  unfold sg dn; rw [neg_neg']; exact cmpI_neg _ _
theorem upN_mul3 {u v w x y z : Nat → Int} {n : Nat} (h : ∀ i, i < n → (u i).toNat + ((v i).toNat + (w i).toNat) = (x i).toNat + ((y i).toNat + (z i).toNat)) : upN u n * (upN v n * upN w n) = upN x n * (upN y n * upN z n) := by
  induction n with
  | zero => rfl
  | succ n ih =>
    have := ih fun i hi => h i (by omega)
    have hn := h n (by omega)
    simp only [upN]
    have e : ∀ a b c p q r : Nat, a * p * (b * q * (c * r)) = a * (b * c) * (p * (q * r)) := by intros; ac_rfl
    rw [e, e, this, ← Nat.pow_add, ← Nat.pow_add, ← Nat.pow_add, ← Nat.pow_add, hn]
/-- The products of a sum, cleared of what cancels out. -/
theorem up_add (u v : Nat → Int) : up (fun i => u i + v i) * (dn u * dn v) = dn (fun i => u i + v i) * (up u * up v) := by
  apply upN_mul3; intro i _; simp only [neg]; omega
theorem sg_le_add {u v : Nat → Int} (hu : sg u ≤ 0) (hv : sg v ≤ 0) : sg (fun i => u i + v i) ≤ 0 := by
  have h1 : up u ≤ dn u := by have := cmpI_le.1 hu; omega
  have h2 : up v ≤ dn v := by have := cmpI_le.1 hv; omega
  have h3 := up_add u v
  refine cmpI_le.2 (Int.ofNat_le.2 ?_)
  refine Nat.le_of_not_lt fun hlt => ?_
  have h4 : dn (fun i => u i + v i) * (up u * up v) < up (fun i => u i + v i) * (dn u * dn v) :=
    Nat.lt_of_le_of_lt (Nat.mul_le_mul_left _ (Nat.mul_le_mul h1 h2)) (Nat.mul_lt_mul_of_pos_right hlt (Nat.mul_pos (up_pos _) (up_pos _)))
  omega
theorem sep {p a b M N : Nat} (hp : 1 < p) (hM : Nat.Coprime p M) (hN : Nat.Coprime p N) (h : p ^ a * M = p ^ b * N) : a = b ∧ M = N := by
  have key : ∀ {a b M N : Nat}, Nat.Coprime p M → p ^ a * M = p ^ b * N → a ≤ b → a = b ∧ M = N := by
    intro a b M N hM h hab
    obtain ⟨c, rfl⟩ := Nat.exists_eq_add_of_le hab
    rw [Nat.pow_add, Nat.mul_assoc] at h
    have h := Nat.eq_of_mul_eq_mul_left (Nat.pow_pos (by omega)) h
    cases c with
    | zero => simpa using h
    | succ c =>
      exfalso
      have hd : p ∣ M := by rw [h, Nat.pow_succ]; exact ⟨p ^ c * N, by ac_rfl⟩
      have := Nat.Coprime.eq_one_of_dvd hM hd
      omega
  rcases Nat.le_total a b with hab | hab
  · exact key hM h hab
  · have := key hN h.symm hab; exact ⟨this.1.symm, this.2.symm⟩
theorem pr_coprime {i j : Nat} (hi : i < 6) (hj : j < i) : Nat.Coprime (pr i) (pr j) := by
  have : (i = 1 ∨ i = 2 ∨ i = 3 ∨ i = 4 ∨ i = 5) := by omega
  rcases this with rfl | rfl | rfl | rfl | rfl
  all_goals
    have : j = 0 ∨ j = 1 ∨ j = 2 ∨ j = 3 ∨ j = 4 := by omega
    rcases this with rfl | rfl | rfl | rfl | rfl <;> first | omega | decide
theorem pr_coprime_up {i n : Nat} (v : Nat → Int) (hi : i < 6) (hn : n ≤ i) : Nat.Coprime (pr i) (upN v n) := by
  induction n with
  | zero => exact Nat.coprime_one_right _
  | succ n ih => exact Nat.Coprime.mul_right (ih (by omega)) (Nat.Coprime.pow_right _ (pr_coprime hi (by omega)))
theorem pr_gt (i : Nat) : 1 < pr i := by unfold pr; repeat' split
                                         all_goals omega
/-- What the exponents are can be told from the product. -/
theorem upN_inj {u v : Nat → Int} {n : Nat} (hn : n ≤ 6) (h : upN u n = upN v n) : ∀ i, i < n → (u i).toNat = (v i).toNat := by
  induction n with
  | zero => intro i hi; omega
  | succ n ih =>
    simp only [upN] at h
    rw [Nat.mul_comm, Nat.mul_comm (upN v n)] at h
    have hs := sep (pr_gt n) (pr_coprime_up u (by omega) (Nat.le_refl n)) (pr_coprime_up v (by omega) (Nat.le_refl n)) h
    intro i hi
    by_cases e : i = n
    · subst e; exact hs.1
    · exact ih (by omega) hs.2 i (by omega)
theorem sg_zero {v : Nat → Int} : sg v = 0 ↔ ∀ i, i < 6 → v i = 0 := by
  constructor
  · intro h i hi
    have h1 : up v = dn v := by have := cmpI_zero.1 h; omega
    have := upN_inj (Nat.le_refl 6) h1 i hi
    simp only [neg] at this; omega
  · intro h
    have h1 : up v = dn v := up_congr fun i hi => by simp only [neg]; rw [h i hi]; rfl
    unfold sg; rw [h1]; exact cmpI_eq _
/-- How far a product goes. -/
theorem upN_le {v : Nat → Int} {K n : Nat} (h : ∀ i, i < n → v i ≤ K) : upN v n ≤ upN (fun _ => (K : Int)) n := by
  induction n with
  | zero => exact Nat.le_refl _
  | succ n ih => exact Nat.mul_le_mul (ih fun i hi => h i (by omega)) (Nat.pow_le_pow_right (pr_pos n) (by have := h n (by omega); show (v n).toNat ≤ (K : Int).toNat; omega))
theorem upN_mono (v : Nat → Int) {m n : Nat} (h : m ≤ n) : upN v m ≤ upN v n := by
  induction n with
  | zero => have : m = 0 := by omega
            subst this; exact Nat.le_refl _
  | succ n ih =>
    by_cases e : m = n + 1
    · subst e; exact Nat.le_refl _
    · exact Nat.le_trans (ih (by omega)) (Nat.le_mul_of_pos_right _ (Nat.pow_pos (pr_pos n)))
theorem up_top : upN (fun _ => (1152 : Int)) 6 < 4294967296 ^ 640 := by decide +kernel
theorem up_fits {v : Nat → Int} (h : ∀ i, i < 6 → v i ≤ 1152) : up v < 4294967296 ^ 640 := Nat.lt_of_le_of_lt (upN_le (K := 1152) h) up_top
end Go.Proofs.YtomgihlkbmaleaaDoor

/- the reference's Div on natural numbers: mathematics. -/
import Derived.Test.YthfpkjeobdajiaaDoorFK
namespace Go.Proofs.YthfpkjeobdajiaaDoor
open Go.RowKit M
/-- One bit more. -/
theorem div_bit (X b bit : Nat) (hb : 0 < b) (hbit : bit ≤ 1) : (if b ≤ 2 * (X % b) + bit then 2 * (X % b) + bit - b else 2 * (X % b) + bit) = (2 * X + bit) % b ∧ 2 * (X / b) + (if b ≤ 2 * (X % b) + bit then 1 else 0) = (2 * X + bit) / b := by
  have h1 := Nat.div_add_mod X b
  have h2 := Nat.mod_lt X hb
  obtain ⟨q, hq⟩ : ∃ q, X / b = q := ⟨_, rfl⟩
  obtain ⟨r, hr⟩ : ∃ r, X % b = r := ⟨_, rfl⟩
  rw [hq, hr] at h1 ⊢
  rw [hr] at h2
  split
  · rename_i h
    have e : 2 * X + bit = (2 * r + bit - b) + b * (2 * q + 1) := by
      rw [← h1, Nat.mul_add b, Nat.mul_one, Nat.mul_left_comm b 2 q]; omega
    rw [e, Nat.add_mul_mod_self_left, Nat.mod_eq_of_lt (by omega), Nat.add_mul_div_left _ _ hb, Nat.div_eq_of_lt (by omega)]; omega
  · rename_i h
    have e : 2 * X + bit = (2 * r + bit) + b * (2 * q) := by
      rw [← h1, Nat.mul_left_comm b 2 q]; omega
    rw [e, Nat.add_mul_mod_self_left, Nat.mod_eq_of_lt (by omega), Nat.add_mul_div_left _ _ hb, Nat.div_eq_of_lt (by omega)]; omega
/-- The first limbs with the bits of the next one from k on. -/
def hiX (U x k : Nat) : Nat := U * 2 ^ (32 - k) + x / 2 ^ k
theorem hiX_top (U x : Nat) (hx : x < 4294967296) : hiX U x 32 = U := by
  unfold hiX
  rw [show 32 - 32 = 0 from rfl, Nat.pow_zero, Nat.mul_one, Nat.div_eq_of_lt (by omega)]; rfl
theorem hiX_zero (U x : Nat) : hiX U x 0 = U * 4294967296 + x := by unfold hiX; simp
theorem hiX_step (U x k : Nat) (hk : k < 32) : hiX U x k = 2 * hiX U x (k + 1) + x / 2 ^ k % 2 := by
  unfold hiX
  have h1 : x / 2 ^ (k + 1) = x / 2 ^ k / 2 := by rw [Nat.pow_succ, Nat.div_div_eq_div_mul]
  have h2 : 2 ^ (32 - k) = 2 * 2 ^ (32 - (k + 1)) := by rw [show 32 - k = (32 - (k + 1)) + 1 from by omega, Nat.pow_succ, Nat.mul_comm]
  rw [h1, h2, Nat.mul_add, Nat.mul_left_comm U 2]
  have := Nat.div_add_mod (x / 2 ^ k) 2
  omega
/-- The quotient's limbs: those from i on, of which that at i has its bits from k on. -/
structure DvRel (A : List Int) (b i k : Nat) (r : Nat) (L : List Int) : Prop where
  len : L.length = A.length
  rest : r = hiX (val (A.drop (i + 1))).toNat (A.getD i 0).toNat k % b
  quot : (L.getD i 0).toNat + 4294967296 * (val (L.drop (i + 1))).toNat = hiX (val (A.drop (i + 1))).toNat (A.getD i 0).toNat k / b * 2 ^ k
  low : ∀ j, j < i → L.getD j 0 = 0
theorem mul_dvd_bound (c q m k : Nat) (hk : k < 32) (hc : c < 4294967296) (h : c + 4294967296 * m = q * 2 ^ (k + 1)) : c + 2 ^ k < 4294967296 := by
  have e : (4294967296 : Nat) = 2 ^ (31 - k) * 2 ^ (k + 1) := by rw [← Nat.pow_add, show 31 - k + (k + 1) = 32 from by omega]
  have hd : 2 ^ (k + 1) ∣ c := by
    have h1 : 2 ^ (k + 1) ∣ c + 4294967296 * m := ⟨q, by rw [h, Nat.mul_comm]⟩
    have h2 : 2 ^ (k + 1) ∣ 4294967296 * m := ⟨2 ^ (31 - k) * m, by rw [e]; rw [Nat.mul_comm (2 ^ (31 - k)), Nat.mul_assoc]⟩
    exact (Nat.dvd_add_left h2).1 h1
  obtain ⟨d, rfl⟩ := hd
  have hp : 0 < 2 ^ k := Nat.pow_pos (by decide)
  have hlt : d < 2 ^ (31 - k) := by
    rw [e, Nat.mul_comm] at hc
    exact Nat.lt_of_mul_lt_mul_right hc
  have h3 : 2 ^ (k + 1) * (d + 1) ≤ 2 ^ (k + 1) * 2 ^ (31 - k) := Nat.mul_le_mul_left _ hlt
  rw [e, Nat.mul_comm (2 ^ (31 - k))]
  rw [Nat.mul_add, Nat.mul_one, Nat.pow_succ 2 k] at h3
  rw [Nat.pow_succ 2 k]
  omega
theorem val_cons (x : Int) (l : List Int) : val (x :: l) = x + 4294967296 * val l := rfl
theorem nat_val_drop {A : List Int} (hA : Ok A) (i : Nat) (hi : i < A.length) : (val (A.drop i)).toNat = (val (A.drop (i + 1))).toNat * 4294967296 + (A.getD i 0).toNat := by
  have h1 := val_nonneg (hA.drop (i + 1))
  have h2 := hA.getD i
  rw [drop_step A i hi, val_cons]; omega
theorem dvRel_first {A : List Int} {n : Nat} {b : Nat} (hA : Ok A) (hn : A.length = n + 1) (hb : 0 < b) : DvRel A b n 32 0 (List.replicate (n + 1) 0) := by
  have h0 : A.drop (n + 1) = [] := List.drop_eq_nil_of_le (by omega)
  have hx := hA.getD n
  refine ⟨by simp [hn], ?_, ?_, fun j hj => by simp [List.getD, List.getElem?_replicate]; split <;> rfl⟩
  · rw [hiX_top _ _ (by omega), h0]; simp [val]
  · rw [hiX_top _ _ (by omega), h0]
    have e : (List.replicate (n + 1) (0 : Int)).drop (n + 1) = [] := List.drop_eq_nil_of_le (by simp)
    rw [e]
    simp [val, List.getD, List.getElem?_replicate]
theorem dvRel_limb {A L : List Int} {b i r : Nat} (hA : Ok A) (hL : Ok L) (hi : i + 1 < A.length) (h : DvRel A b (i + 1) 0 r L) : DvRel A b i 32 r L := by
  have hx := hA.getD i
  have e := nat_val_drop hA (i + 1) hi
  have e2 := nat_val_drop hL (i + 1) (by rw [h.len]; exact hi)
  refine ⟨h.len, ?_, ?_, fun j hj => h.low j (by omega)⟩
  · rw [hiX_top _ _ (by omega), h.rest, hiX_zero, e]
  · have hq := h.quot
    rw [hiX_zero, Nat.pow_zero, Nat.mul_one, ← e] at hq
    rw [hiX_top _ _ (by omega), h.low i (by omega), e2]
    have e3 : (4294967296 : Nat) = 2 ^ 32 := rfl
    rw [← e3, ← hq]
    simp only [Int.toNat_zero]; omega
theorem dvRel_bit {A L : List Int} {b i k r : Nat} {bit : Nat} (hL : Ok L) (hb : 0 < b) (hk : k < 32) (hi : i < A.length) (h : DvRel A b i (k + 1) r L) (hbit : bit = (A.getD i 0).toNat / 2 ^ k % 2) :
    (b ≤ 2 * r + bit → L.getD i 0 + 2 ^ k < 4294967296 ∧ DvRel A b i k (2 * r + bit - b) (L.set i (L.getD i 0 + 2 ^ k))) ∧ (¬ b ≤ 2 * r + bit → DvRel A b i k (2 * r + bit) L) := by
  have hs := hiX_step (val (A.drop (i + 1))).toNat (A.getD i 0).toNat k hk
  rw [← hbit] at hs
  have hd := div_bit (hiX (val (A.drop (i + 1))).toNat (A.getD i 0).toNat (k + 1)) b bit hb (by omega)
  rw [← hs, ← h.rest] at hd
  have hq := h.quot
  have hc := hL.getD i
  obtain ⟨Q, hQ⟩ : ∃ Q, hiX (val (A.drop (i + 1))).toNat (A.getD i 0).toNat (k + 1) / b = Q := ⟨_, rfl⟩
  rw [hQ] at hq hd
  have hpc : ((2 ^ k : Nat) : Int) = (2 : Int) ^ k := by push_cast; rfl
  have hpp : (0 : Int) < (2 : Int) ^ k := Int.pow_pos (by decide)
  constructor
  · intro hle
    rw [if_pos hle, if_pos hle] at hd
    have hb2 := mul_dvd_bound (L.getD i 0).toNat Q _ k hk (by omega) hq
    refine ⟨by omega, by simp [h.len], hd.1, ?_, fun j hj => by rw [getD_set _ _ _ _ (by rw [h.len]; exact hi), if_neg (by omega)]; exact h.low j hj⟩
    rw [← hd.2, getD_set _ _ _ _ (by rw [h.len]; exact hi), if_pos rfl, List.drop_set_of_lt (by omega), Nat.add_mul, Nat.one_mul, Nat.mul_comm 2 Q, Nat.mul_assoc]
    rw [show 2 * 2 ^ k = 2 ^ (k + 1) by rw [Nat.pow_succ, Nat.mul_comm], ← hq]
    omega
  · intro hle
    rw [if_neg hle, if_neg hle] at hd
    simp only [Nat.add_zero] at hd
    refine ⟨h.len, hd.1, ?_, h.low⟩
    rw [← hd.2, Nat.mul_comm 2 Q, Nat.mul_assoc, show 2 * 2 ^ k = 2 ^ (k + 1) by rw [Nat.pow_succ, Nat.mul_comm]]
    exact hq
theorem dvRel_last {A L : List Int} {b r : Nat} (hA : Ok A) (hL : Ok L) (hi : 0 < A.length) (h : DvRel A b 0 0 r L) : r = (val A).toNat % b ∧ (val L).toNat = (val A).toNat / b := by
  have e := nat_val_drop hA 0 hi
  have e2 := nat_val_drop hL 0 (by rw [h.len]; exact hi)
  simp only [List.drop_zero] at e e2
  have hq := h.quot
  have hr := h.rest
  rw [hiX_zero, Nat.pow_zero, Nat.mul_one, ← e] at hq
  rw [hiX_zero, ← e] at hr
  exact ⟨hr, by rw [e2, ← hq]; omega⟩
end Go.Proofs.YthfpkjeobdajiaaDoor

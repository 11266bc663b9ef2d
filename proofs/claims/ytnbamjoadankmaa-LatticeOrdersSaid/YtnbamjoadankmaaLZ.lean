/- Orders: what Order answers. -/
import Derived.Test.YtnbamjoadankmaaLQ
namespace Go.Proofs.Ytnbamjoadankmaa
open Go.RowKit D
theorem tk_zero {O : Nat → Nat → Int} {p : Nat → Nat} {u : Nat → Int} {i : Nat} (h : ∀ k, k < i → u (p k) = 0) : ∀ t, t ≤ i → tk O p u t = u := by
  intro t
  induction t with
  | zero => intro _; rfl
  | succ t ih =>
    intro ht
    funext j
    have e := ih (by omega)
    simp only [tk, e, h t (by omega), Int.zero_ediv, Int.zero_tdiv, Int.zero_mul, Int.sub_zero]
/-- A member without the first pivots. -/
theorem mem_piv {O : Nat → Nat → Int} {p : Nat → Nat} {q : Nat} (h : Hf O q 6 p) {u : Nat → Int} (hu : Sp O q 6 u) {i : Nat} (hi : i < q) (h0 : ∀ k, k < i → u (p k) = 0) : O i (p i) ∣ u (p i) := by
  have a := (h.taken hu).1 i hi
  rwa [tk_zero h0 i (Nat.le_refl _)] at a
theorem mul_dvd {P x s : Int} (hP : 0 < P) (h : P ∣ s * x) : P / (Int.gcd P x : Nat) ∣ s := by
  have hg : 0 < Int.gcd P x := Nat.pos_of_ne_zero (fun e => by have := Int.gcd_eq_zero_iff.1 e; omega)
  obtain ⟨a, ha⟩ := Int.gcd_dvd_left (a := P) (b := x)
  obtain ⟨b, hb⟩ := Int.gcd_dvd_right (a := P) (b := x)
  obtain ⟨g, hgg⟩ : ∃ g : Nat, Int.gcd P x = g := ⟨_, rfl⟩
  rw [hgg] at ha hb hg ⊢
  have hab : Int.gcd a b = 1 := by
    have e : Int.gcd P x = g * Int.gcd a b := by
      have h2 := Int.gcd_mul_left (g : Int) a b
      rw [← ha, ← hb] at h2
      simpa using h2
    rw [hgg] at e
    exact Nat.eq_of_mul_eq_mul_left hg (by omega)
  rw [ha, Int.mul_ediv_cancel_left _ (by omega)]
  have h3 : a ∣ s * b := by
    obtain ⟨c, hc⟩ := h
    refine ⟨c, ?_⟩
    have e : (g : Int) * (s * b) = (g : Int) * (a * c) := by
      have h4 : s * ((g : Int) * b) = (g : Int) * a * c := by rw [← hb, ← ha]; exact hc
      rw [← Int.mul_assoc, Int.mul_comm (g : Int) s, Int.mul_assoc, h4, Int.mul_assoc]
    exact Int.eq_of_mul_eq_mul_left (by omega) e
  have h5 : a.natAbs ∣ s.natAbs * b.natAbs := by rw [← Int.natAbs_mul]; exact Int.natAbs_dvd_natAbs.2 h3
  exact Int.natAbs_dvd_natAbs.1 (Nat.Coprime.dvd_of_dvd_mul_right hab h5)
/-- What holds behind each two steps of an order. -/
theorem ox_inv {O : Nat → Nat → Int} {p : Nat → Nat} {q : Nat} (h : Hf O q 6 p) (v : Nat → Int) : ∀ i, i ≤ q → Sp O q 6 (fun j => ox O p v (2 * i) j - on O p v (2 * i) * v j) ∧ (∀ k, k < i → ox O p v (2 * i) (p k) = 0) ∧ ∀ m : Int, Sp O q 6 (fun j => m * v j) → on O p v (2 * i) ∣ m := by
  intro i
  induction i with
  | zero => intro _; exact ⟨Sp.zero.congr fun j _ => by show v j - 1 * v j = 0; omega, fun k hk => by omega, fun m _ => ⟨m, by show m = 1 * m; omega⟩⟩
  | succ i ih =>
    intro hi
    obtain ⟨a1, a2, a3⟩ := ih (by omega)
    have hp := h.pos i (by omega)
    obtain ⟨x, hx⟩ : ∃ x, ox O p v (2 * i) = x := ⟨_, rfl⟩
    obtain ⟨n, hn⟩ : ∃ n, on O p v (2 * i) = n := ⟨_, rfl⟩
    obtain ⟨c, hc⟩ : ∃ c, mul O p x i = c := ⟨_, rfl⟩
    have e1 : on O p v (2 * (i + 1)) = n * c := by rw [show 2 * (i + 1) = 2 * i + 1 + 1 by omega, on_rem, on_mul, hx, hn, hc]
    have e2 : ox O p v (2 * (i + 1)) = fun j => c * x j + -(c * x (p i) / O i (p i)) * O i j := by
      rw [show 2 * (i + 1) = 2 * i + 1 + 1 by omega, ox_rem, ox_mul, hx, hc]
    rw [hx, hn] at a1
    rw [hx] at a2
    rw [hn] at a3
    rw [e1, e2]
    have hdv : O i (p i) ∣ c * x (p i) := by
      rw [← hc]
      unfold mul
      obtain ⟨a, ha⟩ := Int.gcd_dvd_left (a := O i (p i)) (b := x (p i))
      obtain ⟨b, hb⟩ := Int.gcd_dvd_right (a := O i (p i)) (b := x (p i))
      have hg : 0 < Int.gcd (O i (p i)) (x (p i)) := Nat.pos_of_ne_zero (fun e => by have := Int.gcd_eq_zero_iff.1 e; omega)
      obtain ⟨g, hgg⟩ : ∃ g : Nat, Int.gcd (O i (p i)) (x (p i)) = g := ⟨_, rfl⟩
      rw [hgg] at ha hb hg ⊢
      have e3 : O i (p i) / (g : Int) = a := by rw [ha, Int.mul_ediv_cancel_left _ (by omega)]
      rw [e3]
      refine ⟨b, ?_⟩
      rw [hb]
      show a * ((g : Int) * b) = O i (p i) * b
      rw [ha, ← Int.mul_assoc, Int.mul_comm a (g : Int)]
    refine ⟨?_, fun k hk => ?_, fun m hm => ?_⟩
    · refine ((a1.mul c).add ((Sp.unit (M := O) (n := q) (m := 6) (p := i) (by omega)).mul (-(c * x (p i) / O i (p i))))).congr fun j _ => ?_
      show c * x j + -(c * x (p i) / O i (p i)) * O i j - n * c * v j = c * (x j - n * v j) + -(c * x (p i) / O i (p i)) * O i j
      rw [Int.mul_sub, Int.mul_comm n c, Int.mul_assoc]; omega
    · show c * x (p k) + -(c * x (p i) / O i (p i)) * O i (p k) = 0
      by_cases e : k = i
      · rw [e, Int.neg_mul, Int.ediv_mul_cancel hdv]; omega
      · rw [a2 k (by omega), h.left i (p k) (by omega) (h.rise k i (by omega) (by omega)), Int.mul_zero, Int.mul_zero]; omega
    · obtain ⟨s, hs⟩ := a3 m hm
      have h1 : Sp O q 6 (fun j => s * x j) := (hm.add (a1.mul s)).congr fun j _ => by
        show s * x j = m * v j + s * (x j - n * v j)
        rw [hs, Int.mul_sub, ← Int.mul_assoc, Int.mul_comm s n]; omega
      have h2 := mem_piv h h1 (by omega : i < q) (fun k hk => by show s * x (p k) = 0; rw [a2 k hk, Int.mul_zero])
      have h3 : c ∣ s := by rw [← hc]; exact mul_dvd hp h2
      rw [hs]
      exact Int.mul_dvd_mul (Int.dvd_refl n) h3
/-- The order. -/
theorem order_mem {O : Nat → Nat → Int} {p : Nat → Nat} {q : Nat} (h : Hf O q 6 p) (v : Nat → Int) (m : Int) (hm : m ≠ 0) : Sp O q 6 (fun j => m * v j) ↔ (∀ j, j < 6 → ox O p v (2 * q) j = 0) ∧ on O p v (2 * q) ∣ m := by
  obtain ⟨a1, a2, a3⟩ := ox_inv h v q (Nat.le_refl _)
  constructor
  · intro hs
    obtain ⟨s, e⟩ := a3 m hs
    refine ⟨fun j hj => ?_, a3 m hs⟩
    have h1 : Sp O q 6 (fun j => s * ox O p v (2 * q) j) := (hs.add (a1.mul s)).congr fun j _ => by
      show s * ox O p v (2 * q) j = m * v j + s * (ox O p v (2 * q) j - on O p v (2 * q) * v j)
      rw [e, Int.mul_sub, ← Int.mul_assoc, Int.mul_comm s (on O p v (2 * q))]; omega
    have h2 : s * ox O p v (2 * q) j = 0 := h.small h1 (fun k hk => by
      show (s * ox O p v (2 * q) (p k)).natAbs < _
      rw [a2 k hk, Int.mul_zero]
      have := h.pos k hk
      omega) j hj
    rcases Int.mul_eq_zero.1 h2 with h3 | h3
    · exact absurd (by rw [e, h3, Int.mul_zero]) hm
    · exact h3
  · rintro ⟨h0, s, e⟩
    refine (a1.mul (-s)).congr fun j hj => ?_
    show m * v j = -s * (ox O p v (2 * q) j - on O p v (2 * q) * v j)
    rw [h0 j hj, e]
    grind
end Go.Proofs.Ytnbamjoadankmaa

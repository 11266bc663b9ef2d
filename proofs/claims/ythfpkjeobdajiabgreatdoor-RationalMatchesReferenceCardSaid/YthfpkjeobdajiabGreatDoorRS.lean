/- the reference's simple. -/
import Derived.Test.YthfpkjeobdajiabGreatDoorR4
import Derived.Test.YthfpkjeobdajiabGreatDoorRN
namespace Go.Proofs.YthfpkjeobdajiabGreatDoor
open Go.RowKit M
theorem simple_rec (N : Nat) : ∀ (a b c d : Int) (w : World), b + d ≤ N → (1 ≤ a ∧ a ≤ 1000000000) → (1 ≤ b ∧ b ≤ 1000000000) → (1 ≤ c ∧ c ≤ 1000000000) → (1 ≤ d ∧ d ≤ 1000000000) → a * d ≤ c * b → ∃ p q, Simp a b c d p q ∧
    Calls Tryz.prog 48 #[.int .i64 a, .int .i64 b, .int .i64 c, .int .i64 d] w fun e w' => e = .returned (.tuple #[.int .i64 p, .int .i64 q]) ∧ Below w.heap.size w w' := by
  induction N with
  | zero => intro a b c d w h h0 h1 h2 h3; omega
  | succ N ih =>
  intro a b c d w hN ⟨a1, a2⟩ ⟨b1, b2⟩ ⟨c1, c2⟩ ⟨d1, d2⟩ hle
  obtain ⟨f, hf⟩ : ∃ f, a / b = f := ⟨_, rfl⟩
  obtain ⟨n, hn⟩ : ∃ n, (a + b - 1) / b = n := ⟨_, rfl⟩
  have em := Int.mul_ediv_add_emod a b
  have r0 := Int.emod_nonneg a (show b ≠ 0 by omega)
  have r1 := Int.emod_lt_of_pos a (show 0 < b by omega)
  obtain ⟨r, hr⟩ : ∃ r, a % b = r := ⟨_, rfl⟩
  rw [hf, hr] at em
  rw [hr] at r0 r1
  have ea : a = f * b + r := by grind
  have f0 : 0 ≤ f := by rw [← hf]; exact Int.ediv_nonneg (by omega) (by omega)
  have f1 : f ≤ 1000000000 := by rw [← hf]; have := Int.ediv_le_self b (show 0 ≤ a by omega); omega
  have hnf : (r = 0 ∧ n = f) ∨ (0 < r ∧ n = f + 1) := by
    by_cases h0 : r = 0
    · left
      refine ⟨h0, ?_⟩
      rw [← hn, ea, h0, show f * b + 0 + b - 1 = (b - 1) + f * b from by omega, Int.add_mul_ediv_right _ _ (by omega), Int.ediv_eq_zero_of_lt (by omega) (by omega)]; omega
    · right
      refine ⟨by omega, ?_⟩
      rw [← hn, ea, show f * b + r + b - 1 = (r - 1) + (f + 1) * b from by grind, Int.add_mul_ediv_right _ _ (by omega), Int.ediv_eq_zero_of_lt (by omega) (by omega)]; omega
  have n0 : 0 ≤ n := by omega
  have n1 : n ≤ 1000000001 := by omega
  have hb0 : (b == 0) = false := beq_eq_false_iff_ne.2 (by omega)
  obtain ⟨y, hy⟩ : ∃ y, n * d = y := ⟨_, rfl⟩
  have y0 : 0 ≤ y := by rw [← hy]; exact Int.mul_nonneg n0 (by omega)
  have y1 : y ≤ 1000000001 * 1000000000 := by rw [← hy]; exact Int.mul_le_mul n1 d2 (by omega) (by omega)
  by_cases hc : y ≤ c
  · have hS : Simp a b c d n 1 := by
      rcases hnf with ⟨h0, rfl⟩ | ⟨h0, rfl⟩
      · exact simp_whole b1 d1 a1 hle (by omega)
      · exact simp_next b1 d1 a1 ea h0 r1 f0 (by omega)
    refine ⟨n, 1, hS, ?_⟩
    clear ih hN hle ea em hS hnf hf hr
    go_enter Tryz.func48, Tryz.ntmps48
    go_wp2
    go_ret2
    exact ⟨by rw [hn]; rfl, Below.refl _ _⟩
  have hr0 : 0 < r ∧ n = f + 1 := by
    rcases hnf with ⟨h0, rfl⟩ | h
    · exfalso
      have h1 : b * (n * d) ≤ b * c := by rw [ea, h0] at hle; grind
      have := Int.le_of_mul_le_mul_left h1 (by omega)
      omega
    · exact h
  obtain ⟨s, hs⟩ : ∃ s, c - f * d = s := ⟨_, rfl⟩
  have ec : c = f * d + s := by omega
  have hrs : d * r ≤ b * s := by
    rw [ea, ec] at hle; grind
  have hs0 : 0 < s := by
    by_cases h0 : s ≤ 0
    · have h1 := Int.mul_le_mul_of_nonneg_left (show 1 ≤ r by omega) (show 0 ≤ d by omega)
      have h2 := Int.mul_le_mul_of_nonneg_left h0 (show 0 ≤ b by omega)
      omega
    · omega
  have hsd : s < d := by
    have : y = f * d + d := by rw [← hy, hr0.2]; grind
    omega
  have IH := fun w => ih d s b r w (by omega) ⟨d1, d2⟩ ⟨by omega, by omega⟩ ⟨b1, b2⟩ ⟨by omega, by omega⟩ hrs
  obtain ⟨p, q, hS, _⟩ := IH w
  have IH : ∀ w : World, Calls Tryz.prog 48 #[.int .i64 d, .int .i64 s, .int .i64 b, .int .i64 r] w fun e w' => e = .returned (.tuple #[.int .i64 p, .int .i64 q]) ∧ Below w.heap.size w w' := by
    intro w
    obtain ⟨p', q', hS', h⟩ := IH w
    obtain ⟨rfl, rfl⟩ := hS.unique hS'
    exact h
  have R := simp_step b1 d1 ea ec hr0.1 hs0 f0 hS
  have hl := R.least a b b1 (by omega) hle
  have p1 := hS.p1
  have q1 := hS.q1
  refine ⟨_, _, R, ?_⟩
  have hgp : 0 ≤ f * p := Int.mul_nonneg f0 (by omega)
  obtain ⟨z, hz⟩ : ∃ z, f * d = z := ⟨_, rfl⟩
  obtain ⟨v, hv⟩ : ∃ v, f * b = v := ⟨_, rfl⟩
  have z0 : 0 ≤ z := by rw [← hz]; exact Int.mul_nonneg f0 (by omega)
  have v0 : 0 ≤ v := by rw [← hv]; exact Int.mul_nonneg f0 (by omega)
  rw [hz] at hs
  have hrv : a - v = r := by rw [← hv]; omega
  have hzc : z ≤ c := by omega
  have hva : v ≤ a := by omega
  have IH := Bx.mk IH
  have hne := hr0.2
  clear hr0
  subst hne
  clear ih hN hle ea ec hrs hS R em hr hnf hsd
  go_enter Tryz.func48, Tryz.ntmps48
  go_wp2_with fail
  refine (IH.out _).mono ?_
  rintro e w2 ⟨rfl, hb⟩
  go_wp2_with fail

  go_ret2
  exact ⟨rfl, hb⟩
end Go.Proofs.YthfpkjeobdajiabGreatDoor

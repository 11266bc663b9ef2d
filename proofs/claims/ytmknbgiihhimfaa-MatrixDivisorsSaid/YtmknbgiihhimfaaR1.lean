/- the reference's mod, euclid, swapped, others. -/
import Derived.Test.YtmknbgiihhimfaaMB
namespace Go.Proofs.Ytmknbgiihhimfaa
open Go.RowKit
theorem emod_of_tmod {x d : Int} (hd : 1 ≤ d) : x % d = if x.tmod d < 0 then x.tmod d + d else x.tmod d := by
  rw [Int.tmod_eq_emod]
  have h1 := Int.emod_nonneg x (show d ≠ 0 by omega)
  have h2 := Int.emod_lt_of_pos x (show 0 < d by omega)
  by_cases h : 0 ≤ x ∨ d ∣ x
  · rw [if_pos h]; split <;> omega
  · rw [if_neg h]
    have h3 : x % d ≠ 0 := fun e => h (Or.inr (Int.dvd_of_emod_eq_zero e))
    split <;> omega
theorem mod_any (x d : Int) (w : World) (hd : 1 ≤ d) (h3 : d ≤ 9223372036854775807) :
    Calls Try.prog 34 #[.int .i64 x, .int .i64 d] w fun e w' => e = .returned (.int .i64 (x % d)) ∧ w = w' := by
  have hx := emod_of_tmod (x := x) hd
  have h1 := Int.emod_nonneg x (show d ≠ 0 by omega)
  have h2 := Int.emod_lt_of_pos x (show 0 < d by omega)
  obtain ⟨m, hm⟩ : ∃ m, x % d = m := ⟨_, rfl⟩
  obtain ⟨r, hr⟩ : ∃ r, x.tmod d = r := ⟨_, rfl⟩
  rw [hm, hr] at hx
  rw [hm] at h1 h2 ⊢
  have hr0 : -d ≤ r := by split at hx <;> omega
  by_cases hn : r < 0
  · rw [if_pos hn] at hx
    have HM := Bx.mk hm; clear hm
    go_enter Try.func34, Try.ntmps34
    go_wp2_with fail
    go_ret
    exact ⟨by rw [hx]; rfl, rfl⟩
  · rw [if_neg hn] at hx
    have HM := Bx.mk hm; clear hm
    go_enter Try.func34, Try.ntmps34
    go_wp2_with fail
    go_ret
    exact ⟨rfl, rfl⟩
/-- What euclid finds. -/
structure Eu (a b G X Y : Int) : Prop where
  pos : 0 < G
  da : G ∣ a
  db : G ∣ b
  eq : X * a + Y * b = G
  x0 : b = 0 → X = 1 ∧ Y = 0
  x1 : b ≠ 0 → -b ≤ X ∧ X ≤ b
  y1 : -a ≤ Y ∧ Y ≤ a
theorem Eu.step {a b G X Y : Int} (ha : 0 < a) (hb : 0 < b) (h : Eu b (a % b) G X Y) : Eu a b G Y (X - a / b * Y) := by
  have h1 := Int.emod_nonneg a (show b ≠ 0 by omega)
  have h2 := Int.emod_lt_of_pos a hb
  have h3 := Int.emod_add_mul_ediv a b
  have h4 : 0 ≤ a / b := Int.ediv_nonneg (by omega) (by omega)
  obtain ⟨p, da, db, eq, x0, x1, y1⟩ := h
  refine ⟨p, ?_, da, by grind, fun e => by omega, fun _ => y1, ?_⟩
  · have := Int.dvd_add db (Int.dvd_mul_of_dvd_left da (c := a / b)); rwa [h3] at this
  · by_cases e : a % b = 0
    · obtain ⟨rfl, rfl⟩ := x0 e
      simp; omega
    · have := x1 e
      have m1 : a / b * Y ≤ a / b * b := Int.mul_le_mul_of_nonneg_left y1.2 h4
      have m2 : a / b * -b ≤ a / b * Y := Int.mul_le_mul_of_nonneg_left y1.1 h4
      have m3 : a / b * -b = -(a / b * b) := by rw [Int.mul_neg]
      have m4 : a / b * b = b * (a / b) := Int.mul_comm _ _
      omega
theorem euclid_any (N : Nat) (a b : Int) (w : World) (ha : 0 < a) (hb : 0 ≤ b) (hN : b.toNat ≤ N) (hA : a ≤ 4000000000000000000) (hB : b ≤ 4000000000000000000) :
    Calls Try.prog 48 #[.int .i64 a, .int .i64 b] w fun e w' => ∃ G X Y, Bx (Eu a b G X Y) ∧ e = .returned (.agg #[.int .i64 G, .int .i64 X, .int .i64 Y]) ∧ Below w.heap.size w w' := by
  induction N generalizing a b w with
  | zero =>
    obtain rfl : b = 0 := by omega
    go_enter Try.func48, Try.ntmps48
    go_wp2_with fail
    refine bodyPost_ret_by (v := .agg #[.int .i64 a, .int .i64 1, .int .i64 0]) (by simp [results, Try.results48, go_sem]) rfl ?_
    exact ⟨a, 1, 0, ⟨⟨ha, Int.dvd_refl _, Int.dvd_zero _, by omega, fun _ => ⟨rfl, rfl⟩, fun h => absurd rfl h, by omega, by omega⟩⟩, rfl, (by repeat (first | with_reducible exact Below.refl _ _ | (with_reducible refine Below.setCell ?_ ?side _; case side => (first | omega | (simp <;> omega))) | (with_reducible refine Below.alloc ?_ ?side _; case side => (first | omega | (simp <;> omega))) | with_reducible apply below_drewN | with_reducible apply below_drew))⟩
  | succ N ih =>
    by_cases h0 : b = 0
    · exact ih a b w ha hb (by omega) hA hB
    · have h1 := Int.emod_nonneg a h0
      have h2 := Int.emod_lt_of_pos a (show 0 < b by omega)
      have ht : a.tmod b = a % b := Int.tmod_eq_emod_of_nonneg (by omega)
      have hd : a.tdiv b = a / b := Int.tdiv_eq_ediv_of_nonneg (by omega)
      obtain ⟨m, hm⟩ : ∃ m, a % b = m := ⟨_, rfl⟩
      obtain ⟨q, hq⟩ : ∃ q, a / b = q := ⟨_, rfl⟩
      have hq0 : 0 ≤ q := by rw [← hq]; exact Int.ediv_nonneg (by omega) (by omega)
      have IH := Bx.mk (fun w => ih b m w (by omega) (by omega) (by omega) hB (by omega))
      have HM := Bx.mk hm
      have HQ := Bx.mk hq
      rw [hm] at ht h1 h2; rw [hq] at hd
      have hz : (b == 0) = false := by simpa using h0
      have key : ∀ G X Y, Eu b m G X Y → Eu a b G Y (X - q * Y) := fun G X Y h => by
        rw [← HM.out] at h; rw [← HQ.out]; exact h.step ha (by omega)
      have hqb : q * b ≤ a := by
        rw [← HQ.out]; have := Int.emod_add_mul_ediv a b; have h5 := Int.mul_comm b (a / b); have := HM.out; omega
      clear ih hm hq h0
      go_enter Try.func48, Try.ntmps48
      go_wp2_with fail
      refine (IH.out _).mono ?_
      rintro e w1 ⟨G, X, Y, HE, rfl, hb1⟩
      have K := Bx.mk (key G X Y HE.out)
      have y1 := HE.out.y1
      have b1 : q * Y ≤ q * b := Int.mul_le_mul_of_nonneg_left y1.2 hq0
      have b2 : q * -b ≤ q * Y := Int.mul_le_mul_of_nonneg_left y1.1 hq0
      have b3 : q * -b = -(q * b) := by rw [Int.mul_neg]
      have y2 := K.out.y1
      have b4 : -9223372036854775808 ≤ q * Y := by omega
      have b5 : q * Y ≤ 9223372036854775807 := by omega
      obtain ⟨hc1, hf1⟩ := bcell hb1
      have hz1 := hb1.size
      (try simp at hz1)
      have hy1 : w.heap.size < w1.heap.size := by omega
      have hq1 : q ≤ 4000000000000000000 := by
        have := Int.mul_le_mul_of_nonneg_left (show 1 ≤ b by omega) hq0; omega
      have x1 : -4000000000000000000 ≤ X ∧ X ≤ 4000000000000000000 := by
        by_cases e : m = 0
        · have := (HE.out.x0 e).1; omega
        · have := HE.out.x1 e; omega
      obtain ⟨x1, x2⟩ := x1
      have HB : Bx (Below w.heap.size w w1) := ⟨Below.trans (by repeat (first | with_reducible exact Below.refl _ _ | (with_reducible refine Below.setCell ?_ ?side _; case side => (first | omega | (simp <;> omega))) | (with_reducible refine Below.alloc ?_ ?side _; case side => (first | omega | (simp <;> omega))) | with_reducible apply below_drewN | with_reducible apply below_drew)) (hb1.mono (by first | omega | (simp <;> omega)))⟩
      obtain ⟨s, hs⟩ : ∃ s, q * Y = s := ⟨_, rfl⟩
      rw [hs] at b4 b5 y2 K
      obtain ⟨y21, y22⟩ := y2
      clear hb1 b1 b2 b3 HE key y1
      go_wp2_with fail
      go_region
      all_goals go_wp2_with fail
      all_goals (refine bodyPost_ret_by (v := .agg #[.int .i64 G, .int .i64 Y, .int .i64 (X - s)]) (by simp [results, Try.results48, go_sem, hc1, hy1]) rfl ?_)
      all_goals exact ⟨G, Y, X - s, ⟨K.out⟩, rfl, (by repeat (first | with_reducible exact HB.out | with_reducible exact Below.refl _ _ | (with_reducible refine Below.setCell ?_ ?side _; case side => (first | omega | (simp <;> omega))) | (with_reducible refine Below.alloc ?_ ?side _; case side => (first | omega | (simp <;> omega))) | with_reducible apply below_drewN | with_reducible apply below_drew))⟩
end Go.Proofs.Ytmknbgiihhimfaa

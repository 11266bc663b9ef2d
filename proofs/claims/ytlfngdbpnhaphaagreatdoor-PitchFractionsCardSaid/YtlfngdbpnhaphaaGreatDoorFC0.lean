/- pitch.Ratio by what it returns, for all ints; fractions compared. -/
import Derived.Test.YtlfngdbpnhaphaaGreatDoorHD
namespace Go.Proofs.YtlfngdbpnhaphaaGreatDoor
open Go.RowKit M
theorem took_ex {p x : Nat} (hp : 2 ≤ p) (hx : x ≤ 1000000000) : ∀ y e, Took p x e y → ∃ e' y', Took p x e' y' ∧ ¬ y' % p = 0 := by
  intro y
  induction y using Nat.strongRecOn with
  | ind y ih =>
    intro e h
    by_cases hd : y % p = 0
    · obtain ⟨h1, h2⟩ := h.step hp hx hd
      exact ih _ h2 _ h1
    · exact ⟨e, y, h, hd⟩
theorem facR_ex {n : Nat} (h1 : 1 ≤ n) (h2 : n ≤ 1000000000) : ∃ v r, FacR n v r := by
  obtain ⟨e0, y0, t0, n0⟩ := took_ex (p := 2) (by omega) h2 _ _ (Took.start h1)
  have b0 := t0.pos; have l0 := t0.le
  obtain ⟨e1, y1, t1, n1⟩ := took_ex (p := 3) (x := y0) (by omega) (by omega) _ _ (Took.start b0)
  have b1 := t1.pos; have l1 := t1.le
  obtain ⟨e2, y2, t2, n2⟩ := took_ex (p := 5) (x := y1) (by omega) (by omega) _ _ (Took.start b1)
  have b2 := t2.pos; have l2 := t2.le
  obtain ⟨e3, y3, t3, n3⟩ := took_ex (p := 7) (x := y2) (by omega) (by omega) _ _ (Took.start b2)
  have b3 := t3.pos; have l3 := t3.le
  obtain ⟨e4, y4, t4, n4⟩ := took_ex (p := 11) (x := y3) (by omega) (by omega) _ _ (Took.start b3)
  have b4 := t4.pos; have l4 := t4.le
  obtain ⟨e5, y5, t5, n5⟩ := took_ex (p := 13) (x := y4) (by omega) (by omega) _ _ (Took.start b4)
  exact ⟨_, _, facR_of (e := fun i => if i = 0 then e0 else if i = 1 then e1 else if i = 2 then e2 else if i = 3 then e3 else if i = 4 then e4 else e5) t0 t1 t2 t3 t4 t5 n0 n1 n2 n3 n4 n5⟩
/-- What Ratio returns. -/
structure RatR (n d : Int) (v : Nat → Int) (c : Int) : Prop where
  call : ∀ w, Pm w → Calls Tryz.prog 27 #[.int .i64 n, .int .i64 d] w (OutV w v c)
  val : c = 0 → ∃ m k : Nat, n = (m : Int) ∧ d = (k : Int) ∧ 1 ≤ m ∧ m ≤ 1000000000 ∧ 1 ≤ k ∧ k ≤ 1000000000 ∧ up v * k = dn v * m ∧ up v ∣ m ∧ (∀ i, i < 6 → -30 ≤ v i ∧ v i ≤ 30)
theorem ratR_ex (n d : Int) : ∃ v c, RatR n d v c := by
  by_cases n0 : n < 1
  · exact ⟨_, _, fun w _ => ratio_n0 n d w n0, by omega⟩
  · by_cases n1 : 1000000000 < n
    · exact ⟨_, _, fun w _ => ratio_n1 n d w (by omega) n1, by omega⟩
    · by_cases d0 : d < 1
      · exact ⟨_, _, fun w _ => ratio_d0 n d w (by omega) (by omega) d0, by omega⟩
      · by_cases d1 : 1000000000 < d
        · exact ⟨_, _, fun w _ => ratio_d1 n d w (by omega) (by omega) (by omega) d1, by omega⟩
        · obtain ⟨m, rfl⟩ := Int.eq_ofNat_of_zero_le (show 0 ≤ n by omega)
          obtain ⟨k, rfl⟩ := Int.eq_ofNat_of_zero_le (show 0 ≤ d by omega)
          obtain ⟨va, ra, fa⟩ := facR_ex (n := m) (by omega) (by omega)
          obtain ⟨vb, rb, fb⟩ := facR_ex (n := k) (by omega) (by omega)
          by_cases e : ra = rb
          · subst e
            obtain ⟨f1, f2, f3⟩ := ratio_frac (u := fun i => va i - vb i) fa fb fun _ _ => rfl
            exact ⟨fun i => va i - vb i, 0, fun w hP => ratio_v m k w hP (by omega) (by omega) (by omega) (by omega) fa fb (.inl ⟨rfl, rfl, fun _ _ => rfl⟩),
              fun _ => ⟨m, k, rfl, rfl, by omega, by omega, by omega, by omega, f1, f2, f3⟩⟩
          · exact ⟨fun _ => 0, 9, fun w hP => ratio_v m k w hP (by omega) (by omega) (by omega) (by omega) fa fb (.inr ⟨e, rfl, fun _ _ => rfl⟩), by omega⟩
/-- The order of two fractions is that of their quotient and 1. -/
theorem sg_frac (s t : Nat → Int) : cmpI ((up s * dn t : Nat) : Int) ((up t * dn s : Nat) : Int) = sg fun i => s i - t i := by
  have px := up_pos (fun i => s i - t i)
  have py : 0 < dn (fun i => s i - t i) := up_pos _
  have key : up (fun i => s i - t i) * (dn s * up t) = dn (fun i => s i - t i) * (up s * dn t) := by
    apply upN_mul3; intro i _; simp only [neg]; omega
  have pA : 0 < up s * dn t := Nat.mul_pos (up_pos _) (up_pos _)
  have pB : 0 < dn s * up t := Nat.mul_pos (up_pos _) (up_pos _)
  unfold sg
  rw [Nat.mul_comm (up t)]
  generalize up (fun i => s i - t i) = X at *
  generalize dn (fun i => s i - t i) = Y at *
  generalize up s * dn t = A at *
  generalize dn s * up t = B at *
  apply cmpI_mono
  · constructor
    · intro h
      refine Nat.lt_of_not_le fun hle => ?_
      have h1 : Y * A < Y * B := Nat.mul_lt_mul_of_pos_left h py
      have h2 : Y * B ≤ X * B := Nat.mul_le_mul_right _ hle
      omega
    · intro h
      refine Nat.lt_of_not_le fun hle => ?_
      have h1 : X * B < Y * B := Nat.mul_lt_mul_of_pos_right h pB
      have h2 : Y * B ≤ Y * A := Nat.mul_le_mul_left _ hle
      omega
  · constructor
    · intro h
      refine Nat.lt_of_not_le fun hle => ?_
      have h1 : X * B < X * A := Nat.mul_lt_mul_of_pos_left h px
      have h2 : X * A ≤ Y * A := Nat.mul_le_mul_right _ hle
      omega
    · intro h
      refine Nat.lt_of_not_le fun hle => ?_
      have h1 : Y * A < X * A := Nat.mul_lt_mul_of_pos_right h pA
      have h2 : X * A ≤ X * B := Nat.mul_le_mul_left _ hle
      omega
theorem up48 (s : Nat → Int) (h : ∀ i, i < 6 → -48 ≤ s i ∧ s i ≤ 48) (t : Nat → Int) (k : ∀ i, i < 6 → -48 ≤ t i ∧ t i ≤ 48) : Fits (up s * dn t) := by
  have e : up s * dn t = up fun i => ((s i).toNat : Int) + ((-t i).toNat : Int) := by
    apply upN_mul2; intro i _; simp only [neg]; omega
  rw [e]
  exact fits_up fun i hi => by have := h i hi; have := k i hi; omega
end Go.Proofs.YtlfngdbpnhaphaaGreatDoor

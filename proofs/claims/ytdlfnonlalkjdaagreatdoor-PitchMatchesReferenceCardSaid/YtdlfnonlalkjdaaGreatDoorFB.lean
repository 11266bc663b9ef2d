/- the reference's Order on natural numbers. -/
import Derived.Test.YtdlfnonlalkjdaaGreatDoorFA
namespace Go.Proofs.YtdlfnonlalkjdaaGreatDoor
open Go.RowKit M
theorem refOrder_eqlen (ao bo : Option Addr) (A B : List Int) (n ca cb : Nat) (w : World) (hn : A.length = n) (hm : B.length = n) (hn6 : n ≤ 100000)
    (hA : Ok A) (hB : Ok B) (hca : CellsK .u32 w ao A) (hcb : CellsK .u32 w bo B) :
    Calls Tryz.prog 50 #[.slice ao n ca, .slice bo n cb] w fun e w' => e = .returned (.int .i64 (cmpI (val A) (val B))) ∧ Quiet w w' := by
  go_enter Tryz.func50, Tryz.ntmps50
  go_wp2
  go_loopw [5] (fun v wr => ∃ k : Nat, k ≤ n ∧ v = .int .i64 ((k : Int) - 1) ∧ Hid (A.drop k = B.drop k) ∧ Quiet w wr) (fun v _ => (intOf v + 1).toNat)
  case atStart => exact ⟨n, Nat.le_refl _, by go_num, by show _ = _; rw [List.drop_eq_nil_of_le (by omega), List.drop_eq_nil_of_le (by omega)], Quiet.refl w⟩
  case round =>
    obtain ⟨k, hk, rfl, HD, hq⟩ := hrel
    by_cases h0 : k = 0
    · subst h0
      have e : cmpI (val A) (val B) = 0 := by
        have : A = B := by simpa using HD.out
        rw [this, cmpI_eq]
      have HE := Lib.hid e
      clear e
      go_wp2
      go_ret
      exact ⟨by rw [HE.out]; rfl, hq⟩
    · obtain ⟨a, rfl, _, hac⟩ := hca.keep (hq.below _) (by intro e; subst e; simp at hn; omega)
      obtain ⟨b, rfl, _, hbc⟩ := hcb.keep (hq.below _) (by intro e; subst e; simp at hm; omega)
      have hca1 := hac (k - 1) (by omega)
      have hcb1 := hbc (k - 1) (by omega)
      clear hac hbc
      obtain ⟨x, hx⟩ : ∃ x, x = A.getD (k - 1) 0 := ⟨_, rfl⟩
      obtain ⟨y, hy⟩ : ∃ y, y = B.getD (k - 1) 0 := ⟨_, rfl⟩
      rw [← hx] at hca1
      rw [← hy] at hcb1
      have HX := Lib.hid hx
      have HY := Lib.hid hy
      clear hx hy
      have hb1 : (0 : Int) ≤ (k : Int) - 1 := by omega
      have hb2 : (k : Int) - 1 < (n : Int) := by omega
      have hdd : A.drop (k - 1 + 1) = B.drop (k - 1 + 1) := by rw [show k - 1 + 1 = k from by omega]; exact HD.out
      rcases Int.lt_trichotomy x y with hlt | heq | hgt
      · have e : cmpI (val A) (val B) = -1 := cmpI_lt (val_lt_of_limb hA hB (k - 1) (by omega) (by omega) hdd (by rw [← HX.out, ← HY.out]; exact hlt))
        have HE := Lib.hid e
        have hd : decide (x < y) = true := by simpa using hlt
        clear e hdd HX HY HD
        go_wp2_with fail
        go_quiet (fail)
        go_wp2
        go_ret
        exact ⟨by rw [HE.out]; rfl, by first | exact hq.drewN _ | exact hq⟩
      · have hd : decide (x < y) = false := by simp; omega
        have hd2 : decide (y < x) = false := by simp; omega
        have HXY := Lib.hid heq
        clear heq hdd
        go_wp2_with fail
        go_quiet (fail)
        go_wp2_with fail
        go_quiet (fail)
        go_wp2
        go_roundw
        case rel => exact ⟨k - 1, by omega, by go_num, by
          show _ = _
          rw [drop_step A (k - 1) (by omega), drop_step B (k - 1) (by omega), ← HX.out, ← HY.out, HXY.out, show k - 1 + 1 = k from by omega, HD.out], by first | exact (hq.drewN _).drewN _ | exact hq.drewN _⟩
        case measure => simp [intOf]; omega
      · have e : cmpI (val A) (val B) = 1 := cmpI_gt (val_lt_of_limb hB hA (k - 1) (by omega) (by omega) hdd.symm (by rw [← HX.out, ← HY.out]; exact hgt))
        have HE := Lib.hid e
        have hd : decide (x < y) = false := by simp; omega
        have hd2 : decide (y < x) = true := by simpa using hgt
        clear e hdd HX HY HD
        go_wp2_with fail
        go_quiet (fail)
        go_wp2_with fail
        go_quiet (fail)
        go_wp2
        go_ret
        exact ⟨by rw [HE.out]; rfl, by first | exact (hq.drewN _).drewN _ | exact hq.drewN _ | exact hq⟩
/-- The reference's Order: the order of the values. -/
theorem refOrder_any (ao bo : Option Addr) (A B : List Int) (n m ca cb : Nat) (w : World) (hn : A.length = n) (hm : B.length = m) (hn6 : n ≤ 100000) (hm6 : m ≤ 100000)
    (hA : Ok A) (hB : Ok B) (lA : A.getLast? ≠ some 0) (lB : B.getLast? ≠ some 0) (hca : CellsK .u32 w ao A) (hcb : CellsK .u32 w bo B) :
    Calls Tryz.prog 50 #[.slice ao n ca, .slice bo m cb] w fun e w' => e = .returned (.int .i64 (cmpI (val A) (val B))) ∧ Quiet w w' := by
  rcases Nat.lt_trichotomy n m with hlt | heq | hgt
  · have e : cmpI (val A) (val B) = -1 := cmpI_lt (val_lt_of_len hA hB lB (by omega))
    have HE := Lib.hid e
    have hd : decide ((n : Int) < (m : Int)) = true := by simpa using hlt
    clear e lA lB hn hm hA hB
    go_enter Tryz.func50, Tryz.ntmps50
    go_wp2
    go_ret
    exact ⟨by rw [HE.out]; rfl, Quiet.refl w⟩
  · subst heq; exact refOrder_eqlen ao bo A B n ca cb w hn hm hn6 hA hB hca hcb
  · have e : cmpI (val A) (val B) = 1 := cmpI_gt (val_lt_of_len hB hA lA (by omega))
    have HE := Lib.hid e
    have hd : decide ((n : Int) < (m : Int)) = false := by simp; omega
    have hd2 : decide ((m : Int) < (n : Int)) = true := by simpa using hgt
    clear e lA lB hn hm hA hB
    go_enter Tryz.func50, Tryz.ntmps50
    go_wp2
    go_ret
    exact ⟨by rw [HE.out]; rfl, Quiet.refl w⟩
end Go.Proofs.YtdlfnonlalkjdaaGreatDoor

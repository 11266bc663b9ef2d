/- natural.compare, sign, difference; math/bits.Sub32. -/
import Derived.Test.YtegjhkjmejckdaaDoorN2
namespace Go.Proofs.YtegjhkjmejckdaaDoor
open Go.RowKit M
theorem sign_any (b : Bool) (w : World) : Calls Tryd.prog 78 #[.bool b] w fun e w' => e = .returned (.int .i64 (if b then -1 else 1)) ∧ w = w' := by
  cases b
  · go_enter Tryd.func78, Tryd.ntmps78
    go_wp2
    go_ret
    exact ⟨rfl, rfl⟩
  · go_enter Tryd.func78, Tryd.ntmps78
    go_wp2
    go_ret
    exact ⟨rfl, rfl⟩
theorem sign_quiet (b : Bool) (w : World) : Calls Tryd.prog 78 #[.bool b] w fun e w' => e = .returned (.int .i64 (if b then -1 else 1)) ∧ w' = w := (sign_any b w).mono fun _ _ h => ⟨h.1, h.2.symm⟩
/-- Nothing but draws. -/
def Quiet (w w' : World) : Prop := ∃ d, w' = w.drewN d
theorem Quiet.below {w w' : World} (h : Quiet w w') (B : Nat) : Below B w w' := by obtain ⟨d, rfl⟩ := h; exact below_drewN (Below.refl _ _) d
theorem Quiet.refl (w : World) : Quiet w w := ⟨0, rfl⟩
theorem Quiet.drewN {w w' : World} (h : Quiet w w') (n : Nat) : Quiet w (w'.drewN n) := by obtain ⟨d, rfl⟩ := h; exact ⟨d + n, by simp [World.drewN, Nat.add_assoc]⟩
theorem compare_any (ao bo : Option Addr) (A B : List Int) (n m ca cb : Nat) (w : World) (hn : A.length = n) (hm : B.length = m) (hn6 : n ≤ 700) (hm6 : m ≤ 700)
    (hA : Ok A) (hB : Ok B) (lA : A.getLast? ≠ some 0) (lB : B.getLast? ≠ some 0) (hca : CellsK .u32 w ao A) (hcb : CellsK .u32 w bo B) :
    Calls Tryd.prog 58 #[.slice ao n ca, .slice bo m cb] w fun e w' => e = .returned (.int .i64 (cmpI (val A) (val B))) ∧ Quiet w w' := by
  by_cases hnm : n = m
  · subst hnm
    go_enter Tryd.func58, Tryd.ntmps58
    go_wp2
    go_loopw [5] (fun v wr => ∃ k : Nat, k ≤ n ∧ v = .int .i64 ((k : Int) - 1) ∧ Hid (A.drop k = B.drop k) ∧ Quiet w wr) (fun v _ => (intOf v + 1).toNat)
    case atStart => exact ⟨n, Nat.le_refl _, by go_num, by show _ = _; rw [List.drop_eq_nil_of_le (by omega), List.drop_eq_nil_of_le (by omega)], Quiet.refl w⟩
    case round =>
      obtain ⟨k, hk, rfl, HD, hq⟩ := hrel
      by_cases h0 : k = 0
      · subst h0
        have e : cmpI (val A) (val B) = 0 := by
          have : A = B := by simpa using HD.out
          rw [this, cmpI_eq]
        have HE := Lib.hid e
        clear e
        go_wp2
        go_ret
        exact ⟨by rw [HE.out]; rfl, hq⟩
      · obtain ⟨a, rfl, _, hac⟩ := hca.keep (hq.below _) (by intro e; subst e; simp at hn; omega)
        obtain ⟨b, rfl, _, hbc⟩ := hcb.keep (hq.below _) (by intro e; subst e; simp at hm; omega)
        have hca1 := hac (k - 1) (by omega)
        have hcb1 := hbc (k - 1) (by omega)
        clear hac hbc
        obtain ⟨x, hx⟩ : ∃ x, x = A.getD (k - 1) 0 := ⟨_, rfl⟩
        obtain ⟨y, hy⟩ : ∃ y, y = B.getD (k - 1) 0 := ⟨_, rfl⟩
        rw [← hx] at hca1
        rw [← hy] at hcb1
        have HX := Lib.hid hx
        have HY := Lib.hid hy
        clear hx hy
        have hb1 : (0 : Int) ≤ (k : Int) - 1 := by omega
        have hb2 : (k : Int) - 1 < (n : Int) := by omega
        by_cases hxy : x = y
        · have ht : (x != y) = false := by simp [hxy]
          have HXY := Lib.hid hxy
          clear hxy
          go_wp2_with fail
          go_quiet (fail)
          go_wp2
          go_roundw
          case rel => exact ⟨k - 1, by omega, by go_num, by
            show _ = _
            rw [drop_step A (k - 1) (by omega), drop_step B (k - 1) (by omega), ← HX.out, ← HY.out, HXY.out, show k - 1 + 1 = k from by omega, HD.out], hq.drewN _⟩
          case measure => simp [intOf]; omega
        · have ht : (x != y) = true := by simp [hxy]
          have hdd : A.drop (k - 1 + 1) = B.drop (k - 1 + 1) := by rw [show k - 1 + 1 = k from by omega]; exact HD.out
          have hdr := HD.out
          have e : cmpI (val A) (val B) = if x < y then -1 else 1 := by
            by_cases hlt : x < y
            · rw [if_pos hlt]; exact cmpI_lt (val_lt_of_limb hA hB (k - 1) (by omega) (by omega) hdd (by rw [← HX.out, ← HY.out]; exact hlt))
            · rw [if_neg hlt]; exact cmpI_gt (val_lt_of_limb hB hA (k - 1) (by omega) (by omega) hdd.symm (by rw [← HX.out, ← HY.out]; omega))
          have HE0 := e
          clear e hdd hdr hxy HX HY HD
          by_cases hlt : x < y
          · rw [if_pos hlt] at HE0
            have HE := Lib.hid HE0
            clear HE0
            have hd : decide (x < y) = true := by simpa using hlt
            go_wp2_with fail
            go_quiet (fail)
            go_wp2
            go_quiet ((go_at_call 78; exact quiet_add_left (sign_any _ _)))
            go_wp2
            go_ret
            exact ⟨by rw [HE.out]; rfl, by first | exact (hq.drewN _).drewN _ | exact hq.drewN _⟩
          · rw [if_neg hlt] at HE0
            have HE := Lib.hid HE0
            clear HE0
            have hd : decide (x < y) = false := by simpa using hlt
            go_wp2_with fail
            go_quiet (fail)
            go_wp2
            go_quiet ((go_at_call 78; exact quiet_add_left (sign_any _ _)))
            go_wp2
            go_ret
            exact ⟨by rw [HE.out]; rfl, by first | exact (hq.drewN _).drewN _ | exact hq.drewN _⟩
  · have e : cmpI (val A) (val B) = if n < m then -1 else 1 := by
      by_cases hlt : n < m
      · rw [if_pos hlt]; exact cmpI_lt (val_lt_of_len hA hB lB (by omega))
      · rw [if_neg hlt]; exact cmpI_gt (val_lt_of_len hB hA lA (by omega))
    have HE0 := e
    clear e
    have hne : ((n : Int) != (m : Int)) = true := by simp; omega
    by_cases hlt : n < m
    · rw [if_pos hlt] at HE0
      have HE := Lib.hid HE0
      clear HE0
      go_enter Tryd.func58, Tryd.ntmps58
      go_wp2_with (go_at_call 78; refine (sign_any _ _).mono ?_; rintro e w' ⟨rfl, rfl⟩)
      go_ret
      exact ⟨by rw [HE.out]; rfl, Quiet.refl w⟩
    · rw [if_neg hlt] at HE0
      have HE := Lib.hid HE0
      clear HE0
      have hd : decide ((n : Int) < (m : Int)) = false := by simpa using hlt
      go_enter Tryd.func58, Tryd.ntmps58
      go_wp2_with (go_at_call 78; refine (sign_any _ _).mono ?_; rintro e w' ⟨rfl, rfl⟩)
      go_ret
      exact ⟨by rw [HE.out]; rfl, Quiet.refl w⟩
end Go.Proofs.YtegjhkjmejckdaaDoor

/- the reference's number: the integer that digits say. -/
import Derived.Test.YthfpkjeobdajiabGreatDoorRH
namespace Go.Proofs.YthfpkjeobdajiabGreatDoor
open Go.RowKit M
theorem byte_at (s : ByteArray) (k : Nat) (hk : k < s.size) : s.data.toList.drop k = s[k] :: s.data.toList.drop (k + 1) := by
  rw [List.drop_eq_getElem_cons (by simpa using hk)]; rfl
theorem pow10_le (k : Nat) (h : k ≤ 10) : (10 : Int) ^ k ≤ 10000000000 := by
  have h1 : (10 : Nat) ^ k ≤ 10 ^ 10 := Nat.pow_le_pow_right (by omega) h
  have h2 : (10 : Nat) ^ 10 = 10000000000 := by decide
  have e : ((10 ^ k : Nat) : Int) = (10 : Int) ^ k := by push_cast; rfl
  rw [← e]; omega
theorem refNumber_any (s : ByteArray) (w : World) :
    Calls Tryz.prog 51 #[.string s] w fun e w' => e = .returned (.int .i64 (numR s.data.toList)) ∧ w = w' := by
  have hlen : s.data.toList.length = s.size := by simp
  by_cases h0 : s.size = 0
  · have e : numR s.data.toList = -1 := by unfold numR; rw [if_pos (.inl (by omega))]
    rw [e]; clear e
    have hz : ((s.size : Int) == 0) = true := by simp [h0]
    go_enter Tryz.func51, Tryz.ntmps51
    go_wp2
    go_ret
    exact ⟨rfl, rfl⟩
  have hz : ((s.size : Int) == 0) = false := beq_eq_false_iff_ne.2 (by omega)
  by_cases h10 : 10 < s.size
  · have e : numR s.data.toList = -1 := by unfold numR; rw [if_pos (.inr (by omega))]
    rw [e]; clear e
    go_enter Tryz.func51, Tryz.ntmps51
    go_wp2
    go_ret
    exact ⟨rfl, rfl⟩
  have e : numR s.data.toList = numFrom 0 s.data.toList := by unfold numR; rw [if_neg (by omega)]
  rw [e]
  obtain ⟨V, hV⟩ : ∃ v, numFrom 0 s.data.toList = v := ⟨_, rfl⟩
  rw [hV]
  have HV := Bx.mk hV
  have hs10 : s.size ≤ 10 := by omega
  clear e hV hlen h0 h10
  go_enter Tryz.func51, Tryz.ntmps51
  go_wp2
  go_loop [3, 4] (fun nv iv => ∃ (k : Nat) (x : Int), k ≤ s.size ∧ iv = .int .i64 k ∧ nv = .int .i64 x ∧ 0 ≤ x ∧ Bx (x < 10 ^ k) ∧ Bx (numFrom x (s.data.toList.drop k) = V)) (fun _ iv => s.size - (intOf iv).toNat)
  case atStart => exact ⟨0, 0, Nat.zero_le _, rfl, rfl, Int.le_refl _, ⟨by decide⟩, ⟨by rw [List.drop_zero]; exact HV.out⟩⟩
  case round =>
    obtain ⟨k, x, hk, rfl, rfl, hx0, HX, HR⟩ := hrel
    by_cases hlt : k < s.size
    · have hb := byte_at s k hlt
      have hr := HR.out
      rw [hb] at hr
      simp only [numFrom] at hr
      have hp := pow10_le k (by omega)
      have hx1 : x ≤ 9999999999 := by have := HX.out; omega
      have hu := (s[k]).toNat_lt
      obtain ⟨c, hc⟩ : ∃ c : Nat, s[k].toNat = c := ⟨_, rfl⟩
      rw [hc] at hr hu
      have HP := HX.out
      by_cases h1 : c < 48
      · rw [if_pos (.inl h1)] at hr
        have HE := Bx.mk hr
        clear hr hb HX HR HV hp HP
        have h1' : (s[k].toNat : Int) < 48 := by rw [hc]; omega
        go_wp2
        go_ret
        exact ⟨by rw [← HE.out]; rfl, rfl⟩
      · by_cases h2 : 57 < c
        · rw [if_pos (.inr h2)] at hr
          have HE := Bx.mk hr
          clear hr hb HX HR HV hp HP
          have h1' : ¬ (s[k].toNat : Int) < 48 := by rw [hc]; omega
          have h2' : 57 < (s[k].toNat : Int) := by rw [hc]; omega
          go_wp2
          go_ret
          exact ⟨by rw [← HE.out]; rfl, rfl⟩
        · rw [if_neg (by omega)] at hr
          have HE := Bx.mk hr
          have HQ := Bx.mk (show 10 * x + ((c : Int) - 48) < 10 ^ (k + 1) by rw [Int.pow_succ]; omega)
          have HC := Bx.mk hc
          have h1' : ¬ (s[k].toNat : Int) < 48 := by rw [hc]; omega
          have h2' : ¬ 57 < (s[k].toNat : Int) := by rw [hc]; omega
          clear hr hb HX HR HV hp HP hc
          go_wp2
          go_round
          case rel => exact ⟨k + 1, 10 * x + ((c : Int) - 48), by omega, by go_num, by rw [HC.out], by omega, HQ, HE⟩
          case measure => simp [intOf]; omega
    · have hr := HR.out
      rw [List.drop_eq_nil_of_le (by simp; omega)] at hr
      simp only [numFrom] at hr
      have HE := Bx.mk hr
      clear hr HX HR HV
      go_wp2
      go_ret
      exact ⟨by rw [← HE.out]; rfl, rfl⟩
end Go.Proofs.YthfpkjeobdajiabGreatDoor

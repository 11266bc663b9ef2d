/- natural.trim, fit, Valid, limb. -/
import Derived.Test.YtegjhkjmejckdaaDoorMem
namespace Go.Proofs.YtegjhkjmejckdaaDoor
open Go.RowKit M
theorem add32 (x y c : Int) (w : World) (hx0 : 0 ≤ x) (hx : x < 4294967296) (hy0 : 0 ≤ y) (hy : y < 4294967296) (hc0 : 0 ≤ c) (hc : c ≤ 1) :
    Calls Tryd.prog 66 #[.int .u32 x, .int .u32 y, .int .u32 c] w fun e w' => e = .returned (.tuple #[.int .u32 ((x + y + c) % 4294967296), .int .u32 ((x + y + c) / 4294967296)]) ∧ w = w' := by
  go_enter Tryd.func66, Tryd.ntmps66
  go_wp2
  go_ret2
  exact ⟨rfl, rfl⟩
theorem limb_in (a : Addr) (n cap : Nat) (i : Nat) (x : Int) (w : World) (hi : i < n) (hc : w.cell? (a.add i) = some (.int .u32 x)) :
    Calls Tryd.prog 67 #[.slice (some a) n cap, .int .i64 i] w fun e w' => e = .returned (.int .u32 x) ∧ w = w' := by
  go_enter Tryd.func67, Tryd.ntmps67
  go_wp2
  go_ret
  exact ⟨rfl, rfl⟩
theorem limb_out (a : Option Addr) (n cap : Nat) (i : Nat) (w : World) (hi : n ≤ i) :
    Calls Tryd.prog 67 #[.slice a n cap, .int .i64 i] w fun e w' => e = .returned (.int .u32 0) ∧ w = w' := by
  go_enter Tryd.func67, Tryd.ntmps67
  go_wp2
  go_ret
  exact ⟨rfl, rfl⟩
/-- natural.limb: the limb with the index i, 0 beyond the end. -/
theorem limb_any (ao : Option Addr) (l : List Int) (n cap : Nat) (i : Nat) (w : World) (hn : l.length = n) (h : CellsK .u32 w ao l) :
    Calls Tryd.prog 67 #[.slice ao n cap, .int .i64 i] w fun e w' => e = .returned (.int .u32 (l.getD i 0)) ∧ w = w' := by
  subst hn
  by_cases hi : i < l.length
  · obtain ⟨a, rfl, _, hc⟩ := h (by intro e; subst e; simp at hi)
    exact limb_in a _ cap i _ w hi (hc i hi)
  · have e : l.getD i 0 = 0 := by rw [List.getD_eq_getElem?_getD, List.getElem?_eq_none (by omega)]; rfl
    rw [e]
    exact limb_out ao _ cap i w (by omega)
/-- natural.trim: what is left has the canonical list. -/
theorem trim_any (ao : Option Addr) (l : List Int) (n cap : Nat) (w : World) (hn : l.length = n) (hcap : n ≤ cap) (hmax : cap ≤ maxLen) (hok : Ok l) (h : CellsK .u32 w ao l) :
    Calls Tryd.prog 35 #[.slice ao n cap] w fun e w' => e = .returned (.slice ao (trimL l).length (trimL l).length) ∧ w = w' := by
  unfold maxLen at hmax
  subst hn
  go_enter Tryd.func35, Tryd.ntmps35
  go_wp2
  go_loop [3] (fun v => ∃ k : Nat, k ≤ l.length ∧ v = .int .i64 k ∧ Hid (trimL (l.take k) = trimL l)) (fun v => (intOf v).toNat)
  case atStart => exact ⟨l.length, Nat.le_refl _, rfl, by show _ = _; rw [List.take_length]⟩
  case round =>
    obtain ⟨k, hk, rfl, HT⟩ := hrel
    by_cases h0 : k = 0
    · subst h0
      have e : trimL l = [] := by rw [← HT.out]; simp [trimL_nil]
      have e2 : (trimL l).length = 0 := by rw [e]; rfl
      have HE := Lib.hid e2
      clear e e2 HT
      go_wp2
      go_ret
      exact ⟨by rw [HE.out]; rfl, rfl⟩
    · obtain ⟨a, rfl, ha, hc⟩ := h (by intro e; subst e; simp at hk; omega)
      have hcell := hc (k - 1) (by omega)
      obtain ⟨x, hx⟩ : ∃ x, x = l.getD (k - 1) 0 := ⟨_, rfl⟩
      rw [← hx] at hcell
      have HX := Lib.hid hx
      clear hc h hx
      by_cases hz : x = 0
      · subst hz
        go_wp2
        go_round
        case rel => exact ⟨k - 1, by omega, by go_num, by
          show _ = _
          have := trimL_step (l := l) (k := k - 1) (by omega) HX.out.symm
          rw [show k - 1 + 1 = k from by omega] at this
          exact this.symm.trans HT.out⟩
        case measure => simp [intOf]; omega
      · have hz' : (x == 0) = false := by simpa using hz
        have e : (trimL l).length = k := by
          have := trimL_stop hok (k := k - 1) (by omega) (by rw [← HX.out]; exact hz)
          rw [show k - 1 + 1 = k from by omega] at this
          rw [← HT.out, this, List.length_take]; omega
        have HE := Lib.hid e
        clear e hz HX HT
        go_wp2
        go_ret
        exact ⟨by rw [HE.out]; rfl, rfl⟩
theorem fit_ok (ao : Option Addr) (l : List Int) (n cap : Nat) (w : World) (hn : l.length = n) (hcap : n ≤ cap) (hmax : cap ≤ maxLen) (hok : Ok l) (h : CellsK .u32 w ao l) (hb : val l < pw 640) :
    Calls Tryd.prog 68 #[.slice ao n cap] w fun e w' => e = .returned (.slice ao (trimL l).length (trimL l).length) ∧ w = w' := by
  have hle : (trimL l).length ≤ 640 := limbs_length_le.2 (by have := val_nonneg hok; omega)
  obtain ⟨m, hm⟩ : ∃ m, m = (trimL l).length := ⟨_, rfl⟩
  rw [← hm] at hle ⊢
  have HM := Lib.hid hm
  clear hm
  go_enter Tryd.func68, Tryd.ntmps68
  go_wp2_with (go_at_call 35; refine (trim_any ao l n cap _ hn hcap hmax hok h).mono ?_; rintro e w' ⟨rfl, rfl⟩; rw [← HM.out])
  go_ret
  exact ⟨rfl, rfl⟩
theorem fit_over (ao : Option Addr) (l : List Int) (n cap : Nat) (w : World) (hn : l.length = n) (hcap : n ≤ cap) (hmax : cap ≤ maxLen) (hok : Ok l) (h : CellsK .u32 w ao l) (hb : pw 640 ≤ val l) :
    Calls Tryd.prog 68 #[.slice ao n cap] w fun e w' => e = .panicked [{ v := .iface 29 (.int .i64 2), recovered := false }] ∧ w = w' := by
  have hle : 640 < (trimL l).length := by
    by_cases hx : (trimL l).length ≤ 640
    · have := limbs_length_le.1 hx; omega
    · omega
  obtain ⟨m, hm⟩ : ∃ m, m = (trimL l).length := ⟨_, rfl⟩
  rw [← hm] at hle
  have HM := Lib.hid hm
  clear hm
  go_enter Tryd.func68, Tryd.ntmps68
  go_wp2_with (go_at_call 35; refine (trim_any ao l n cap _ hn hcap hmax hok h).mono ?_; rintro e w' ⟨rfl, rfl⟩; rw [← HM.out])
  exact ⟨rfl, rfl, rfl⟩
theorem valid_core (a : Addr) (n cap : Nat) (x : Int) (w : World) (h0 : 0 < n) (h1 : n ≤ 640) (hcell : w.cell? (a.add (n - 1)) = some (.int .u32 x)) :
    Calls Tryd.prog 13 #[.slice (some a) n cap] w fun e w' => e = .returned (.bool (!(x == 0))) ∧ w = w' := by
  have hz : ((n : Int) == 0) = false := beq_eq_false_iff_ne.2 (by omega)
  go_enter Tryd.func13, Tryd.ntmps13
  go_wp2
  go_ret
  exact ⟨rfl, rfl⟩
/-- natural.Valid -/
theorem valid_any (ao : Option Addr) (l : List Int) (n cap : Nat) (w : World) (hn : l.length = n) (h : CellsK .u32 w ao l) :
    Calls Tryd.prog 13 #[.slice ao n cap] w fun e w' => e = .returned (.bool (isNat l)) ∧ w = w' := by
  by_cases h1 : 640 < n
  · have e : isNat l = false := by simp [isNat]; omega
    rw [e]; clear e h hn
    go_enter Tryd.func13, Tryd.ntmps13
    go_wp2
    go_ret
    exact ⟨rfl, rfl⟩
  · by_cases h0 : n = 0
    · subst h0
      have e : isNat l = true := by have : l = [] := by simpa using hn
                                    subst this; rfl
      rw [e]; clear e h hn
      go_enter Tryd.func13, Tryd.ntmps13
      go_wp2
      go_ret
      exact ⟨rfl, rfl⟩
    · obtain ⟨a, rfl, ha, hc⟩ := h (by intro e; subst e; simp at hn; omega)
      have hcell := hc (n - 1) (by omega)
      have hg : l.getLast? = some (l.getD (n - 1) 0) := by rw [List.getLast?_eq_getElem?, List.getD_eq_getElem?_getD, hn, List.getElem?_eq_getElem (by omega)]; rfl
      have e : isNat l = !(l.getD (n - 1) 0 == 0) := by simp [isNat, hg, hn, show n ≤ 640 from by omega]; rfl
      rw [e]
      exact valid_core a n cap _ w (by omega) (by omega) hcell
end Go.Proofs.YtegjhkjmejckdaaDoor

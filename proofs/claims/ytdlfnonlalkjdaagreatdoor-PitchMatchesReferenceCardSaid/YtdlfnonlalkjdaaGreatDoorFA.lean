/- the reference's Trim, Bounded, Valid, Both, Make, Order on natural numbers. -/
import Derived.Test.YtdlfnonlalkjdaaGreatDoorT10
namespace Go.Proofs.YtdlfnonlalkjdaaGreatDoor
open Go.RowKit M
theorem u64_low (x : Nat) (h : x < 18446744073709551616) : bits .and .u64 (x : Int) 4294967295 = ((x % 4294967296 : Nat) : Int) := by
  have e : (4294967295 : Int) = ((4294967295 : Nat) : Int) := rfl
  rw [e, u64_and_nat x 4294967295 h (by omega)]
  rw [show (4294967295 : Nat) = 2 ^ 32 - 1 from rfl, Nat.and_two_pow_sub_one_eq_mod]
theorem u64_low_int (x : Int) (h0 : 0 ≤ x) (h : x < 18446744073709551616) : bits .and .u64 x 4294967295 = x % 4294967296 := by
  obtain ⟨n, rfl⟩ := Int.eq_ofNat_of_zero_le h0
  rw [u64_low n (by omega)]; rfl
theorem refTrim_any (ao : Option Addr) (l : List Int) (n cap : Nat) (w : World) (hn : l.length = n) (hcap : n ≤ cap) (hmax : cap ≤ maxLen) (hok : Ok l) (h : CellsK .u32 w ao l) :
    Calls Tryz.prog 68 #[.slice ao n cap] w fun e w' => e = .returned (.slice ao (trimL l).length cap) ∧ w = w' := by
  unfold maxLen at hmax
  subst hn
  go_enter Tryz.func68, Tryz.ntmps68
  go_wp2
  go_loop [3] (fun v => ∃ k : Nat, k ≤ l.length ∧ v = .int .i64 k ∧ Hid (trimL (l.take k) = trimL l)) (fun v => (intOf v).toNat)
  case atStart => exact ⟨l.length, Nat.le_refl _, rfl, by show _ = _; rw [List.take_length]⟩
  case round =>
    obtain ⟨k, hk, rfl, HT⟩ := hrel
    by_cases h0 : k = 0
    · subst h0
      have e : trimL l = [] := by rw [← HT.out]; simp [trimL_nil]
      have e2 : (trimL l).length = 0 := by rw [e]; rfl
      have HE := Lib.hid e2
      clear e e2 HT
      go_wp2
      go_ret
      exact ⟨by rw [HE.out]; rfl, rfl⟩
    · obtain ⟨a, rfl, ha, hc⟩ := h (by intro e; subst e; simp at hk; omega)
      have hcell := hc (k - 1) (by omega)
      obtain ⟨x, hx⟩ : ∃ x, x = l.getD (k - 1) 0 := ⟨_, rfl⟩
      rw [← hx] at hcell
      have HX := Lib.hid hx
      clear hc h hx
      by_cases hz : x = 0
      · subst hz
        go_wp2
        go_round
        case rel => exact ⟨k - 1, by omega, by go_num, by
          show _ = _
          have := trimL_step (l := l) (k := k - 1) (by omega) HX.out.symm
          rw [show k - 1 + 1 = k from by omega] at this
          exact this.symm.trans HT.out⟩
        case measure => simp [intOf]; omega
      · have hz' : (x == 0) = false := by simpa using hz
        have e : (trimL l).length = k := by
          have := trimL_stop hok (k := k - 1) (by omega) (by rw [← HX.out]; exact hz)
          rw [show k - 1 + 1 = k from by omega] at this
          rw [← HT.out, this, List.length_take]; omega
        have HE := Lib.hid e
        clear e hz HX HT
        go_wp2
        go_ret
        exact ⟨by rw [HE.out]; rfl, rfl⟩
theorem Rd.trimmedC {w : World} {ao : Option Addr} {l : List Int} {cap : Nat} {s : Nat} (h : CellsK .u32 w ao l) (hok : Ok l) (hcap : l.length ≤ cap) (hmax : cap ≤ maxLen) (hv : val l = s) : Rd w (.slice ao (trimL l).length cap) (limbs s) := by
  obtain ⟨k, hk, e⟩ := trimL_prefix hok _ rfl
  rw [← trimL_eq hv]
  refine ⟨by rw [e]; exact hok.take k, ao, _, rfl, by rw [e, List.length_take]; omega, hmax, fun hne => ?_⟩
  obtain ⟨a, rfl, ha, hc⟩ := h (by intro e'; subst e'; simp [trimL_nil] at hne)
  refine ⟨a, rfl, ha, fun i hi => ?_⟩
  rw [e, List.length_take] at hi
  rw [hc i (by omega), e]
  simp [List.getD, show i < k from by omega]
theorem refBounded_ok (ao : Option Addr) (l : List Int) (n cap : Nat) (w : World) (hn : l.length = n) (hcap : n ≤ cap) (hmax : cap ≤ maxLen) (hok : Ok l) (h : CellsK .u32 w ao l) (hb : val l < pw 640) :
    Calls Tryz.prog 70 #[.slice ao n cap] w fun e w' => e = .returned (.tuple #[.slice ao (trimL l).length cap, .int .i64 0]) ∧ w = w' := by
  have hle : (trimL l).length ≤ 640 := limbs_length_le.2 (by have := val_nonneg hok; omega)
  obtain ⟨m, hm⟩ : ∃ m, m = (trimL l).length := ⟨_, rfl⟩
  rw [← hm] at hle ⊢
  have HM := Lib.hid hm
  clear hm
  go_enter Tryz.func70, Tryz.ntmps70
  go_wp2_with (go_at_call 68; refine (refTrim_any ao l n cap _ hn hcap hmax hok h).mono ?_; rintro e w' ⟨rfl, rfl⟩; rw [← HM.out])
  go_ret2
  exact ⟨rfl, rfl⟩
theorem refBounded_over (ao : Option Addr) (l : List Int) (n cap : Nat) (w : World) (hn : l.length = n) (hcap : n ≤ cap) (hmax : cap ≤ maxLen) (hok : Ok l) (h : CellsK .u32 w ao l) (hb : pw 640 ≤ val l) :
    Calls Tryz.prog 70 #[.slice ao n cap] w fun e w' => e = .returned (.tuple #[.slice none 0 0, .int .i64 2]) ∧ w = w' := by
  have hle : 640 < (trimL l).length := by
    by_cases hx : (trimL l).length ≤ 640
    · have := limbs_length_le.1 hx; omega
    · omega
  obtain ⟨m, hm⟩ : ∃ m, m = (trimL l).length := ⟨_, rfl⟩
  rw [← hm] at hle
  have HM := Lib.hid hm
  clear hm
  go_enter Tryz.func70, Tryz.ntmps70
  go_wp2_with (go_at_call 68; refine (refTrim_any ao l n cap _ hn hcap hmax hok h).mono ?_; rintro e w' ⟨rfl, rfl⟩; rw [← HM.out])
  go_ret2
  exact ⟨rfl, rfl⟩
theorem refValid_core (a : Addr) (n cap : Nat) (x : Int) (w : World) (h0 : 0 < n) (h1 : n ≤ 640) (hcell : w.cell? (a.add (n - 1)) = some (.int .u32 x)) :
    Calls Tryz.prog 67 #[.slice (some a) n cap] w fun e w' => e = .returned (.bool (!(x == 0))) ∧ w = w' := by
  have hz : ((n : Int) == 0) = false := beq_eq_false_iff_ne.2 (by omega)
  go_enter Tryz.func67, Tryz.ntmps67
  go_wp2
  go_ret
  exact ⟨rfl, rfl⟩
theorem nrefValid_any (ao : Option Addr) (l : List Int) (n cap : Nat) (w : World) (hn : l.length = n) (h : CellsK .u32 w ao l) :
    Calls Tryz.prog 67 #[.slice ao n cap] w fun e w' => e = .returned (.bool (isNat l)) ∧ w = w' := by
  by_cases h1 : 640 < n
  · have e : isNat l = false := by simp [isNat]; omega
    rw [e]; clear e h hn
    go_enter Tryz.func67, Tryz.ntmps67
    go_wp2
    go_ret
    exact ⟨rfl, rfl⟩
  · by_cases h0 : n = 0
    · subst h0
      have e : isNat l = true := by have : l = [] := by simpa using hn
                                    subst this; rfl
      rw [e]; clear e h hn
      go_enter Tryz.func67, Tryz.ntmps67
      go_wp2
      go_ret
      exact ⟨rfl, rfl⟩
    · obtain ⟨a, rfl, ha, hc⟩ := h (by intro e; subst e; simp at hn; omega)
      have hcell := hc (n - 1) (by omega)
      have hg : l.getLast? = some (l.getD (n - 1) 0) := by rw [List.getLast?_eq_getElem?, List.getD_eq_getElem?_getD, hn, List.getElem?_eq_getElem (by omega)]; rfl
      have e : isNat l = !(l.getD (n - 1) 0 == 0) := by simp [isNat, hg, hn, show n ≤ 640 from by omega]; rfl
      rw [e]
      exact refValid_core a n cap _ w (by omega) (by omega) hcell
theorem refBoth_any (ao bo : Option Addr) (A B : List Int) (n m ca cb : Nat) (w : World) (hn : A.length = n) (hm : B.length = m) (hca : CellsK .u32 w ao A) (hcb : CellsK .u32 w bo B) :
    Calls Tryz.prog 49 #[.slice ao n ca, .slice bo m cb] w fun e w' => e = .returned (.bool (isNat A && isNat B)) ∧ w = w' := by
  have h1 := Bx.mk (nrefValid_any ao A n ca w hn hca)
  have h2 := Bx.mk (nrefValid_any bo B m cb w hm hcb)
  obtain ⟨b1, e1⟩ : ∃ b, isNat A = b := ⟨_, rfl⟩
  obtain ⟨b2, e2⟩ : ∃ b, isNat B = b := ⟨_, rfl⟩
  rw [e1] at h1 ⊢
  rw [e2] at h2 ⊢
  clear e1 e2 hca hcb hn hm
  go_enter Tryz.func49, Tryz.ntmps49
  go_wp2_with fail
  refine h1.out.mono ?_
  rintro e w1 ⟨rfl, rfl⟩
  cases b1
  · go_wp2
    go_ret
    exact ⟨rfl, rfl⟩
  · go_wp2_with fail
    refine h2.out.mono ?_
    rintro e w1 ⟨rfl, rfl⟩
    go_wp2
    go_ret
    exact ⟨rfl, rfl⟩
theorem refMake_any (x : Nat) (w : World) (hx : x < 18446744073709551616) : Calls Tryz.prog 51 #[.int .u64 x] w (RetNat w x) := by
  have hb0 : (0 : Int) ≤ (x : Int) % 4294967296 ∧ (x : Int) % 4294967296 < 4294967296 := by omega
  have hb1 : (0 : Int) ≤ (x : Int) / 4294967296 ∧ (x : Int) / 4294967296 < 4294967296 := by omega
  have hv : val [(x : Int) % 4294967296, (x : Int) / 4294967296] = x := by simp only [val]; omega
  have hok : Ok [(x : Int) % 4294967296, (x : Int) / 4294967296] := Ok.cons hb0.1 hb0.2 (Ok.cons hb1.1 hb1.2 Ok.nil)
  have hown := World.ownsRow_lit (e := 47) (size := 1) (base := w.heap.size) w #[.int .u32 ((x : Int) % 4294967296), .int .u32 ((x : Int) / 4294967296)] 2 (Nat.le_refl _) (by unfold maxLen; omega) rfl
  have hcells : CellsK .u32 (w.alloc (.cells #[.int .u32 ((x : Int) % 4294967296), .int .u32 ((x : Int) / 4294967296)] 47)) (some ⟨w.heap.size, 0, none⟩) [(x : Int) % 4294967296, (x : Int) / 4294967296] := cells_of_owns hown
  have htrim := refTrim_any _ _ 2 2 _ rfl (Nat.le_refl _) (by unfold maxLen; omega) hok hcells
  have hrd := Rd.trimmedC (s := x) hcells hok (cap := 2) (by simp) (by unfold maxLen; omega) hv
  have hbel : Below w.heap.size w (w.alloc (.cells #[.int .u32 ((x : Int) % 4294967296), .int .u32 ((x : Int) / 4294967296)] 47)) := (Below.refl _ _).alloc (Nat.le_refl _) _
  have HT := Bx.mk htrim
  have HR := Bx.mk hrd
  have hlow := u64_low_int (x : Int) (by omega) (by omega)
  have hx' : (x : Int) < 18446744073709551616 := by omega
  clear htrim hrd hown hcells hok hv hx
  go_enter Tryz.func51, Tryz.ntmps51
  go_wp2_with fail
  refine HT.out.mono ?_
  rintro e w2 ⟨rfl, rfl⟩
  go_wp2
  go_ret
  exact ⟨_, rfl, HR.out, hbel⟩
end Go.Proofs.YtdlfnonlalkjdaaGreatDoor

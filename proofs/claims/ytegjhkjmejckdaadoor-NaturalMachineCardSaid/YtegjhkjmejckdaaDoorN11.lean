/- natural.shifted, shiftedBack. -/
import Derived.Test.YtegjhkjmejckdaaDoorN10
namespace Go.Proofs.YtegjhkjmejckdaaDoor
open Go.RowKit M
theorem shl_low (x : Int) (s : Nat) (hs : s < 32) : x * 2 ^ s % 4294967296 = 2 ^ s * (x % 2 ^ (32 - s)) := by
  have e32 : (4294967296 : Int) = 2 ^ s * 2 ^ (32 - s) := by rw [← Int.pow_add, show s + (32 - s) = 32 from by omega]; rfl
  have hp : (0 : Int) < 2 ^ s := Int.pow_pos (by omega)
  rw [e32, Int.mul_comm x, Int.mul_emod_mul_of_pos _ _ hp]
theorem two_pow_lt (s : Nat) (hs : s < 32) : (2 : Int) ^ s ≤ 2147483648 := by
  have : 2 ^ s ≤ 2 ^ 31 := Nat.pow_le_pow_right (by omega) (by omega)
  have h2 : ((2 ^ s : Nat) : Int) ≤ ((2 ^ 31 : Nat) : Int) := by omega
  simpa using h2
theorem shl_or (h x : Int) (s : Nat) (hs : s < 32) (h0 : 0 ≤ h) (h1 : h < 2 ^ s) : bits .or .u32 h (x * 2 ^ s % 4294967296) = h + x * 2 ^ s % 4294967296 := by
  have hlt := two_pow_lt s hs
  obtain ⟨H, rfl⟩ := Int.eq_ofNat_of_zero_le h0
  obtain ⟨Y, hY⟩ := Int.eq_ofNat_of_zero_le (Int.emod_nonneg (x * 2 ^ s) (by omega : (4294967296 : Int) ≠ 0))
  have hY1 : (Y : Int) < 4294967296 := by rw [← hY]; exact Int.emod_lt_of_pos _ (by omega)
  have hz : (Y : Int) % 2 ^ s = 0 := by rw [← hY, shl_low x s hs]; exact Int.mul_emod_right _ _
  have hz2 : Y % 2 ^ s = 0 := by
    have e : ((Y % 2 ^ s : Nat) : Int) = 0 := by push_cast; exact hz
    exact Int.ofNat_eq_zero.1 e
  have hH : H < 2 ^ s := by
    have e : (H : Int) < ((2 ^ s : Nat) : Int) := by push_cast; exact h1
    exact Int.ofNat_lt.1 e
  rw [hY, u32_or_nat H Y (by omega) (by omega), Nat.or_comm, nat_join s Y H hz2 hH, Int.natCast_add, Int.add_comm]
theorem shl_bounds (x : Int) (s : Nat) (hs : s < 32) (x0 : 0 ≤ x) (x1 : x < 4294967296) : 0 ≤ x * 2 ^ s ∧ x * 2 ^ s ≤ 9223372034707292160 ∧ x * 2 ^ s / 4294967296 < 2 ^ s := by
  have hlt := two_pow_lt s hs
  have hp : (0 : Int) < 2 ^ s := Int.pow_pos (by omega)
  have h1 : x * 2 ^ s ≤ 4294967295 * 2 ^ s := Int.mul_le_mul_of_nonneg_right (by omega) (by omega)
  exact ⟨Int.mul_nonneg x0 (by omega), by omega, by omega⟩
theorem shl_step (P x c h t : Int) (s : Nat) (hv : c + P * h = t) : c + P * (h + x * 2 ^ s % 4294967296) + 4294967296 * P * (x * 2 ^ s / 4294967296) = t + P * (x * 2 ^ s) := by
  have e : x * 2 ^ s % 4294967296 + 4294967296 * (x * 2 ^ s / 4294967296) = x * 2 ^ s := Int.emod_add_mul_ediv _ _
  have e2 : P * (x * 2 ^ s % 4294967296) + 4294967296 * P * (x * 2 ^ s / 4294967296) = P * (x * 2 ^ s) := by
    rw [← e, Int.mul_add, e, Int.mul_comm 4294967296 P, Int.mul_assoc]
  rw [Int.mul_add]; omega
theorem shl_add_lt (h x : Int) (s : Nat) (hs : s < 32) (h0 : 0 ≤ h) (h1 : h < 2 ^ s) : 0 ≤ h + x * 2 ^ s % 4294967296 ∧ h + x * 2 ^ s % 4294967296 < 4294967296 := by
  have e32 : (4294967296 : Int) = 2 ^ s * 2 ^ (32 - s) := by rw [← Int.pow_add, show s + (32 - s) = 32 from by omega]; rfl
  have hp : (0 : Int) < 2 ^ s := Int.pow_pos (by omega)
  have hp2 : (0 : Int) < 2 ^ (32 - s) := Int.pow_pos (by omega)
  have hl := shl_low x s hs
  have h2 := Int.emod_nonneg x (show (2 : Int) ^ (32 - s) ≠ 0 by omega)
  have h3 := Int.emod_lt_of_pos x hp2
  have h4 : 2 ^ s * (x % 2 ^ (32 - s) + 1) ≤ 2 ^ s * 2 ^ (32 - s) := Int.mul_le_mul_of_nonneg_left (by omega) (by omega)
  rw [Int.mul_add, Int.mul_one, ← e32] at h4
  have h5 : 0 ≤ 2 ^ s * (x % 2 ^ (32 - s)) := Int.mul_nonneg (by omega) h2
  omega
theorem shifted_any (ao : Option Addr) (A : List Int) (n ca s : Nat) (w : World) (hn : A.length = n) (hn6 : n ≤ 700) (hs : s < 32) (hA : Ok A) (hca : CellsK .u32 w ao A) :
    Calls Tryd.prog 85 #[.slice ao n ca, .int .i64 s] w fun e w' => ∃ L : List Int, e = .returned (.slice (some ⟨w.heap.size, 0, none⟩) (n + 1) (n + 1)) ∧ val L = val A * 2 ^ s ∧ Wrote w w' (n + 1) L := by
  obtain ⟨i0, hi, hz0, hz1, hz2⟩ := info_parts Tryd.info42
  have hs' : (s : Int) < 32 := by omega
  go_enter Tryd.func85, Tryd.ntmps85
  go_wp2_with (at_make; refine wpList_make_full _ rfl _ _ 22 rfl w.heap.size 42 i0 (.int .u32 0) 1 Tryd.underlying22 hi hz0 hz1 .i64 .i64 _ _ (n + 1) rfl rfl (by push_cast; rfl) (by push_cast; rfl) (by rw [hz2]; omega) (by unfold maxLen; omega) (Nat.le_refl _) ?_; intro w1 hown hgrow)
  have hW := Wrote.made hown hgrow
  clear hown hgrow hi hz0 hz1 hz2
  go_loopw [15] (fun i wr => ∃ (k : Nat) (C : List Int) (h : Int), k ≤ n ∧ i = .int .i64 k ∧ C.length = k ∧ 0 ≤ h ∧ Bx (h < 2 ^ s) ∧ Bx (val C + pw k * h = val (A.take k) * 2 ^ s) ∧ Wrote w wr (n + 1) (C ++ h :: List.replicate (n - k) 0)) (fun i _ => n - (intOf i).toNat)
  case atStart => exact ⟨0, [], 0, Nat.zero_le _, rfl, rfl, Int.le_refl _, ⟨Int.pow_pos (by omega)⟩, ⟨by simp [val]⟩, by simpa [List.replicate_succ] using hW⟩
  case round =>
    obtain ⟨k, C, h, hk, rfl, hC, h0, HH, HV, hw⟩ := hrel
    by_cases hlt : k < n
    · have hne : A ≠ [] := by intro e; subst e; simp at hn; omega
      obtain ⟨a, rfl, _, hac⟩ := (hca.keep hw.below) hne
      have hcA := hac k (by omega)
      have hx := hA.getD k
      have hcell := hw.cell k (by omega)
      have hg : (C ++ h :: List.replicate (n - k) 0).getD k 0 = h := by rw [List.getD_eq_getElem?_getD, List.getElem?_append_right (by omega), hC, Nat.sub_self]; rfl
      rw [hg] at hcell
      have hfree := hw.free k
      obtain ⟨x, hxx⟩ : ∃ x, A.getD k 0 = x := ⟨_, rfl⟩
      rw [hxx] at hcA hx
      have hor := shl_or h x s hs h0 HH.out
      have hcell1 := hw.cell (k + 1) (by omega)
      have hfree1 := hw.free (k + 1)
      have hxb := shl_bounds x s hs hx.1 hx.2
      have hcb := shl_add_lt h x s hs h0 HH.out
      have hstep := shl_step (pw k) x _ h _ s HV.out
      have hst := (hw.store k hcb.1 hcb.2).store (k + 1) (x := x * 2 ^ s / 4294967296) (by omega) (by omega)
      have hlist : ((C ++ h :: List.replicate (n - k) 0).set k (h + x * 2 ^ s % 4294967296)).set (k + 1) (x * 2 ^ s / 4294967296) = (C ++ [h + x * 2 ^ s % 4294967296]) ++ (x * 2 ^ s / 4294967296) :: List.replicate (n - (k + 1)) 0 := by
        subst hC
        rw [List.set_append_right _ _ (Nat.le_refl _), Nat.sub_self, List.set_cons_zero, show n - C.length = (n - (C.length + 1)) + 1 from by omega, List.replicate_succ, List.set_append_right _ _ (by omega)]
        simp
      rw [hlist] at hst
      have hval : val (C ++ [h + x * 2 ^ s % 4294967296]) + pw (k + 1) * (x * 2 ^ s / 4294967296) = val (A.take (k + 1)) * 2 ^ s := by
        rw [val_snoc, hC, val_take_succ' A k, hxx, Int.add_mul, pw_succ, hstep, Int.mul_assoc]
      have HV2 := Bx.mk hval
      have HST := Bx.mk hst
      have HH2 := Bx.mk hxb.2.2
      have hz0 : 0 ≤ x * 2 ^ s / 4294967296 := by omega
      have hb1 := hxb.1
      have hb2 := hxb.2.1
      have hc1 := hcb.1
      have hc2 := hcb.2
      clear hlist hst hval hstep hw hxb hcb hac hxx hg
      have hlc : (C ++ [h + x * 2 ^ s % 4294967296]).length = k + 1 := by simp [hC]
      have HLC := Bx.mk hlc
      clear hlc hC
      go_wp2
      go_roundw
      case rel => exact ⟨k + 1, _, _, by omega, by go_num, HLC.out, hz0, HH2, HV2, HST.out⟩
      case measure => simp [intOf]; omega
    · have hkn : k = n := by omega
      subst hkn
      rw [Nat.sub_self, List.replicate_zero] at hw
      rw [List.take_of_length_le (by omega)] at HV
      go_wp2
      go_ret
      exact ⟨C ++ [h], rfl, by rw [val_snoc, hC]; exact HV.out, hw⟩
theorem sb_step (v x high : Int) (s : Nat) (x0 : 0 ≤ x) (x1 : x < 4294967296) (hm : v % 2 ^ s = high % 2 ^ s) : (x + 4294967296 * v) / 2 ^ s = (high * 4294967296 + x) / 2 ^ s % 4294967296 + 4294967296 * (v / 2 ^ s) := by
  have hp : (0 : Int) < 2 ^ s := Int.pow_pos (by omega)
  generalize (2 : Int) ^ s = T at *
  have e1 := Int.emod_add_mul_ediv v T
  have e2 := Int.emod_add_mul_ediv high T
  have b0 := Int.emod_nonneg high (show T ≠ 0 by omega)
  have b1 := Int.emod_lt_of_pos high hp
  rw [hm] at e1
  generalize high % T = b at *
  generalize v / T = vq at *
  generalize high / T = a at *
  have f1 : x + 4294967296 * v = x + 4294967296 * b + T * (4294967296 * vq) := by rw [← e1, Int.mul_add, Int.mul_left_comm T]; omega
  have f2 : high * 4294967296 + x = x + 4294967296 * b + T * (4294967296 * a) := by rw [← e2, Int.mul_left_comm T]; omega
  rw [f1, f2, Int.add_mul_ediv_left _ _ (by omega), Int.add_mul_ediv_left _ _ (by omega)]
  have g0 : 0 ≤ (x + 4294967296 * b) / T := Int.ediv_nonneg (by omega) (by omega)
  have g1 : (x + 4294967296 * b) / T < 4294967296 := by
    refine Int.ediv_lt_of_lt_mul hp ?_
    have h4 : 4294967296 * (b + 1) ≤ 4294967296 * T := by omega
    omega
  omega
theorem sb_mod (h v : Int) (s : Nat) (hs : s < 32) : (h + 4294967296 * v) % 2 ^ s = h % 2 ^ s := by
  have e32 : (4294967296 : Int) = 2 ^ s * 2 ^ (32 - s) := by rw [← Int.pow_add, show s + (32 - s) = 32 from by omega]; rfl
  rw [e32, Int.mul_assoc, Int.add_mul_emod_self_left]
theorem set_low (Q : List Int) (k : Nat) (x : Int) : (List.replicate (k + 1) 0 ++ Q).set k x = List.replicate k 0 ++ x :: Q := by
  rw [List.replicate_succ', List.append_assoc, List.set_append_right _ _ (by simp)]; simp
theorem shiftedBack_any (ao : Option Addr) (A : List Int) (n ca s : Nat) (w : World) (hn : A.length = n) (hn6 : n ≤ 700) (hs : s < 32) (hA : Ok A) (hca : CellsK .u32 w ao A) :
    Calls Tryd.prog 87 #[.slice ao n ca, .int .i64 s] w fun e w' => ∃ L : List Int, e = .returned (.slice (some ⟨w.heap.size, 0, none⟩) n n) ∧ val L = val A / 2 ^ s ∧ Wrote w w' n L := by
  obtain ⟨i0, hi, hz0, hz1, hz2⟩ := info_parts Tryd.info42
  have hs' : (s : Int) < 32 := by omega
  go_enter Tryd.func87, Tryd.ntmps87
  go_wp2_with (at_make; refine wpList_make_full _ rfl _ _ 22 rfl w.heap.size 42 i0 (.int .u32 0) 1 Tryd.underlying22 hi hz0 hz1 .i64 .i64 _ _ n rfl rfl rfl rfl (by rw [hz2]; omega) (by unfold maxLen; omega) (Nat.le_refl _) ?_; intro w1 hown hgrow)
  have hW := Wrote.made hown hgrow
  clear hown hgrow hi hz0 hz1 hz2
  go_loopw [6, 7] (fun hv i wr => ∃ (k : Nat) (Q : List Int) (h : Int), k ≤ n ∧ i = .int .i64 ((k : Int) - 1) ∧ hv = .int .u32 h ∧ 0 ≤ h ∧ h < 4294967296 ∧ Bx (val (A.drop k) % 2 ^ s = h % 2 ^ s) ∧ Bx (val Q = val (A.drop k) / 2 ^ s) ∧ Wrote w wr n (List.replicate k 0 ++ Q)) (fun _ i _ => (intOf i + 1).toNat)
  case atStart => exact ⟨n, [], 0, Nat.le_refl _, by go_num, rfl, Int.le_refl _, by omega, ⟨by rw [List.drop_eq_nil_of_le (by omega)]; simp [val]⟩, ⟨by rw [List.drop_eq_nil_of_le (by omega)]; simp [val]⟩, by simpa using hW⟩
  case round =>
    obtain ⟨k, Q, h, hk, rfl, rfl, h0, h1, HM, HV, hw⟩ := hrel
    by_cases hk0 : k = 0
    · subst hk0
      rw [List.replicate_zero, List.nil_append] at hw
      rw [List.drop_zero] at HV
      go_wp2
      go_ret
      exact ⟨Q, rfl, HV.out, hw⟩
    · have hne : A ≠ [] := by intro e; subst e; simp at hn; omega
      obtain ⟨a, rfl, _, hac⟩ := (hca.keep hw.below) hne
      have hcA := hac (k - 1) (by omega)
      have hx := hA.getD (k - 1)
      obtain ⟨x, hxx⟩ : ∃ x, A.getD (k - 1) 0 = x := ⟨_, rfl⟩
      rw [hxx] at hcA hx
      have hcell := hw.cell (k - 1) (by omega)
      have hfree := hw.free (k - 1)
      have hor := u64_or_join h x h0 h1 hx.1 hx.2
      have hdr := drop_step A (k - 1) (by omega)
      rw [hxx, show k - 1 + 1 = k from by omega] at hdr
      have hval : val ((h * 4294967296 + x) / 2 ^ s % 4294967296 :: Q) = val (A.drop (k - 1)) / 2 ^ s := by
        rw [hdr]
        simp only [val]
        rw [sb_step _ x h s hx.1 hx.2 HM.out, HV.out]
      have hmod : val (A.drop (k - 1)) % 2 ^ s = x % 2 ^ s := by rw [hdr]; simp only [val]; exact sb_mod x _ s hs
      have hu0 : 0 ≤ (h * 4294967296 + x) / 2 ^ s % 4294967296 := by omega
      have hu1 : (h * 4294967296 + x) / 2 ^ s % 4294967296 < 4294967296 := by omega
      have hst := hw.store (k - 1) hu0 hu1
      rw [show List.replicate k (0 : Int) = List.replicate (k - 1 + 1) 0 from by rw [show k - 1 + 1 = k from by omega], set_low] at hst
      obtain ⟨a2, ha2, _, hac2⟩ := (hca.keep hst.below) hne
      obtain rfl := Option.some.inj ha2
      have hcA2 := hac2 (k - 1) (by omega)
      rw [hxx] at hcA2
      clear hac2
      have HVAL := Bx.mk hval
      have HMOD := Bx.mk hmod
      have HST := Bx.mk hst
      have hb1 : (0 : Int) ≤ (k : Int) - 1 := by omega
      have hz0 : 0 ≤ h * 4294967296 + x := by omega
      have hz1 : h * 4294967296 + x ≤ 18446744073709551615 := by omega
      clear hval hmod hst hdr hxx hac hw
      go_wp2
      go_roundw
      case rel => exact ⟨k - 1, _, x, by omega, by go_num, rfl, hx.1, hx.2, HMOD, HVAL, HST.out⟩
      case measure => simp [intOf]; omega
end Go.Proofs.YtegjhkjmejckdaaDoor

/- natural.power. -/
import Derived.Test.YtegjhkjmejckdaaDoorN5
import Derived.Test.YtegjhkjmejckdaaDoorN6
import Derived.Test.YtegjhkjmejckdaaDoorShelf
import Derived.Lib.ItoaNum
namespace Go.Proofs.YtegjhkjmejckdaaDoor
open Go.RowKit M
/-- A fact kept from the walk, and from unfolding. -/
structure Bx (p : Prop) : Prop where
  out : p
theorem bitLen_bounds (n : Nat) (h : n < 2 ^ 63) : n < 2 ^ Lib.bitLen n := by
  by_cases h0 : n = 0
  · subst h0; decide
  · exact (Lib.bitLenAux_bounds 64 n (by omega) h0).2.2
theorem bitLen_le (n : Nat) (h : n < 2 ^ 63) : Lib.bitLen n ≤ 63 := Lib.bitLen_le n 63 (by omega) h
theorem i64_bit (x : Nat) (h : x < 2 ^ 63) : (bits .and .i64 (x : Int) 1 == 1) = decide (x % 2 = 1) := by
  have e : bits .and .i64 (x : Int) 1 = ((x % 2 : Nat) : Int) := by
    have h1 : (BitVec.ofInt 64 1).toNat = 2 ^ 1 - 1 := by decide
    have key : (BitVec.ofInt 64 (x : Int) &&& BitVec.ofInt 64 1).toNat = ((x : Int) % ((2 ^ 64 : Nat) : Int)).toNat % 2 ^ 1 := by
      rw [BitVec.toNat_and, BitVec.toNat_ofInt, h1, Nat.and_two_pow_sub_one_eq_mod]
    show IntKind.i64.wrap ((BitVec.ofInt 64 (x : Int) &&& BitVec.ofInt 64 1).toNat : Nat) = _
    rw [key, IntKind.wrap_i64]
    omega
  rw [e]
  by_cases q : x % 2 = 1 <;> simp [q] <;> omega
theorem limbs_one : limbs 1 = [1] := by rw [limbs_pos 1 (by decide), show 1 / 4294967296 = 0 from rfl, limbs_zero]; rfl
theorem rd_one (w : World) : Rd (w.alloc (.cells #[.int .u32 1] 42)) (.slice (some ⟨w.heap.size, 0, none⟩) 1 1) (limbs 1) := by
  rw [limbs_one]
  exact rd_of_owns (base := w.heap.size) (World.ownsRow_lit w #[.int .u32 1] 1 (Nat.le_refl _) (by unfold maxLen; omega) rfl) (Ok.cons (by omega) (by omega) Ok.nil)
theorem power_neg (ao : Option Addr) (na ca : Nat) (n : Int) (w : World) (h : n < 0) :
    Calls Tryd.prog 55 #[.slice ao na ca, .int .i64 n] w (Raised w 3) := by
  go_enter Tryd.func55, Tryd.ntmps55
  go_wp2
  exact ⟨rfl, rfl, Below.refl _ _⟩
theorem retNat_shape {w w' : World} {s : Nat} {e : Ending} (h : RetNat w s e w') : ∃ ao cap, e = .returned (.slice ao (limbs s).length cap) ∧ (limbs s).length ≤ cap ∧ cap ≤ maxLen ∧ CellsK .u32 w' ao (limbs s) ∧ Below w.heap.size w w' := by
  obtain ⟨v, rfl, hr, hb⟩ := h
  obtain ⟨ao, cap, rfl, h1, h2, h3⟩ := hr.shape
  exact ⟨ao, cap, rfl, h1, h2, h3, hb⟩
theorem product_ok (ao bo : Option Addr) (a b : Nat) (n m ca cb : Nat) (w : World) (hn : (limbs a).length = n) (hm : (limbs b).length = m) (ha : (a : Int) < pw 640) (hb : (b : Int) < pw 640)
    (hca : CellsK .u32 w ao (limbs a)) (hcb : CellsK .u32 w bo (limbs b)) (h : ((a * b : Nat) : Int) < pw 640) : Calls Tryd.prog 49 #[.slice ao n ca, .slice bo m cb] w (RetNat w (a * b)) := by
  have la := limbs_length_le.2 ha
  have lb := limbs_length_le.2 hb
  have e : val (limbs a) * val (limbs b) = ((a * b : Nat) : Int) := by rw [val_limbs, val_limbs]; push_cast; rfl
  refine product_any ao bo _ _ n m ca cb w hn hm (by omega) (by omega) (ok_limbs a) (ok_limbs b) (limbs_last a) (limbs_last b) hca hcb _ (fun _ q w' h' => ?_) (fun h' => ?_)
  · rw [e] at h'; exact h'
  · rw [e] at h'; omega
theorem product_over (ao bo : Option Addr) (a b : Nat) (n m ca cb : Nat) (w : World) (hn : (limbs a).length = n) (hm : (limbs b).length = m) (ha : (a : Int) < pw 640) (hb : (b : Int) < pw 640)
    (hca : CellsK .u32 w ao (limbs a)) (hcb : CellsK .u32 w bo (limbs b)) (h : pw 640 ≤ ((a * b : Nat) : Int)) : Calls Tryd.prog 49 #[.slice ao n ca, .slice bo m cb] w (Raised w 2) := by
  have la := limbs_length_le.2 ha
  have lb := limbs_length_le.2 hb
  have e : val (limbs a) * val (limbs b) = ((a * b : Nat) : Int) := by rw [val_limbs, val_limbs]; push_cast; rfl
  refine product_any ao bo _ _ n m ca cb w hn hm (by omega) (by omega) (ok_limbs a) (ok_limbs b) (limbs_last a) (limbs_last b) hca hcb _ (fun h' => ?_) (fun _ e w' h' => h')
  rw [e] at h'; omega
theorem pow_half (a n k : Nat) (hk : k ≠ 0) : a ^ (n / 2 ^ (k - 1)) = if n / 2 ^ (k - 1) % 2 = 1 then a ^ (n / 2 ^ k) * a ^ (n / 2 ^ k) * a else a ^ (n / 2 ^ k) * a ^ (n / 2 ^ k) := by
  have e : n / 2 ^ k = n / 2 ^ (k - 1) / 2 := by rw [Nat.div_div_eq_div_mul, ← Nat.pow_succ]; congr 2; omega
  rw [e]
  generalize n / 2 ^ (k - 1) = q
  split
  · rw [← Nat.pow_add, ← Nat.pow_succ]; congr 1; omega
  · rw [← Nat.pow_add]; congr 1; omega
/-- A power with a part of the exponent is not greater, unless the base is 0. -/
theorem pow_part (a n k : Nat) (hk : k ≠ 0) (B : Int) (hB : 1 < B) (h : B ≤ ((a ^ (n / 2 ^ k) * a ^ (n / 2 ^ k) : Nat) : Int)) : B ≤ ((a ^ n : Nat) : Int) := by
  by_cases ha : a = 0
  · subst ha
    generalize n / 2 ^ k = q at h
    cases q with
    | zero => simp at h; omega
    | succ q => simp at h; omega
  · rw [← Nat.pow_add] at h
    have e : n / 2 ^ k * 2 ^ 1 ≤ n := by
      have h1 : n / 2 ^ k * 2 ^ k ≤ n := Nat.div_mul_le_self n _
      have h2 : 2 ^ 1 ≤ 2 ^ k := Nat.pow_le_pow_right (by omega) (by omega)
      exact Nat.le_trans (Nat.mul_le_mul_left _ h2) h1
    have := Nat.pow_le_pow_right (n := a) (by omega) (show n / 2 ^ k + n / 2 ^ k ≤ n by omega)
    omega
theorem pow_part' (a n k : Nat) (hk : k ≠ 0) (B : Int) (hB : 1 < B) (hb : n / 2 ^ (k - 1) % 2 = 1) (h : B ≤ ((a ^ (n / 2 ^ k) * a ^ (n / 2 ^ k) * a : Nat) : Int)) : B ≤ ((a ^ n : Nat) : Int) := by
  have e := pow_half a n k hk
  rw [if_pos hb] at e
  rw [← e] at h
  by_cases ha : a = 0
  · subst ha
    generalize n / 2 ^ (k - 1) = q at h
    cases q with
    | zero => simp at h; omega
    | succ q => simp at h; omega
  · have := Nat.pow_le_pow_right (n := a) (by omega) (Nat.div_le_self n (2 ^ (k - 1)))
    omega
theorem power_any (ao : Option Addr) (a n : Nat) (na ca : Nat) (w : World) (ha : (a : Int) < pw 640) (hna : (limbs a).length = na) (hn : n < 2 ^ 63) (hca : CellsK .u32 w ao (limbs a)) (R : Ending → World → Prop)
    (hok : ((a ^ n : Nat) : Int) < pw 640 → ∀ e w', RetNat w (a ^ n) e w' → R e w') (hov : pw 640 ≤ ((a ^ n : Nat) : Int) → ∀ e w', Raised w 2 e w' → R e w') :
    Calls Tryd.prog 55 #[.slice ao na ca, .int .i64 n] w R := by
  have HOK := Lib.hid hok
  have HOV := Lib.hid hov
  have hlen := fun w => Tryd.bits_Len (n : Int) w (by omega) (by omega)
  have hbb := bitLen_bounds n hn
  have hbl := bitLen_le n hn
  rw [Int.toNat_natCast] at hlen
  generalize Lib.bitLen n = l at *
  have HBB := Lib.hid hbb
  have HLEN := Lib.hid hlen
  have hn' : (n : Int) ≤ 9223372036854775807 := by omega
  have HA := Bx.mk ha
  clear hok hov hbb hlen hn ha
  go_enter Tryd.func55, Tryd.ntmps55
  go_wp2_with (go_at_call 76; refine (HLEN.out _).mono ?_; rintro e w2 ⟨rfl, rfl⟩)
  go_loopw [5, 6] (fun v i wr => ∃ (k P : Nat), k ≤ 63 ∧ i = .int .i64 ((k : Int) - 1) ∧ Hid (P = a ^ (n / 2 ^ k)) ∧ Bx ((P : Int) < pw 640) ∧ Rd wr v (limbs P) ∧ Below w.heap.size w wr) (fun _ i _ => (intOf i + 1).toNat)
  case atStart => exact ⟨l, 1, hbl, by go_num, by show _ = _; rw [Nat.div_eq_of_lt HBB.out, Nat.pow_zero], ⟨by decide +kernel⟩, rd_one w, (Below.refl _ _).alloc (Nat.le_refl _) _⟩
  case round =>
    obtain ⟨k, P, hk, rfl, HP, HPL, hr, hb⟩ := hrel
    obtain ⟨po, cp, rfl, hpc, hpm, hpo⟩ := hr.shape
    by_cases h0 : k = 0
    · subst h0
      have hPn : P = a ^ n := by have := HP.out; simpa using this
      have HPN := Bx.mk hPn
      clear hPn
      go_wp2
      refine HOK.out (by rw [← HPN.out]; exact HPL.out) _ _ ⟨_, rfl, ?_, hb⟩
      rw [← HPN.out]; exact hr
    · have hb1 : (0 : Int) ≤ (k : Int) - 1 := by omega
      have hb2 : (k : Int) - 1 < 64 := by omega
      by_cases hsq : ((P * P : Nat) : Int) < pw 640
      · have hp := product_ok po po P P _ _ cp cp wr rfl rfl HPL.out HPL.out hpo hpo hsq
        have HSQ := Bx.mk hsq
        clear hsq
        go_wp2_with fail
        refine hp.mono ?_
        rintro e w2 hret
        obtain ⟨qo, cq, rfl, hqc, hqm, hqo, hqb⟩ := retNat_shape hret
        clear hret hp
        have hP2 : ((P * P : Nat) : Int) = ((a ^ (n / 2 ^ k) * a ^ (n / 2 ^ k) : Nat) : Int) := by rw [HP.out]
        have hbelow := hb.trans (hqb.mono hb.size)
        have hbitn := i64_bit (n / 2 ^ (k - 1)) (Nat.lt_of_le_of_lt (Nat.div_le_self _ _) (by omega))
        have hcast : ((n / 2 ^ (k - 1) : Nat) : Int) = (n : Int) / 2 ^ (k - 1) := by push_cast; rfl
        rw [hcast] at hbitn
        have hk1 := pow_half a n k h0
        by_cases hbit : n / 2 ^ (k - 1) % 2 = 1
        · rw [decide_eq_true hbit] at hbitn
          rw [if_pos hbit] at hk1
          have hca2 := (hca.keep hb).keep hqb
          by_cases hov2 : ((P * P * a : Nat) : Int) < pw 640
          · have hp := product_ok qo ao (P * P) a _ _ cq ca w2 rfl hna HSQ.out HA.out hqo hca2 hov2
            have HB2 := Bx.mk hbelow
            have HN : Bx (P * P * a = a ^ (n / 2 ^ (k - 1))) := ⟨by rw [HP.out, hk1]⟩
            have HO2 := Bx.mk hov2
            clear hov2 hP2 hbelow hcast hk1 hbit hqb hb hca2
            go_wp2_with fail
            refine hp.mono ?_
            rintro e w3 hret
            have hret2 := RetNat.after HB2.out hret
            obtain ⟨v, he, hr3, hb3⟩ := hret2
            subst he
            clear hret hp
            go_wp2
            go_roundw
            case rel => exact ⟨k - 1, P * P * a, by omega, by go_num, HN.out, HO2, hr3, hb3⟩
            case measure => simp [intOf]; omega
          · have hbig : pw 640 ≤ ((a ^ n : Nat) : Int) := pow_part' a n k h0 _ (by decide +kernel) hbit (by rw [← HP.out]; omega)
            have hp := product_over qo ao (P * P) a _ _ cq ca w2 rfl hna HSQ.out HA.out hqo hca2 (by omega)
            have HB2 := Bx.mk hbelow
            have HBIG := Bx.mk hbig
            clear hov2 hP2 hbelow hcast hk1 hbit hqb hb hca2 hbig
            go_wp2_with fail
            refine hp.mono ?_
            rintro e w3 ⟨rfl, hb3⟩
            exact ⟨rfl, HOV.out HBIG.out _ _ ⟨rfl, HB2.out.trans (hb3.mono HB2.out.size)⟩⟩
        · rw [decide_eq_false hbit] at hbitn
          rw [if_neg hbit] at hk1
          have HN : Bx (P * P = a ^ (n / 2 ^ (k - 1))) := ⟨by rw [HP.out, hk1]⟩
          have HB2 := Bx.mk hbelow
          have HRD : Bx (Rd w2 (.slice qo (limbs (P * P)).length cq) (limbs (P * P))) := ⟨ok_limbs _, qo, cq, rfl, hqc, hqm, hqo⟩
          clear hP2 hbelow hcast hk1 hbit hqb hb
          go_wp2
          go_roundw
          case rel => exact ⟨k - 1, P * P, by omega, by go_num, HN.out, HSQ, HRD.out, HB2.out⟩
          case measure => simp [intOf]; omega
      · have hbig : pw 640 ≤ ((a ^ n : Nat) : Int) := pow_part a n k h0 _ (by decide +kernel) (by rw [← HP.out]; omega)
        have hp := product_over po po P P _ _ cp cp wr rfl rfl HPL.out HPL.out hpo hpo (by omega)
        have HBIG := Bx.mk hbig
        clear hsq hbig
        go_wp2_with fail
        refine hp.mono ?_
        rintro e w3 ⟨rfl, hb3⟩
        exact ⟨rfl, HOV.out HBIG.out _ _ ⟨rfl, hb.trans (hb3.mono hb.size)⟩⟩
end Go.Proofs.YtegjhkjmejckdaaDoor

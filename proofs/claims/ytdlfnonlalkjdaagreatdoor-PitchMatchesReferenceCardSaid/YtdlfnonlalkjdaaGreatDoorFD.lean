/- the reference's Mul, Cmp, Pow on natural numbers. -/
import Derived.Test.YtdlfnonlalkjdaaGreatDoorFC
namespace Go.Proofs.YtdlfnonlalkjdaaGreatDoor
open Go.RowKit M
theorem toNat_mul (a b : Nat) : (val (limbs a) * val (limbs b)).toNat = a * b := by
  rw [val_limbs, val_limbs, ← Int.natCast_mul, Int.toNat_natCast]
theorem nat_limbs {a : Nat} (h : (a : Int) < pw 640) : isNat (limbs a) = true := isNat_limbs h
theorem Fits.len {a : Nat} (h : Fits a) : (limbs a).length ≤ 640 := limbs_length_le.2 h.lt
theorem Over.len {a : Nat} (h : Over a) : 640 < (limbs a).length := by
  by_cases hx : (limbs a).length ≤ 640
  · have := limbs_length_le.1 hx; have := h.le; omega
  · omega
theorem refProduct_nat (ao bo : Option Addr) (a b na nb ca cb : Nat) (w : World) (hna : (limbs a).length = na) (hnb : (limbs b).length = nb) (ha : na ≤ 50000) (hb : nb ≤ 50000) (hca : CellsK .u32 w ao (limbs a)) (hcb : CellsK .u32 w bo (limbs b)) :
    Calls Tryz.prog 69 #[.slice ao na ca, .slice bo nb cb] w (RetNat w (a * b)) := by
  have h := refProduct_any ao bo (limbs a) (limbs b) na nb ca cb w hna hnb ha hb (ok_limbs a) (ok_limbs b) hca hcb
  rwa [toNat_mul] at h
theorem refMul_gen (ao bo : Option Addr) (a b na nb ca cb : Nat) (w : World) (hna : (limbs a).length = na) (hnb : (limbs b).length = nb) (ha : Fits a) (hb : Fits b) (hca : CellsK .u32 w ao (limbs a)) (hcb : CellsK .u32 w bo (limbs b)) (s : Nat) (c : Int)
    (hs : Fits (a * b) ∧ s = a * b ∧ c = 0 ∨ Over (a * b) ∧ s = 0 ∧ c = 2) :
    Calls Tryz.prog 53 #[.slice ao na ca, .slice bo nb cb] w (OutN w s c) := by
  have hboth := refBoth_any ao bo (limbs a) (limbs b) na nb ca cb w hna hnb hca hcb
  rw [isNat_limbs ha.lt, isNat_limbs hb.lt] at hboth
  have hp := refProduct_nat ao bo a b na nb ca cb w hna hnb (by have := ha.len; omega) (by have := hb.len; omega) hca hcb
  have H1 := Bx.mk hboth
  have H2 := Bx.mk hp
  clear hboth hp
  go_enter Tryz.func53, Tryz.ntmps53
  go_wp2_with fail
  refine H1.out.mono ?_
  rintro e w1 ⟨rfl, rfl⟩
  go_wp2_with fail
  refine H2.out.mono ?_
  rintro e w2 ⟨v, rfl, hrd, hb2⟩
  obtain ⟨po, cp, rfl, hpc, hpm, hpo⟩ := hrd.shape
  have HB := Bx.mk hb2
  rcases hs with ⟨hf, rfl, rfl⟩ | ⟨hf, rfl, rfl⟩
  · have hbd := refBounded_ok po (limbs (a * b)) _ cp w2 rfl hpc hpm (ok_limbs _) hpo (by rw [val_limbs]; exact hf.lt)
    have hT : trimL (limbs (a * b)) = limbs (a * b) := trimL_of_last (ok_limbs _) (limbs_last _)
    rw [hT] at hbd
    have HD := Bx.mk hbd
    have HR := Bx.mk hrd
    clear hrd hb2 hbd hT hf H1 H2
    go_wp2_with fail
    refine HD.out.mono ?_
    rintro e w3 ⟨rfl, rfl⟩
    go_wp2
    go_ret2
    exact ⟨_, rfl, HR.out, HB.out⟩
  · have hbd := refBounded_over po (limbs (a * b)) _ cp w2 rfl hpc hpm (ok_limbs _) hpo (by rw [val_limbs]; exact hf.le)
    have HD := Bx.mk hbd
    clear hrd hb2 hbd hf H1 H2
    go_wp2_with fail
    refine HD.out.mono ?_
    rintro e w3 ⟨rfl, rfl⟩
    go_wp2
    go_ret2
    exact ⟨_, rfl, by rw [limbs_zero]; exact Rd.nil _, HB.out⟩
theorem refCmp_gen (ao bo : Option Addr) (a b na nb ca cb : Nat) (w : World) (hna : (limbs a).length = na) (hnb : (limbs b).length = nb) (ha : Fits a) (hb : Fits b) (hca : CellsK .u32 w ao (limbs a)) (hcb : CellsK .u32 w bo (limbs b)) :
    Calls Tryz.prog 36 #[.slice ao na ca, .slice bo nb cb] w fun e w' => e = .returned (.tuple #[.int .i64 (cmpI a b), .int .i64 0]) ∧ Quiet w w' := by
  have hboth := refBoth_any ao bo (limbs a) (limbs b) na nb ca cb w hna hnb hca hcb
  rw [isNat_limbs ha.lt, isNat_limbs hb.lt] at hboth
  have ho := refOrder_any ao bo (limbs a) (limbs b) na nb ca cb w hna hnb (by have := ha.len; omega) (by have := hb.len; omega) (ok_limbs _) (ok_limbs _) (limbs_last _) (limbs_last _) hca hcb
  rw [val_limbs, val_limbs] at ho
  have H1 := Bx.mk hboth
  have H2 := Bx.mk ho
  generalize cmpI (a : Int) (b : Int) = c at *
  clear hboth ho
  go_enter Tryz.func36, Tryz.ntmps36
  go_wp2_with fail
  refine H1.out.mono ?_
  rintro e w1 ⟨rfl, rfl⟩
  go_wp2_with fail
  refine H2.out.mono ?_
  rintro e w2 ⟨rfl, hq⟩
  go_wp2
  go_ret2
  exact ⟨rfl, hq⟩
set_option maxHeartbeats 800000 in
theorem refPow_big (ao : Option Addr) (a n na ca : Nat) (w : World) (ha : Fits a) (ha2 : 2 ≤ a) (hna : (limbs a).length = na) (hn0 : 0 < n) (hn : n < 2 ^ 63) (hca : CellsK .u32 w ao (limbs a)) (R : Ending → World → Prop)
    (hok : Fits (a ^ n) → ∀ e w', OutN w (a ^ n) 0 e w' → R e w') (hov : Over (a ^ n) → ∀ e w', OutN w 0 2 e w' → R e w') :
    Calls Tryz.prog 52 #[.slice ao na ca, .int .i64 n] w R := by
  have HOK := Bx.mk hok
  have HOV := Bx.mk hov
  clear hok hov
  have hv := nrefValid_any ao (limbs a) na ca w hna hca
  rw [isNat_limbs ha.lt] at hv
  have h1 := refOrder_any ao (some ⟨w.heap.size, 0, none⟩) (limbs a) (limbs 1) na 1 ca 1 (w.alloc (.cells #[.int .u32 1] 47)) hna (by decide +kernel) (by have := ha.len; omega) (by omega) (ok_limbs _) (ok_limbs _) (limbs_last _) (limbs_last _) (hca.keep ((Below.refl _ _).alloc (Nat.le_refl _) _))
    (by obtain ⟨a1, c1, e1, h1, h2, h3⟩ := (rd_one w).shape
        simp only [Value.slice.injEq] at e1
        obtain ⟨rfl, -, -⟩ := e1
        exact h3)
  rw [val_limbs, val_limbs, show cmpI (a : Int) ((1 : Nat) : Int) = 1 from cmpI_gt (by omega)] at h1
  have H1 := Bx.mk hv
  have H2 := Bx.mk h1
  have hn' : (n : Int) ≤ 9223372036854775807 := by omega
  have hz : ((n : Int) == 0) = false := beq_eq_false_iff_ne.2 (by omega)
  have hz2 : decide ((n : Int) < 0) = false := by simp
  have HL := Bx.mk ha.len
  have HA2 := Bx.mk ha2
  have HN := Bx.mk hn
  have HBA := Bx.mk (show Below w.heap.size w (w.alloc (.cells #[.int .u32 1] 47)) from (Below.refl _ _).alloc (Nat.le_refl _) _)
  clear hv h1 ha ha2 hn
  go_enter Tryz.func52, Tryz.ntmps52
  go_wp2_with fail
  refine H1.out.mono ?_
  rintro e w1 ⟨rfl, rfl⟩
  go_wp2_with fail
  refine H2.out.mono ?_
  rintro e w2 ⟨rfl, hq⟩
  have HB2 := Bx.mk (HBA.out.trans ((hq.below _).mono HBA.out.size))
  clear hq H1 H2 HBA
  go_wp2_with fail
  go_loopw [6, 7] (fun v i wr => ∃ k : Nat, k ≤ n ∧ i = .int .i64 k ∧ Bx (Fits (a ^ k)) ∧ Rd wr v (limbs (a ^ k)) ∧ Below w.heap.size w wr) (fun _ i _ => n - (intOf i).toNat)
  case atStart => exact ⟨0, Nat.zero_le _, rfl, ⟨by rw [Nat.pow_zero]; exact fits_u64 (by omega)⟩, by rw [Nat.pow_zero]; exact rd_one _, HB2.out.alloc HB2.out.size _⟩
  case round =>
    obtain ⟨k, hk, rfl, HF, hr, hb⟩ := hrel
    obtain ⟨po, cp, rfl, hpc, hpm, hpo⟩ := hr.shape
    by_cases hlt : k < n
    · have hp := refProduct_nat po ao (a ^ k) a _ na cp ca wr rfl hna (by have := HF.out.len; omega) (by have := HL.out; omega) hpo (hca.keep hb)
      rw [← Nat.pow_succ] at hp
      have HP := Bx.mk hp
      have HB := Bx.mk hb
      have HK := Bx.mk hlt
      clear hp hr hpo hb
      go_wp2_with fail
      refine HP.out.mono ?_
      rintro e w3 ⟨v, rfl, hr, hb3⟩
      obtain ⟨qo, cq, rfl, hqc, hqm, hqo⟩ := hr.shape
      have HB3 := Bx.mk (HB.out.trans (hb3.mono HB.out.size))
      have HR := Bx.mk hr
      clear hr hb3 HP hqo
      rcases fits_or (a ^ (k + 1)) with hf | hf
      · have hl := hf.len
        have HF2 := Bx.mk hf
        clear hf
        have hd : decide ((640 : Int) < ((limbs (a ^ (k + 1))).length : Int)) = false := by simp; omega
        go_wp2
        go_roundw
        case rel => exact ⟨k + 1, by omega, by go_num, HF2, HR.out, HB3.out⟩
        case measure => simp [intOf]; omega
      · have hl := hf.len
        have HF2 : Bx (Over (a ^ n)) := ⟨hf.mono (Nat.pow_le_pow_right (by have := HA2.out; omega) HK.out)⟩
        clear hf
        have hd : decide ((640 : Int) < ((limbs (a ^ (k + 1))).length : Int)) = true := by simp; omega
        go_wp2
        exact HOV.out HF2.out _ _ ⟨_, rfl, by rw [limbs_zero]; exact Rd.nil _, HB3.out⟩
    · have hkn : k = n := by omega
      subst hkn
      have HR := Bx.mk hr
      have HB := Bx.mk hb
      clear hr hb hpo
      go_wp2
      exact HOK.out HF.out _ _ ⟨_, rfl, HR.out, HB.out⟩
/-- The reference's Mul of numbers. -/
theorem nrefMul_ok {w : World} {L : List (Value × Nat)} {va vb : Value} {a b : Nat} (hL : Live w L) (ha : (va, a) ∈ L) (hb : (vb, b) ∈ L) (hs : Fits (a * b)) : Calls Tryz.prog 53 #[va, vb] w (Step w L (a * b) 0) := by
  have na : Nm w va a := hL _ ha
  have nb : Nm w vb b := hL _ hb
  obtain ⟨ao, ca, e1, hca⟩ := na.shape
  obtain ⟨bo, cb, e2, hcb⟩ := nb.shape
  subst e1 e2
  exact (refMul_gen ao bo a b _ _ ca cb w rfl rfl na.fits nb.fits hca hcb (a * b) 0 (.inl ⟨hs, rfl, rfl⟩)).mono fun _ _ h => Step.of hL hs h
theorem refMul_over {w : World} {L : List (Value × Nat)} {va vb : Value} {a b : Nat} (hL : Live w L) (ha : (va, a) ∈ L) (hb : (vb, b) ∈ L) (hs : Over (a * b)) : Calls Tryz.prog 53 #[va, vb] w (Step w L 0 2) := by
  have na : Nm w va a := hL _ ha
  have nb : Nm w vb b := hL _ hb
  obtain ⟨ao, ca, e1, hca⟩ := na.shape
  obtain ⟨bo, cb, e2, hcb⟩ := nb.shape
  subst e1 e2
  exact (refMul_gen ao bo a b _ _ ca cb w rfl rfl na.fits nb.fits hca hcb 0 2 (.inr ⟨hs, rfl, rfl⟩)).mono fun _ _ h => Step.of hL fits_zero h
theorem nrefCmp_ok {w : World} {L : List (Value × Nat)} {va vb : Value} {a b : Nat} (hL : Live w L) (ha : (va, a) ∈ L) (hb : (vb, b) ∈ L) : Calls Tryz.prog 36 #[va, vb] w fun e w' => e = .returned (.tuple #[.int .i64 (cmpI a b), .int .i64 0]) ∧ Live w' L ∧ Below w.heap.size w w' := by
  have na : Nm w va a := hL _ ha
  have nb : Nm w vb b := hL _ hb
  obtain ⟨ao, ca, e1, hca⟩ := na.shape
  obtain ⟨bo, cb, e2, hcb⟩ := nb.shape
  subst e1 e2
  exact (refCmp_gen ao bo a b _ _ ca cb w rfl rfl na.fits nb.fits hca hcb).mono fun _ _ h => ⟨h.1, hL.keep (h.2.below _), h.2.below _⟩
theorem refMake_ok {w : World} {L : List (Value × Nat)} (x : Nat) (hL : Live w L) (hx : x < 18446744073709551616) : Calls Tryz.prog 51 #[.int .u64 x] w fun e w' => ∃ v, e = .returned v ∧ Live w' ((v, x) :: L) ∧ Below w.heap.size w w' :=
  (refMake_any x w hx).mono fun _ _ h => let ⟨v, he, hr, hb⟩ := h; ⟨v, he, Live.cons ⟨fits_u64 hx, hr⟩ (hL.keep hb), hb⟩
theorem refPow_ok {w : World} {L : List (Value × Nat)} {va : Value} {a : Nat} (x : Nat) (hL : Live w L) (ha : (va, a) ∈ L) (ha2 : 2 ≤ a) (hx0 : 0 < x) (hx : x < 2 ^ 63) (hs : Fits (a ^ x)) : Calls Tryz.prog 52 #[va, .int .i64 x] w (Step w L (a ^ x) 0) := by
  have na : Nm w va a := hL _ ha
  obtain ⟨ao, ca, e1, hca⟩ := na.shape
  subst e1
  exact refPow_big ao a x _ ca w na.fits ha2 rfl hx0 hx hca _ (fun _ _ _ h => Step.of hL hs h) (fun ho => (hs.not ho).elim)
theorem refPow_over {w : World} {L : List (Value × Nat)} {va : Value} {a : Nat} (x : Nat) (hL : Live w L) (ha : (va, a) ∈ L) (ha2 : 2 ≤ a) (hx0 : 0 < x) (hx : x < 2 ^ 63) (hs : Over (a ^ x)) : Calls Tryz.prog 52 #[va, .int .i64 x] w (Step w L 0 2) := by
  have na : Nm w va a := hL _ ha
  obtain ⟨ao, ca, e1, hca⟩ := na.shape
  subst e1
  exact refPow_big ao a x _ ca w na.fits ha2 rfl hx0 hx hca _ (fun hf => (hf.not hs).elim) (fun _ _ _ h => Step.of hL fits_zero h)
end Go.Proofs.YtdlfnonlalkjdaaGreatDoor

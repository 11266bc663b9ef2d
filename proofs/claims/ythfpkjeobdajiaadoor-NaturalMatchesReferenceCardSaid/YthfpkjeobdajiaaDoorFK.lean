/- the reference's Add, Sub; slices that are no natural numbers; negative exponents. -/
import Derived.Test.YthfpkjeobdajiaaDoorFJ
namespace Go.Proofs.YthfpkjeobdajiaaDoor
open Go.RowKit M
theorem refPlus_nat (ao bo : Option Addr) (a b na nb ca cb : Nat) (w : World) (hna : (limbs a).length = na) (hnb : (limbs b).length = nb) (ha : na ≤ 50000) (hb : nb ≤ 50000) (hca : CellsK .u32 w ao (limbs a)) (hcb : CellsK .u32 w bo (limbs b)) :
    Calls Tryd.prog 34 #[.slice ao na ca, .slice bo nb cb] w (RetNat w (a + b)) := by
  have h := refPlus_any ao bo (limbs a) (limbs b) na nb ca cb w hna hnb (by omega) (by omega) (ok_limbs a) (ok_limbs b) hca hcb
  rwa [val_limbs, val_limbs, ← Int.natCast_add, Int.toNat_natCast] at h
theorem refMinus_natF (ao bo : Option Addr) (a b na nb ca cb : Nat) (w : World) (hna : (limbs a).length = na) (hnb : (limbs b).length = nb) (ha : na ≤ 50000) (hb : nb ≤ 50000) (hle : b ≤ a) (hca : CellsK .u32 w ao (limbs a)) (hcb : CellsK .u32 w bo (limbs b)) :
    Calls Tryd.prog 38 #[.slice ao na ca, .slice bo nb cb] w (RetNatF w (a - b)) := by
  have h := refMinus_any ao bo (limbs a) (limbs b) na nb ca cb w hna hnb (by omega) (by omega) (ok_limbs a) (ok_limbs b) (limbs_last _) (by rw [val_limbs, val_limbs]; omega) hca hcb
  rwa [val_limbs, val_limbs, show ((a : Int) - (b : Int)).toNat = a - b by omega] at h
theorem refMinus_nat (ao bo : Option Addr) (a b na nb ca cb : Nat) (w : World) (hna : (limbs a).length = na) (hnb : (limbs b).length = nb) (ha : na ≤ 50000) (hb : nb ≤ 50000) (hle : b ≤ a) (hca : CellsK .u32 w ao (limbs a)) (hcb : CellsK .u32 w bo (limbs b)) :
    Calls Tryd.prog 38 #[.slice ao na ca, .slice bo nb cb] w (RetNat w (a - b)) := (refMinus_natF ao bo a b na nb ca cb w hna hnb ha hb hle hca hcb).mono fun _ _ h => h.plain
theorem refAdd_gen (ao bo : Option Addr) (a b na nb ca cb : Nat) (w : World) (hna : (limbs a).length = na) (hnb : (limbs b).length = nb) (ha : Fits a) (hb : Fits b) (hca : CellsK .u32 w ao (limbs a)) (hcb : CellsK .u32 w bo (limbs b)) (s : Nat) (c : Int)
    (hs : Fits (a + b) ∧ s = a + b ∧ c = 0 ∨ Over (a + b) ∧ s = 0 ∧ c = 2) :
    Calls Tryd.prog 11 #[.slice ao na ca, .slice bo nb cb] w (OutN w s c) := by
  have hboth := refBoth_any ao bo (limbs a) (limbs b) na nb ca cb w hna hnb hca hcb
  rw [isNat_limbs ha.lt, isNat_limbs hb.lt] at hboth
  have hp := refPlus_nat ao bo a b na nb ca cb w hna hnb (by have := ha.len; omega) (by have := hb.len; omega) hca hcb
  have H1 := Bx.mk hboth
  have H2 := Bx.mk hp
  clear hboth hp
  go_enter Tryd.func11, Tryd.ntmps11
  go_wp2_with fail
  refine H1.out.mono ?_
  rintro e w1 ⟨rfl, rfl⟩
  go_wp2_with fail
  refine H2.out.mono ?_
  rintro e w2 ⟨v, rfl, hrd, hb2⟩
  obtain ⟨po, cp, rfl, hpc, hpm, hpo⟩ := hrd.shape
  have HB := Bx.mk hb2
  rcases hs with ⟨hf, rfl, rfl⟩ | ⟨hf, rfl, rfl⟩
  · have hbd := refBounded_ok po (limbs (a + b)) _ cp w2 rfl hpc hpm (ok_limbs _) hpo (by rw [val_limbs]; exact hf.lt)
    have hT : trimL (limbs (a + b)) = limbs (a + b) := trimL_of_last (ok_limbs _) (limbs_last _)
    rw [hT] at hbd
    have HD := Bx.mk hbd
    have HR := Bx.mk hrd
    clear hrd hb2 hbd hT hf H1 H2
    go_wp2_with fail
    refine HD.out.mono ?_
    rintro e w3 ⟨rfl, rfl⟩
    go_wp2
    go_ret2
    exact ⟨_, rfl, HR.out, HB.out⟩
  · have hbd := refBounded_over po (limbs (a + b)) _ cp w2 rfl hpc hpm (ok_limbs _) hpo (by rw [val_limbs]; exact hf.le)
    have HD := Bx.mk hbd
    clear hrd hb2 hbd hf H1 H2
    go_wp2_with fail
    refine HD.out.mono ?_
    rintro e w3 ⟨rfl, rfl⟩
    go_wp2
    go_ret2
    exact ⟨_, rfl, by rw [limbs_zero]; exact Rd.nil _, HB.out⟩
theorem refSub_gen (ao bo : Option Addr) (a b na nb ca cb : Nat) (w : World) (hna : (limbs a).length = na) (hnb : (limbs b).length = nb) (ha : Fits a) (hb : Fits b) (hca : CellsK .u32 w ao (limbs a)) (hcb : CellsK .u32 w bo (limbs b)) (s : Nat) (c : Int)
    (hs : b ≤ a ∧ s = a - b ∧ c = 0 ∨ a < b ∧ s = 0 ∧ c = 3) :
    Calls Tryd.prog 13 #[.slice ao na ca, .slice bo nb cb] w (OutN w s c) := by
  have hboth := refBoth_any ao bo (limbs a) (limbs b) na nb ca cb w hna hnb hca hcb
  rw [isNat_limbs ha.lt, isNat_limbs hb.lt] at hboth
  have ho := refOrder_any ao bo (limbs a) (limbs b) na nb ca cb w hna hnb (by have := ha.len; omega) (by have := hb.len; omega) (ok_limbs _) (ok_limbs _) (limbs_last _) (limbs_last _) hca hcb
  rw [val_limbs, val_limbs] at ho
  have H1 := Bx.mk hboth
  clear hboth
  rcases hs with ⟨hle, rfl, rfl⟩ | ⟨hlt, rfl, rfl⟩
  · have hp := fun w' (h : Below w.heap.size w w') => refMinus_nat ao bo a b na nb ca cb w' hna hnb (by have := ha.len; omega) (by have := hb.len; omega) hle (hca.keep h) (hcb.keep h)
    have hc : cmpI (a : Int) b = 0 ∨ cmpI (a : Int) b = 1 := by
      rcases Nat.lt_or_eq_of_le hle with h | h
      · right; exact cmpI_gt (by omega)
      · left; subst h; exact cmpI_eq _
    have H2 := Bx.mk ho
    have H3 := Bx.mk hp
    generalize cmpI (a : Int) (b : Int) = k at *
    have hk : ¬ k < 0 := by omega
    clear ho hp hle hc
    go_enter Tryd.func13, Tryd.ntmps13
    go_wp2_with fail
    refine H1.out.mono ?_
    rintro e w1 ⟨rfl, rfl⟩
    go_wp2_with fail
    refine H2.out.mono ?_
    rintro e w2 ⟨rfl, hq⟩
    have HQ := Bx.mk (hq.below w.heap.size)
    clear hq
    go_wp2_with fail
    refine (H3.out _ HQ.out).mono ?_
    rintro e w3 ⟨v, rfl, hr, hb3⟩
    have HR := Bx.mk hr
    have HB := Bx.mk (HQ.out.trans (hb3.mono HQ.out.size))
    clear hr hb3
    go_wp2
    go_ret2
    exact ⟨_, rfl, HR.out, HB.out⟩
  · rw [cmpI_lt (by omega)] at ho
    have H2 := Bx.mk ho
    clear ho
    go_enter Tryd.func13, Tryd.ntmps13
    go_wp2_with fail
    refine H1.out.mono ?_
    rintro e w1 ⟨rfl, rfl⟩
    go_wp2_with fail
    refine H2.out.mono ?_
    rintro e w2 ⟨rfl, hq⟩
    have HQ := Bx.mk (hq.below w.heap.size)
    clear hq
    go_wp2
    go_ret2
    exact ⟨_, rfl, by rw [limbs_zero]; exact Rd.nil _, HQ.out⟩
theorem refAdd_not (ao bo : Option Addr) (A B : List Int) (n m ca cb : Nat) (w : World) (hn : A.length = n) (hm : B.length = m) (hca : CellsK .u32 w ao A) (hcb : CellsK .u32 w bo B) (hAB : ¬ (isNat A = true ∧ isNat B = true)) :
    Calls Tryd.prog 11 #[.slice ao n ca, .slice bo m cb] w (OutN w 0 1) := by
  have hboth := refBoth_any ao bo A B n m ca cb w hn hm hca hcb
  rw [show (isNat A && isNat B) = false by simpa using hAB] at hboth
  have H1 := Bx.mk hboth
  clear hboth hAB hca hcb hn hm
  go_enter Tryd.func11, Tryd.ntmps11
  go_wp2_with fail
  refine H1.out.mono ?_
  rintro e w1 ⟨rfl, rfl⟩
  go_wp2
  go_ret2
  exact ⟨_, rfl, by rw [limbs_zero]; exact Rd.nil _, Below.refl _ _⟩
theorem refSub_not (ao bo : Option Addr) (A B : List Int) (n m ca cb : Nat) (w : World) (hn : A.length = n) (hm : B.length = m) (hca : CellsK .u32 w ao A) (hcb : CellsK .u32 w bo B) (hAB : ¬ (isNat A = true ∧ isNat B = true)) :
    Calls Tryd.prog 13 #[.slice ao n ca, .slice bo m cb] w (OutN w 0 1) := by
  have hboth := refBoth_any ao bo A B n m ca cb w hn hm hca hcb
  rw [show (isNat A && isNat B) = false by simpa using hAB] at hboth
  have H1 := Bx.mk hboth
  clear hboth hAB hca hcb hn hm
  go_enter Tryd.func13, Tryd.ntmps13
  go_wp2_with fail
  refine H1.out.mono ?_
  rintro e w1 ⟨rfl, rfl⟩
  go_wp2
  go_ret2
  exact ⟨_, rfl, by rw [limbs_zero]; exact Rd.nil _, Below.refl _ _⟩
theorem refMul_not (ao bo : Option Addr) (A B : List Int) (n m ca cb : Nat) (w : World) (hn : A.length = n) (hm : B.length = m) (hca : CellsK .u32 w ao A) (hcb : CellsK .u32 w bo B) (hAB : ¬ (isNat A = true ∧ isNat B = true)) :
    Calls Tryd.prog 15 #[.slice ao n ca, .slice bo m cb] w (OutN w 0 1) := by
  have hboth := refBoth_any ao bo A B n m ca cb w hn hm hca hcb
  rw [show (isNat A && isNat B) = false by simpa using hAB] at hboth
  have H1 := Bx.mk hboth
  clear hboth hAB hca hcb hn hm
  go_enter Tryd.func15, Tryd.ntmps15
  go_wp2_with fail
  refine H1.out.mono ?_
  rintro e w1 ⟨rfl, rfl⟩
  go_wp2
  go_ret2
  exact ⟨_, rfl, by rw [limbs_zero]; exact Rd.nil _, Below.refl _ _⟩
theorem refCmp_not (ao bo : Option Addr) (A B : List Int) (n m ca cb : Nat) (w : World) (hn : A.length = n) (hm : B.length = m) (hca : CellsK .u32 w ao A) (hcb : CellsK .u32 w bo B) (hAB : ¬ (isNat A = true ∧ isNat B = true)) :
    Calls Tryd.prog 21 #[.slice ao n ca, .slice bo m cb] w fun e w' => e = .returned (.tuple #[.int .i64 0, .int .i64 1]) ∧ Below w.heap.size w w' := by
  have hboth := refBoth_any ao bo A B n m ca cb w hn hm hca hcb
  rw [show (isNat A && isNat B) = false by simpa using hAB] at hboth
  have H1 := Bx.mk hboth
  clear hboth hAB hca hcb hn hm
  go_enter Tryd.func21, Tryd.ntmps21
  go_wp2_with fail
  refine H1.out.mono ?_
  rintro e w1 ⟨rfl, rfl⟩
  go_wp2
  go_ret2
  exact ⟨rfl, Below.refl _ _⟩
theorem refDiv_not (ao bo : Option Addr) (A B : List Int) (n m ca cb : Nat) (w : World) (hn : A.length = n) (hm : B.length = m) (hca : CellsK .u32 w ao A) (hcb : CellsK .u32 w bo B) (hAB : ¬ (isNat A = true ∧ isNat B = true)) :
    Calls Tryd.prog 17 #[.slice ao n ca, .slice bo m cb] w (OutD w 0 0 1) := by
  have hboth := refBoth_any ao bo A B n m ca cb w hn hm hca hcb
  rw [show (isNat A && isNat B) = false by simpa using hAB] at hboth
  have H1 := Bx.mk hboth
  clear hboth hAB hca hcb hn hm
  go_enter Tryd.func17, Tryd.ntmps17
  go_wp2_with fail
  refine H1.out.mono ?_
  rintro e w1 ⟨rfl, rfl⟩
  go_wp2
  go_ret3
  exact ⟨_, _, rfl, by rw [limbs_zero]; exact Rd.nil _, by rw [limbs_zero]; exact Rd.nil _, Below.refl _ _⟩
theorem refPow_not (ao : Option Addr) (A : List Int) (n ca : Nat) (x : Int) (w : World) (hn : A.length = n) (hca : CellsK .u32 w ao A) (hA : ¬ isNat A = true) :
    Calls Tryd.prog 19 #[.slice ao n ca, .int .i64 x] w (OutN w 0 1) := by
  have hv := refValid_any ao A n ca w hn hca
  rw [show isNat A = false by simpa using hA] at hv
  have H1 := Bx.mk hv
  clear hv hA hca hn
  go_enter Tryd.func19, Tryd.ntmps19
  go_wp2_with fail
  refine H1.out.mono ?_
  rintro e w1 ⟨rfl, rfl⟩
  go_wp2
  go_ret2
  exact ⟨_, rfl, by rw [limbs_zero]; exact Rd.nil _, Below.refl _ _⟩
theorem refText_not (ao : Option Addr) (A : List Int) (n ca : Nat) (w : World) (hn : A.length = n) (hca : CellsK .u32 w ao A) (hA : ¬ isNat A = true) :
    Calls Tryd.prog 23 #[.slice ao n ca] w fun e w' => e = .returned (.tuple #[.string ⟨#[]⟩, .int .i64 1]) ∧ Below w.heap.size w w' := by
  have hv := refValid_any ao A n ca w hn hca
  rw [show isNat A = false by simpa using hA] at hv
  have H1 := Bx.mk hv
  clear hv hA hca hn
  go_enter Tryd.func23, Tryd.ntmps23
  go_wp2_with fail
  refine H1.out.mono ?_
  rintro e w1 ⟨rfl, rfl⟩
  go_wp2
  go_ret2
  exact ⟨rfl, Below.refl _ _⟩
theorem refPow_neg (ao : Option Addr) (A : List Int) (n ca : Nat) (x : Int) (w : World) (hn : A.length = n) (hca : CellsK .u32 w ao A) (hA : isNat A = true) (hx : x < 0) :
    Calls Tryd.prog 19 #[.slice ao n ca, .int .i64 x] w (OutN w 0 3) := by
  have hv := refValid_any ao A n ca w hn hca
  rw [hA] at hv
  have H1 := Bx.mk hv
  clear hv hA hca hn
  go_enter Tryd.func19, Tryd.ntmps19
  go_wp2_with fail
  refine H1.out.mono ?_
  rintro e w1 ⟨rfl, rfl⟩
  go_wp2
  go_ret2
  exact ⟨_, rfl, by rw [limbs_zero]; exact Rd.nil _, Below.refl _ _⟩
theorem refPow_zero (ao : Option Addr) (A : List Int) (n ca : Nat) (w : World) (hn : A.length = n) (hca : CellsK .u32 w ao A) (hA : isNat A = true) :
    Calls Tryd.prog 19 #[.slice ao n ca, .int .i64 0] w (OutN w 1 0) := by
  have hv := refValid_any ao A n ca w hn hca
  rw [hA] at hv
  have H1 := Bx.mk hv
  clear hv hA hca hn
  go_enter Tryd.func19, Tryd.ntmps19
  go_wp2_with fail
  refine H1.out.mono ?_
  rintro e w1 ⟨rfl, rfl⟩
  go_wp2
  go_ret2
  exact ⟨_, rfl, rd_one _, (Below.refl _ _).alloc (Nat.le_refl _) _⟩
theorem pow_neg (ao : Option Addr) (A : List Int) (n ca : Nat) (x : Int) (w : World) (hn : A.length = n) (hca : CellsK .u32 w ao A) (hA : isNat A = true) (hx : x < 0) :
    Calls Tryd.prog 18 #[.slice ao n ca, .int .i64 x] w (OutN w 0 3) :=
  pow_gen_raised ao A n ca x w hn hca hA 3 fun w3 _ => power_neg ao n ca x w3 hx
end Go.Proofs.YthfpkjeobdajiaaDoor

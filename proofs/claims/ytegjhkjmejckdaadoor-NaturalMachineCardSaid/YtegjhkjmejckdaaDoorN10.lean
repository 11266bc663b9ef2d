/- natural.takeOut: one limb of a quotient. -/
import Derived.Test.YtegjhkjmejckdaaDoorN9
namespace Go.Proofs.YtegjhkjmejckdaaDoor
open Go.RowKit M
/-- takeOut within its loop: t times the divisor have been taken out, b says that it was too often. -/
def OutRel (R A : List Int) (d n : Nat) (t b : Int) (R' : List Int) : Prop :=
  0 ≤ t ∧ t < 4294967296 ∧ 0 ≤ b ∧ b ≤ 1 ∧ val ((R.drop d).take (n + 1)) / val A ≤ t ∧ ∃ C : List Int, Win R d (n + 1) C R' ∧ val C = val ((R.drop d).take (n + 1)) - t * val A + pw (n + 1) * b
theorem ok_of_win {R R' C : List Int} {d k : Nat} (h : Win R d k C R') (hR : Ok R') : Ok C := by
  obtain ⟨_, rfl⟩ := h; exact hR.left.right
theorem outRel_done {R A R' : List Int} {d n : Nat} {t : Int} (hR' : Ok R') (hA : 0 < val A) (h : OutRel R A d n t 0 R') :
    t = val ((R.drop d).take (n + 1)) / val A ∧ ∃ C : List Int, Win R d (n + 1) C R' ∧ val C = val ((R.drop d).take (n + 1)) % val A := by
  obtain ⟨_, _, _, _, hq, C, hw, hv⟩ := h
  have hc := val_nonneg (ok_of_win hw hR')
  rw [Int.mul_zero, Int.add_zero] at hv
  generalize val ((R.drop d).take (n + 1)) = V at *
  have h1 : t ≤ V / val A := Int.le_ediv_of_mul_le hA (by omega)
  have ht : t = V / val A := by omega
  have he := Int.emod_add_mul_ediv V (val A)
  refine ⟨ht, C, hw, ?_⟩
  rw [hv, ht, Int.mul_comm]; omega
theorem outRel_pos {R A R' : List Int} {d n : Nat} {t : Int} (hR' : Ok R') (hR : Ok R) (hA : 0 < val A) (h : OutRel R A d n t 1 R') : val ((R.drop d).take (n + 1)) / val A ≤ t - 1 ∧ 1 ≤ t := by
  obtain ⟨h0, _, _, _, hq, C, hw, hv⟩ := h
  have hc := val_lt (ok_of_win hw hR')
  rw [hw.1] at hc
  have hV := val_nonneg ((hR.drop d).take (n + 1))
  generalize val ((R.drop d).take (n + 1)) = V at *
  have hneg : V - t * val A < 0 := by omega
  have h1 : V / val A < t := Int.ediv_lt_of_lt_mul hA (by omega)
  have h2 : 0 ≤ V / val A := Int.ediv_nonneg hV (by omega)
  omega
theorem outRel_back {R A R1 R2 C2 : List Int} {d n : Nat} {t cy : Int} (hd : d + n + 1 ≤ R.length) (hR : Ok R) (hR1 : Ok R1) (hA : 0 < val A) (h : OutRel R A d n t 1 R1) (c0 : 0 ≤ cy) (c1 : cy ≤ 1) (hw2 : Win R1 d (n + 1) C2 R2) (hv2 : val C2 + pw (n + 1) * cy = val ((R1.drop d).take (n + 1)) + val A) :
    OutRel R A d n (t - 1) (1 - cy) R2 := by
  have hp := outRel_pos hR1 hR hA h
  obtain ⟨h0, h1, _, _, hq, C, hw, hv⟩ := h
  have ha := hw.again hw2 (by omega)
  rw [ha.2] at hv2
  refine ⟨by omega, by omega, by omega, by omega, hp.1, C2, ha.1, ?_⟩
  rw [Int.sub_mul, Int.mul_sub, Int.mul_one, Int.one_mul]
  rw [Int.mul_one] at hv
  omega
theorem But.trans {g : Nat} {w w1 w2 : World} (h : But g w w1) (k : But g w1 w2) : But g w w2 := ⟨Nat.le_trans h.1 k.1, fun i hi => (k.2 i hi).trans (h.2 i hi)⟩
theorem takeOut_any (base : Nat) (w0 wr0 : World) (g d n cc ca : Nat) (ao : Option Addr) (R A : List Int) (hAn : A.length = n) (hn0 : n ≠ 0) (hd : d + n + 1 ≤ R.length) (hR6 : R.length ≤ 100000) (hA : Ok A) (hO : OwnB base w0 wr0 g R)
    (htop : 0 < A.getD (n - 1) 0) (hV : val ((R.drop d).take (n + 1)) < 4294967296 * val A) (hca : CellsK .u32 wr0 ao A) (hsep : A ≠ [] → ∀ a, ao = some a → a.block ≠ g) :
    Calls Tryd.prog 86 #[.slice (some ⟨g, d, none⟩) (n + 1 : Nat) cc, .slice ao n ca] wr0 fun e w' =>
      ∃ (t : Int) (C R' : List Int), e = .returned (.int .u32 t) ∧ t = val ((R.drop d).take (n + 1)) / val A ∧ Win R d (n + 1) C R' ∧ val C = val ((R.drop d).take (n + 1)) % val A ∧ OwnB base w0 w' g R' ∧ But g wr0 w' := by
  have hRok := hO.ok
  have hne : A ≠ [] := by intro e; subst e; simp at hAn; omega
  have hApos : 0 < val A := by
    obtain ⟨m, rfl⟩ : ∃ m, n = m + 1 := ⟨n - 1, by omega⟩
    have e := val_take_succ A m (by omega)
    rw [List.take_of_length_le (by omega)] at e
    have h1 := val_nonneg (hA.take m)
    have h2 : 0 < pw m * A.getD m 0 := Int.mul_pos (pw_pos m) (by simpa using htop)
    omega
  have hXok : Ok ((R.drop d).take (n + 1)) := (hRok.drop d).take (n + 1)
  have hXn : ((R.drop d).take (n + 1)).length = n + 1 := by rw [List.length_take, List.length_drop]; omega
  have hgv := guess_ge hXok hA hn0 hXn hAn htop hV
  have e1 : ((R.drop d).take (n + 1)).getD n 0 = R.getD (d + n) 0 := by simp [List.getD, List.getElem?_take, List.getElem?_drop]
  have e2 : ((R.drop d).take (n + 1)).getD (n - 1) 0 = R.getD (d + (n - 1)) 0 := by simp [List.getD, List.getElem?_take, List.getElem?_drop, show n - 1 < n + 1 from by omega]
  rw [e1, e2] at hgv
  have hh := hRok.getD (d + n)
  have hl := hRok.getD (d + (n - 1))
  have hdd := hA.getD (n - 1)
  have hch := hO.cell (d + n) (by omega)
  have hcl := hO.cell (d + (n - 1)) (by omega)
  obtain ⟨a, rfl, _, hac⟩ := hca hne
  have hcd := hac (n - 1) (by omega)
  have hg0 := gv_bounds hh.1 hl.1 hl.2 htop
  have hguess := fun w => guess_any (R.getD (d + n) 0) (R.getD (d + (n - 1)) 0) (A.getD (n - 1) 0) w hh.1 hh.2 hl.1 hl.2 hdd.2
  generalize gv (R.getD (d + n) 0) (R.getD (d + (n - 1)) 0) (A.getD (n - 1) 0) = t0 at *
  generalize R.getD (d + n) 0 = hi at *
  generalize R.getD (d + (n - 1)) 0 = lo at *
  generalize A.getD (n - 1) 0 = dt at *
  have hsub := fun q => subTimes_any base w0 (wr0.drewN q) g d n cc ca (some a) R A t0 hAn hd hR6 hA (hO.drew q) hg0.1 hg0.2 (hca.keep (below_drewN (Below.refl _ _) q)) hsep
  have hbq : ∀ q w', But g (wr0.drewN q) w' → But g wr0 w' := fun q w' h => ⟨h.1, h.2⟩
  have HSUB := Bx.mk hsub
  have HBQ := Bx.mk hbq
  clear hsub hbq
  have HS := Bx.mk hsep
  have HG := Bx.mk hguess
  have HGV := Bx.mk hgv
  have HAP := Bx.mk hApos
  have HCA := Bx.mk hca
  have hb1 : (n : Int) < ((n + 1 : Nat) : Int) := by omega
  have hb2 : (n : Int) - 1 < ((n + 1 : Nat) : Int) := by omega
  have hb3 : (0 : Int) ≤ (n : Int) - 1 := by omega
  have hb4 : (n : Int) - 1 < (n : Int) := by omega
  clear hsep hguess hgv hApos hca hXok hXn e1 e2 hac hV htop
  go_enter Tryd.func86, Tryd.ntmps86
  go_wp2_with fail
  go_quiet ((go_at_call 94; exact Calls.quiet_of ((HG.out _).mono fun _ _ h => ⟨h.1, h.2⟩)))
  go_wp2_with fail
  refine (HSUB.out _).mono ?_
  rintro e w1 ⟨b, C, R1, rfl, b0, b1, hwin, hv, hown, hbut⟩
  have hrel : OutRel R A d n t0 b R1 := ⟨hg0.1, hg0.2, b0, b1, HGV.out, C, hwin, hv⟩
  have hbut := HBQ.out _ _ hbut
  clear hwin hv hh hl hch hcl hcd hdd hb1 hb2 hb3 hb4 HSUB
  go_wp2_with fail
  go_loopw [6, 7] (fun tv bv wr => ∃ (t b : Int) (R' : List Int), tv = .int .u32 t ∧ bv = .int .u32 b ∧ OutRel R A d n t b R' ∧ R'.length = R.length ∧ OwnB base w0 wr g R' ∧ But g wr0 wr) (fun tv _ _ => (intOf tv).toNat)
  case atStart => exact ⟨t0, b, R1, rfl, rfl, hrel, by obtain ⟨_, _, _, _, _, C', hw', _⟩ := hrel; exact hw'.len (by omega), hown, hbut⟩
  case round =>
    obtain ⟨t, b, R', rfl, rfl, hrel, hlen, hown, hbut⟩ := hrel
    have t0' := hrel.1
    have t1' := hrel.2.1
    by_cases hb : b = 0
    · subst hb
      have hdone := outRel_done hown.ok HAP.out hrel
      have HD := Bx.mk hdone
      clear hdone hrel
      go_wp2
      go_ret
      obtain ⟨ht, C', hw', hv'⟩ := HD.out
      exact ⟨t, C', R', rfl, ht, hw', hv', hown, hbut⟩
    · have hb1 : b = 1 := by have := hrel.2.2.1; have := hrel.2.2.2.1; omega
      subst hb1
      have hp := outRel_pos hown.ok hRok HAP.out hrel
      have hp1 := hp.2
      have hback := addBack_any base w0 wr g d n cc ca (some a) R' A hAn (by omega) (by omega) hA hown (hbut.cells HCA.out HS.out) HS.out
      have HBK := Bx.mk hback
      have HR := Bx.mk hrel
      have HO := Bx.mk hown
      have HBT := Bx.mk hbut
      clear hback hrel hown hbut hp hb
      go_wp2_with fail
      refine HBK.out.mono ?_
      rintro e w2 ⟨cy, C2, R2, rfl, c0, c1, hw2, hv2, hown2, hbut2⟩
      have hnew := outRel_back hd hRok HO.out.ok HAP.out HR.out c0 c1 hw2 hv2
      have hlen2 := (hw2.len (by omega)).trans hlen
      have hbt := HBT.out.trans hbut2
      have HN := Bx.mk hnew
      have HT2 := Bx.mk hbt
      clear hnew hbt hw2 hv2 hbut2
      go_wp2
      go_roundw
      case rel => exact ⟨t - 1, 1 - cy, R2, rfl, rfl, HN.out, hlen2, hown2, HT2.out⟩
      case measure => simp [intOf]; omega
end Go.Proofs.YtegjhkjmejckdaaDoor

/- natural.Make, guess, addBack, subTimes. -/
import Derived.Test.YtegjhkjmejckdaaDoorN8
import Derived.Test.YtegjhkjmejckdaaDoorDMath
namespace Go.Proofs.YtegjhkjmejckdaaDoor
open Go.RowKit M
theorem make_any (x : Nat) (w : World) (hx : x < 18446744073709551616) : Calls Tryd.prog 16 #[.int .u64 x] w (RetNat w x) := by
  have hb0 : (0 : Int) ≤ (x : Int) % 4294967296 ∧ (x : Int) % 4294967296 < 4294967296 := by omega
  have hb1 : (0 : Int) ≤ (x : Int) / 4294967296 ∧ (x : Int) / 4294967296 < 4294967296 := by omega
  have hv : val [(x : Int) % 4294967296, (x : Int) / 4294967296] = x := by simp only [val]; omega
  have hok : Ok [(x : Int) % 4294967296, (x : Int) / 4294967296] := Ok.cons hb0.1 hb0.2 (Ok.cons hb1.1 hb1.2 Ok.nil)
  have hown := World.ownsRow_lit (e := 42) (size := 1) (base := w.heap.size) w #[.int .u32 ((x : Int) % 4294967296), .int .u32 ((x : Int) / 4294967296)] 2 (Nat.le_refl _) (by unfold maxLen; omega) rfl
  have hcells : CellsK .u32 (w.alloc (.cells #[.int .u32 ((x : Int) % 4294967296), .int .u32 ((x : Int) / 4294967296)] 42)) (some ⟨w.heap.size, 0, none⟩) [(x : Int) % 4294967296, (x : Int) / 4294967296] := cells_of_owns hown
  have htrim := trim_any _ _ 2 2 _ rfl (Nat.le_refl _) (by unfold maxLen; omega) hok hcells
  have hrd := Rd.trimmed (s := x) hcells hok (cap := 2) (by simp) (by unfold maxLen; omega) hv
  have hbel : Below w.heap.size w (w.alloc (.cells #[.int .u32 ((x : Int) % 4294967296), .int .u32 ((x : Int) / 4294967296)] 42)) := (Below.refl _ _).alloc (Nat.le_refl _) _
  have HT := Bx.mk htrim
  have HR := Bx.mk hrd
  have hx' : (x : Int) < 18446744073709551616 := by omega
  clear htrim hrd hown hcells hok hv hx
  go_enter Tryd.func16, Tryd.ntmps16
  go_wp2_with fail
  refine HT.out.mono ?_
  rintro e w2 ⟨rfl, rfl⟩
  go_wp2
  go_ret
  exact ⟨_, rfl, HR.out, hbel⟩
theorem guess_any (h l d : Int) (w : World) (h0 : 0 ≤ h) (h1 : h < 4294967296) (l0 : 0 ≤ l) (l1 : l < 4294967296) (d1 : d < 4294967296) :
    Calls Tryd.prog 94 #[.int .u32 h, .int .u32 l, .int .u32 d] w fun e w' => e = .returned (.int .u32 (gv h l d)) ∧ Quiet w w' := by
  by_cases hd : h ≥ d
  · have e : gv h l d = 4294967295 := by unfold gv; rw [if_pos hd]
    have HE := Bx.mk e
    clear e
    go_enter Tryd.func94, Tryd.ntmps94
    go_wp2
    go_ret
    exact ⟨by rw [HE.out]; rfl, Quiet.refl w⟩
  · have e : gv h l d = (h * 4294967296 + l) / d := by unfold gv; rw [if_neg hd]
    have hdiv := div32 h l d w h0 l0 l1 d1 (by omega)
    have hdd : decide (d ≤ h) = false := by simp; omega
    generalize (h * 4294967296 + l) / d = q at *
    generalize (h * 4294967296 + l) % d = r at *
    have HE := Bx.mk e
    clear e
    go_enter Tryd.func94, Tryd.ntmps94
    go_wp2_with fail
    refine hdiv.mono ?_
    rintro e w2 ⟨rfl, hq⟩
    go_wp2
    go_ret
    exact ⟨by rw [HE.out]; rfl, hq⟩
theorem OwnB.but {base : Nat} {w0 wr w' : World} {g g' : Nat} {L : List Int} (h : OwnB base w0 wr g L) (hb : But g' wr w') (hg : g ≠ g') (hbel : Below base w0 w') : OwnB base w0 w' g L := by
  obtain ⟨cur, hh, hs, hc⟩ := h.blk
  exact ⟨h.ok, h.ge, ⟨cur, by rw [hb.2 g hg]; exact hh, hs, hc⟩, hbel⟩
theorem addBack_any (base : Nat) (w0 wr0 : World) (g d n cc ca : Nat) (ao : Option Addr) (R A : List Int) (hAn : A.length = n) (hd : d + n + 1 ≤ R.length) (hR6 : R.length ≤ 100000) (hA : Ok A) (hO : OwnB base w0 wr0 g R)
    (hca : CellsK .u32 wr0 ao A) (hsep : A ≠ [] → ∀ a, ao = some a → a.block ≠ g) :
    Calls Tryd.prog 96 #[.slice (some ⟨g, d, none⟩) (n + 1 : Nat) cc, .slice ao n ca] wr0 fun e w' =>
      ∃ (cy : Int) (C R' : List Int), e = .returned (.int .u32 cy) ∧ 0 ≤ cy ∧ cy ≤ 1 ∧ Win R d (n + 1) C R' ∧ val C + pw (n + 1) * cy = val ((R.drop d).take (n + 1)) + val A ∧ OwnB base w0 w' g R' ∧ But g wr0 w' := by
  have HS := Bx.mk hsep
  have hRok := hO.ok
  clear hsep
  go_enter Tryd.func96, Tryd.ntmps96
  go_wp2
  go_loopw [5, 11] (fun c i wr => ∃ (k : Nat) (cy : Int) (C R' : List Int), k ≤ n ∧ i = .int .i64 k ∧ c = .int .u32 cy ∧ 0 ≤ cy ∧ cy ≤ 1 ∧ Win R d k C R' ∧ Bx (val C + pw k * cy = val ((R.drop d).take k) + val (A.take k)) ∧ OwnB base w0 wr g R' ∧ But g wr0 wr) (fun _ i _ => n - (intOf i).toNat)
  case atStart => exact ⟨0, 0, [], R, Nat.zero_le _, rfl, rfl, Int.le_refl _, by omega, Win.nil R d, ⟨by simp [val]⟩, hO, But.refl _ _⟩
  case round =>
    obtain ⟨k, cy, C, R', hk, rfl, rfl, h0, h1, hwin, HV, hown, hbut⟩ := hrel
    have hlen := hwin.len (by omega)
    have hget := hwin.get (by omega)
    have hcell := hown.cell (d + k) (by omega)
    have hfree := hown.free (d + k)
    rw [hget] at hcell
    have hl := hRok.getD (d + k)
    by_cases hlt : k < n
    · have hne : A ≠ [] := by intro e; subst e; simp at hAn; omega
      obtain ⟨a, rfl, _, hac⟩ := (hbut.cells hca HS.out) hne
      have hcA := hac k (by omega)
      have ha := hA.getD k
      have hstep := addBack_step hwin.1 rfl rfl HV.out
      have hwin2 := hwin.set (by omega) ((R.getD (d + k) 0 + A.getD k 0 + cy) % 4294967296)
      have hs2 := hown.store (d + k) (x := (R.getD (d + k) 0 + A.getD k 0 + cy) % 4294967296) (by omega) (by omega)
      have hb2 := hbut.setCell (d + k) (.int .u32 ((R.getD (d + k) 0 + A.getD k 0 + cy) % 4294967296))
      have hadd := add32 (R.getD (d + k) 0) (A.getD k 0) cy wr hl.1 hl.2 ha.1 ha.2 h0 h1
      have hz0 : 0 ≤ (R.getD (d + k) 0 + A.getD k 0 + cy) / 4294967296 := by omega
      have hz1 : (R.getD (d + k) 0 + A.getD k 0 + cy) / 4294967296 ≤ 1 := by omega
      generalize (R.getD (d + k) 0 + A.getD k 0 + cy) / 4294967296 = z at *
      generalize (R.getD (d + k) 0 + A.getD k 0 + cy) % 4294967296 = u at *
      generalize R.getD (d + k) 0 = l at *
      generalize A.getD k 0 = y at *
      have HST := Bx.mk hstep
      have HW := Bx.mk hwin2
      have HS2 := Bx.mk hs2
      have HB2 := Bx.mk hb2
      have HADD := Bx.mk hadd
      clear hstep hwin2 hs2 hb2 hadd hwin hown hbut hget hlen hac
      go_wp2_with fail
      refine HADD.out.mono ?_
      rintro e w2 ⟨rfl, rfl⟩
      go_wp2
      go_roundw
      case rel => exact ⟨k + 1, z, _, _, by omega, by go_num, rfl, hz0, hz1, HW.out, HST, HS2.out, HB2.out⟩
      case measure => simp [intOf]; omega
    · have hkn : k = n := by omega
      subst hkn
      have hA0 : A.getD k 0 = 0 := by rw [List.getD_eq_getElem?_getD, List.getElem?_eq_none (by omega)]; rfl
      have hstep := addBack_step hwin.1 rfl hA0 HV.out
      rw [List.take_of_length_le (show A.length ≤ k + 1 by omega)] at hstep
      have hwin2 := hwin.set (by omega) ((R.getD (d + k) 0 + 0 + cy) % 4294967296)
      have hs2 := hown.store (d + k) (x := (R.getD (d + k) 0 + 0 + cy) % 4294967296) (by omega) (by omega)
      have hb2 := hbut.setCell (d + k) (.int .u32 ((R.getD (d + k) 0 + 0 + cy) % 4294967296))
      have hadd := add32 (R.getD (d + k) 0) 0 cy wr hl.1 hl.2 (by omega) (by omega) h0 h1
      have hz0 : 0 ≤ (R.getD (d + k) 0 + 0 + cy) / 4294967296 := by omega
      have hz1 : (R.getD (d + k) 0 + 0 + cy) / 4294967296 ≤ 1 := by omega
      generalize (R.getD (d + k) 0 + 0 + cy) / 4294967296 = z at *
      generalize (R.getD (d + k) 0 + 0 + cy) % 4294967296 = u at *
      generalize R.getD (d + k) 0 = l at *
      have HST := Bx.mk hstep
      have HW := Bx.mk hwin2
      have HS2 := Bx.mk hs2
      have HB2 := Bx.mk hb2
      have HADD := Bx.mk hadd
      clear hstep hwin2 hs2 hb2 hadd hwin hown hbut hget hlen hA0
      go_wp2_with fail
      refine HADD.out.mono ?_
      rintro e w2 ⟨rfl, rfl⟩
      go_wp2
      go_ret
      exact ⟨z, _, _, rfl, hz0, hz1, HW.out, HST.out, HS2.out, HB2.out⟩
theorem subTimes_any (base : Nat) (w0 wr0 : World) (g d n cc ca : Nat) (ao : Option Addr) (R A : List Int) (x : Int) (hAn : A.length = n) (hd : d + n + 1 ≤ R.length) (hR6 : R.length ≤ 100000) (hA : Ok A) (hO : OwnB base w0 wr0 g R)
    (hx0 : 0 ≤ x) (hx1 : x < 4294967296) (hca : CellsK .u32 wr0 ao A) (hsep : A ≠ [] → ∀ a, ao = some a → a.block ≠ g) :
    Calls Tryd.prog 95 #[.slice (some ⟨g, d, none⟩) (n + 1 : Nat) cc, .slice ao n ca, .int .u32 x] wr0 fun e w' =>
      ∃ (b : Int) (C R' : List Int), e = .returned (.int .u32 b) ∧ 0 ≤ b ∧ b ≤ 1 ∧ Win R d (n + 1) C R' ∧ val C = val ((R.drop d).take (n + 1)) - x * val A + pw (n + 1) * b ∧ OwnB base w0 w' g R' ∧ But g wr0 w' := by
  have HS := Bx.mk hsep
  have hRok := hO.ok
  clear hsep
  go_enter Tryd.func95, Tryd.ntmps95
  go_wp2
  go_loopw [7, 8, 14] (fun cv bv i wr => ∃ (k : Nat) (c b : Int) (C R' : List Int), k ≤ n ∧ i = .int .i64 k ∧ cv = .int .u64 c ∧ bv = .int .u32 b ∧ 0 ≤ c ∧ c < 4294967296 ∧ 0 ≤ b ∧ b ≤ 1 ∧ Win R d k C R' ∧ Bx (val C = val ((R.drop d).take k) - x * val (A.take k) + pw k * (c + b)) ∧ OwnB base w0 wr g R' ∧ But g wr0 wr) (fun _ _ i _ => n - (intOf i).toNat)
  case atStart => exact ⟨0, 0, 0, [], R, Nat.zero_le _, rfl, rfl, rfl, Int.le_refl _, by omega, Int.le_refl _, by omega, Win.nil R d, ⟨by simp [val]⟩, hO, But.refl _ _⟩
  case round =>
    obtain ⟨k, c, b, C, R', hk, rfl, rfl, rfl, c0, c1, b0, b1, hwin, HV, hown, hbut⟩ := hrel
    have hlen := hwin.len (by omega)
    have hget := hwin.get (by omega)
    have hcell := hown.cell (d + k) (by omega)
    have hfree := hown.free (d + k)
    rw [hget] at hcell
    have hl := hRok.getD (d + k)
    by_cases hlt : k < n
    · have hne : A ≠ [] := by intro e; subst e; simp at hAn; omega
      obtain ⟨a, rfl, _, hac⟩ := (hbut.cells hca HS.out) hne
      have hcA := hac k (by omega)
      have ha := hA.getD k
      have hm := mul_small x (A.getD k 0) hx0 ha.1 hx1 ha.2
      have hstep := subTimes_step hwin.1 rfl rfl HV.out
      generalize A.getD k 0 = y at *
      have hs0 : 0 ≤ c + x * y := by omega
      have hs1 : c + x * y ≤ 18446744073709551615 := by omega
      generalize R.getD (d + k) 0 = l at *
      have hwin2 := hwin.set (by omega) ((l - (c + x * y) % 4294967296 - b) % 4294967296)
      have hs2 := hown.store (d + k) (x := (l - (c + x * y) % 4294967296 - b) % 4294967296) (by omega) (by omega)
      have hb2 := hbut.setCell (d + k) (.int .u32 ((l - (c + x * y) % 4294967296 - b) % 4294967296))
      have hsub := sub32 l ((c + x * y) % 4294967296) b wr hl.1 hl.2 (by omega) (by omega) b0 b1
      have hz0 : 0 ≤ -((l - (c + x * y) % 4294967296 - b) / 4294967296) := by omega
      have hz1 : -((l - (c + x * y) % 4294967296 - b) / 4294967296) ≤ 1 := by omega
      generalize -((l - (c + x * y) % 4294967296 - b) / 4294967296) = z at *
      generalize (l - (c + x * y) % 4294967296 - b) % 4294967296 = u at *
      have hc0 : 0 ≤ (c + x * y) / 4294967296 := by omega
      have hc1 : (c + x * y) / 4294967296 < 4294967296 := by omega
      have HST := Bx.mk hstep
      have HW := Bx.mk hwin2
      have HS2 := Bx.mk hs2
      have HB2 := Bx.mk hb2
      have HSUB := Bx.mk hsub
      clear hstep hwin2 hs2 hb2 hsub hwin hown hbut hget hlen hac
      go_wp2_with fail
      refine HSUB.out.mono ?_
      rintro e w2 ⟨rfl, rfl⟩
      go_wp2
      go_roundw
      case rel => exact ⟨k + 1, _, z, _, _, by omega, by go_num, rfl, rfl, hc0, hc1, hz0, hz1, HW.out, HST, HS2.out, HB2.out⟩
      case measure => simp [intOf]; omega
    · have hkn : k = n := by omega
      subst hkn
      have hA0 : A.getD k 0 = 0 := by rw [List.getD_eq_getElem?_getD, List.getElem?_eq_none (by omega)]; rfl
      have hstep := subTimes_step hwin.1 rfl hA0 HV.out
      have e1 : c % 4294967296 = c := by omega
      have e2 : c / 4294967296 = 0 := by omega
      rw [List.take_of_length_le (show A.length ≤ k + 1 by omega), Int.mul_zero, Int.add_zero, e1, e2, Int.zero_add] at hstep
      generalize R.getD (d + k) 0 = l at *
      have hwin2 := hwin.set (by omega) ((l - c - b) % 4294967296)
      have hs2 := hown.store (d + k) (x := (l - c - b) % 4294967296) (by omega) (by omega)
      have hb2 := hbut.setCell (d + k) (.int .u32 ((l - c - b) % 4294967296))
      have hsub := sub32 l c b wr hl.1 hl.2 c0 c1 b0 b1
      have hz0 : 0 ≤ -((l - c - b) / 4294967296) := by omega
      have hz1 : -((l - c - b) / 4294967296) ≤ 1 := by omega
      generalize -((l - c - b) / 4294967296) = z at *
      generalize (l - c - b) % 4294967296 = u at *
      have HST := Bx.mk hstep
      have HW := Bx.mk hwin2
      have HS2 := Bx.mk hs2
      have HB2 := Bx.mk hb2
      have HSUB := Bx.mk hsub
      clear hstep hwin2 hs2 hb2 hsub hwin hown hbut hget hlen hA0 e1 e2
      go_wp2_with fail
      refine HSUB.out.mono ?_
      rintro e w2 ⟨rfl, rfl⟩
      go_wp2
      go_ret
      exact ⟨z, _, _, rfl, hz0, hz1, HW.out, HST.out, HS2.out, HB2.out⟩
end Go.Proofs.YtegjhkjmejckdaaDoor

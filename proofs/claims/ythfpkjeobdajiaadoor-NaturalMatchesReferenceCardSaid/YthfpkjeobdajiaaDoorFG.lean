/- the reference's Limb, Plus, Minus on natural numbers, walked. -/
import Derived.Test.YthfpkjeobdajiaaDoorFE
namespace Go.Proofs.YthfpkjeobdajiaaDoor
open Go.RowKit M
theorem refLimb_in (a : Addr) (n cap : Nat) (i : Nat) (x : Int) (w : World) (h0 : 0 ≤ x) (h1 : x < 4294967296) (hi : i < n) (hc : w.cell? (a.add i) = some (.int .u32 x)) :
    Calls Tryd.prog 60 #[.slice (some a) n cap, .int .i64 i] w fun e w' => e = .returned (.int .u64 x) ∧ w = w' := by
  go_enter Tryd.func60, Tryd.ntmps60
  go_wp2
  go_ret
  exact ⟨rfl, rfl⟩
theorem refLimb_out (a : Option Addr) (n cap : Nat) (i : Nat) (w : World) (hi : n ≤ i) :
    Calls Tryd.prog 60 #[.slice a n cap, .int .i64 i] w fun e w' => e = .returned (.int .u64 0) ∧ w = w' := by
  go_enter Tryd.func60, Tryd.ntmps60
  go_wp2
  go_ret
  exact ⟨rfl, rfl⟩
/-- The reference's Limb: the limb with the index i, 0 beyond the end. -/
theorem refLimb_any (ao : Option Addr) (l : List Int) (n cap : Nat) (i : Nat) (w : World) (hn : l.length = n) (ho : Ok l) (h : CellsK .u32 w ao l) :
    Calls Tryd.prog 60 #[.slice ao n cap, .int .i64 i] w fun e w' => e = .returned (.int .u64 (l.getD i 0)) ∧ w = w' := by
  subst hn
  have hb := ho.getD i
  by_cases hi : i < l.length
  · obtain ⟨a, rfl, _, hc⟩ := h (by intro e; subst e; simp at hi)
    exact refLimb_in a _ cap i _ w hb.1 hb.2 hi (hc i hi)
  · have e : l.getD i 0 = 0 := by rw [List.getD_eq_getElem?_getD, List.getElem?_eq_none (by omega)]; rfl
    rw [e]
    exact refLimb_out ao _ cap i w (by omega)
/-- The sum after k rounds. -/
def PlusRel (A B : List Int) (k : Nat) (cy : Int) (C : List Int) : Prop := C.length = k ∧ 0 ≤ cy ∧ cy ≤ 1 ∧ val C + pw k * cy = val (A.take k) + val (B.take k)
theorem plusRel_step {A B C : List Int} {k : Nat} {cy : Int} (hA : Ok A) (hB : Ok B) (h : PlusRel A B k cy C) :
    PlusRel A B (k + 1) ((A.getD k 0 + B.getD k 0 + cy) / 4294967296) (C ++ [(A.getD k 0 + B.getD k 0 + cy) % 4294967296]) := by
  obtain ⟨hC, h0, h1, hv⟩ := h
  have ha := hA.getD k
  have hb := hB.getD k
  refine ⟨by simp [hC], by omega, by omega, ?_⟩
  rw [val_snoc, hC, pw_succ, val_take_succ', val_take_succ', sum_step _ _ _ _ _ _ hv]; omega
set_option maxHeartbeats 1600000 in
theorem refPlus_any (ao bo : Option Addr) (A B : List Int) (n m ca cb : Nat) (w : World) (hn : A.length = n) (hm : B.length = m) (hn6 : n ≤ 100000) (hm6 : m ≤ 100000)
    (hA : Ok A) (hB : Ok B) (hca : CellsK .u32 w ao A) (hcb : CellsK .u32 w bo B) :
    Calls Tryd.prog 34 #[.slice ao n ca, .slice bo m cb] w (RetNat w (val A + val B).toNat) := by
  obtain ⟨i0, hi, hz0, hz1, hz2⟩ := info_parts Tryd.info41
  go_enter Tryd.func34, Tryd.ntmps34
  go_wp2
  go_loopw [5, 6, 7] (fun v c i wr => ∃ (k : Nat) (cy : Int) (C : List Int), i = .int .i64 k ∧ c = .int .u64 cy ∧ PlusRel A B k cy C ∧ (k ≤ n ∨ k ≤ m ∨ k ≤ n + m + 1 ∧ cy = 0) ∧ Apd w wr v C) (fun _ _ i _ => n + m + 2 - (intOf i).toNat)
  case atStart => exact ⟨0, 0, [], rfl, rfl, ⟨rfl, by omega, by omega, by simp [val]⟩, by omega, Apd.nil w⟩
  case round =>
    obtain ⟨k, cy, C, rfl, rfl, hrel, hk, hap⟩ := hrel
    have h0 := hrel.2.1
    have h1 := hrel.2.2.1
    by_cases hgo : k < n ∨ k < m ∨ 0 < cy
    · have hst := plusRel_step hA hB hrel
      have ha := hA.getD k
      have hb := hB.getD k
      have hlA := refLimb_any ao A n ca k wr hn hA (hca.keep hap.below)
      have hlB := refLimb_any bo B m cb k wr hm hB (hcb.keep hap.below)
      obtain ⟨x, hx⟩ : ∃ x, A.getD k 0 = x := ⟨_, rfl⟩
      obtain ⟨y, hy⟩ : ∃ y, B.getD k 0 = y := ⟨_, rfl⟩
      rw [hx] at ha hlA hst
      rw [hy] at hb hlB hst
      obtain ⟨ha0, ha1⟩ := ha
      obtain ⟨hb0, hb1⟩ := hb
      have ha1 : x ≤ 4294967295 := by omega
      have hb1 : y ≤ 4294967295 := by omega
      have hlow := u64_low_int (x + y + cy) (by omega) (by omega)
      have hC := hrel.1
      have hk' : k ≤ n + m + 1 := by omega
      have hz : n ≤ k → m ≤ k → 0 < cy → (x + y + cy) / 4294967296 = 0 ∧ k ≤ n + m := by
        intro z1 z2 z3
        have e1 : x = 0 := by rw [← hx, List.getD_eq_getElem?_getD, List.getElem?_eq_none (by omega)]; rfl
        have e2 : y = 0 := by rw [← hy, List.getD_eq_getElem?_getD, List.getElem?_eq_none (by omega)]; rfl
        omega
      have HZ := Bx.mk hz
      clear hz
      have HST := Bx.mk hst
      have HAP := Bx.mk hap
      have HA := Bx.mk hlA
      have HB := Bx.mk hlB
      clear hst hlA hlB hx hy hrel hap hk
      have hgo3 : k < n ∨ ¬ k < n ∧ k < m ∨ ¬ k < n ∧ ¬ k < m ∧ 0 < cy := by omega
      clear hgo
      rcases hgo3 with g | ⟨g, g2⟩ | ⟨g, g2, g3⟩
      · go_wp2_with fail
        refine HA.out.mono ?_
        rintro e w2 ⟨rfl, rfl⟩
        go_wp2_with fail
        refine HB.out.mono ?_
        rintro e w2 ⟨rfl, rfl⟩
        have hap := HAP.out
        clear HA HB HAP
        go_wp2_with (at_builtin; refine wpList_append_own _ rfl _ _ 23 rfl w.heap.size 41 i0 (.int .u32 0) 1 4 Tryd.underlying23 hi hz0 hz1 hz2 rfl (by decide) _ _ _ rfl (hap.own.alloc _) ⟨wr.heap.size, 0, none⟩ 1 1 [.int .u32 ((x + y + cy) % 4294967296)] rfl rfl ?c1 ?c2 ?c3 ?c4 ?c5 ?_)
        case c1 =>
          intro j u hj
          match j, hj with
          | 0, hj => simp at hj; subst hj; simp [Addr.add]
        case c2 => intro u hu; simp at hu; subst hu; rfl
        case c3 => unfold maxLen; omega
        case c4 => omega
        case c5 => have := hap.below.size; simp; omega
        intro v' w3 hown' hgrow' _
        have HN := Bx.mk (hap.next (by omega) (by omega) (by rw [hC]; exact hown') hgrow')
        clear hown' hgrow' hap
        go_wp2
        go_roundw
        case rel => exact ⟨k + 1, _, _, by go_num, rfl, HST.out, by omega, HN.out⟩
        case measure => simp [intOf]; omega
      · go_wp2_with fail
        refine HA.out.mono ?_
        rintro e w2 ⟨rfl, rfl⟩
        go_wp2_with fail
        refine HB.out.mono ?_
        rintro e w2 ⟨rfl, rfl⟩
        have hap := HAP.out
        clear HA HB HAP
        go_wp2_with (at_builtin; refine wpList_append_own _ rfl _ _ 23 rfl w.heap.size 41 i0 (.int .u32 0) 1 4 Tryd.underlying23 hi hz0 hz1 hz2 rfl (by decide) _ _ _ rfl (hap.own.alloc _) ⟨wr.heap.size, 0, none⟩ 1 1 [.int .u32 ((x + y + cy) % 4294967296)] rfl rfl ?c1 ?c2 ?c3 ?c4 ?c5 ?_)
        case c1 =>
          intro j u hj
          match j, hj with
          | 0, hj => simp at hj; subst hj; simp [Addr.add]
        case c2 => intro u hu; simp at hu; subst hu; rfl
        case c3 => unfold maxLen; omega
        case c4 => omega
        case c5 => have := hap.below.size; simp; omega
        intro v' w3 hown' hgrow' _
        have HN := Bx.mk (hap.next (by omega) (by omega) (by rw [hC]; exact hown') hgrow')
        clear hown' hgrow' hap
        go_wp2
        go_roundw
        case rel => exact ⟨k + 1, _, _, by go_num, rfl, HST.out, by omega, HN.out⟩
        case measure => simp [intOf]; omega
      · go_wp2_with fail
        refine HA.out.mono ?_
        rintro e w2 ⟨rfl, rfl⟩
        go_wp2_with fail
        refine HB.out.mono ?_
        rintro e w2 ⟨rfl, rfl⟩
        have hap := HAP.out
        clear HA HB HAP
        go_wp2_with (at_builtin; refine wpList_append_own _ rfl _ _ 23 rfl w.heap.size 41 i0 (.int .u32 0) 1 4 Tryd.underlying23 hi hz0 hz1 hz2 rfl (by decide) _ _ _ rfl (hap.own.alloc _) ⟨wr.heap.size, 0, none⟩ 1 1 [.int .u32 ((x + y + cy) % 4294967296)] rfl rfl ?c1 ?c2 ?c3 ?c4 ?c5 ?_)
        case c1 =>
          intro j u hj
          match j, hj with
          | 0, hj => simp at hj; subst hj; simp [Addr.add]
        case c2 => intro u hu; simp at hu; subst hu; rfl
        case c3 => unfold maxLen; omega
        case c4 => omega
        case c5 => have := hap.below.size; simp; omega
        intro v' w3 hown' hgrow' _
        have HN := Bx.mk (hap.next (by omega) (by omega) (by rw [hC]; exact hown') hgrow')
        clear hown' hgrow' hap
        go_wp2
        go_roundw
        case rel => exact ⟨k + 1, _, _, by go_num, rfl, HST.out, by have := HZ.out (by omega) (by omega) (by omega); omega, HN.out⟩
        case measure => simp [intOf]; omega
    · have hkn : n ≤ k := by omega
      have hkm : m ≤ k := by omega
      have hcy : cy = 0 := by omega
      subst hcy
      have hv : val C = val A + val B := by
        have := hrel.2.2.2
        rw [List.take_of_length_le (by omega), List.take_of_length_le (by omega)] at this
        omega
      obtain ⟨co, cc, e, hc1, hc2, hcells⟩ := hap.shape
      subst e
      have hnn := val_nonneg hap.ok
      have htr := refTrim_any co C _ cc wr rfl hc1 hc2 hap.ok hcells
      have HT := Bx.mk htr
      have HR := Bx.mk (Rd.trimmedC (s := (val A + val B).toNat) hcells hap.ok hc1 hc2 (by rw [hv]; omega))
      have HB := Bx.mk hap.below
      have g1 : ¬ k < n := by omega
      have g2 : ¬ k < m := by omega
      clear hv htr hcells hap hrel hnn
      go_wp2_with fail
      refine HT.out.mono ?_
      rintro e w2 ⟨rfl, rfl⟩
      go_wp2
      go_ret
      exact ⟨_, rfl, HR.out, HB.out⟩
end Go.Proofs.YthfpkjeobdajiaaDoor

/- the reference's Minus on natural numbers, walked. -/
import Derived.Test.YthfpkjeobdajiaaDoorFG
namespace Go.Proofs.YthfpkjeobdajiaaDoor
open Go.RowKit M
/-- The difference after k rounds. -/
def MinusRel (A B : List Int) (k : Nat) (bw : Int) (C : List Int) : Prop := C.length = k ∧ 0 ≤ bw ∧ bw ≤ 1 ∧ val C = val (A.take k) - val (B.take k) + pw k * bw
theorem minusRel_step {A B C : List Int} {k : Nat} {bw : Int} (hA : Ok A) (hB : Ok B) (h : MinusRel A B k bw C) :
    MinusRel A B (k + 1) (1 - (A.getD k 0 + 4294967296 - B.getD k 0 - bw) / 4294967296) (C ++ [(A.getD k 0 + 4294967296 - B.getD k 0 - bw) % 4294967296]) := by
  obtain ⟨hC, h0, h1, hv⟩ := h
  have ha := hA.getD k
  have hb := hB.getD k
  refine ⟨by simp [hC], by omega, by omega, ?_⟩
  have hs := sub_step (pw k) (A.getD k 0) (B.getD k 0) bw (val C) (val (A.take k) - val (B.take k)) hv
  have e1 : (A.getD k 0 + 4294967296 - B.getD k 0 - bw) % 4294967296 = (A.getD k 0 - B.getD k 0 - bw) % 4294967296 := by omega
  have e2 : 1 - (A.getD k 0 + 4294967296 - B.getD k 0 - bw) / 4294967296 = -((A.getD k 0 - B.getD k 0 - bw) / 4294967296) := by omega
  rw [e1, e2, val_snoc, hC, hs, pw_succ, val_take_succ', val_take_succ']; omega
set_option maxHeartbeats 1600000 in
theorem refMinus_any (ao bo : Option Addr) (A B : List Int) (n m ca cb : Nat) (w : World) (hn : A.length = n) (hm : B.length = m) (hn6 : n ≤ 100000) (hm6 : m ≤ 100000)
    (hA : Ok A) (hB : Ok B) (lB : B.getLast? ≠ some 0) (hle : val B ≤ val A) (hca : CellsK .u32 w ao A) (hcb : CellsK .u32 w bo B) :
    Calls Tryd.prog 38 #[.slice ao n ca, .slice bo m cb] w (RetNatF w (val A - val B).toNat) := by
  obtain ⟨i0, hi, hz0, hz1, hz2⟩ := info_parts Tryd.info41
  have hmn : m ≤ n := by
    rcases Nat.lt_or_ge n m with h | h
    · have := val_lt_of_len hA hB lB (by omega); omega
    · exact h
  have HLE := Bx.mk hle
  clear hle lB
  go_enter Tryd.func38, Tryd.ntmps38
  go_wp2
  go_loopw [5, 6, 7] (fun v c i wr => ∃ (k : Nat) (bw : Int) (C : List Int), i = .int .i64 k ∧ c = .int .u64 bw ∧ MinusRel A B k bw C ∧ k ≤ n ∧ Apd w wr v C) (fun _ _ i _ => n - (intOf i).toNat)
  case atStart => exact ⟨0, 0, [], rfl, rfl, ⟨rfl, by omega, by omega, by simp [val]⟩, by omega, Apd.nil w⟩
  case round =>
    obtain ⟨k, bw, C, rfl, rfl, hrel, hk, hap⟩ := hrel
    have h0 := hrel.2.1
    have h1 := hrel.2.2.1
    by_cases hgo : k < n
    · have hst := minusRel_step hA hB hrel
      have ha := hA.getD k
      have hb := hB.getD k
      have hlA := refLimb_any ao A n ca k wr hn hA (hca.keep hap.below)
      have hlB := refLimb_any bo B m cb k wr hm hB (hcb.keep hap.below)
      obtain ⟨x, hx⟩ : ∃ x, A.getD k 0 = x := ⟨_, rfl⟩
      obtain ⟨y, hy⟩ : ∃ y, B.getD k 0 = y := ⟨_, rfl⟩
      rw [hx] at ha hlA hst
      rw [hy] at hb hlB hst
      obtain ⟨ha0, ha1⟩ := ha
      obtain ⟨hb0, hb1⟩ := hb
      have ha1 : x ≤ 4294967295 := by omega
      have hb1 : y ≤ 4294967295 := by omega
      have hlow := u64_low_int (x + 4294967296 - y - bw) (by omega) (by omega)
      have hC := hrel.1
      have HST := Bx.mk hst
      have HAP := Bx.mk hap
      have HA := Bx.mk hlA
      have HB := Bx.mk hlB
      clear hst hlA hlB hx hy hrel hap
      go_wp2_with fail
      refine HA.out.mono ?_
      rintro e w2 ⟨rfl, rfl⟩
      go_wp2_with fail
      refine HB.out.mono ?_
      rintro e w2 ⟨rfl, rfl⟩
      have hap := HAP.out
      clear HA HB HAP
      go_wp2_with (at_builtin; refine wpList_append_own _ rfl _ _ 23 rfl w.heap.size 41 i0 (.int .u32 0) 1 4 Tryd.underlying23 hi hz0 hz1 hz2 rfl (by decide) _ _ _ rfl (hap.own.alloc _) ⟨wr.heap.size, 0, none⟩ 1 1 [.int .u32 ((x + 4294967296 - y - bw) % 4294967296)] rfl rfl ?c1 ?c2 ?c3 ?c4 ?c5 ?_)
      case c1 =>
        intro j u hj
        match j, hj with
        | 0, hj => simp at hj; subst hj; simp [Addr.add]
      case c2 => intro u hu; simp at hu; subst hu; rfl
      case c3 => unfold maxLen; omega
      case c4 => omega
      case c5 => have := hap.below.size; simp; omega
      intro v' w3 hown' hgrow' _
      have HN := Bx.mk (hap.next (by omega) (by omega) (by rw [hC]; exact hown') hgrow')
      clear hown' hgrow' hap
      go_wp2
      go_roundw
      case rel => exact ⟨k + 1, _, _, by go_num, rfl, HST.out, by omega, HN.out⟩
      case measure => simp [intOf]; omega
    · have hkn : k = n := by omega
      subst hkn
      have hv : val C = val A - val B := by
        have hv := hrel.2.2.2
        rw [List.take_of_length_le (by omega), List.take_of_length_le (by omega)] at hv
        have hlt := val_lt hap.ok
        rw [hrel.1] at hlt
        have := HLE.out
        rcases (show bw = 0 ∨ bw = 1 by omega) with h | h
        · subst h; omega
        · subst h; omega
      obtain ⟨co, cc, e, hc1, hc2, hcells, hfr⟩ := hap.shapeF
      subst e
      have hnn := val_nonneg hap.ok
      have htr := refTrim_any co C _ cc wr rfl hc1 hc2 hap.ok hcells
      have HT := Bx.mk htr
      have HR := Bx.mk (Rd.trimmedC (s := (val A - val B).toNat) hcells hap.ok hc1 hc2 (by rw [hv]; omega))
      have HB := Bx.mk hap.below
      clear hv htr hcells hap hrel hnn
      go_wp2_with fail
      refine HT.out.mono ?_
      rintro e w2 ⟨rfl, rfl⟩
      go_wp2
      go_ret
      exact ⟨_, rfl, HR.out, HB.out, _, _, _, rfl, hfr⟩
end Go.Proofs.YthfpkjeobdajiaaDoor

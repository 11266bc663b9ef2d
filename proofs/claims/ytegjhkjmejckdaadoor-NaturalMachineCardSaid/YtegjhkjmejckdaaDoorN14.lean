/- natural.timesPlus. -/
import Derived.Test.YtegjhkjmejckdaaDoorN13
namespace Go.Proofs.YtegjhkjmejckdaaDoor
open Go.RowKit M
theorem timesPlus_math {A L0 L : List Int} {n : Nat} {f m cy : Int} (hAn : A.length = n) (hn0 : n ≠ 0) (h0 : L0 = m :: List.replicate n 0) (h : AtRel L0 0 A f n cy L) : L.getD n 0 = 0 ∧ val (L.set n cy) = val A * f + m := by
  obtain ⟨_, _, C, hC, rfl, hv⟩ := h
  obtain ⟨k, rfl⟩ : ∃ k, n = k + 1 := ⟨n - 1, by omega⟩
  subst h0
  have e1 : (m :: List.replicate (k + 1) (0 : Int)).take 0 = [] := rfl
  have e2 : (m :: List.replicate (k + 1) (0 : Int)).drop (0 + (k + 1)) = [0] := by rw [Nat.zero_add, List.drop_succ_cons, List.drop_replicate]; simp
  have e3 : ((m :: List.replicate (k + 1) (0 : Int)).drop 0).take (k + 1) = m :: List.replicate k 0 := by rw [List.drop_zero, List.take_succ_cons, List.take_replicate]; simp
  rw [e3, List.take_of_length_le (by omega)] at hv
  rw [e1, e2, List.nil_append]
  refine ⟨by rw [List.getD_eq_getElem?_getD, List.getElem?_append_right (by omega), hC]; simp, ?_⟩
  rw [List.set_append_right _ _ (by omega), hC, Nat.sub_self, List.set_cons_zero, val_snoc, hC, hv]
  simp only [val, val_replicate]
  rw [Int.mul_comm f]; omega
theorem timesPlus_math2 {A L0 L : List Int} {n : Nat} {f m cy x : Int} (hAn : A.length = n) (h0 : L0 = m :: List.replicate n 0) (hx : L0.getD n 0 = x) (m1 : m < 4294967296) (m0 : 0 ≤ m) (h : AtRel L0 0 A f n cy L) :
    L.getD n 0 = x ∧ val (L.set n (x + cy)) = val A * f + m ∧ 0 ≤ x + cy ∧ x + cy < 4294967296 := by
  by_cases hn0 : n = 0
  · subst hn0
    obtain ⟨c0, c1, C, hC, rfl, hv⟩ := h
    have hA0 : A = [] := by simpa using hAn
    have hC0 : C = [] := by simpa using hC
    subst hA0 hC0 h0
    simp [val, pw_zero] at hv
    subst hv
    simp at hx
    subst hx
    simp [val]; omega
  · have hm := timesPlus_math hAn hn0 h0 h
    have hx0 : x = 0 := by
      obtain ⟨k, rfl⟩ : ∃ k, n = k + 1 := ⟨n - 1, by omega⟩
      rw [← hx, h0]; simp [List.getD, List.replicate_succ']
    subst hx0
    rw [Int.zero_add]
    exact ⟨hm.1, hm.2, h.1, h.2.1⟩
set_option maxHeartbeats 1600000 in
theorem timesPlus_any (ao : Option Addr) (A : List Int) (n ca : Nat) (f m : Int) (w : World) (hn : A.length = n) (hn6 : n ≤ 700) (hA : Ok A) (hca : CellsK .u32 w ao A) (f0 : 0 ≤ f) (f1 : f < 4294967296) (m0 : 0 ≤ m) (m1 : m < 4294967296) :
    Calls Tryd.prog 82 #[.slice ao n ca, .int .u32 f, .int .u32 m] w fun e w' => ∃ L : List Int, e = .returned (.slice (some ⟨w.heap.size, 0, none⟩) (n + 1) (n + 1)) ∧ val L = val A * f + m ∧ Wrote w w' (n + 1) L := by
  obtain ⟨i0, hi, hz0, hz1, hz2⟩ := info_parts Tryd.info42
  go_enter Tryd.func82, Tryd.ntmps82
  go_wp2_with (at_make; refine wpList_make_full _ rfl _ _ 22 rfl w.heap.size 42 i0 (.int .u32 0) 1 Tryd.underlying22 hi hz0 hz1 .i64 .i64 _ _ (n + 1) rfl rfl (by push_cast; rfl) (by push_cast; rfl) (by rw [hz2]; omega) (by unfold maxLen; omega) (Nat.le_refl _) ?_; intro w1 hown hgrow; have hW := Wrote.made hown hgrow; have hcell0 := hW.cell 0 (by omega); have hfree0 := hW.free 0)
  have hst := hW.store 0 m0 m1
  have hL0 : (List.replicate (n + 1) (0 : Int)).set 0 m = m :: List.replicate n 0 := by rw [List.replicate_succ, List.set_cons_zero]
  rw [hL0] at hst
  clear hW hcell0 hfree0 hown hgrow hi hz0 hz1 hz2 hL0
  generalize w1.setCell ⟨w.heap.size, 0, none⟩ (.int .u32 m) = wq at *
  have hst' : Wrote w wq.drew (n + 1) (m :: List.replicate n 0) := hst.drew
  have hat := addTimes_any ao A (m :: List.replicate n 0) w wq.drew (n + 1) 0 n ca (n + 1) f hn hA (hca.keep hst'.below) f0 f1 hst' (by omega) (by omega) (by
    intro hA0 a ha
    obtain ⟨a', ha', hlt', _⟩ := hca hA0
    rw [ha] at ha'; obtain rfl := Option.some.inj ha'; omega)
  obtain ⟨x, hx⟩ : ∃ x, (m :: List.replicate n 0).getD n 0 = x := ⟨_, rfl⟩
  have hcell := hst.cell n (by omega)
  have hfree := hst.free n
  rw [hx] at hcell
  have HAT := Bx.mk hat
  have HX := Bx.mk hx
  clear hat hx hst hst'
  go_region_with (go_at_call 71; ((with_reducible refine HAT.out.mono ?_); rintro e w5 ⟨cy, L, rfl, hrel, hW5, hbut⟩; have hmath := timesPlus_math2 hn rfl HX.out m1 m0 hrel; have hcell5 := hW5.cell n (by omega); have hfree5 := hW5.free n; rw [hmath.1] at hcell5; have HMA := Bx.mk hmath; have hs0 := hmath.2.2.1; have hs1 := hmath.2.2.2; have HST := Bx.mk (hW5.store n hmath.2.2.1 hmath.2.2.2); clear hmath hrel hbut hW5))
  all_goals
    go_wp2
    go_ret
    exact ⟨_, rfl, HMA.out.2.1, by rw [IntWalk.u32_in _ ⟨hs0, by omega⟩]; exact HST.out⟩
end Go.Proofs.YtegjhkjmejckdaaDoor

/- Same of the given package; three; what the laws call besides natural. -/
import Derived.Test.YtegjhkjmejckdaaDoorT7
import Derived.BigQuiet
namespace Go.Proofs.YtegjhkjmejckdaaDoor
open Go.RowKit M
theorem drop_eq_step {A B : List Int} {k : Nat} (h : A.take k = B.take k) (hA : k < A.length) (hB : k < B.length) (e : A.getD k 0 = B.getD k 0) : A.take (k + 1) = B.take (k + 1) := by
  rw [take_snoc A k hA, take_snoc B k hB, h, e]
theorem same_core (ao bo : Option Addr) (A B : List Int) (n ca cb : Nat) (w : World) (hn : A.length = n) (hm : B.length = n) (hn6 : n ≤ 700) (hca : CellsK .u32 w ao A) (hcb : CellsK .u32 w bo B) :
    Calls Tryd.prog 15 #[.slice ao n ca, .slice bo n cb] w fun e w' => e = .returned (.bool (decide (A = B))) ∧ Quiet w w' := by
  go_enter Tryd.func15, Tryd.ntmps15
  go_wp2
  go_loopw [5] (fun v wr => ∃ k : Nat, k ≤ n ∧ v = .int .i64 (k : Int) ∧ Hid (A.take k = B.take k) ∧ Quiet w wr) (fun v _ => (n - (intOf v).toNat))
  case atStart => exact ⟨0, Nat.zero_le _, by go_num, by show _ = _; simp, Quiet.refl w⟩
  case round =>
    obtain ⟨k, hk, rfl, HD, hq⟩ := hrel
    by_cases h0 : k = n
    · subst h0
      have e : A = B := by have := HD.out; rwa [List.take_of_length_le (by omega), List.take_of_length_le (by omega)] at this
      have HE := Bx.mk e
      clear e HD
      go_wp2
      go_ret
      exact ⟨by simp [HE.out], hq⟩
    · obtain ⟨a, rfl, _, hac⟩ := hca.keep (hq.below _) (by intro e; subst e; simp at hn; omega)
      obtain ⟨b, rfl, _, hbc⟩ := hcb.keep (hq.below _) (by intro e; subst e; simp at hm; omega)
      have hca1 := hac k (by omega)
      have hcb1 := hbc k (by omega)
      clear hac hbc
      obtain ⟨x, hx⟩ : ∃ x, x = A.getD k 0 := ⟨_, rfl⟩
      obtain ⟨y, hy⟩ : ∃ y, y = B.getD k 0 := ⟨_, rfl⟩
      rw [← hx] at hca1
      rw [← hy] at hcb1
      have HX := Bx.mk hx
      have HY := Bx.mk hy
      clear hx hy
      have hb2 : (k : Int) < (n : Int) := by omega
      by_cases hxy : x = y
      · have ht : (x != y) = false := by simp [hxy]
        have HXY := Bx.mk hxy
        clear hxy
        go_wp2_with fail
        go_quiet (fail)
        go_wp2
        refine ⟨⟨k + 1, by omega, by go_num, ?_, hq.drewN _⟩, by simp [intOf]; omega⟩
        show _ = _
        exact drop_eq_step HD.out (by omega) (by omega) (by rw [← HX.out, ← HY.out]; exact HXY.out)
      · have ht : (x != y) = true := by simp [hxy]
        have HXY := Bx.mk hxy
        clear hxy
        go_wp2_with fail
        go_quiet (fail)
        go_wp2
        go_ret
        refine ⟨?_, hq.drewN _⟩
        have hne : A ≠ B := fun e => HXY.out (by rw [HX.out, HY.out, e])
        simp [hne]
theorem same_any (ao bo : Option Addr) (A B : List Int) (n m ca cb : Nat) (w : World) (hn : A.length = n) (hm : B.length = m) (hn6 : n ≤ 700) (hm6 : m ≤ 700) (hca : CellsK .u32 w ao A) (hcb : CellsK .u32 w bo B) :
    Calls Tryd.prog 15 #[.slice ao n ca, .slice bo m cb] w fun e w' => e = .returned (.bool (decide (A = B))) ∧ Quiet w w' := by
  by_cases h : n = m
  · subst h; exact same_core ao bo A B n ca cb w hn hm hn6 hca hcb
  · have hne : A ≠ B := fun e => h (by rw [← hn, ← hm, e])
    have HNE := Bx.mk hne
    have hz : ((n : Int) == (m : Int)) = false := beq_eq_false_iff_ne.2 (by omega)
    have hz' : ((n : Int) != (m : Int)) = true := by simp; omega
    clear hne h hn hm hca hcb
    go_enter Tryd.func15, Tryd.ntmps15
    go_wp2
    go_ret
    exact ⟨by simp [HNE.out], Quiet.refl _⟩
theorem same_ok {w : World} {L : List (Value × Nat)} {va vb : Value} {a b : Nat} (hL : Live w L) (ha : (va, a) ∈ L) (hb : (vb, b) ∈ L) :
    Calls Tryd.prog 15 #[va, vb] w fun e w' => e = .returned (.bool (decide (a = b))) ∧ Live w' L ∧ Below w.heap.size w w' := by
  have na : Nm w va a := hL _ ha
  have nb : Nm w vb b := hL _ hb
  obtain ⟨ao, ca, e1, hca⟩ := na.shape
  obtain ⟨bo, cb, e2, hcb⟩ := nb.shape
  subst e1 e2
  refine (same_any ao bo _ _ _ _ ca cb w rfl rfl (by have := limbs_length_le.2 na.fits.lt; omega) (by have := limbs_length_le.2 nb.fits.lt; omega) hca hcb).mono fun _ _ h => ⟨?_, hL.keep (h.2.below _), h.2.below _⟩
  rw [h.1]
  congr 2
  exact decide_eq_decide.2 ⟨limbs_inj, fun e => by rw [e]⟩
theorem three_ok {w : World} {L : List (Value × Nat)} {va vb vc : Value} {a b c : Nat} (hL : Live w L) (ha : (va, a) ∈ L) (hb : (vb, b) ∈ L) (hc : (vc, c) ∈ L) :
    Calls Tryd.prog 34 #[va, vb, vc] w fun e w' => e = .returned (.bool true) ∧ w = w' := by
  have h1 := Bx.mk (valid_ok hL ha)
  have h2 := Bx.mk (valid_ok hL hb)
  have h3 := Bx.mk (valid_ok hL hc)
  clear hL ha hb hc
  go_enter Tryd.func34, Tryd.ntmps34
  go_wp2_with fail
  refine h1.out.mono ?_
  rintro e w1 ⟨rfl, rfl⟩
  go_wp2_with fail
  refine h2.out.mono ?_
  rintro e w1 ⟨rfl, rfl⟩
  go_wp2_with fail
  refine h3.out.mono ?_
  rintro e w1 ⟨rfl, rfl⟩
  go_wp2
  go_ret
  exact ⟨rfl, rfl⟩
end Go.Proofs.YtegjhkjmejckdaaDoor

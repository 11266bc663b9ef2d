/- natural.difference. -/
import Derived.Test.YtegjhkjmejckdaaDoorN4
namespace Go.Proofs.YtegjhkjmejckdaaDoor
open Go.RowKit M
theorem Wrote.drew {w wr : World} {M : Nat} {L : List Int} (h : Wrote w wr M L) : Wrote w wr.drew M L := ⟨h.ok, h.own.drew, h.below.drew⟩
/-- The difference after k rounds. -/
def SubRel (w : World) (A B : List Int) (n k : Nat) (cy : Int) (wr : World) : Prop :=
  0 ≤ cy ∧ cy ≤ 1 ∧ ∃ C : List Int, C.length = k ∧ val C = val (A.take k) - val (B.take k) + pw k * cy ∧ Wrote w wr n (C ++ List.replicate (n - k) 0)
theorem SubRel.drew {w wr : World} {A B : List Int} {n k : Nat} {cy : Int} (h : SubRel w A B n k cy wr) : SubRel w A B n k cy wr.drew :=
  let ⟨h0, h1, C, hC, hv, hw⟩ := h; ⟨h0, h1, C, hC, hv, hw.drew⟩
theorem subRel_step {w wr : World} {A B : List Int} {n k : Nat} {cy : Int} (hA : Ok A) (hB : Ok B) (h : SubRel w A B n k cy wr) (hk : k < n) :
    SubRel w A B n (k + 1) (-((A.getD k 0 - B.getD k 0 - cy) / 4294967296)) (wr.setCell ⟨w.heap.size, k, none⟩ (.int .u32 ((A.getD k 0 - B.getD k 0 - cy) % 4294967296))) := by
  obtain ⟨h0, h1, C, hC, hv, hw⟩ := h
  have ha := hA.getD k
  have hb := hB.getD k
  refine ⟨by omega, by omega, C ++ [(A.getD k 0 - B.getD k 0 - cy) % 4294967296], by simp [hC], ?_, ?_⟩
  · rw [val_snoc, hC, pw_succ, val_take_succ', val_take_succ', sub_step _ _ _ _ _ _ hv]; omega
  · have := hw.store k (x := (A.getD k 0 - B.getD k 0 - cy) % 4294967296) (by omega) (by omega)
    rw [show n - k = (n - (k + 1)) + 1 from by omega, set_mid C k hC] at this
    exact this
theorem RetNat.after {w w1 : World} {s : Nat} {e : Ending} {w' : World} (hb : Below w.heap.size w w1) (h : RetNat w1 s e w') : RetNat w s e w' :=
  let ⟨v, he, hr, hb'⟩ := h; ⟨v, he, hr, hb.trans (hb'.mono hb.size)⟩
theorem Raised.after {w w1 : World} {n : Int} {e : Ending} {w' : World} (hb : Below w.heap.size w w1) (h : Raised w1 n e w') : Raised w n e w' :=
  ⟨h.1, hb.trans (h.2.mono hb.size)⟩
theorem difference_lt (ao bo : Option Addr) (A B : List Int) (n m ca cb : Nat) (w : World) (hn : A.length = n) (hm : B.length = m) (hn6 : n ≤ 700) (hm6 : m ≤ 700)
    (hA : Ok A) (hB : Ok B) (lA : A.getLast? ≠ some 0) (lB : B.getLast? ≠ some 0) (hca : CellsK .u32 w ao A) (hcb : CellsK .u32 w bo B) (hlt : val A < val B) :
    Calls Tryd.prog 45 #[.slice ao n ca, .slice bo m cb] w (Raised w 3) := by
  have hcmp := compare_any ao bo A B n m ca cb w hn hm hn6 hm6 hA hB lA lB hca hcb
  rw [cmpI_lt hlt] at hcmp
  clear hlt
  go_enter Tryd.func45, Tryd.ntmps45
  go_wp2_with fail
  refine hcmp.mono ?_
  rintro e w1 ⟨rfl, hq⟩
  go_wp2
  exact ⟨rfl, rfl, hq.below _⟩
set_option maxHeartbeats 1600000 in
theorem difference_ge (ao bo : Option Addr) (A B : List Int) (n m ca cb : Nat) (w : World) (hn : A.length = n) (hm : B.length = m) (hn6 : n ≤ 700) (hm6 : m ≤ 700)
    (hA : Ok A) (hB : Ok B) (lA : A.getLast? ≠ some 0) (lB : B.getLast? ≠ some 0) (hca : CellsK .u32 w ao A) (hcb : CellsK .u32 w bo B) (hge : val B ≤ val A) :
    Calls Tryd.prog 45 #[.slice ao n ca, .slice bo m cb] w (RetNat w (val A - val B).toNat) := by
  have hmn : m ≤ n := by
    by_cases h : m ≤ n
    · exact h
    · have := val_lt_of_len hA hB lB (by omega); omega
  have hcmp := compare_any ao bo A B n m ca cb w hn hm hn6 hm6 hA hB lA lB hca hcb
  obtain ⟨s, hs⟩ : ∃ s, s = cmpI (val A) (val B) := ⟨_, rfl⟩
  rw [← hs] at hcmp
  have hs0 : decide (s < 0) = false := by rw [hs, decide_eq_false_iff_not]; unfold cmpI; split <;> (try split) <;> omega
  clear hs
  obtain ⟨i0, hi, hz0, hz1, hz2⟩ := info_parts Tryd.info42
  go_enter Tryd.func45, Tryd.ntmps45
  go_wp2_with fail
  refine hcmp.mono ?_
  rintro e w0 ⟨rfl, hq⟩
  have HB := Lib.hid (hq.below w.heap.size)
  have hca := hca.keep HB.out
  have hcb := hcb.keep HB.out
  have HP : ∀ e w', RetNat w0 (val A - val B).toNat e w' → RetNat w (val A - val B).toNat e w' := fun e w' h => h.after HB.out
  have HP := Lib.hid HP
  clear hcmp hq HB
  go_wp2_with (at_make; refine wpList_make_full _ rfl _ _ 22 rfl w0.heap.size 42 i0 (.int .u32 0) 1 Tryd.underlying22 hi hz0 hz1 .i64 .i64 _ _ n rfl rfl rfl rfl (by rw [hz2]; omega) (by unfold maxLen; omega) (Nat.le_refl _) ?_; intro w1 hown hgrow)
  have hW := Wrote.made hown hgrow
  clear hown hgrow hi hz0 hz1 hz2
  go_loopw [6, 18] (fun c i wr => ∃ (k : Nat) (cy : Int), k ≤ n ∧ i = .int .i64 k ∧ c = .int .u32 cy ∧ SubRel w0 A B n k cy wr) (fun _ i _ => n - (intOf i).toNat)
  case atStart => exact ⟨0, 0, Nat.zero_le _, rfl, rfl, Int.le_refl _, by omega, [], rfl, by simp [val], by simpa using hW⟩
  case round =>
    obtain ⟨k, cy, hk, rfl, rfl, hrel⟩ := hrel
    by_cases hlt : k < n
    · have h0 := hrel.1
      have h1 := hrel.2.1
      obtain ⟨C, hC, hv, hw⟩ := hrel.2.2
      have hbw := hw.below
      have hcell := hw.cell k (by omega)
      have hfree := hw.free k
      have hstep := subRel_step hA hB hrel hlt
      have ha := hA.getD k
      have hb := hB.getD k
      obtain ⟨a, rfl, _, hac⟩ := hca.keep hbw (by intro e; subst e; simp at hn; omega)
      have hcA := hac k (by omega)
      have hlB := fun d => limb_any bo B m cb k (wr.drewN d) hm (hcb.keep (below_drewN hbw d))
      have hlB' := limb_any bo B m cb k wr.drew hm (hcb.keep hbw.drew)
      obtain ⟨x, hx⟩ : ∃ x, x = A.getD k 0 := ⟨_, rfl⟩
      obtain ⟨y, hy⟩ : ∃ y, y = B.getD k 0 := ⟨_, rfl⟩
      rw [← hx] at ha hcA hstep
      rw [← hy] at hb hlB hlB' hstep
      clear hx hy hC hv hw hW hrel hbw hac
      have hadd := sub32 x y cy wr.drew ha.1 ha.2 hb.1 hb.2 h0 h1
      have hz0 : 0 ≤ -((x - y - cy) / 4294967296) := by omega
      have hz1 : -((x - y - cy) / 4294967296) ≤ 1 := by omega
      have hu0 : 0 ≤ (x - y - cy) % 4294967296 := by omega
      have hu1 : (x - y - cy) % 4294967296 < 4294967296 := by omega
      generalize -((x - y - cy) / 4294967296) = z at *
      generalize (x - y - cy) % 4294967296 = u at *
      have HS := Lib.hid hstep
      clear hstep
      go_wp2_with fail
      go_region_with (first | (go_at_call 67; refine hlB'.mono ?_; rintro e w2 ⟨rfl, rfl⟩) | (go_at_call 70; refine hadd.mono ?_; rintro e w2 ⟨rfl, rfl⟩))
      all_goals
        go_wp2
        go_roundw
        case rel => exact ⟨k + 1, _, by omega, by go_num, rfl, HS.out.drew⟩
        case measure => simp [intOf]; omega
    · have hkn : k = n := by omega
      subst hkn
      obtain ⟨C, hC, hv, hw⟩ := hrel.2.2
      have h0 := hrel.1
      have h1 := hrel.2.1
      simp only [Nat.sub_self, List.replicate_zero, List.append_nil] at hw
      have hvn := val_nonneg hw.ok
      have hvl := val_lt hw.ok
      rw [hC] at hvl
      rw [List.take_of_length_le (by omega), List.take_of_length_le (by omega)] at hv
      have hcy : cy = 0 := by
        by_cases e : cy = 0
        · exact e
        · have : cy = 1 := by omega
          rw [this] at hv; omega
      rw [hcy, Int.mul_zero, Int.add_zero] at hv
      have htrim := trim_any _ C k k wr hC (Nat.le_refl _) (by unfold maxLen; omega) hw.ok hw.cells
      have HV := Lib.hid hv
      clear hv hrel hcy hvl hvn
      go_wp2_with fail
      refine htrim.mono ?_
      rintro e w2 ⟨rfl, rfl⟩
      go_wp2
      go_ret
      exact HP.out _ _ ⟨_, rfl, Rd.trimmed hw.cells hw.ok (cap := k) (by omega) (by unfold maxLen; omega) (by rw [HV.out]; omega), hw.below⟩
end Go.Proofs.YtegjhkjmejckdaaDoor

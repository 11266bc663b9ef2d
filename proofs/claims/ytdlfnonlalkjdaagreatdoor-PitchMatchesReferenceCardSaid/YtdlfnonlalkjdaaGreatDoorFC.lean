/- the reference's Product. -/
import Derived.Test.YtdlfnonlalkjdaaGreatDoorFB
namespace Go.Proofs.YtdlfnonlalkjdaaGreatDoor
open Go.RowKit M
theorem Wrote.drewN {w wr : World} {M : Nat} {L : List Int} (h : Wrote w wr M L) (n : Nat) : Wrote w (wr.drewN n) M L := ⟨h.ok, h.own, below_drewN h.below n⟩
set_option maxHeartbeats 1600000 in
/-- The reference's Product: the product of the values, of any length. -/
theorem refProduct_any (ao bo : Option Addr) (A B : List Int) (n m ca cb : Nat) (w : World) (hn : A.length = n) (hm : B.length = m) (hn6 : n ≤ 50000) (hm6 : m ≤ 50000)
    (hA : Ok A) (hB : Ok B) (hca : CellsK .u32 w ao A) (hcb : CellsK .u32 w bo B) :
    Calls Tryz.prog 69 #[.slice ao n ca, .slice bo m cb] w (RetNat w (val A * val B).toNat) := by
  obtain ⟨i0, hi, hz0, hz1, hz2⟩ := info_parts Tryz.info47
  go_enter Tryz.func69, Tryz.ntmps69
  go_wp2_with (at_make; refine wpList_make_full _ rfl _ _ 39 rfl w.heap.size 47 i0 (.int .u32 0) 1 Tryz.underlying39 hi hz0 hz1 .i64 .i64 _ _ (n + m) rfl rfl (by push_cast; rfl) (by push_cast; rfl) (by rw [hz2]; omega) (by unfold maxLen; omega) (Nat.le_refl _) ?_; intro w1 hown hgrow)
  have hW := Wrote.made hown hgrow
  clear hown hgrow hi hz0 hz1 hz2
  go_loopw [6] (fun v wr => ∃ i : Nat, i ≤ n ∧ v = .int .i64 i ∧ MulRel w A B i wr) (fun v _ => n - (intOf v).toNat)
  case atStart => exact ⟨0, Nat.zero_le _, rfl, List.replicate m 0, by simp [hm], by simp [val, val_replicate], by rw [hn, hm, Nat.sub_zero, List.replicate_append_replicate, Nat.add_comm m n]; exact hW⟩
  case round =>
    obtain ⟨i, hi, rfl, hrel⟩ := hrel
    obtain ⟨D, hD, hv, hw⟩ := hrel
    rw [hm] at hD
    rw [hn, hm] at hw
    by_cases hlt : i < n
    · have hx := hA.getD i
      have HX := fun wr (hb : Below w.heap.size w wr) => (hca.keep hb) (by intro e; subst e; simp at hn; omega)
      obtain ⟨x, hxx⟩ : ∃ x, x = A.getD i 0 := ⟨_, rfl⟩
      rw [← hxx] at hx
      have HXX := Lib.hid hxx
      have HV := Lib.hid hv
      have HD := Lib.hid hD
      clear hxx hv hW hD
      go_wp2_with fail
      go_loopw [7, 8] (fun c j wr => ∃ (k : Nat) (cy : Int) (L : List Int), k ≤ m ∧ j = .int .i64 k ∧ c = .int .u64 cy ∧ AtRel (D ++ List.replicate (n - i) 0) i B x k cy L ∧ Wrote w wr (n + m) L) (fun _ j _ => m - (intOf j).toNat)
      case atStart => exact ⟨0, 0, _, Nat.zero_le _, rfl, rfl, ⟨Int.le_refl _, by omega, [], rfl, by simp, by simp [val]⟩, hw⟩
      case round =>
        obtain ⟨k, cy, L, hk, rfl, rfl, hrel, hw2⟩ := hrel
        have h0 := hrel.1
        have h1 := hrel.2.1
        have hL2 := hw2.len
        by_cases hkm : k < m
        · obtain ⟨a, rfl, _, hac⟩ := HX _ hw2.below
          obtain ⟨b, rfl, _, hbc⟩ := (hcb.keep hw2.below) (by intro e; subst e; simp at hm; omega)
          have hcA := hac i (by omega)
          rw [← HXX.out] at hcA
          have hcB := hbc k (by omega)
          have hcell := hw2.cell (i + k) (by omega)
          have hfree := hw2.free (i + k)
          have hst := atRel_step hw.ok hB hx.1 hx.2 hrel (by omega) (by rw [hw.len]; omega)
          have hl := hw2.ok.getD (i + k)
          have ha := hB.getD k
          have hm2 := mul_small x (B.getD k 0) hx.1 ha.1 hx.2 ha.2
          generalize B.getD k 0 = y at *
          generalize L.getD (i + k) 0 = l at *
          have hq0 : 0 ≤ x * y + l + cy := by omega
          have hq1 : x * y + l + cy < 18446744073709551616 := by omega
          have hst2 := hst.2
          have ecm : cy + (l + x * y) = x * y + l + cy := by omega
          rw [ecm] at hst2
          have hws := fun q => (hw2.drewN q).store (i + k) (x := (x * y + l + cy) % 4294967296) (by omega) (by omega)
          have hlow := u64_low_int (x * y + l + cy) hq0 (by omega)
          have HST := Lib.hid hst2
          have HWS := Lib.hid hws
          clear hst hst2 hws hrel hw2 hac hbc hL2 HX ecm
          go_wp2_with fail
          go_quiet (fail)
          go_wp2
          go_roundw
          case rel => exact ⟨k + 1, _, _, by omega, by go_num, rfl, HST.out, HWS.out _⟩
          case measure => simp [intOf]; omega
        · have hkn : k = m := by omega
          subst hkn
          have hcell := hw2.cell (i + k) (by omega)
          have hfree := hw2.free (i + k)
          have hst := hw2.store (i + k) h0 h1
          have hnext : MulRel w A B (i + 1) (wr.setCell ⟨w.heap.size, i + k, none⟩ (.int .u32 cy)) := by
            have h4 : AtRel (D ++ List.replicate (A.length - i) 0) i B (A.getD i 0) B.length cy L := by rw [hn, hm, ← HXX.out]; exact hrel
            obtain ⟨D', hD', hv', hL'⟩ := mul_lists (by omega) (by rw [hm]; exact HD.out) HV.out h4
            refine ⟨D', hD', hv', ?_⟩
            rw [hm] at hL'
            rw [← hL', hn, hm]; exact hst
          have HN := Lib.hid hnext
          clear hrel hw2 hst hnext HX
          go_wp2
          go_roundw
          case rel => exact ⟨i + 1, by omega, by go_num, HN.out⟩
          case measure => simp [intOf]; omega
    · have hin : i = n := by omega
      subst hin
      rw [Nat.sub_self, List.replicate_zero, List.append_nil] at hw
      rw [List.take_of_length_le (by omega)] at hv
      have HV := Lib.hid hv
      have hnn := val_nonneg hw.ok
      have htr := refTrim_any _ D (i + m) (i + m) wr hD (Nat.le_refl _) (by unfold maxLen; omega) hw.ok hw.cells
      clear hv hW
      go_wp2_with fail
      refine htr.mono ?_
      rintro e w2 ⟨rfl, rfl⟩
      go_wp2
      go_ret
      refine ⟨_, rfl, ?_, hw.below⟩
      exact Rd.trimmedC hw.cells hw.ok (cap := i + m) (by omega) (by unfold maxLen; omega) (by rw [← HV.out]; omega)
end Go.Proofs.YtdlfnonlalkjdaaGreatDoor

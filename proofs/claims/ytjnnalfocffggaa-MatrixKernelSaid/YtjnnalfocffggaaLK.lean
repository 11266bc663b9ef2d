/- MatrixKernel: the law's walk. -/
import Derived.Test.YtjnnalfocffggaaHC
import Derived.Test.YtjnnalfocffggaaLM
import Derived.Test.YtjnnalfocffggaaR10
namespace Go.Proofs.Ytjnnalfocffggaa
open Go.RowKit D
theorem x_six {w w' : World} {b : Nat} {x : Nat → Int} (h : ∀ j, j < 6 → w.cell? ⟨b, j, none⟩ = some (.int .i64 (x j))) (hB : Below w.heap.size w w') (hb : b < w.heap.size) :
    w'.cell? ⟨b, 0, none⟩ = some (.int .i64 (x 0)) ∧ w'.cell? ⟨b, 1, none⟩ = some (.int .i64 (x 1)) ∧ w'.cell? ⟨b, 2, none⟩ = some (.int .i64 (x 2)) ∧ w'.cell? ⟨b, 3, none⟩ = some (.int .i64 (x 3)) ∧ w'.cell? ⟨b, 4, none⟩ = some (.int .i64 (x 4)) ∧ w'.cell? ⟨b, 5, none⟩ = some (.int .i64 (x 5)) := by
  have k : ∀ j, j < 6 → w'.cell? ⟨b, j, none⟩ = some (.int .i64 (x j)) := fun j hj => (hB.cell (p := ⟨b, j, none⟩) hb).trans (h j hj)
  exact ⟨k 0 (by omega), k 1 (by omega), k 2 (by omega), k 3 (by omega), k 4 (by omega), k 5 (by omega)⟩
set_option maxRecDepth 100000 in
set_option maxHeartbeats 16000000 in
theorem kernel_law (ao : Option Addr) (n c1 : Nat) (M : Nat → Nat → Int) (x : Nat → Int) (w : World) (hc1 : n ≤ c1) (hc2 : c1 ≤ maxLen) (hR : CV w ao n M) :
    Calls Try.prog 7 #[.slice ao n c1, PV x] w fun e w' => e = .returned (.bool true) ∧ Below w.heap.size w w' := by
  by_cases hv : VM M n
  · have HR := Bx.mk hR
    have HV := Bx.mk hv
    have hn8 : n ≤ 8 := hv.1
    clear hR hv
    obtain ⟨bx, hbx⟩ : ∃ b : Bool, b = true ↔ ∀ j, j < 6 → -1000 ≤ x j ∧ x j ≤ 1000 := by
      by_cases h : ∀ j, j < 6 → -1000 ≤ x j ∧ x j ≤ 1000
      · exact ⟨true, ⟨fun _ => h, fun _ => rfl⟩⟩
      · exact ⟨false, ⟨fun e => (by cases e), fun e => absurd e h⟩⟩
    have HBX := Bx.mk hbx
    have hmx : Try.prog.follows .mixedOrders = true := by kernel_rfl
    have HC := Bx.mk (box_cell w x 37)
    clear hbx
    go_enter Try.func7, Try.ntmps7
    go_wp2_with (first
      | (go_at_call 17; refine (head_any _).mono ?_; rintro e w1 ⟨rfl, B1w⟩
         have B1 := below_new B1w
         have HX1 : Bx (∀ j, j < 6 → w1.cell? ⟨w.heap.size, j, none⟩ = some (.int .i64 (x j))) := ⟨fun j hj => (B1w.cell (p := ⟨w.heap.size, j, none⟩) (by simp)).trans (HC.out j hj)⟩
         have hs1 : w.heap.size < w1.heap.size := Nat.lt_of_lt_of_le (by simp) B1w.size
         clear B1w)
      | (go_at_call 23; refine ((kernel_pub ao n c1 M _ hc1 hc2 (HR.out.keep B1)).mono (R' := fun e w' => ∃ (ho : Option Addr) (hc u : Nat) (O : Nat → Nat → Int) (p : Nat → Nat), e = .returned (.tuple #[.slice ho u hc, .int .i64 0]) ∧ u ≤ 6 ∧ u ≤ hc ∧ hc ≤ maxLen ∧ Bx (CV w' ho u O) ∧ Bx (Hf O u 6 p) ∧ Bx ((∀ i k, i < u → k < n → dot 6 (M k) (O i) = 0) ∧ ∀ y, (∀ k, k < n → dot 6 (M k) y = 0) → Sp O u 6 y) ∧ Bx (Below w1.heap.size w1 w')) fun e w' ⟨h, hb⟩ => by
           rcases h with ⟨h, _⟩ | ⟨_, ho, hc, u, O, p, he, hcv, h1, h2, h6, hO, k1, k2⟩
           · exact absurd HV.out h
           · exact ⟨ho, hc, u, O, p, he, h6, h1, h2, ⟨hcv⟩, ⟨hO⟩, ⟨k1, k2⟩, ⟨hb⟩⟩).mono ?_; rintro e w2 ⟨k0, kc, u, K, pk, rfl, hu6, huc, hcmk, HK, HKO, HKS, B2⟩)
      | (go_at_call 30; refine (normal_any k0 u kc K pk _ hu6 huc HK.out HKO.out (ker_entry HV.out HKO.out HKS.out.1 HKS.out.2)).mono ?_; rintro e w3 ⟨rfl, B3⟩)
      | (go_at_call 33; refine ((divisor_any k0 u kc u K _ (by omega) (by omega) huc (HK.out.keep B3)).mono (R' := fun e w' => e = .returned (.int .u64 1) ∧ Below w3.heap.size w3 w') fun e w' ⟨h, hb⟩ => ⟨by rw [h, ker_divW HV.out HKO.out HKS.out.1 HKS.out.2]; rfl, hb⟩).mono ?_; rintro e w4 ⟨rfl, B4⟩
         have HX4 : Bx (∀ j, j < 6 → w4.cell? ⟨w.heap.size, j, none⟩ = some (.int .i64 (x j))) := ⟨fun j hj => ((B4.cell (p := ⟨w.heap.size, j, none⟩) (Nat.lt_of_lt_of_le (Nat.lt_of_lt_of_le hs1 B2.out.size) B3.size)).trans ((B3.cell (p := ⟨w.heap.size, j, none⟩) (Nat.lt_of_lt_of_le hs1 B2.out.size)).trans (B2.out.cell (p := ⟨w.heap.size, j, none⟩) hs1))).trans (HX1.out j hj)⟩
         have hs4 : w.heap.size < w4.heap.size := Nat.lt_of_lt_of_le (Nat.lt_of_lt_of_le (Nat.lt_of_lt_of_le hs1 B2.out.size) B3.size) B4.size
         obtain ⟨y0, y1, y2, y3, y4, y5⟩ := x_six HX4.out (Below.refl _ w4) hs4)
      | (go_at_call 31; refine (small_any x _ bx HBX.out).mono ?_; rintro e w5 ⟨rfl, B5⟩))
    have HB : Bx (Below w.heap.size w w5) := ⟨(((B1.trans (B2.out.mono B1.size)).trans (B3.mono (Nat.le_trans B1.size B2.out.size))).trans (B4.mono (Nat.le_trans (Nat.le_trans B1.size B2.out.size) B3.size))).trans (B5.mono (Nat.le_trans (Nat.le_trans (Nat.le_trans B1.size B2.out.size) B3.size) B4.size))⟩
    have HK5 := Bx.mk (((HK.out.keep B3).keep B4).keep B5)
    have HX5 : Bx (∀ j, j < 6 → w5.cell? ⟨w.heap.size, j, none⟩ = some (.int .i64 (x j))) := ⟨fun j hj => (B5.cell (p := ⟨w.heap.size, j, none⟩) hs4).trans (HX4.out j hj)⟩
    have hs5 : w.heap.size < w5.heap.size := Nat.lt_of_lt_of_le hs4 B5.size
    clear B1 B2 B3 B4 B5 HK HX1 HX4 y0 y1 y2 y3 y4 y5 hs1 hs4
    go_loopw [5, 8, 9] (fun up is ix wr => ∃ (i : Nat) (b : Bool), i ≤ n ∧ ix = .int .i64 i ∧ up = .bool true ∧ is = .bool b ∧ Bx (b = true → (∀ j, j < 6 → -1000 ≤ x j ∧ x j ≤ 1000) ∧ ∀ t, t < i → dot 6 (M t) x = 0) ∧ Bx (Below w5.heap.size w5 wr)) (fun _ _ ix _ => n - (intOf ix).toNat)
    case atStart => exact ⟨0, bx, by omega, rfl, rfl, rfl, ⟨fun e => ⟨HBX.out.1 e, fun t ht => by omega⟩⟩, ⟨Below.refl _ _⟩⟩
    case round =>
      obtain ⟨i, b, hi, rfl, rfl, rfl, HI, HBr⟩ := hrel
      by_cases hlt : i < n
      · obtain ⟨br, o, rfl, hb, hcr⟩ := HR.out (by omega)
        have HCR := Bx.mk hcr
        clear hcr
        go_wp2_with fail
        go_loopw [5, 10] (fun up nx wr => ∃ m : Nat, m ≤ u ∧ nx = .int .i64 m ∧ up = .bool true ∧ Bx (Below w5.heap.size w5 wr)) (fun _ nx _ => u - (intOf nx).toNat)
        case atStart => exact ⟨0, by omega, rfl, rfl, HBr⟩
        case round =>
          obtain ⟨m, hm, rfl, rfl, HBq⟩ := hrel
          have HBw : Bx (Below w.heap.size w wr) := ⟨HB.out.trans (HBq.out.mono HB.out.size)⟩
          obtain ⟨a0, a1, a2, a3, a4, a5⟩ := row_six HCR.out hb HBw.out hlt
          by_cases hmu : m < u
          · obtain ⟨bk, ok, rfl, hbk, hck⟩ := HK5.out (by omega)
            obtain ⟨e0, e1, e2, e3, e4, e5⟩ := row_six hck hbk HBq.out hmu
            have PP := fun w => product_any (M i) (K m) w
            rw [HKS.out.1 m i hmu hlt, show wrap64 0 = 0 by simp [wrap64]] at PP
            have HPP := Bx.mk PP
            unfold PV at HPP
            clear hck PP
            go_wp2_with fail
            go_still_tail 10, hmx
            go_wp2_with (go_at_call 35; refine (HPP.out _).mono ?_; rintro e w6 ⟨rfl, hb6⟩)
            exact ⟨⟨m + 1, by omega, by go_num, rfl, ⟨(below_drew HBq.out).trans (hb6.mono HBq.out.size)⟩⟩, by simp [intOf]; omega⟩
          · obtain rfl : m = u := by omega
            cases b with
            | false =>
              go_wp2_with fail
              go_region
              all_goals go_wp2_with fail
              all_goals exact ⟨⟨i + 1, false, by omega, by go_num, rfl, rfl, ⟨fun e => by cases e⟩, ⟨below_drew HBq.out⟩⟩, by simp [intOf]; omega⟩
            | true =>
              by_cases hs : ∀ j, j < 6 → -1000 ≤ M i j ∧ M i j ≤ 1000
              · have PS := Bx.mk (fun w => small_any (M i) w true (by simpa using hs))
                have PP := fun w => product_any (M i) x w
                rw [small_dot hs (HI.out rfl).1] at PP
                by_cases hz : dot 6 (M i) x = 0
                · rw [hz] at PP
                  have HPP := Bx.mk PP
                  have HZ := Bx.mk hz
                  unfold PV at PS
                  clear hs PP hz
                  go_wp2_with fail
                  go_region_with (first
                    | (go_at_call 31; refine (PS.out _).mono ?_; rintro e w6 ⟨rfl, hb6⟩
                       have HB6 : Bx (Below w5.heap.size w5 w6) := ⟨(below_drew HBq.out).trans (hb6.mono HBq.out.size)⟩
                       obtain ⟨e0, e1, e2, e3, e4, e5⟩ := row_six HCR.out hb (HB.out.trans (HB6.out.mono HB.out.size)) hlt
                       obtain ⟨y0, y1, y2, y3, y4, y5⟩ := x_six HX5.out HB6.out hs5
                       clear hb6 a0 a1 a2 a3 a4 a5)
                    | (go_at_call 35; refine (HPP.out _).mono ?_; rintro e w7 ⟨rfl, hb7⟩
                       have HB7 : Bx (Below w5.heap.size w5 w7) := ⟨HB6.out.trans (hb7.mono HB6.out.size)⟩
                       clear hb7 e0 e1 e2 e3 e4 e5))
                  all_goals go_wp2_with fail
                  all_goals exact ⟨⟨i + 1, true, by omega, by go_num, rfl, rfl, ⟨fun e => ⟨(HI.out (by trivial)).1, fun t ht => by
                    by_cases y : t = i
                    · rw [y]; exact HZ.out
                    · exact (HI.out (by trivial)).2 t (by omega)⟩⟩, HB7⟩, by simp [intOf]; omega⟩
                · have HPP := Bx.mk PP
                  obtain ⟨D, hD⟩ : ∃ D, dot 6 (M i) x = D := ⟨_, rfl⟩
                  rw [hD] at HPP hz
                  have hdz : (D == 0) = false := by simpa using hz
                  unfold PV at PS
                  clear hs PP hD
                  go_wp2_with fail
                  go_region_with (first
                    | (go_at_call 31; refine (PS.out _).mono ?_; rintro e w6 ⟨rfl, hb6⟩
                       have HB6 : Bx (Below w5.heap.size w5 w6) := ⟨(below_drew HBq.out).trans (hb6.mono HBq.out.size)⟩
                       obtain ⟨e0, e1, e2, e3, e4, e5⟩ := row_six HCR.out hb (HB.out.trans (HB6.out.mono HB.out.size)) hlt
                       obtain ⟨y0, y1, y2, y3, y4, y5⟩ := x_six HX5.out HB6.out hs5
                       clear hb6 a0 a1 a2 a3 a4 a5)
                    | (go_at_call 35; refine (HPP.out _).mono ?_; rintro e w7 ⟨rfl, hb7⟩
                       have HB7 : Bx (Below w5.heap.size w5 w7) := ⟨HB6.out.trans (hb7.mono HB6.out.size)⟩
                       clear hb7 e0 e1 e2 e3 e4 e5))
                  all_goals go_wp2_with fail
                  all_goals exact ⟨⟨i + 1, false, by omega, by go_num, rfl, rfl, ⟨fun e => by cases e⟩, HB7⟩, by simp [intOf]; omega⟩
              · have PS := Bx.mk (fun w => small_any (M i) w false ⟨fun e => (by cases e), fun e => absurd e hs⟩)
                unfold PV at PS
                clear hs
                go_wp2_with fail
                try go_region_with (first
                  | (go_at_call 31; refine (PS.out _).mono ?_; rintro e w6 ⟨rfl, hb6⟩
                     have HB6 : Bx (Below w5.heap.size w5 w6) := ⟨(below_drew HBq.out).trans (hb6.mono HBq.out.size)⟩
                     clear hb6 a0 a1 a2 a3 a4 a5))
                all_goals go_wp2_with fail
                all_goals exact ⟨⟨i + 1, false, by omega, by go_num, rfl, rfl, ⟨fun e => by cases e⟩, HB6⟩, by simp [intOf]; omega⟩
      · obtain rfl : i = n := by omega
        cases b with
        | false =>
          go_wp2_with fail
          go_ret
          exact ⟨rfl, HB.out.trans (HBr.out.mono HB.out.size)⟩
        | true =>
          have PC := Bx.mk (fun w' (hw : Below w5.heap.size w5 w') => comb_any k0 u kc K pk x w' hu6 huc (HK5.out.keep hw) (Tk.of HKO.out hu6 (ker_entry HV.out HKO.out HKS.out.1 HKS.out.2) (fun j hj => by have := (HI.out rfl).1 j hj; omega) (HKS.out.2 x (HI.out rfl).2)))
          obtain ⟨y0, y1, y2, y3, y4, y5⟩ := x_six HX5.out HBr.out hs5
          unfold PV at PC
          go_wp2_with (go_at_call 32; refine (PC.out _ HBr.out).mono ?_; rintro e w6 ⟨rfl, hb6⟩)
          go_ret
          have HB6 : Below w5.heap.size w5 w6 := HBr.out.trans (hb6.mono HBr.out.size)
          exact ⟨rfl, HB.out.trans (HB6.mono HB.out.size)⟩
  · have HR := Bx.mk hR
    have HV := Bx.mk hv
    clear hR hv
    go_enter Try.func7, Try.ntmps7
    go_wp2_with (first
      | (go_at_call 17; refine (head_any _).mono ?_; rintro e w1 ⟨rfl, B1w⟩; have B1 := below_new B1w; clear B1w)
      | (go_at_call 23; refine ((kernel_pub ao n c1 M _ hc1 hc2 (HR.out.keep B1)).mono (R' := fun e w' => e = .returned (.tuple #[.slice none 0 0, .int .i64 1]) ∧ Below w1.heap.size w1 w') fun e w' ⟨h, hb⟩ => by
           rcases h with ⟨_, h⟩ | ⟨h, _⟩
           · exact ⟨h, hb⟩
           · exact absurd h HV.out).mono ?_; rintro e w2 ⟨rfl, B2⟩))
    go_ret
    exact ⟨rfl, (B1).trans (B2.mono (B1.size))⟩
end Go.Proofs.Ytjnnalfocffggaa

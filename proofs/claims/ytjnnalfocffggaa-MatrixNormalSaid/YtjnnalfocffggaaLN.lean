/- MatrixNormal: the law's walk. -/
import Derived.Test.YtjnnalfocffggaaHC
import Derived.Test.YtjnnalfocffggaaLM
import Derived.Test.YtjnnalfocffggaaR10
namespace Go.Proofs.Ytjnnalfocffggaa
open Go.RowKit D
set_option maxRecDepth 100000 in
set_option maxHeartbeats 16000000 in
theorem normal_law (ao : Option Addr) (n c1 : Nat) (M : Nat → Nat → Int) (w : World) (hc1 : n ≤ c1) (hc2 : c1 ≤ maxLen) (hR : CV w ao n M) :
    Calls Try.prog 4 #[.slice ao n c1] w fun e w' => e = .returned (.bool true) ∧ Below w.heap.size w w' := by
  by_cases hv : VM M n
  · have HR := Bx.mk hR
    have HV := Bx.mk hv
    have hn8 : n ≤ 8 := hv.1
    clear hR hv
    go_enter Try.func4, Try.ntmps4
    go_wp2_with (first
      | (go_at_call 17; refine (head_any _).mono ?_; rintro e w1 ⟨rfl, B1⟩)
      | (go_at_call 20; refine ((hermite_pub ao n c1 M _ hc1 hc2 (HR.out.keep B1)).mono (R' := fun e w' => ∃ (ho : Option Addr) (hc q : Nat) (O : Nat → Nat → Int) (p : Nat → Nat), e = .returned (.tuple #[.slice ho q hc, .int .i64 0]) ∧ q ≤ 6 ∧ q ≤ hc ∧ hc ≤ maxLen ∧ Bx (CV w' ho q O) ∧ Bx (Hf O q 6 p) ∧ Bx ((∀ t, t < n → Sp O q 6 (M t)) ∧ ∀ i, i < q → Sp M n 6 (O i)) ∧ Bx (Below w1.heap.size w1 w')) fun e w' ⟨h, hb⟩ => by
           rcases h with ⟨h, _⟩ | ⟨_, ho, hc, q, O, p, he, hcv, h1, h2, h6, hO, k1, k2⟩
           · exact absurd HV.out h
           · exact ⟨ho, hc, q, O, p, he, h6, h1, h2, ⟨hcv⟩, ⟨hO⟩, ⟨k1, k2⟩, ⟨hb⟩⟩).mono ?_; rintro e w2 ⟨h0, hc, q, O, p, rfl, hq6, hqc, hcm, HH, HO, HS, B2⟩)
      | (go_at_call 30; refine (normal_any h0 q hc O p _ hq6 hqc HH.out HO.out (hf_entry HV.out hq6 HO.out HS.out.1 HS.out.2)).mono ?_; rintro e w3 ⟨rfl, B3⟩))
    have HB : Bx (Below w.heap.size w w3) := ⟨(B1.trans (B2.out.mono B1.size)).trans (B3.mono (Nat.le_trans B1.size B2.out.size))⟩
    have HH3 := Bx.mk (HH.out.keep B3)
    have HTK := Bx.mk (fun i (hi : i < n) (hs : ∀ j, j < 6 → -1000 ≤ M i j ∧ M i j ≤ 1000) => Tk.of HO.out hq6 (hf_entry HV.out hq6 HO.out HS.out.1 HS.out.2) (fun j hj => by have := hs j hj; omega) (HS.out.1 i hi))
    have HDW := Bx.mk (divW_rank HV.out HO.out HS.out.1 HS.out.2)
    clear B1 B2 B3 HH
    go_loopw [6] (fun ix wr => ∃ i : Nat, i ≤ n ∧ ix = .int .i64 i ∧ Bx (Below w3.heap.size w3 wr)) (fun ix _ => n - (intOf ix).toNat)
    case atStart => exact ⟨0, by omega, rfl, ⟨Below.refl _ _⟩⟩
    case round =>
      obtain ⟨i, hi, rfl, HBr⟩ := hrel
      by_cases hlt : i < n
      · obtain ⟨b, o, rfl, hb, hcr⟩ := HR.out (by omega)
        have HBw : Bx (Below w.heap.size w wr) := ⟨HB.out.trans (HBr.out.mono HB.out.size)⟩
        obtain ⟨a0, a1, a2, a3, a4, a5⟩ := row_six hcr hb HBw.out hlt
        have HCR := Bx.mk hcr
        clear hcr
        by_cases hs : ∀ j, j < 6 → -1000 ≤ M i j ∧ M i j ≤ 1000
        · have PS := Bx.mk (fun w => small_any (M i) w true (by simpa using hs))
          have PC := Bx.mk (fun w' (hw : Below w3.heap.size w3 w') => comb_any h0 q hc O p (M i) w' hq6 hqc (HH3.out.keep hw) (HTK.out i hlt hs))
          unfold PV at PS PC
          clear hs
          go_wp2_with (first
            | (go_at_call 31; refine (PS.out _).mono ?_; rintro e w4 ⟨rfl, hb4⟩
               have HB4 : Bx (Below w3.heap.size w3 w4) := ⟨HBr.out.trans (hb4.mono HBr.out.size)⟩
               obtain ⟨e0, e1, e2, e3, e4, e5⟩ := row_six HCR.out hb (HBw.out.trans (hb4.mono HBw.out.size)) hlt
               clear hb4 a0 a1 a2 a3 a4 a5)
            | (go_at_call 32; refine (PC.out _ HB4.out).mono ?_; rintro e w5 ⟨rfl, hb5⟩
               have HB5 : Bx (Below w3.heap.size w3 w5) := ⟨HB4.out.trans (hb5.mono HB4.out.size)⟩
               clear hb5 e0 e1 e2 e3 e4 e5))
          exact ⟨⟨i + 1, by omega, by go_num, HB5⟩, by simp [intOf]; omega⟩
        · have PS := Bx.mk (fun w => small_any (M i) w false ⟨fun e => (by cases e), fun e => absurd e hs⟩)
          unfold PV at PS
          clear hs
          go_wp2_with (first
            | (go_at_call 31; refine (PS.out _).mono ?_; rintro e w4 ⟨rfl, hb4⟩
               have HB4 : Bx (Below w3.heap.size w3 w4) := ⟨HBr.out.trans (hb4.mono HBr.out.size)⟩
               clear hb4 a0 a1 a2 a3 a4 a5))
          exact ⟨⟨i + 1, by omega, by go_num, HB4⟩, by simp [intOf]; omega⟩
      · obtain rfl : i = n := by omega
        obtain ⟨D, hD⟩ : ∃ D, divW M i q = D := ⟨_, rfl⟩
        have PD1 := fun w' (hw : Below w3.heap.size w3 w') => divisor_any h0 q hc q O w' (by omega) (by omega) hqc (HH3.out.keep hw)
        have PD2 := fun w' (hw : Below w3.heap.size w3 w') => divisor_any ao i c1 q M w' hn8 (by omega) hc1 (HR.out.keep (HB.out.trans (hw.mono HB.out.size)))
        have PD3 := fun w' (hw : Below w3.heap.size w3 w') => divisor_any ao i c1 (q + 1) M w' hn8 (by omega) hc1 (HR.out.keep (HB.out.trans (hw.mono HB.out.size)))
        rw [HDW.out.1, hD] at PD1
        rw [hD] at PD2
        rw [HDW.out.2, show ((q + 1 : Nat) : Int) = (q : Int) + 1 by omega] at PD3
        have P1 := Bx.mk PD1
        have P2 := Bx.mk PD2
        have P3 := Bx.mk PD3
        have hq1 : IntKind.i64.wrap ((q : Int) + 1) = (q : Int) + 1 := by rw [IntWalk.i64_in] <;> omega
        clear PD1 PD2 PD3 hD
        go_wp2_with (first
          | (go_at_call 33; with_reducible refine (P1.out _ HBr.out).mono ?_; clear P1; rintro e w4 ⟨rfl, hb4⟩
             have HB4 : Bx (Below w3.heap.size w3 w4) := ⟨HBr.out.trans (hb4.mono HBr.out.size)⟩
             clear hb4)
          | (go_at_call 33; with_reducible refine (P2.out _ HB4.out).mono ?_; clear P2; rintro e w5 ⟨rfl, hb5⟩
             have HB5 : Bx (Below w3.heap.size w3 w5) := ⟨HB4.out.trans (hb5.mono HB4.out.size)⟩
             clear hb5)
          | (go_at_call 33; with_reducible refine (P3.out _ HB5.out).mono ?_; clear P3; rintro e w6 ⟨rfl, hb6⟩
             have HB6 : Bx (Below w3.heap.size w3 w6) := ⟨HB5.out.trans (hb6.mono HB5.out.size)⟩
             clear hb6))
        go_ret
        exact ⟨rfl, HB.out.trans (HB6.out.mono HB.out.size)⟩
  · have HR := Bx.mk hR
    have HV := Bx.mk hv
    clear hR hv
    go_enter Try.func4, Try.ntmps4
    go_wp2_with (first
      | (go_at_call 17; refine (head_any _).mono ?_; rintro e w1 ⟨rfl, B1⟩)
      | (go_at_call 20; refine ((hermite_pub ao n c1 M _ hc1 hc2 (HR.out.keep B1)).mono (R' := fun e w' => e = .returned (.tuple #[.slice none 0 0, .int .i64 1]) ∧ Below w1.heap.size w1 w') fun e w' ⟨h, hb⟩ => by
           rcases h with ⟨_, h⟩ | ⟨h, _⟩
           · exact ⟨h, hb⟩
           · exact absurd h HV.out).mono ?_; rintro e w2 ⟨rfl, B2⟩))
    go_ret
    exact ⟨rfl, (B1).trans (B2.mono (B1.size))⟩
end Go.Proofs.Ytjnnalfocffggaa

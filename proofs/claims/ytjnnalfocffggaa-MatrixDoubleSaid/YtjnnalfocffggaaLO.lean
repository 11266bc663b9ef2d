/- MatrixDouble: the law's walk. -/
import Derived.Test.YtjnnalfocffggaaHC
import Derived.Test.YtjnnalfocffggaaLM
import Derived.Test.YtjnnalfocffggaaR10
namespace Go.Proofs.Ytjnnalfocffggaa
open Go.RowKit D
theorem cn_last {w : World} {ao : Option Addr} {q : Nat} {g : Nat → Nat} (h : CN w ao ((List.range q).map fun i => g (i + 1))) (hq : 0 < q) : ∃ b o, ao = some ⟨b, o, none⟩ ∧ b < w.heap.size ∧ w.cell? ⟨b, o + (q - 1), none⟩ = some (.int .i64 ((g q : Nat) : Int)) := by
  obtain ⟨b, o, e, hb, hc⟩ := h (by intro e; have := congrArg List.length e; simp at this; omega)
  refine ⟨b, o, e, hb, ?_⟩
  rw [hc (q - 1) (by simp; omega)]
  have : ((List.range q).map fun i => g (i + 1)).getD (q - 1) 0 = g q := by
    rw [List.getD_eq_getElem?_getD, List.getElem?_map, List.getElem?_range (by omega)]
    simp [show q - 1 + 1 = q by omega]
  rw [this]
set_option maxRecDepth 100000 in
set_option maxHeartbeats 16000000 in
theorem double_law (ao : Option Addr) (n c1 : Nat) (M : Nat → Nat → Int) (w : World) (hc1 : n ≤ c1) (hc2 : c1 ≤ maxLen) (hR : CV w ao n M) :
    Calls Try.prog 9 #[.slice ao n c1] w fun e w' => e = .returned (.bool true) ∧ Below w.heap.size w w' := by
  by_cases hv : VM M n
  · have HR := Bx.mk hR
    have HV := Bx.mk hv
    have hn8 : n ≤ 8 := hv.1
    clear hR hv
    go_enter Try.func9, Try.ntmps9
    have M1 : Bx True := ⟨trivial⟩
    go_wp2_with (first
      | (go_at_call 17; refine (head_any _).mono ?_; rintro e w1 ⟨rfl, B1⟩)
      | (clear M1; go_at_call 23; refine ((kernel_pub ao n c1 M _ hc1 hc2 (HR.out.keep B1)).mono (R' := fun e w' => ∃ (ho : Option Addr) (hc u : Nat) (O : Nat → Nat → Int) (p : Nat → Nat), e = .returned (.tuple #[.slice ho u hc, .int .i64 0]) ∧ u ≤ 6 ∧ u ≤ hc ∧ hc ≤ maxLen ∧ Bx (CV w' ho u O) ∧ Bx (Hf O u 6 p) ∧ Bx ((∀ i k, i < u → k < n → dot 6 (M k) (O i) = 0) ∧ ∀ y, (∀ k, k < n → dot 6 (M k) y = 0) → Sp O u 6 y) ∧ Bx (Below w1.heap.size w1 w')) fun e w' ⟨h, hb⟩ => by
           rcases h with ⟨h, _⟩ | ⟨_, ho, hc, u, O, p, he, hcv, h1, h2, h6, hO, k1, k2⟩
           · exact absurd HV.out h
           · exact ⟨ho, hc, u, O, p, he, h6, h1, h2, ⟨hcv⟩, ⟨hO⟩, ⟨k1, k2⟩, ⟨hb⟩⟩).mono ?_; rintro e w2 ⟨k0, kc, u, K, pk, rfl, hu6, huc, hcmk, HK, HKO, HKS, B2⟩)
      | (go_at_call 20; refine ((hermite_pub ao n c1 M _ hc1 hc2 ((HR.out.keep B1).keep B2.out)).mono (R' := fun e w' => ∃ (ho : Option Addr) (hc q : Nat) (O : Nat → Nat → Int) (p : Nat → Nat), e = .returned (.tuple #[.slice ho q hc, .int .i64 0]) ∧ q ≤ 6 ∧ q ≤ hc ∧ hc ≤ maxLen ∧ Bx (CV w' ho q O) ∧ Bx (Hf O q 6 p) ∧ Bx ((∀ t, t < n → Sp O q 6 (M t)) ∧ ∀ i, i < q → Sp M n 6 (O i)) ∧ Bx (Below w2.heap.size w2 w')) fun e w' ⟨h, hb⟩ => by
           rcases h with ⟨h, _⟩ | ⟨_, ho, hc, q, O, p, he, hcv, h1, h2, h6, hO, k1, k2⟩
           · exact absurd HV.out h
           · exact ⟨ho, hc, q, O, p, he, h6, h1, h2, ⟨hcv⟩, ⟨hO⟩, ⟨k1, k2⟩, ⟨hb⟩⟩).mono ?_; rintro e w3 ⟨h0', hc, q, O, p, rfl, hq6, hqc, hcm, HH, HO, HS, B3⟩)
      | (go_at_call 25; refine ((divisors_pub ao n c1 M _ hc1 hc2 (((HR.out.keep B1).keep B2.out).keep B3.out)).mono (R' := fun e w' => ∃ (g : Nat → Nat) (ho : Option Addr) (hc : Nat), e = .returned (.tuple #[.slice ho q hc, .int .i64 0]) ∧ Bx (CN w' ho ((List.range q).map fun i => g (i + 1)) ∧ q ≤ hc ∧ hc ≤ maxLen) ∧ Bx (∀ k d, Dv M n 6 k d ↔ d ∣ (g k : Int)) ∧ Bx (∀ k, k < q → 0 < g (k + 1) ∧ g (k + 1) ≤ 1000000000) ∧ Bx (Below w3.heap.size w3 w')) fun e w' ⟨h, hb⟩ => by
           rcases h with ⟨h, _⟩ | ⟨_, g, ho, hc, r, he, hcn, h1, h2, h6, k1, k2, k3⟩
           · exact absurd HV.out h
           · obtain rfl := divs_rank (HO.out.rank HS.out.1 HS.out.2) k1 k2 k3
             exact ⟨g, ho, hc, he, ⟨hcn, h1, h2⟩, ⟨k1⟩, ⟨k2⟩, ⟨hb⟩⟩).mono ?_; rintro e w4 ⟨g, d0, dc, rfl, HD, HG, HG2, B4⟩))
    have HB4 : Bx (Below w.heap.size w w4) := ⟨((B1.trans (B2.out.mono B1.size)).trans (B3.out.mono (Nat.le_trans B1.size B2.out.size))).trans (B4.out.mono (Nat.le_trans (Nat.le_trans B1.size B2.out.size) B3.out.size))⟩
    have HK4 := Bx.mk ((HK.out.keep B3.out).keep B4.out)
    have HH4 := Bx.mk (HH.out.keep B4.out)
    clear B1 B2 B3 B4 HK HH
    by_cases hk : VM K u
    · have PK2 := (kernel_pub k0 u kc K w4 huc hcmk HK4.out).mono (R' := fun e w' => ∃ (ho : Option Addr) (hc : Nat) (X : Nat → Nat → Int) (p : Nat → Nat), e = .returned (.tuple #[.slice ho q hc, .int .i64 0]) ∧ q ≤ hc ∧ hc ≤ maxLen ∧ Bx (CV w' ho q X) ∧ Bx (Hf X q 6 p) ∧ Bx ((∀ i k, i < q → k < u → dot 6 (K k) (X i) = 0) ∧ ∀ y, (∀ k, k < u → dot 6 (K k) y = 0) → Sp X q 6 y) ∧ Bx (Below w4.heap.size w4 w')) fun e w' ⟨h, hb⟩ => by
        rcases h with ⟨h, _⟩ | ⟨_, ho, hc, v, X, p, he, hcv, h1, h2, h6, hX, k1, k2⟩
        · exact absurd hk h
        · obtain ⟨rfl, _⟩ := ker_ker HO.out HS.out.1 HS.out.2 HKO.out HKS.out.1 HKS.out.2 hX k1 k2
          exact ⟨ho, hc, X, p, he, h1, h2, ⟨hcv⟩, ⟨hX⟩, ⟨k1, k2⟩, ⟨hb⟩⟩
      have HVK := Bx.mk hk
      clear hk
      refine PK2.mono ?_
      clear PK2
      rintro e w5 ⟨x0, xc, X, px, rfl, hqx, hcmx, HX, HXO, HXS, B5⟩
      have hl1 : ((q : Int) != (q : Int)) = false := by simp
      go_wp2_with (first
        | (go_at_call 30; refine (normal_any x0 q xc X px _ hq6 hqx HX.out HXO.out (ker_entry HVK.out HXO.out HXS.out.1 HXS.out.2)).mono ?_; rintro e w7 ⟨rfl, B7⟩))
      have HB7 : Bx (Below w.heap.size w w7) := ⟨(HB4.out.trans (B5.out.mono HB4.out.size)).trans (B7.mono (Nat.le_trans HB4.out.size B5.out.size))⟩
      have HX7 := Bx.mk (HX.out.keep B7)
      have HH7 := Bx.mk ((HH4.out.keep B5.out).keep B7)
      have HD7 := Bx.mk ((HD.out.1.keep B5.out).keep B7)
      have hqd : q ≤ dc := HD.out.2.1
      clear B5 B7 HX HH4 HD
      have HTK := Bx.mk (fun i (hi : i < n) (hs : ∀ j, j < 6 → -1000 ≤ M i j ∧ M i j ≤ 1000) => Tk.of HXO.out hq6 (ker_entry HVK.out HXO.out HXS.out.1 HXS.out.2) (fun j hj => by have := hs j hj; omega) (HXS.out.2 (M i) (fun k hk => by rw [dot_comm]; exact HKS.out.1 k i hk hi)))
      go_loopw [12] (fun ix wr => ∃ i : Nat, i ≤ n ∧ ix = .int .i64 i ∧ Bx (Below w7.heap.size w7 wr)) (fun ix _ => n - (intOf ix).toNat)
      case atStart => exact ⟨0, by omega, rfl, ⟨Below.refl _ _⟩⟩
      case round =>
        obtain ⟨i, hi, rfl, HBr⟩ := hrel
        by_cases hlt : i < n
        · obtain ⟨b, o, rfl, hb, hcr⟩ := HR.out (by omega)
          have HBw : Bx (Below w.heap.size w wr) := ⟨HB7.out.trans (HBr.out.mono HB7.out.size)⟩
          obtain ⟨a0, a1, a2, a3, a4, a5⟩ := row_six hcr hb HBw.out hlt
          have HCR := Bx.mk hcr
          clear hcr
          by_cases hs : ∀ j, j < 6 → -1000 ≤ M i j ∧ M i j ≤ 1000
          · have PC := Bx.mk (fun w' (hw : Below w7.heap.size w7 w') => comb_any x0 q xc X px (M i) w' hq6 hqx (HX7.out.keep hw) (HTK.out i hlt hs))
            have PS := Bx.mk (fun w => small_any (M i) w true (by simpa using hs))
            unfold PV at PS PC
            clear hs
            go_wp2_with (first
              | (go_at_call 31; refine (PS.out _).mono ?_; rintro e w8 ⟨rfl, hb4⟩
                 have HB8 : Bx (Below w7.heap.size w7 w8) := ⟨HBr.out.trans (hb4.mono HBr.out.size)⟩
                 obtain ⟨e0, e1, e2, e3, e4, e5⟩ := row_six HCR.out hb (HBw.out.trans (hb4.mono HBw.out.size)) hlt
                 clear hb4 a0 a1 a2 a3 a4 a5)
              | (go_at_call 32; refine (PC.out _ HB8.out).mono ?_; rintro e w9 ⟨rfl, hb5⟩
                 have HB9 : Bx (Below w7.heap.size w7 w9) := ⟨HB8.out.trans (hb5.mono HB8.out.size)⟩
                 clear hb5 e0 e1 e2 e3 e4 e5))
            exact ⟨⟨i + 1, by omega, by go_num, HB9⟩, by simp [intOf]; omega⟩
          · have PS := Bx.mk (fun w => small_any (M i) w false ⟨fun e => (by cases e), fun e => absurd e hs⟩)
            unfold PV at PS
            clear hs
            go_wp2_with (first
              | (go_at_call 31; refine (PS.out _).mono ?_; rintro e w8 ⟨rfl, hb4⟩
                 have HB8 : Bx (Below w7.heap.size w7 w8) := ⟨HBr.out.trans (hb4.mono HBr.out.size)⟩
                 clear hb4 a0 a1 a2 a3 a4 a5))
            exact ⟨⟨i + 1, by omega, by go_num, HB8⟩, by simp [intOf]; omega⟩
        · obtain rfl : i = n := by omega
          by_cases h0 : q = 0
          · subst h0
            have PSM := Bx.mk (fun w' (hw : Below w7.heap.size w7 w') => same_any x0 h0' xc hc 0 0 X O w' hqx hcmx hqc hcm (HX7.out.keep hw) (HH7.out.keep hw) true (by simp))
            go_wp2_with (go_at_call 22; refine (PSM.out _ HBr.out).mono ?_; rintro e w8 ⟨rfl, hb8⟩)
            go_ret
            have HB8 : Below w7.heap.size w7 w8 := HBr.out.trans (hb8.mono HBr.out.size)
            exact ⟨rfl, HB7.out.trans (HB8.mono HB7.out.size)⟩
          · obtain ⟨bd, od, rfl, hbd, hcd⟩ := cn_last HD7.out (by omega)
            have d1 := (HBr.out.cell (p := ⟨bd, od + (q - 1), none⟩) hbd).trans hcd
            have hq0 : (0 : Int) < (q : Int) := by omega
            have q1 : IntKind.i64.wrap ((q : Int) - 1) = (q : Int) - 1 := by rw [IntWalk.i64_in] <;> omega
            have q2 : ((q : Int) - 1).toNat = q - 1 := by omega
            have q3 : (0 : Int) ≤ (q : Int) - 1 := by omega
            have q4 : (q : Int) - 1 < (q : Int) := by omega
            by_cases hg : g q = 1
            · have PSM := Bx.mk (fun w' (hw : Below w7.heap.size w7 w') => same_any x0 h0' xc hc q q X O w' hqx hcmx hqc hcm (HX7.out.keep hw) (HH7.out.keep hw) true (by
                simp only [true_iff]
                refine ⟨by trivial, ?_⟩
                exact (ker_ker HO.out HS.out.1 HS.out.2 HKO.out HKS.out.1 HKS.out.2 HXO.out HXS.out.1 HXS.out.2).2 (fun d hd => by have := (HG.out q d).1 hd; rw [hg] at this; exact_mod_cast this)))
              rw [hg] at d1
              have hg1 : (((1 : Nat) : Int) != 1) = false := by simp
              go_wp2_with (go_at_call 22; refine (PSM.out _ HBr.out).mono ?_; rintro e w8 ⟨rfl, hb8⟩)
              go_ret
              have HB8 : Below w7.heap.size w7 w8 := HBr.out.trans (hb8.mono HBr.out.size)
              exact ⟨rfl, HB7.out.trans (HB8.mono HB7.out.size)⟩
            · obtain ⟨G, hG⟩ : ∃ G, g q = G := ⟨_, rfl⟩
              rw [hG] at d1 hg
              have hg1 : ((G : Int) == 1) = false := by simp; omega
              have hg2 : ((G : Int) != 1) = true := by simp [bne, hg1]
              clear hG hg
              go_wp2_with fail
              go_ret
              exact ⟨rfl, HB7.out.trans (HBr.out.mono HB7.out.size)⟩
    · have HVK := Bx.mk hk
      clear hk
      have PK2 := (kernel_pub k0 u kc K w4 huc hcmk HK4.out).mono (R' := fun e w' => e = .returned (.tuple #[.slice none 0 0, .int .i64 1]) ∧ Below w4.heap.size w4 w') fun e w' ⟨h, hb⟩ => by
        rcases h with ⟨_, h⟩ | ⟨h, _⟩
        · exact ⟨h, hb⟩
        · exact absurd h HVK.out
      refine PK2.mono ?_
      clear PK2
      rintro e w5 ⟨rfl, B5⟩
      go_wp2_with (go_at_call 18; refine (pvalid_any k0 u kc K _ huc hcmk (HK4.out.keep B5) false (by simp [HVK.out])).mono ?_; rintro e w6 ⟨rfl, B6⟩)
      go_ret
      have J5 := HB4.out.trans (B5.mono HB4.out.size)
      exact ⟨rfl, J5.trans (B6.mono J5.size)⟩
  · have HR := Bx.mk hR
    have HV := Bx.mk hv
    clear hR hv
    go_enter Try.func9, Try.ntmps9
    go_wp2_with (first
      | (go_at_call 17; refine (head_any _).mono ?_; rintro e w1 ⟨rfl, B1⟩)
      | (go_at_call 23; refine ((kernel_pub ao n c1 M _ hc1 hc2 (HR.out.keep B1)).mono (R' := fun e w' => e = .returned (.tuple #[.slice none 0 0, .int .i64 1]) ∧ Below w1.heap.size w1 w') fun e w' ⟨h, hb⟩ => by
           rcases h with ⟨_, h⟩ | ⟨h, _⟩
           · exact ⟨h, hb⟩
           · exact absurd h HV.out).mono ?_; rintro e w2 ⟨rfl, B2⟩)
      | (go_at_call 20; refine ((hermite_pub ao n c1 M _ hc1 hc2 ((HR.out.keep B1).keep B2)).mono (R' := fun e w' => e = .returned (.tuple #[.slice none 0 0, .int .i64 1]) ∧ Below w2.heap.size w2 w') fun e w' ⟨h, hb⟩ => by
           rcases h with ⟨_, h⟩ | ⟨h, _⟩
           · exact ⟨h, hb⟩
           · exact absurd h HV.out).mono ?_; rintro e w3 ⟨rfl, B3⟩)
      | (go_at_call 25; refine ((divisors_pub ao n c1 M _ hc1 hc2 (((HR.out.keep B1).keep B2).keep B3)).mono (R' := fun e w' => e = .returned (.tuple #[.slice none 0 0, .int .i64 1]) ∧ Below w3.heap.size w3 w') fun e w' ⟨h, hb⟩ => by
           rcases h with ⟨_, h⟩ | ⟨h, _⟩
           · exact ⟨h, hb⟩
           · exact absurd h HV.out).mono ?_; rintro e w4 ⟨rfl, B4⟩))
    go_ret
    exact ⟨rfl, (((B1).trans (B2.mono (B1.size))).trans (B3.mono (Nat.le_trans (B1.size) B2.size))).trans (B4.mono (Nat.le_trans (Nat.le_trans (B1.size) B2.size) B3.size))⟩
end Go.Proofs.Ytjnnalfocffggaa

/- TemperRank: the law's walk. -/
import Derived.Test.YtnbamjoadankmaaZA
import Derived.Test.YtnbamjoadankmaaYZ
import Derived.Test.YtnbamjoadankmaaLM
namespace Go.Proofs.Ytnbamjoadankmaa
open Go.RowKit D
set_option maxRecDepth 100000 in
set_option maxHeartbeats 16000000 in
theorem trank_law (a : Option Addr) (n c : Nat) (M : Nat → Nat → Int) (w : World) (hc1 : n ≤ c) (hc2 : c ≤ maxLen) (hR : CV w a n M) :
    Calls Try.prog 14 #[.agg #[.slice a n c]] w fun e w' => e = .returned (.bool true) ∧ Below w.heap.size w w' := by
  obtain ⟨W, hW⟩ : ∃ W, w.alloc (.cells #[.slice a n c] 57) = W := ⟨_, rfl⟩
  obtain ⟨h0, hb, hs⟩ := map_box w a n c W hW
  have HM := Bx.mk h0
  have hl := h0.lt
  have HB := Bx.mk hb
  have HR := Bx.mk hR
  have hmx : Try.prog.follows .mixedOrders = true := by kernel_rfl
  obtain ⟨b, hb1⟩ := bool_of (Tm M n)
  have HT := Bx.mk hb1
  have H1 := Bx.mk (fun w' (h : CV w' a n M) => tvalid_any a n c M w' hc1 hc2 h b hb1)
  have H2 := Bx.mk (fun w' (h : CV w' a n M) (ht : Tm M n) => (TKernel_any a n c M w' hc1 hc2 h).mono (R' := fun e w'' => ∃ ho hc u O p, e = .returned (.tuple #[.slice ho u hc, .int .i64 0]) ∧ u ≤ hc ∧ hc ≤ maxLen ∧ u ≤ 6 ∧ u + n = 6 ∧ n ≤ 3 ∧ Bx (KerS M n u O p) ∧ Bx (CV w'' ho u O) ∧ Bx (Below w'.heap.size w' w'')) fun e w'' ⟨h, hb⟩ => by
    rcases h with ⟨_, h⟩ | ⟨h, _⟩
    · obtain ⟨ho, hc, u, O, p, he, h1, h2, h6, hk, hcv⟩ := h.split.resolve_left (fun h => h.1.out ht.vm)
      have hq := ker_count hk.out.2.hf hk.out.2.orth hk.out.2.all ht.rank
      exact ⟨ho, hc, u, O, p, he, h1, h2, h6, by omega, ht.three, ⟨hk.out.2⟩, hcv, hb⟩
    · exact absurd ht h)
  have hm0 := h0.cell
  clear h0 hb hR hb1
  go_enter Try.func14, Try.ntmps14
  go_wp2_with (first
    | (go_at_call 46; refine (thead_any _).mono ?_; clear hm0 hW; rintro e w1 ⟨rfl, k1⟩
       have B1 := Bx.mk (HB.out.trans (k1.mono HB.out.size))
       have HM1 : Bx (Boxed w1 w.heap.size 57 (.slice a n c)) := ⟨(k1.block _ hl).trans HM.out⟩
       have m1 := HM1.out.cell
       clear k1)
    | (go_at_call 47; refine (H1.out w1 (HR.out.keep B1.out)).mono ?_; clear H1; rintro e w2 ⟨rfl, k2⟩
       have B2 := Bx.mk (B1.out.trans (k2.mono B1.out.size))
       have HM2 : Bx (Boxed w2 w.heap.size 57 (.slice a n c)) := ⟨(k2.block _ HM1.out.lt).trans HM1.out⟩
       have m2 := HM2.out.cell
       clear k2 m1
       cases b)
    | (go_at_call 54; refine (H2.out w2 (HR.out.keep B2.out) (HT.out.1 (by simp))).mono ?_; clear H2; rintro e w3 ⟨ho, kc, u, K, p, rfl, huc, hcm, hu6, hun, hn3, HS, HK, k3⟩
       have B3 := Bx.mk (B2.out.trans (k3.out.mono B2.out.size))
       have HM3 : Bx (Boxed w3 w.heap.size 57 (.slice a n c)) := ⟨(k3.out.block _ HM2.out.lt).trans HM2.out⟩
       have m3 := HM3.out.cell
       have q1 : IntKind.i64.wrap ((u : Int) + (n : Int)) = 6 := by rw [IntWalk.i64_in] <;> omega
       have q2 : wrap64 ((u : Int) + (n : Int)) = 6 := by unfold wrap64; omega
       clear m2))
  · go_ret
    exact ⟨rfl, B2.out⟩
  · have HE := Bx.mk (ker_entry (HT.out.1 (by simp)).vm HS.out.hf HS.out.orth HS.out.all)
    have HR3 := Bx.mk (HR.out.keep B3.out)
    clear B2 HM2 m3 q1 q2 k3
    go_loopw [6] (fun ix wr => ∃ i : Nat, i ≤ u ∧ ix = .int .i64 i ∧ Bx (Below w3.heap.size w3 wr)) (fun ix _ => u - (intOf ix).toNat)
    case atStart => exact ⟨0, by omega, rfl, ⟨Below.refl _ _⟩⟩
    case round =>
      obtain ⟨i, hi, rfl, IB⟩ := hrel
      by_cases hlt : i < u
      · obtain ⟨bk, ok, rfl, hbk, hck⟩ := HK.out (by omega)
        have HCK := Bx.mk hck
        have hlt' : (i : Int) < u := by omega
        clear hck
        go_wp2_with fail
        go_loopw [7] (fun jx wz => ∃ l : Nat, l ≤ 6 ∧ jx = .int .i64 l ∧ Bx (Below w3.heap.size w3 wz)) (fun jx _ => 6 - (intOf jx).toNat)
        case atStart => exact ⟨0, by omega, rfl, IB⟩
        case round =>
          obtain ⟨l, hl6, rfl, JB⟩ := hrel
          by_cases hl5 : l < 6
          · have hl5' : (l : Int) < 6 := by omega
            have c0 := (JB.out.cell (p := ⟨bk, ok + i * 6 + l, none⟩) hbk).trans (HCK.out i l hlt hl5)
            have hx0 := HE.out i l hlt hl5
            obtain ⟨x, hx⟩ : ∃ x, K i l = x := ⟨_, rfl⟩
            rw [hx] at c0 hx0
            have d1 : ¬ x < -6000000000 := by omega
            have d2 : ¬ x > 6000000000 := by omega
            clear hx
            go_wp2_with fail
            exact ⟨⟨l + 1, by omega, by go_num, JB⟩, by simp [intOf]; omega⟩
          · obtain rfl : l = 6 := by omega
            go_wp2_with fail
            go_loopw [8] (fun tx wq => ∃ t : Nat, t ≤ n ∧ tx = .int .i64 t ∧ Bx (Below w3.heap.size w3 wq)) (fun tx _ => n - (intOf tx).toNat)
            case atStart => exact ⟨0, by omega, rfl, JB⟩
            case round =>
              obtain ⟨t, ht, rfl, TB⟩ := hrel
              have hmq := Boxed.cell (show Boxed wr w.heap.size 57 (.slice a n c) from (TB.out.block _ HM3.out.lt).trans HM3.out)
              by_cases hlt2 : t < n
              · obtain ⟨ba, oa, rfl, hba, hca⟩ := HR3.out (by omega)
                obtain ⟨e0, e1, e2, e3, e4, e5⟩ := row_six HCK.out hbk TB.out hlt
                obtain ⟨f0, f1, f2, f3, f4, f5⟩ := row_six hca hba TB.out hlt2
                have hlt2' : (t : Int) < n := by omega
                have PP := fun w => tdot_any (K i) (M t) w
                rw [show dot 6 (K i) (M t) = 0 from (dot_comm _ _ _).trans (HS.out.orth i t hlt hlt2), show wrap64 0 = 0 by simp [wrap64]] at PP
                have HPP := Bx.mk PP
                unfold PV at HPP
                clear PP hca
                go_wp2_with fail
                go_still_tail 9, hmx
                go_wp2_with (go_at_call 66; refine (HPP.out _).mono ?_; rintro e w6 ⟨rfl, hb6⟩)
                refine ⟨⟨_, _, _, _, _, _, _, _, _, _, _, _, _, _, _, _, _, _, _, _, ⟨t + 1, by omega, ?_, ⟨(below_drew TB.out).trans (hb6.mono TB.out.size)⟩⟩, rfl⟩, ?_⟩
                · go_num
                · simp [intOf]; omega
              · obtain rfl : t = n := by omega
                go_wp2_with fail
                exact ⟨⟨i + 1, by omega, by go_num, TB⟩, by simp [intOf]; omega⟩
      · obtain rfl : i = u := by omega
        go_wp2_with fail
        go_ret
        exact ⟨rfl, B3.out.trans (IB.out.mono B3.out.size)⟩
end Go.Proofs.Ytnbamjoadankmaa

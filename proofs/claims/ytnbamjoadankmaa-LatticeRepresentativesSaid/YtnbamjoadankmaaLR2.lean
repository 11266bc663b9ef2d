/- The law: LatticeRepresentatives. -/
import Derived.Test.YtnbamjoadankmaaLQ
namespace Go.Proofs.Ytnbamjoadankmaa
open Go.RowKit D
theorem lreduce_again (ao : Option Addr) (n c1 : Nat) (M : Nat → Nat → Int) (v a : Nat → Int) (w : World) (hc1 : n ≤ c1) (hc2 : c1 ≤ maxLen) (hR : CV w ao n M) (hm : VM M n) (h : Red M n v a 0) :
    Calls Try.prog 34 #[.slice ao n c1, (.agg #[.int .i64 (a 0), .int .i64 (a 1), .int .i64 (a 2), .int .i64 (a 3), .int .i64 (a 4), .int .i64 (a 5)])] w fun e w' => e = .returned (.tuple #[(.agg #[.int .i64 (a 0), .int .i64 (a 1), .int .i64 (a 2), .int .i64 (a 3), .int .i64 (a 4), .int .i64 (a 5)]), .int .i64 0]) ∧ Bx (Below w.heap.size w w') :=
  (lreduce_any ao n c1 M a w hc1 hc2 hR hm h.good.choose_spec.choose_spec.choose_spec.2.1).mono fun e w' ⟨u, c, he, hr, hb⟩ => by
    obtain ⟨rfl, hu⟩ := h.again hr.out
    refine ⟨he.trans ?_, hb⟩
    rw [pv_congr6 hu]; first | done | rfl
theorem lreduce_other (ao : Option Addr) (n c1 : Nat) (M : Nat → Nat → Int) (v a x : Nat → Int) (w : World) (hc1 : n ≤ c1) (hc2 : c1 ≤ maxLen) (hR : CV w ao n M) (hm : VM M n) (h : Red M n v a 0) (hx : Vv x) (hd : Sp M n 6 (fun j => x j - v j)) :
    Calls Try.prog 34 #[.slice ao n c1, (.agg #[.int .i64 (x 0), .int .i64 (x 1), .int .i64 (x 2), .int .i64 (x 3), .int .i64 (x 4), .int .i64 (x 5)])] w fun e w' => ∃ u c, e = .returned (.tuple #[(.agg #[.int .i64 (u 0), .int .i64 (u 1), .int .i64 (u 2), .int .i64 (u 3), .int .i64 (u 4), .int .i64 (u 5)]), .int .i64 c]) ∧ ((c = 0 ∧ u = a) ∨ c = 3) ∧ Bx (Below w.heap.size w w') :=
  (lreduce_any ao n c1 M x w hc1 hc2 hR hm hx).mono fun e w' ⟨u, c, he, hr, hb⟩ => by
    rcases hr.out.split with ⟨rfl, hg⟩ | rfl
    · refine ⟨a, 0, he.trans ?_, .inl ⟨rfl, rfl⟩, hb⟩
      rw [pv_congr6 (h.one hg.out hd)]; first | done | rfl
    · exact ⟨u, 3, he, .inr rfl, hb⟩
set_option maxRecDepth 100000 in
set_option maxHeartbeats 32000000 in
theorem rep_law1 (ao bo : Option Addr) (n bn c1 c2 : Nat) (A : Nat → Nat → Int) (f v : Nat → Int) (w : World) (hc1 : n ≤ c1) (hc1m : c1 ≤ maxLen) (hc2 : bn ≤ c2) (hc2m : c2 ≤ maxLen) (hA : CV w ao n A) (hF : CS w bo bn f) (va : VM A n) (vv : Vv v) :
    Calls Try.prog 6 #[.slice ao n c1, PV v, .slice bo bn c2] w fun e w' => e = .returned (.bool true) ∧ Below w.heap.size w w' := by
  have H1 := Bx.mk (fun w' (hb : Below w.heap.size w w') => rvalid_any ao n c1 A w' hc1 hc1m (hA.keep hb) true ⟨fun _ => va, fun _ => rfl⟩)
  have HR1 := Bx.mk (fun w' (hb : Below w.heap.size w w') => lreduce_any ao n c1 A v w' hc1 hc1m (hA.keep hb) va vv)
  have HR2 := Bx.mk (fun a (h : Red A n v a 0) w' (hb : Below w.heap.size w w') => lreduce_again ao n c1 A v a w' hc1 hc1m (hA.keep hb) va h)
  have HR3 := Bx.mk (fun a x (h : Red A n v a 0) (hx : Vv x) (hd : Sp A n 6 (fun j => x j - v j)) w' (hb : Below w.heap.size w w') => lreduce_other ao n c1 A v a x w' hc1 hc1m (hA.keep hb) va h hx hd)
  have HM := Bx.mk (fun u w' (hb : Below w.heap.size w w') => lmember_any ao n c1 A u w' hc1 hc1m (hA.keep hb))
  have HV3 := Bx.mk (fun u w' b (h : b = true ↔ Vv u) => rvector_any u w' b h)
  have HPL := Bx.mk (fun b (h : b = true ↔ Vv (ps A (kk bn f) v n)) w' (hb : Below w.heap.size w w') => lplus_any ao bo n bn c1 c2 A f v w' va.1 hc1 hc2 hc2m (hA.keep hb) (hF.keep hb) (fun i j hi hj => by have := va.2.1 i j hi hj; omega) vv b h)
  have HSP := Bx.mk (ps_sp (M := A) (k := kk bn f) (v := v) n (Nat.le_refl _))
  have VA := Bx.mk va
  have VV' := Bx.mk vv
  obtain ⟨x, hx⟩ : ∃ x, ps A (kk bn f) v n = x := ⟨_, rfl⟩
  rw [hx] at HPL HSP
  clear hx
  obtain ⟨hV0, hB0⟩ := vec_new w v
  have HV0 := Bx.mk hV0
  have HB0 := Bx.mk hB0
  have M1 : Bx True := ⟨trivial⟩
  have M2 : Bx True := ⟨trivial⟩
  unfold PV at HR1 HM HV3 HPL ⊢
  clear hA hF va vv hV0 hB0
  go_enter Try.func6, Try.ntmps6
  go_wp2_with (first
    | (go_at_call 31; refine (lhead_any _).mono ?_; rintro e w1 ⟨rfl, b1⟩
       have B1 := Bx.mk (below_new b1)
       have V1 := Bx.mk (HV0.out.keep (b1.block w.heap.size HV0.out.lt))
       clear b1)
    | (go_at_call 20; refine (H1.out _ B1.out).mono ?_; clear H1; rintro e w2 ⟨rfl, b2⟩
       have B2 := Bx.mk (B1.out.trans (b2.mono B1.out.size))
       have V2 := V1.out.keep (b2.block w.heap.size V1.out.lt)
       have v0 := V2.c0
       have v1 := V2.c1
       have v2 := V2.c2
       have v3 := V2.c3
       have v4 := V2.c4
       have v5 := V2.c5
       have HV2 := Bx.mk V2
       clear b2 V2)
    | (clear M1; go_at_call 45; refine (HV3.out v w2 true ⟨fun _ => VV'.out, fun _ => rfl⟩).mono ?_; rintro e w3 ⟨rfl, b3⟩
       have B3 := Bx.mk (B2.out.trans (b3.mono B2.out.size))
       have V3 := HV2.out.keep (b3.block w.heap.size HV2.out.lt)
       have u0 := V3.c0
       have u1 := V3.c1
       have u2 := V3.c2
       have u3 := V3.c3
       have u4 := V3.c4
       have u5 := V3.c5
       have HV3' := Bx.mk V3
       clear b3 V3)
    | (clear M2; go_at_call 34; refine (HR1.out _ B3.out).mono ?_; clear HR1; rintro e w4 ⟨a, c, rfl, G, b4⟩
       have B4 := Bx.mk ((B3.out.trans (b4.out.mono B3.out.size)).trans ((above_new w4 (.cells #[.int .i64 (a 0), .int .i64 (a 1), .int .i64 (a 2), .int .i64 (a 3), .int .i64 (a 4), .int .i64 (a 5)] 36)).mono (Nat.le_trans B3.out.size b4.out.size)))
       have V4 := Bx.mk ((HV3'.out.keep (b4.out.block w.heap.size HV3'.out.lt)).keep ((above_new w4 (.cells #[.int .i64 (a 0), .int .i64 (a 1), .int .i64 (a 2), .int .i64 (a 3), .int .i64 (a 4), .int .i64 (a 5)] 36)).block w.heap.size (Nat.lt_of_lt_of_le HV3'.out.lt b4.out.size)))
       have A4 := Bx.mk (VB.new w4 a)
       have hw4 : w.heap.size < w4.heap.size := Nat.lt_of_lt_of_le HV3'.out.lt b4.out.size
       clear b4
       rcases G.out.split with ⟨rfl, G1⟩ | rfl)
    | (go_at_call 34; refine (HR2.out a G1.out _ B4.out).mono ?_; clear HR2; rintro e w5 ⟨rfl, b5⟩
       have B5 := Bx.mk (B4.out.trans (b5.out.mono B4.out.size))
       have A5 := (A4.out.keep (b5.out.block w4.heap.size A4.out.lt)).keep ((above_new w5 (.cells #[.int .i64 (a 0), .int .i64 (a 1), .int .i64 (a 2), .int .i64 (a 3), .int .i64 (a 4), .int .i64 (a 5)] 36)).block w4.heap.size (Nat.lt_of_lt_of_le A4.out.lt b5.out.size))
       have a0 := A5.c0
       have a1 := A5.c1
       have a2 := A5.c2
       have a3 := A5.c3
       have a4 := A5.c4
       have a5 := A5.c5
       have V5 := Bx.mk (V4.out.keep (b5.out.block w.heap.size V4.out.lt))
       have HA5 := Bx.mk (A4.out.keep (b5.out.block w4.heap.size A4.out.lt))
       have E6 : ∀ w, (Op.equalIn 10000 36 (.agg #[.int .i64 (a 0), .int .i64 (a 1), .int .i64 (a 2), .int .i64 (a 3), .int .i64 (a 4), .int .i64 (a 5)]) (.agg #[.int .i64 (a 0), .int .i64 (a 1), .int .i64 (a 2), .int .i64 (a 3), .int .i64 (a 4), .int .i64 (a 5)])).run Try.prog w = .ok true w := eq6_is 36 Try.underlying36 a a true ⟨fun _ _ _ => rfl, fun _ => rfl⟩
       clear b5 A5))
  · have hG := G1.out.good.choose_spec.choose_spec.choose_spec.2.1
    have HGV := Bx.mk hG
    have hs5 := B5.out.size
    have hw5 := HA5.out.lt
    obtain ⟨W6, hW6⟩ : ∃ W6, ((w5.alloc (.cells #[.int .i64 (a 0), .int .i64 (a 1), .int .i64 (a 2), .int .i64 (a 3), .int .i64 (a 4), .int .i64 (a 5)] 36)).alloc (.cells #[.int .i64 0, .int .i64 0, .int .i64 0, .int .i64 0, .int .i64 0, .int .i64 0] 36)) = W6 := ⟨_, rfl⟩
    have V6 := (V5.out.keep ((above_new w5 (.cells #[.int .i64 (a 0), .int .i64 (a 1), .int .i64 (a 2), .int .i64 (a 3), .int .i64 (a 4), .int .i64 (a 5)] 36)).block w.heap.size V5.out.lt)).keep ((above_new (w5.alloc (.cells #[.int .i64 (a 0), .int .i64 (a 1), .int .i64 (a 2), .int .i64 (a 3), .int .i64 (a 4), .int .i64 (a 5)] 36)) (.cells #[.int .i64 0, .int .i64 0, .int .i64 0, .int .i64 0, .int .i64 0, .int .i64 0] 36)).block w.heap.size (by rw [World.size_alloc]; omega))
    have A6 := (HA5.out.keep ((above_new w5 (.cells #[.int .i64 (a 0), .int .i64 (a 1), .int .i64 (a 2), .int .i64 (a 3), .int .i64 (a 4), .int .i64 (a 5)] 36)).block w4.heap.size hw5)).keep ((above_new (w5.alloc (.cells #[.int .i64 (a 0), .int .i64 (a 1), .int .i64 (a 2), .int .i64 (a 3), .int .i64 (a 4), .int .i64 (a 5)] 36)) (.cells #[.int .i64 0, .int .i64 0, .int .i64 0, .int .i64 0, .int .i64 0, .int .i64 0] 36)).block w4.heap.size (by rw [World.size_alloc]; omega))
    have Z6 := VB.new (w5.alloc (.cells #[.int .i64 (a 0), .int .i64 (a 1), .int .i64 (a 2), .int .i64 (a 3), .int .i64 (a 4), .int .i64 (a 5)] 36)) (fun _ => 0)
    have B6 := B5.out.trans (((above_new w5 (.cells #[.int .i64 (a 0), .int .i64 (a 1), .int .i64 (a 2), .int .i64 (a 3), .int .i64 (a 4), .int .i64 (a 5)] 36)).trans ((above_new (w5.alloc (.cells #[.int .i64 (a 0), .int .i64 (a 1), .int .i64 (a 2), .int .i64 (a 3), .int .i64 (a 4), .int .i64 (a 5)] 36)) (.cells #[.int .i64 0, .int .i64 0, .int .i64 0, .int .i64 0, .int .i64 0, .int .i64 0] 36)).mono (by simp))).mono hs5)
    rw [World.size_alloc] at Z6
    rw [hW6] at V6 A6 Z6 B6
    try rw [hW6]
    clear hW6
    have HV6 := Bx.mk V6
    have HA6 := Bx.mk A6
    have HZ6 := Bx.mk Z6
    have HB6 := Bx.mk B6
    clear V6 A6 Z6 B6 hG
    have hwa : w.heap.size < w5.heap.size + 1 := by omega
    have hwb : w4.heap.size < w5.heap.size + 1 := by omega
    go_loopw [59] (fun ix wr => ∃ l : Nat, l ≤ 6 ∧ ix = .int .i64 l ∧ Bx (VB wr (w5.heap.size + 1) (fun j => if j < l then v j - a j else 0)) ∧ Bx (VB wr w.heap.size v) ∧ Bx (VB wr w4.heap.size a) ∧ Bx (Below w.heap.size w wr)) (fun ix _ => 6 - (intOf ix).toNat)
    case atStart => exact ⟨0, by omega, rfl, ⟨HZ6.out.congr fun j _ => by simp⟩, HV6, HA6, HB6⟩
    case round =>
      obtain ⟨l, hl, rfl, IO, IV, IA, IB⟩ := hrel
      by_cases hl6 : l < 6
      · have c0 := IV.out.cellk hl6
        have c1 := IA.out.cellk hl6
        have c2 := IO.out.cellk hl6
        simp only [Nat.lt_irrefl, if_false] at c2
        have f0 := IO.out.f l
        have hl6' : (l : Int) < 6 := by omega
        have hb1 := VV'.out l hl6
        have hb2 := HGV.out l hl6
        obtain ⟨P, hP⟩ : ∃ P, v l = P := ⟨_, rfl⟩
        obtain ⟨Q, hQ⟩ : ∃ Q, a l = Q := ⟨_, rfl⟩
        rw [hP] at c0 hb1
        rw [hQ] at c1 hb2
        have HPQ := Bx.mk (show v l - a l = P - Q by rw [hP, hQ])
        have q3 : IntKind.i64.wrap (P - Q) = P - Q := by rw [IntWalk.i64_in] <;> omega
        have q4 : wrap64 (P - Q) = P - Q := by unfold wrap64; omega
        clear hP hQ
        have K1 := Bx.mk ((IO.out.setk hl6 (P - Q)).congr (v := fun j => if j < l + 1 then v j - a j else 0) (fun j hj => by
          by_cases e : j = l
          · subst e; simp [HPQ.out]
          · by_cases e2 : j < l
            · simp [e, e2, show j < l + 1 by omega]
            · simp [e, e2, show ¬ j < l + 1 by omega]))
        have K2 := Bx.mk (IV.out.keep (setCell_heap_ne (W := wr) (b := w5.heap.size + 1) (k := l) (z := .int .i64 (P - Q)) (by omega)))
        have K3 := Bx.mk (IA.out.keep (setCell_heap_ne (W := wr) (b := w5.heap.size + 1) (k := l) (z := .int .i64 (P - Q)) (by omega)))
        have K4 := Bx.mk (IB.out.setCell (p := ⟨w5.heap.size + 1, l, none⟩) (Nat.le_of_lt hwa) (.int .i64 (P - Q)))
        go_wp2_with fail
        go_region
        all_goals go_wp2_with fail
        all_goals first
          | exact ⟨⟨l + 1, by omega, by go_num, K1, K2, K3, K4⟩, by simp [intOf]; omega⟩
          | exact ⟨⟨l + 1, by omega, by go_num, ⟨K1.out.drew⟩, ⟨K2.out.drew⟩, ⟨K3.out.drew⟩, ⟨below_drew K4.out⟩⟩, by simp [intOf]; omega⟩
      · obtain rfl : l = 6 := by omega
        obtain ⟨off, ho⟩ : ∃ off : Nat → Int, (fun j => v j - a j) = off := ⟨_, rfl⟩
        have HO := Bx.mk (show VB wr (w5.heap.size + 1) off from IO.out.congr fun j hj => by rw [← ho]; simp [hj])
        have HOS := Bx.mk (show Sp A n 6 off by rw [← ho]; exact G1.out.off)
        clear ho IO
        have o0 := HO.out.c0
        have o1 := HO.out.c1
        have o2 := HO.out.c2
        have o3 := HO.out.c3
        have o4 := HO.out.c4
        have o5 := HO.out.c5
        obtain ⟨b7, hb7⟩ := bool_of (Vv off)
        have HB7 := Bx.mk hb7
        obtain ⟨b9, hb9⟩ := bool_of (Vv x)
        have HB9 := Bx.mk hb9
        clear hb7 hb9
        go_wp2_with (first
          | (go_at_call 45; refine (HV3.out off wr b7 HB7.out).mono ?_; rintro e w7 ⟨rfl, c7⟩
             have B7 := Bx.mk (IB.out.trans (c7.mono IB.out.size))
             have V7 := IV.out.keep (c7.block w.heap.size IV.out.lt)
             have A7 := IA.out.keep (c7.block w4.heap.size IA.out.lt)
             have O7 := HO.out.keep (c7.block (w5.heap.size + 1) HO.out.lt)
             have d0 := V7.c0
             have d1 := V7.c1
             have d2 := V7.c2
             have d3 := V7.c3
             have d4 := V7.c4
             have d5 := V7.c5
             have e0 := O7.c0
             have e1 := O7.c1
             have e2 := O7.c2
             have e3 := O7.c3
             have e4 := O7.c4
             have e5 := O7.c5
             have HV7 := Bx.mk V7
             have HA7 := Bx.mk A7
             clear c7 V7 A7 O7
             cases b7)
          | (go_at_call 32; refine (HM.out off w7 B7.out).mono ?_; rintro e w8 ⟨lo, nn, lc, b', c, rfl, hm, c8⟩
             have B8 := Bx.mk (B7.out.trans (c8.out.mono B7.out.size))
             have V8 := HV7.out.keep (c8.out.block w.heap.size HV7.out.lt)
             have HA8 := Bx.mk (HA7.out.keep (c8.out.block w4.heap.size HA7.out.lt))
             have d0 := V8.c0
             have d1 := V8.c1
             have d2 := V8.c2
             have d3 := V8.c3
             have d4 := V8.c4
             have d5 := V8.c5
             clear c8 V8
             rcases hm.out.yes VA.out (HB7.out.1 (by simp)) HOS.out with ⟨rfl, rfl⟩ | ⟨rfl, rfl⟩)
          | (go_at_call 44; refine (HPL.out b9 HB9.out w8 B8.out).mono ?_; rintro e w9 ⟨rfl, c9⟩
             have B9 := Bx.mk ((B8.out.trans (c9.mono B8.out.size)).trans ((above_new w9 (.cells #[.int .i64 (x 0), .int .i64 (x 1), .int .i64 (x 2), .int .i64 (x 3), .int .i64 (x 4), .int .i64 (x 5)] 36)).mono (Nat.le_trans B8.out.size c9.size)))
             have HA9 := Bx.mk ((HA8.out.keep (c9.block w4.heap.size HA8.out.lt)).keep ((above_new w9 (.cells #[.int .i64 (x 0), .int .i64 (x 1), .int .i64 (x 2), .int .i64 (x 3), .int .i64 (x 4), .int .i64 (x 5)] 36)).block w4.heap.size (Nat.lt_of_lt_of_le HA8.out.lt c9.size)))
             clear c9
             cases b9)
          | (go_at_call 44; refine (HPL.out b9 HB9.out w7 B7.out).mono ?_; rintro e w9 ⟨rfl, c9⟩
             have B9 := Bx.mk ((B7.out.trans (c9.mono B7.out.size)).trans ((above_new w9 (.cells #[.int .i64 (x 0), .int .i64 (x 1), .int .i64 (x 2), .int .i64 (x 3), .int .i64 (x 4), .int .i64 (x 5)] 36)).mono (Nat.le_trans B7.out.size c9.size)))
             have HA9 := Bx.mk ((HA7.out.keep (c9.block w4.heap.size HA7.out.lt)).keep ((above_new w9 (.cells #[.int .i64 (x 0), .int .i64 (x 1), .int .i64 (x 2), .int .i64 (x 3), .int .i64 (x 4), .int .i64 (x 5)] 36)).block w4.heap.size (Nat.lt_of_lt_of_le HA7.out.lt c9.size)))
             clear c9
             cases b9)
          | (go_at_call 34; refine (HR3.out a x G1.out (HB9.out.1 (by simp)) HSP.out _ B9.out).mono ?_; rintro e w10 ⟨u, c, rfl, hcc, c10⟩
             have B10 := Bx.mk (B9.out.trans (c10.out.mono B9.out.size))
             have A10 := (HA9.out.keep (c10.out.block w4.heap.size HA9.out.lt)).keep ((above_new w10 (.cells #[.int .i64 (u 0), .int .i64 (u 1), .int .i64 (u 2), .int .i64 (u 3), .int .i64 (u 4), .int .i64 (u 5)] 36)).block w4.heap.size (Nat.lt_of_lt_of_le HA9.out.lt c10.out.size))
             have d0 := A10.c0
             have d1 := A10.c1
             have d2 := A10.c2
             have d3 := A10.c3
             have d4 := A10.c4
             have d5 := A10.c5
             clear c10 A10
             rcases hcc with ⟨rfl, rfl⟩ | rfl))
        all_goals go_ret
        all_goals first
          | exact ⟨rfl, B10.out.trans ((above_new w10 _).mono B10.out.size)⟩
          | exact ⟨rfl, B9.out⟩
  · go_ret
    exact ⟨rfl, B4.out⟩
set_option maxRecDepth 100000 in
set_option maxHeartbeats 16000000 in
theorem rep_law (ao bo : Option Addr) (n bn c1 c2 : Nat) (A : Nat → Nat → Int) (f v : Nat → Int) (w : World) (hc1 : n ≤ c1) (hc1m : c1 ≤ maxLen) (hc2 : bn ≤ c2) (hc2m : c2 ≤ maxLen) (hA : CV w ao n A) (hF : CS w bo bn f) :
    Calls Try.prog 6 #[.slice ao n c1, PV v, .slice bo bn c2] w fun e w' => e = .returned (.bool true) ∧ Below w.heap.size w w' := by
  by_cases va : VM A n
  · by_cases vv : Vv v
    · exact rep_law1 ao bo n bn c1 c2 A f v w hc1 hc1m hc2 hc2m hA hF va vv
    · have H1 := Bx.mk (fun w' (hb : Below w.heap.size w w') => rvalid_any ao n c1 A w' hc1 hc1m (hA.keep hb) true ⟨fun _ => va, fun _ => rfl⟩)
      have HV3 := Bx.mk (fun w' => rvector_any v w' false ⟨fun e => Bool.noConfusion e, fun e => absurd e vv⟩)
      obtain ⟨hV0, hB0⟩ := vec_new w v
      have HV0 := Bx.mk hV0
      unfold PV at HV3 ⊢
      clear hA hF hV0 hB0
      go_enter Try.func6, Try.ntmps6
      go_wp2_with (first
        | (go_at_call 31; refine (lhead_any _).mono ?_; rintro e w1 ⟨rfl, b1⟩
           have B1 := Bx.mk (below_new b1)
           have V1 := Bx.mk (HV0.out.keep (b1.block w.heap.size HV0.out.lt))
           clear b1)
        | (go_at_call 20; refine (H1.out _ B1.out).mono ?_; clear H1; rintro e w2 ⟨rfl, b2⟩
           have B2 := Bx.mk (B1.out.trans (b2.mono B1.out.size))
           have V2 := V1.out.keep (b2.block w.heap.size V1.out.lt)
           have v0 := V2.c0
           have v1 := V2.c1
           have v2 := V2.c2
           have v3 := V2.c3
           have v4 := V2.c4
           have v5 := V2.c5
           clear b2 V2)
        | (go_at_call 45; refine (HV3.out _).mono ?_; rintro e w3 ⟨rfl, b3⟩
           have B3 := Bx.mk (B2.out.trans (b3.mono B2.out.size))
           clear b3))
      go_ret
      exact ⟨rfl, B3.out⟩
  · have H1 := Bx.mk (fun w' (hb : Below w.heap.size w w') => rvalid_any ao n c1 A w' hc1 hc1m (hA.keep hb) false ⟨fun e => Bool.noConfusion e, fun e => absurd e va⟩)
    unfold PV
    clear hA hF
    go_enter Try.func6, Try.ntmps6
    go_wp2_with (first
      | (go_at_call 31; refine (lhead_any _).mono ?_; rintro e w1 ⟨rfl, b1⟩
         have B1 := Bx.mk (below_new b1)
         clear b1)
      | (go_at_call 20; refine (H1.out _ B1.out).mono ?_; clear H1; rintro e w2 ⟨rfl, b2⟩
         have B2 := Bx.mk (B1.out.trans (b2.mono B1.out.size))
         clear b2))
    go_ret
    exact ⟨rfl, B2.out⟩
end Go.Proofs.Ytnbamjoadankmaa

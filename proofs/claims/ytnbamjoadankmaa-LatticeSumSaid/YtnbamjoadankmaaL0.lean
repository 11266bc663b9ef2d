/- The law: LatticeSum, where there is a sum. -/
import Derived.Test.YtnbamjoadankmaaLY
namespace Go.Proofs.Ytnbamjoadankmaa
open Go.RowKit D
theorem ins_succ {C M : Nat → Nat → Int} {l k : Nat} (h : ∀ t, t < k → Sp C l 6 (M t)) (hk : Sp C l 6 (M k)) : ∀ t, t < k + 1 → Sp C l 6 (M t) := fun t ht => by
  by_cases e : t = k
  · rw [e]; exact hk
  · exact h t (by omega)
set_option maxRecDepth 100000 in
set_option maxHeartbeats 16000000 in
theorem lsum_law2 (ao bo co : Option Addr) (n m l c1 c2 c3 : Nat) (A B C : Nat → Nat → Int) (w : World) (hc1 : n ≤ c1) (hc1m : c1 ≤ maxLen) (hc2 : m ≤ c2) (hc2m : c2 ≤ maxLen) (hc3 : l ≤ c3) (hc3m : c3 ≤ maxLen) (hA : CV w ao n A) (hB : CV w bo m B) (hC : CV w co l C) (hna : ao = none → n = 0 ∧ c1 = 0) (hnb : bo = none → m = 0 ∧ c2 = 0) (va : VM A n) (vb : VM B m) (vc : VM (cat A B n) (n + m)) (vC : ¬ VM C l) :
    Calls Try.prog 8 #[.slice ao n c1, .slice bo m c2, .slice co l c3] w fun e w' => e = .returned (.bool true) ∧ Below w.heap.size w w' := by
  have M1 : Bx True := ⟨trivial⟩
  have M2 : Bx True := ⟨trivial⟩
  have H1 := Bx.mk (fun w' (hb : Below w.heap.size w w') => lsum_any ao bo n m c1 c2 A B w' hc1 hc1m hc2 hc2m (hA.keep hb) (hB.keep hb) va vb hna hnb vc)
  have H2 := Bx.mk (fun w' (hb : Below w.heap.size w w') => lsum_any bo ao m n c2 c1 B A w' hc2 hc2m hc1 hc1m (hB.keep hb) (hA.keep hb) vb va hnb hna (vm_cat va vb vc))
  have H3 := Bx.mk (fun w' (hb : Below w.heap.size w w') => rvalid_any co l c3 C w' hc3 hc3m (hC.keep hb) false ⟨fun e => Bool.noConfusion e, fun e => absurd e vC⟩)
  clear hA hB hC va vb vc hna hnb
  go_enter Try.func8, Try.ntmps8
  go_wp2_with (first
    | (go_at_call 31; refine (lhead_any w).mono ?_; rintro e w1 ⟨rfl, b1⟩; have B1 := Bx.mk b1; clear b1)
    | (clear M1; go_at_call 38; refine (H1.out _ B1.out).mono ?_; clear H1; rintro e w2 ⟨ho, hc, q, O, p, rfl, k1, k2, HO2, HS, b2⟩; have B2 := Bx.mk (B1.out.trans (b2.out.mono B1.out.size)); clear b2)
    | (go_at_call 38; refine (H2.out _ B2.out).mono ?_; clear H2; rintro e w3 ⟨ho', hc', q', O', p', rfl, k3, k4, HO3', HS', b3⟩; have B3 := Bx.mk (B2.out.trans (b3.out.mono B2.out.size)); have HO3 := Bx.mk (HO2.out.keep b3.out); clear b3 HO2)
    | (go_at_call 23; refine (same_any ho ho' hc hc' q q' O O' w3 k1 k2 k3 k4 HO3.out HO3'.out true (cat_same HS.out HS'.out)).mono ?_; rintro e w4 ⟨rfl, b4⟩; have B4 := Bx.mk (B3.out.trans (b4.mono B3.out.size)); have HO4 := Bx.mk (HO3.out.keep b4); clear b4 HO3 HO3' HS')
    | (clear M2; go_at_call 20; obtain ⟨bo', hbo⟩ := bool_of (VM O q); have HBO := Bx.mk hbo; refine (rvalid_any ho q hc O w4 k1 k2 HO4.out bo' hbo).mono ?_; clear hbo; rintro e w5 ⟨rfl, b5⟩; have B5 := Bx.mk (B4.out.trans (b5.mono B4.out.size)); have HO5 := Bx.mk (HO4.out.keep b5); clear b5 HO4; cases bo')
    | (go_at_call 20; refine (H3.out _ B5.out).mono ?_; clear H3; rintro e w6 ⟨rfl, b6⟩; have B6 := Bx.mk (B5.out.trans (b6.mono B5.out.size)); clear b6))
  all_goals go_ret
  all_goals first | exact ⟨rfl, B6.out⟩ | exact ⟨rfl, B5.out⟩
set_option maxRecDepth 100000 in
set_option maxHeartbeats 32000000 in
theorem lsum_law1 (ao bo co : Option Addr) (n m l c1 c2 c3 : Nat) (A B C : Nat → Nat → Int) (w : World) (hc1 : n ≤ c1) (hc1m : c1 ≤ maxLen) (hc2 : m ≤ c2) (hc2m : c2 ≤ maxLen) (hc3 : l ≤ c3) (hc3m : c3 ≤ maxLen) (hA : CV w ao n A) (hB : CV w bo m B) (hC : CV w co l C) (hna : ao = none → n = 0 ∧ c1 = 0) (hnb : bo = none → m = 0 ∧ c2 = 0) (va : VM A n) (vb : VM B m) (vc : VM (cat A B n) (n + m)) (vC : VM C l) :
    Calls Try.prog 8 #[.slice ao n c1, .slice bo m c2, .slice co l c3] w fun e w' => e = .returned (.bool true) ∧ Below w.heap.size w w' := by
  have M1 : Bx True := ⟨trivial⟩
  have M2 : Bx True := ⟨trivial⟩
  have H1 := Bx.mk (fun w' (hb : Below w.heap.size w w') => lsum_any ao bo n m c1 c2 A B w' hc1 hc1m hc2 hc2m (hA.keep hb) (hB.keep hb) va vb hna hnb vc)
  have H2 := Bx.mk (fun w' (hb : Below w.heap.size w w') => lsum_any bo ao m n c2 c1 B A w' hc2 hc2m hc1 hc1m (hB.keep hb) (hA.keep hb) vb va hnb hna (vm_cat va vb vc))
  obtain ⟨tj, htj, htj2⟩ := Option.map_eq_some_iff.1 info_rows2
  simp only [Prod.mk.injEq] at htj2
  obtain ⟨hy0, hy1, hy2⟩ := htj2
  have HTJ := Bx.mk htj
  have H3 := Bx.mk (fun w' (hb : Below w.heap.size w w') => rvalid_any co l c3 C w' hc3 hc3m (hC.keep hb) true ⟨fun _ => vC, fun _ => rfl⟩)
  have HMC := Bx.mk (fun v w' (hb : Below w.heap.size w w') => lmember_any co l c3 C v w' hc3 hc3m (hC.keep hb))
  have HA := Bx.mk hA
  have HB := Bx.mk hB
  have VA := Bx.mk va
  have VB' := Bx.mk vb
  have VC := Bx.mk vC
  have HNA := Bx.mk hna
  have HNB := Bx.mk hnb
  have hn8 := va.1
  have hm8 := vb.1
  clear hA hB hC va vb vc vC hna hnb htj
  go_enter Try.func8, Try.ntmps8
  go_wp2_with (first
    | (go_at_call 31; refine (lhead_any w).mono ?_; rintro e w1 ⟨rfl, b1⟩; have B1 := Bx.mk b1; clear b1)
    | (clear M1; go_at_call 38; refine (H1.out _ B1.out).mono ?_; clear H1; rintro e w2 ⟨ho, hc, q, O, p, rfl, k1, k2, HO2, HS, b2⟩; have B2 := Bx.mk (B1.out.trans (b2.out.mono B1.out.size)); clear b2)
    | (go_at_call 38; refine (H2.out _ B2.out).mono ?_; clear H2; rintro e w3 ⟨ho', hc', q', O', p', rfl, k3, k4, HO3', HS', b3⟩; have B3 := Bx.mk (B2.out.trans (b3.out.mono B2.out.size)); have HO3 := Bx.mk (HO2.out.keep b3.out); clear b3 HO2)
    | (go_at_call 23; refine (same_any ho ho' hc hc' q q' O O' w3 k1 k2 k3 k4 HO3.out HO3'.out true (cat_same HS.out HS'.out)).mono ?_; rintro e w4 ⟨rfl, b4⟩; have B4 := Bx.mk (B3.out.trans (b4.mono B3.out.size)); have HO4 := Bx.mk (HO3.out.keep b4); clear b4 HO3 HO3' HS')
    | (clear M2; go_at_call 20; obtain ⟨bo', hbo⟩ := bool_of (VM O q); have HBO := Bx.mk hbo; refine (rvalid_any ho q hc O w4 k1 k2 HO4.out bo' hbo).mono ?_; clear hbo; rintro e w5 ⟨rfl, b5⟩; have B5 := Bx.mk (B4.out.trans (b5.mono B4.out.size)); have HO5 := Bx.mk (HO4.out.keep b5); clear b5 HO4; cases bo')
    | (go_at_call 20; refine (H3.out _ B5.out).mono ?_; clear H3; rintro e w6 ⟨rfl, b6⟩
       have B6 := Bx.mk (B5.out.trans (b6.mono B5.out.size))
       have HO6 := Bx.mk (HO5.out.keep b6)
       have HA6 := Bx.mk (HA.out.keep (B6.out.trans ((above_new w6 (.cells #[] 36)).mono B6.out.size)))
       have hbw : w.heap.size ≤ w6.heap.size := B6.out.size
       have HOE := Bx.mk (owns_none6 (base := w6.heap.size) (Nat.le_refl _) (World.alloc_heap_new w6 (.cells #[] 36)))
       have hz6 : w6.heap.size ≤ (w6.alloc (.cells #[] 36)).heap.size := by simp
       clear b6 HO5)
    | (at_builtin; refine wpList_append_any rfl (.tmp 62) (.tmp 63) 22 rfl w6.heap.size 36 tj _ 6 48 Try.underlying22 HTJ.out hy0 hy1 hy2 rfl (by decide) _ 0 [] rfl HOE.out ao n c1 (rowsL A n) rfl (rowsL_length A n) HNA.out (cv_news HA6.out) (rowsL_one A n) (by unfold maxLen; omega) (by omega) hz6 ?_
       intro v7 w7 ho7 hg7
       have B7 := Bx.mk (Below.grown (above_new w6 (.cells #[] 36)) hg7 hz6 (fun b hb => by cases hb; exact Nat.le_refl _))
       have HO7 := Bx.mk ho7
       have HB7 := Bx.mk (HB.out.keep (B6.out.trans (B7.out.mono hbw)))
       clear ho7 hg7)
    | (at_builtin; refine wpList_append_any rfl (.tmp 64) (.tmp 65) 22 rfl w6.heap.size 36 tj _ 6 48 Try.underlying22 HTJ.out hy0 hy1 hy2 rfl (by decide) _ _ _ rfl HO7.out bo m c2 (rowsL B m) rfl (rowsL_length B m) HNB.out (cv_news HB7.out) (rowsL_one B m) (by unfold maxLen; omega) (by omega) B7.out.size ?_
       intro v8 w8 ho8 hg8
       have B8 := Bx.mk (Below.grown B7.out hg8 B7.out.size (fun b hb => (own_lt HO7.out b hb).1))
       rw [Nat.zero_add, List.nil_append] at ho8
       obtain ⟨so, sc, rfl, hsc, hscm, hcv⟩ := cv_cat ho8
       have HCV := Bx.mk (show CV w8 so (n + m) (cat A B n) from hcv)
       have B8w := Bx.mk (B6.out.trans (B8.out.mono hbw))
       have HO8 := Bx.mk (HO6.out.keep B8.out)
       clear ho8 hg8 hcv))
  · go_ret
    exact ⟨rfl, B5.out⟩
  · have VO : Bx (VM O q) := ⟨HBO.out.1 (by simp)⟩
    have HMS := Bx.mk (fun v w' (hb : Below w8.heap.size w8 w') => lmember_any ho q hc O v w' k1 k2 (HO8.out.keep hb))
    have HSC : Bx (∀ k, (∀ t, t < n + m → Sp C l 6 (cat A B n t)) → k < q → Sp C l 6 (O k)) := ⟨fun k h hk => (HS.out.sub k hk).trans h⟩
    go_loopw [68, 7, 12] (fun ix u ib wr => ∃ (k : Nat) (bb : Bool), k ≤ n + m ∧ ix = .int .i64 k ∧ u = .bool true ∧ ib = .bool bb ∧ Bx (bb = true → ∀ t, t < k → Sp C l 6 (cat A B n t)) ∧ Bx (Below w8.heap.size w8 wr)) (fun ix _ _ _ => n + m - (intOf ix).toNat)
    case atStart => exact ⟨0, true, by omega, rfl, rfl, rfl, ⟨fun _ t ht => by omega⟩, ⟨Below.refl _ _⟩⟩
    case round =>
      obtain ⟨k, bb, hk, rfl, rfl, rfl, HIB, HBr⟩ := hrel
      by_cases hlt : k < n + m
      · obtain ⟨b6, o6, rfl, hb6, hcr⟩ := HCV.out (by omega)
        obtain ⟨a0, a1, a2, a3, a4, a5⟩ := row_six hcr hb6 HBr.out hlt
        have hki : (k : Int) < (n : Int) + m := by omega
        clear hcr
        have HX : Bx (Vv (cat A B n k)) := ⟨Vv.cat VA.out VB'.out hlt⟩
        have HXS : Bx (Sp O q 6 (cat A B n k)) := ⟨HS.out.rows k hlt⟩
        obtain ⟨x, hx⟩ : ∃ x, cat A B n k = x := ⟨_, rfl⟩
        rw [hx] at a0 a1 a2 a3 a4 a5 HX HXS
        have HXX := Bx.mk hx.symm
        clear hx
        have HQ8 : Bx (Below w8.heap.size w8 (wr.alloc (.cells #[.int .i64 (x 0), .int .i64 (x 1), .int .i64 (x 2), .int .i64 (x 3), .int .i64 (x 4), .int .i64 (x 5)] 36))) := ⟨HBr.out.trans ((above_new wr _).mono HBr.out.size)⟩
        have HVB := Bx.mk (VB.new wr x)
        have HM1 := Bx.mk (HMS.out x _ HQ8.out)
        have HM2 := Bx.mk (fun w' hb => HMC.out x w' hb)
        unfold PV at HM1 HM2
        have N1 : Bx True := ⟨trivial⟩
        cases bb with
        | true =>
            go_wp2_with (first
              | (clear N1; go_at_call 32; refine HM1.out.mono ?_; clear HM1; rintro e w9 ⟨lo, nn, lc, b', c, rfl, hm1, b9⟩
                 have B9 := Bx.mk (HQ8.out.trans (b9.out.mono HQ8.out.size))
                 have hVB := HVB.out.keep (b9.out.block wr.heap.size HVB.out.lt)
                 have d0 := hVB.c0
                 have d1 := hVB.c1
                 have d2 := hVB.c2
                 have d3 := hVB.c3
                 have d4 := hVB.c4
                 have d5 := hVB.c5
                 clear hVB b9
                 rcases hm1.out.yes VO.out HX.out HXS.out with ⟨rfl, rfl⟩ | ⟨rfl, rfl⟩)
              | (go_at_call 32; refine (HM2.out _ (B8w.out.trans (B9.out.mono B8w.out.size))).mono ?_; clear HM2; rintro e w10 ⟨lo2, nn2, lc2, b2', c2', rfl, hm2, b10⟩
                 have B10 := Bx.mk (B9.out.trans (b10.out.mono B9.out.size))
                 clear b10
                 rcases hm2.out.three VC.out HX.out with ⟨rfl, rfl, HI2⟩ | ⟨rfl, rfl, HI2⟩ | ⟨rfl, rfl⟩))
            all_goals first
              | exact ⟨⟨k + 1, true, by omega, by go_num, rfl, rfl, ⟨fun _ => ins_succ (HIB.out (by simp)) (HXX.out ▸ HI2.out)⟩, B10⟩, by simp [intOf]; omega⟩
              | exact ⟨⟨k + 1, false, by omega, by go_num, rfl, rfl, ⟨fun h => Bool.noConfusion h⟩, B10⟩, by simp [intOf]; omega⟩
        | false =>
            go_wp2_with (first
              | (clear N1; go_at_call 32; refine HM1.out.mono ?_; clear HM1; rintro e w9 ⟨lo, nn, lc, b', c, rfl, hm1, b9⟩
                 have B9 := Bx.mk (HQ8.out.trans (b9.out.mono HQ8.out.size))
                 have hVB := HVB.out.keep (b9.out.block wr.heap.size HVB.out.lt)
                 have d0 := hVB.c0
                 have d1 := hVB.c1
                 have d2 := hVB.c2
                 have d3 := hVB.c3
                 have d4 := hVB.c4
                 have d5 := hVB.c5
                 clear hVB b9
                 rcases hm1.out.yes VO.out HX.out HXS.out with ⟨rfl, rfl⟩ | ⟨rfl, rfl⟩)
              | (go_at_call 32; refine (HM2.out _ (B8w.out.trans (B9.out.mono B8w.out.size))).mono ?_; clear HM2; rintro e w10 ⟨lo2, nn2, lc2, b2', c2', rfl, hm2, b10⟩
                 have B10 := Bx.mk (B9.out.trans (b10.out.mono B9.out.size))
                 clear b10
                 rcases hm2.out.three VC.out HX.out with ⟨rfl, rfl, HI2⟩ | ⟨rfl, rfl, HI2⟩ | ⟨rfl, rfl⟩))
            all_goals first
              | exact ⟨⟨k + 1, true, by omega, by go_num, rfl, rfl, ⟨fun _ => ins_succ (HIB.out (by simp)) (HXX.out ▸ HI2.out)⟩, B10⟩, by simp [intOf]; omega⟩
              | exact ⟨⟨k + 1, false, by omega, by go_num, rfl, rfl, ⟨fun h => Bool.noConfusion h⟩, B10⟩, by simp [intOf]; omega⟩
      · obtain rfl : k = n + m := by omega
        have hkk : ¬ ((n : Int) + m < (n : Int) + m) := by omega
        have HO9 := Bx.mk (HO8.out.keep HBr.out)
        have hq6 := HS.out.six
        have HB9 := Bx.mk (B8w.out.trans (HBr.out.mono B8w.out.size))
        obtain ⟨w9, hw9⟩ : ∃ w9, wr = w9 := ⟨_, rfl⟩
        subst hw9
        clear HMS HBr
        cases bb with
        | true =>
          go_wp2_with fail
          go_loopw [109, 7] (fun ix u wx => ∃ k : Nat, k ≤ q ∧ ix = .int .i64 k ∧ u = .bool true ∧ Bx (Below wr.heap.size wr wx)) (fun ix _ _ => q - (intOf ix).toNat)
          case atStart => exact ⟨0, by omega, rfl, rfl, ⟨Below.refl _ _⟩⟩
          case round =>
            obtain ⟨k, hk, rfl, rfl, HBx⟩ := hrel
            by_cases hlt : k < q
            · obtain ⟨b6, o6, rfl, hb6, hcr⟩ := HO9.out (by omega)
              obtain ⟨a0, a1, a2, a3, a4, a5⟩ := row_six hcr hb6 HBx.out hlt
              have hki : (k : Int) < (q : Int) := by omega
              clear hcr
              have HX : Bx (Vv (O k)) := ⟨VO.out.row hlt⟩
              have HSX : Bx (Sp C l 6 (O k)) := ⟨HSC.out k (HIB.out (by simp)) hlt⟩
              obtain ⟨x, hx⟩ : ∃ x, O k = x := ⟨_, rfl⟩
              rw [hx] at a0 a1 a2 a3 a4 a5 HX HSX
              clear hx
              have HQ9 := Bx.mk (HBx.out.trans ((above_new wr (.cells #[.int .i64 (x 0), .int .i64 (x 1), .int .i64 (x 2), .int .i64 (x 3), .int .i64 (x 4), .int .i64 (x 5)] 36)).mono HBx.out.size))
              have HME := Bx.mk (HMC.out x _ (HB9.out.trans (HQ9.out.mono HB9.out.size)))
              unfold PV at HME
              go_wp2_with (first
                | (go_at_call 32; refine HME.out.mono ?_; clear HME; rintro e w9 ⟨lo, nn, lc, b', c, rfl, hm1, b9⟩
                   have B9 := Bx.mk (HQ9.out.trans (b9.out.mono HQ9.out.size))
                   clear b9
                   rcases hm1.out.yes VC.out HX.out HSX.out with ⟨rfl, rfl⟩ | ⟨rfl, rfl⟩))
              all_goals exact ⟨⟨k + 1, by omega, by go_num, rfl, B9⟩, by simp [intOf]; omega⟩
            · obtain rfl : k = q := by omega
              go_wp2_with fail
              go_ret
              exact ⟨rfl, HB9.out.trans (HBx.out.mono HB9.out.size)⟩
        | false =>
          go_wp2_with fail
          go_loopw [109, 7] (fun ix u wx => ∃ k : Nat, k ≤ q ∧ ix = .int .i64 k ∧ u = .bool true ∧ Bx (Below wr.heap.size wr wx)) (fun ix _ _ => q - (intOf ix).toNat)
          case atStart => exact ⟨0, by omega, rfl, rfl, ⟨Below.refl _ _⟩⟩
          case round =>
            obtain ⟨k, hk, rfl, rfl, HBx⟩ := hrel
            by_cases hlt : k < q
            · obtain ⟨b6, o6, rfl, hb6, hcr⟩ := HO9.out (by omega)
              obtain ⟨a0, a1, a2, a3, a4, a5⟩ := row_six hcr hb6 HBx.out hlt
              have hki : (k : Int) < (q : Int) := by omega
              clear hcr
              have HX : Bx (Vv (O k)) := ⟨VO.out.row hlt⟩
              obtain ⟨x, hx⟩ : ∃ x, O k = x := ⟨_, rfl⟩
              rw [hx] at a0 a1 a2 a3 a4 a5 HX
              clear hx
              have HQ9 := Bx.mk (HBx.out.trans ((above_new wr (.cells #[.int .i64 (x 0), .int .i64 (x 1), .int .i64 (x 2), .int .i64 (x 3), .int .i64 (x 4), .int .i64 (x 5)] 36)).mono HBx.out.size))
              have HME := Bx.mk (HMC.out x _ (HB9.out.trans (HQ9.out.mono HB9.out.size)))
              unfold PV at HME
              go_wp2_with (first
                | (go_at_call 32; refine HME.out.mono ?_; clear HME; rintro e w9 ⟨lo, nn, lc, b', c, rfl, hm1, b9⟩
                   have B9 := Bx.mk (HQ9.out.trans (b9.out.mono HQ9.out.size))
                   clear b9
                   rcases hm1.out.three VC.out HX.out with ⟨rfl, rfl, HI2⟩ | ⟨rfl, rfl, HI2⟩ | ⟨rfl, rfl⟩))
              all_goals exact ⟨⟨k + 1, by omega, by go_num, rfl, B9⟩, by simp [intOf]; omega⟩
            · obtain rfl : k = q := by omega
              go_wp2_with fail
              go_ret
              exact ⟨rfl, HB9.out.trans (HBx.out.mono HB9.out.size)⟩
theorem lsum_law (ao bo co : Option Addr) (n m l c1 c2 c3 : Nat) (A B C : Nat → Nat → Int) (w : World) (hc1 : n ≤ c1) (hc1m : c1 ≤ maxLen) (hc2 : m ≤ c2) (hc2m : c2 ≤ maxLen) (hc3 : l ≤ c3) (hc3m : c3 ≤ maxLen) (hA : CV w ao n A) (hB : CV w bo m B) (hC : CV w co l C) (hna : ao = none → n = 0 ∧ c1 = 0) (hnb : bo = none → m = 0 ∧ c2 = 0) :
    Calls Try.prog 8 #[.slice ao n c1, .slice bo m c2, .slice co l c3] w fun e w' => e = .returned (.bool true) ∧ Below w.heap.size w w' := by
  by_cases hv : VM A n ∧ VM B m
  · by_cases vc : VM (cat A B n) (n + m)
    · by_cases vC : VM C l
      · exact lsum_law1 ao bo co n m l c1 c2 c3 A B C w hc1 hc1m hc2 hc2m hc3 hc3m hA hB hC hna hnb hv.1 hv.2 vc vC
      · exact lsum_law2 ao bo co n m l c1 c2 c3 A B C w hc1 hc1m hc2 hc2m hc3 hc3m hA hB hC hna hnb hv.1 hv.2 vc vC
    · exact lsum_law0 ao bo co n m l c1 c2 c3 A B w hc1 hc1m hc2 hc2m hA hB hna hnb 2 (.inr ⟨rfl, hv.1, hv.2, vc⟩)
  · exact lsum_law0 ao bo co n m l c1 c2 c3 A B w hc1 hc1m hc2 hc2m hA hB hna hnb 1 (.inl ⟨rfl, hv⟩)
end Go.Proofs.Ytnbamjoadankmaa

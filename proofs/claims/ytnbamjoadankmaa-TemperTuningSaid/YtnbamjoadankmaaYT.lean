/- The program's temper: Tune. -/
import Derived.Test.YtnbamjoadankmaaYM
import Derived.Test.YtnbamjoadankmaaYP
import Derived.Test.YtnbamjoadankmaaYK
namespace Go.Proofs.Ytnbamjoadankmaa
open Go.RowKit D
theorem tune_boxes (w : World) (a : Option Addr) (n c : Nat) (v : Nat → Int) : ∀ W, ((w.alloc (.cells #[.slice a n c] 57)).alloc (.cells #[.int .i64 (v 0), .int .i64 (v 1), .int .i64 (v 2), .int .i64 (v 3), .int .i64 (v 4), .int .i64 (v 5)] 36)).alloc (.cells #[.int .i64 0, .int .i64 0, .int .i64 0, .int .i64 0, .int .i64 0, .int .i64 0] 65) = W → Boxed W w.heap.size 57 (.slice a n c) ∧ VT W (w.heap.size + 1) 36 v ∧ VT W (w.heap.size + 1 + 1) 65 (fun _ => 0) ∧ Below w.heap.size w W ∧ W.heap.size = w.heap.size + 3 := by
  rintro W rfl
  have h0 := Boxed.new w 57 (.slice a n c)
  have h1 := VT.new (w.alloc (.cells #[.slice a n c] 57)) 36 v
  have h2 := VT.new ((w.alloc (.cells #[.slice a n c] 57)).alloc (.cells #[.int .i64 (v 0), .int .i64 (v 1), .int .i64 (v 2), .int .i64 (v 3), .int .i64 (v 4), .int .i64 (v 5)] 36)) 65 (fun _ => 0)
  simp only [World.size_alloc] at h1 h2
  have k1 := Below.refl (w.heap.size + 1) (w.alloc (.cells #[.slice a n c] 57)) |>.alloc (by simp) (.cells #[.int .i64 (v 0), .int .i64 (v 1), .int .i64 (v 2), .int .i64 (v 3), .int .i64 (v 4), .int .i64 (v 5)] 36)
  have k2 := Below.refl (w.heap.size + 1 + 1) ((w.alloc (.cells #[.slice a n c] 57)).alloc (.cells #[.int .i64 (v 0), .int .i64 (v 1), .int .i64 (v 2), .int .i64 (v 3), .int .i64 (v 4), .int .i64 (v 5)] 36)) |>.alloc (by simp) (.cells #[.int .i64 0, .int .i64 0, .int .i64 0, .int .i64 0, .int .i64 0, .int .i64 0] 65)
  exact ⟨(k2.block _ (by omega)).trans ((k1.block _ (by omega)).trans h0), h1.keep (k2.block _ (by omega)), h2, (((Below.refl _ w).alloc (Nat.le_refl _) _).alloc (by simp) _).alloc (by simp; omega) _, by simp⟩
/-- Valid arguments of Tune. -/
def TuneOk (M G : Nat → Nat → Int) (n gn : Nat) (v : Nat → Int) : Prop := Tm M n ∧ Iv v ∧ gn = n ∧ ∀ j, j < gn → Pv (G j)
/-- What Tune answers. -/
def TuneOut (M G : Nat → Nat → Int) (n gn : Nat) (v : Nat → Int) (e : Ending) : Prop :=
  (TuneOk M G n gn v ∧ CkOut (tu M v G n) e) ∨ (¬ TuneOk M G n gn v ∧ e = .returned (.tuple #[PV (fun _ => 0), .int .i64 1]))
set_option maxRecDepth 100000 in
set_option maxHeartbeats 16000000 in
theorem tune_bad1 (a go : Option Addr) (n c gn gc : Nat) (M G : Nat → Nat → Int) (v : Nat → Int) (w : World) (hc1 : n ≤ c) (hc2 : c ≤ maxLen) (hR : CV w a n M) (hno : ¬ (Tm M n ∧ Iv v)) :
    Calls Try.prog 59 #[.agg #[.slice a n c], .slice go gn gc, PV v] w fun e w' => TuneOut M G n gn v e ∧ Below w.heap.size w w' := by
  obtain ⟨W, hW⟩ : ∃ W, ((w.alloc (.cells #[.slice a n c] 57)).alloc (.cells #[.int .i64 (v 0), .int .i64 (v 1), .int .i64 (v 2), .int .i64 (v 3), .int .i64 (v 4), .int .i64 (v 5)] 36)).alloc (.cells #[.int .i64 0, .int .i64 0, .int .i64 0, .int .i64 0, .int .i64 0, .int .i64 0] 65) = W := ⟨_, rfl⟩
  obtain ⟨h0, hV, hZ, hB, hs⟩ := tune_boxes w a n c v W hW
  have m0 := h0.cell
  have v0 := hV.c0
  have v1 := hV.c1
  have v2 := hV.c2
  have v3 := hV.c3
  have v4 := hV.c4
  have v5 := hV.c5
  have hlZ := hZ.lt
  have HZ := Bx.mk hZ
  have HB := Bx.mk hB
  have HNO := Bx.mk hno
  have H1 := Bx.mk (tfor_any a n c M v W hc1 hc2 (hR.keep hB))
  unfold PV at H1 ⊢
  clear h0 hV hZ hB hs hR hno
  go_enter Try.func59, Try.ntmps59
  go_wp2_with (first
    | (go_at_call 101; refine H1.out.mono ?_; clear H1 hW; rintro e w1 ⟨ho, k1⟩
       obtain rfl : e = .returned (.tuple #[.agg #[.slice none 0 0], .int .i64 1]) := by
         rcases ho with ⟨h1, h2, _⟩ | ⟨_, h3⟩
         · exact absurd ⟨h1, h2⟩ HNO.out
         · exact h3
       have B1 := Bx.mk (HB.out.trans (k1.mono HB.out.size))
       have BN := Bx.mk (B1.out.trans ((above_new w1 (.cells #[.slice none 0 0] 123)).mono B1.out.size))
       have Z1 := (HZ.out.keep (k1.block _ hlZ)).keep ((above_new w1 (.cells #[.slice none 0 0] 123)).block _ (Nat.lt_of_lt_of_le hlZ k1.size))
       have HZ1 := Bx.mk Z1
       have g0 := Z1.c0
       have g1 := Z1.c1
       have g2 := Z1.c2
       have g3 := Z1.c3
       have g4 := Z1.c4
       have g5 := Z1.c5
       have z0 := Z1.f 0
       have z1 := Z1.f 1
       have z2 := Z1.f 2
       have z3 := Z1.f 3
       have z4 := Z1.f 4
       have z5 := Z1.f 5
       clear k1 Z1 ho))
  all_goals go_wp2_with fail
  have V6 := HZ1.out.lit (fun _ => 0)
  have hb6 := but_lit (w.heap.size + 1 + 1) (w1.alloc (.cells #[.slice none 0 0] 123)) (fun _ => 0)
  have y0 := V6.c0
  have y1 := V6.c1
  have y2 := V6.c2
  have y3 := V6.c3
  have y4 := V6.c4
  have y5 := V6.c5
  have HBF := Bx.mk (BN.out.trans (but_below hb6 (n := w.heap.size) (by omega) BN.out.size))
  refine bodyPost_ret_by (v := .tuple #[.agg #[.int .i64 0, .int .i64 0, .int .i64 0, .int .i64 0, .int .i64 0, .int .i64 0], .int .i64 1]) (by simp [results, Try.results59, go_sem, y0, y1, y2, y3, y4, y5]) rfl ?_
  exact ⟨.inr ⟨fun h => HNO.out ⟨h.1, h.2.1⟩, rfl⟩, HBF.out⟩
end Go.Proofs.Ytnbamjoadankmaa
/- The program's temper: Tune, more. -/
namespace Go.Proofs.Ytnbamjoadankmaa
open Go.RowKit D
set_option maxRecDepth 100000 in
set_option maxHeartbeats 16000000 in
theorem tune_bad2 (a go : Option Addr) (n c gn gc : Nat) (M G : Nat → Nat → Int) (v : Nat → Int) (w : World) (hc1 : n ≤ c) (hc2 : c ≤ maxLen) (hR : CV w a n M) (hM : Tm M n) (hv : Iv v) (hgm : gn ≤ gc ∧ gc ≤ maxLen) (hne : gn ≠ n) :
    Calls Try.prog 59 #[.agg #[.slice a n c], .slice go gn gc, PV v] w fun e w' => TuneOut M G n gn v e ∧ Below w.heap.size w w' := by
  obtain ⟨W, hW⟩ : ∃ W, ((w.alloc (.cells #[.slice a n c] 57)).alloc (.cells #[.int .i64 (v 0), .int .i64 (v 1), .int .i64 (v 2), .int .i64 (v 3), .int .i64 (v 4), .int .i64 (v 5)] 36)).alloc (.cells #[.int .i64 0, .int .i64 0, .int .i64 0, .int .i64 0, .int .i64 0, .int .i64 0] 65) = W := ⟨_, rfl⟩
  obtain ⟨h0, hV, hZ, hB, hs⟩ := tune_boxes w a n c v W hW
  have m0 := h0.cell
  have v0 := hV.c0
  have v1 := hV.c1
  have v2 := hV.c2
  have v3 := hV.c3
  have v4 := hV.c4
  have v5 := hV.c5
  have hlZ := hZ.lt
  have HZ := Bx.mk hZ
  have HB := Bx.mk hB
  have HT := Bx.mk (And.intro hM hv)
  have HNE := Bx.mk hne
  have H1 := Bx.mk (tfor_any a n c M v W hc1 hc2 (hR.keep hB))
  unfold PV at H1 ⊢
  clear h0 hV hZ hB hs hR hM hv hne
  go_enter Try.func59, Try.ntmps59
  go_wp2_with (first
    | (go_at_call 101; refine H1.out.mono ?_; clear H1 hW; rintro e w1 ⟨ho, k1⟩
       obtain rfl : e = .returned (.tuple #[.agg #[.slice a n c], .int .i64 0]) := by
         rcases ho with ⟨_, _, h3⟩ | ⟨h1, _⟩
         · exact h3
         · exact absurd HT.out h1
       have B1 := Bx.mk (HB.out.trans (k1.mono HB.out.size))
       have BN := Bx.mk (B1.out.trans ((above_new w1 (.cells #[.slice a n c] 123)).mono B1.out.size))
       have Z1 := (HZ.out.keep (k1.block _ hlZ)).keep ((above_new w1 (.cells #[.slice a n c] 123)).block _ (Nat.lt_of_lt_of_le hlZ k1.size))
       have HZ1 := Bx.mk Z1
       have X1c := (Boxed.new w1 123 (.slice a n c)).cell
       have g0 := Z1.c0
       have g1 := Z1.c1
       have g2 := Z1.c2
       have g3 := Z1.c3
       have g4 := Z1.c4
       have g5 := Z1.c5
       have z0 := Z1.f 0
       have z1 := Z1.f 1
       have z2 := Z1.f 2
       have z3 := Z1.f 3
       have z4 := Z1.f 4
       have z5 := Z1.f 5
       clear k1 Z1 ho))
  all_goals go_wp2_with fail
  · exact absurd (show gn = n by omega) HNE.out
  have V6 := HZ1.out.lit (fun _ => 0)
  have hb6 := but_lit (w.heap.size + 1 + 1) (w1.alloc (.cells #[.slice a n c] 123)) (fun _ => 0)
  have y0 := V6.c0
  have y1 := V6.c1
  have y2 := V6.c2
  have y3 := V6.c3
  have y4 := V6.c4
  have y5 := V6.c5
  have HBF := Bx.mk (BN.out.trans (but_below hb6 (n := w.heap.size) (by omega) BN.out.size))
  refine bodyPost_ret_by (v := .tuple #[.agg #[.int .i64 0, .int .i64 0, .int .i64 0, .int .i64 0, .int .i64 0, .int .i64 0], .int .i64 1]) (by simp [results, Try.results59, go_sem, y0, y1, y2, y3, y4, y5]) rfl ?_
  exact ⟨.inr ⟨fun h => HNE.out h.2.2.1, rfl⟩, HBF.out⟩
end Go.Proofs.Ytnbamjoadankmaa
/- The program's temper: Tune, the rest. -/
namespace Go.Proofs.Ytnbamjoadankmaa
open Go.RowKit D
set_option maxRecDepth 100000 in
set_option maxHeartbeats 32000000 in
theorem tune_same (a go : Option Addr) (n c gc : Nat) (M G : Nat → Nat → Int) (v : Nat → Int) (w : World) (hc1 : n ≤ c) (hc2 : c ≤ maxLen) (hR : CV w a n M) (hM : Tm M n) (hv : Iv v) (hgc : n ≤ gc) (hgm : gc ≤ maxLen) (hS : CV w go n G) :
    Calls Try.prog 59 #[.agg #[.slice a n c], .slice go n gc, PV v] w fun e w' => TuneOut M G n n v e ∧ Below w.heap.size w w' := by
  obtain ⟨W, hW⟩ : ∃ W, ((w.alloc (.cells #[.slice a n c] 57)).alloc (.cells #[.int .i64 (v 0), .int .i64 (v 1), .int .i64 (v 2), .int .i64 (v 3), .int .i64 (v 4), .int .i64 (v 5)] 36)).alloc (.cells #[.int .i64 0, .int .i64 0, .int .i64 0, .int .i64 0, .int .i64 0, .int .i64 0] 65) = W := ⟨_, rfl⟩
  obtain ⟨h0, hV, hZ, hB, hs⟩ := tune_boxes w a n c v W hW
  have m0 := h0.cell
  have v0 := hV.c0
  have v1 := hV.c1
  have v2 := hV.c2
  have v3 := hV.c3
  have v4 := hV.c4
  have v5 := hV.c5
  have hlZ := hZ.lt
  have hlV := hV.lt
  have HV := Bx.mk hV
  have HZ := Bx.mk hZ
  have HB := Bx.mk hB
  have HT := Bx.mk (And.intro hM hv)
  have HR := Bx.mk hR
  have HS := Bx.mk hS
  have h3 := hM.three
  obtain ⟨b, hb⟩ := bool_of (∀ j, j < n → Pv (G j))
  have HG := Bx.mk hb
  have H1 := Bx.mk (tfor_any a n c M v W hc1 hc2 (hR.keep hB))
  have H2 := Bx.mk (fun w (hS : CV w go n G) => all_pitch go n gc G w (by omega) hgc hS b hb)
  have H3 := Bx.mk (fun w (hR : CV w a n M) (hS : CV w go n G) (hp : ∀ j, j < n → Pv (G j)) => tuned_any a go n c gc M G v w hc1 hgc hR hM hv hS (fun i j hi hj => by have := hp i hi j hj; omega))
  obtain ⟨u, hu⟩ : ∃ u, tu M v G n = u := ⟨_, rfl⟩
  rw [hu] at H3
  have HE := Bx.mk hu
  obtain ⟨bu, hbu⟩ := bool_of (Pv u)
  have HU := Bx.mk hbu
  have H4 := Bx.mk (fun w => pitchvalid_any u w bu hbu)
  unfold PV at H1 H3 H4 ⊢
  clear h0 hV hZ hB hs hR hM hv hS hb hu hbu
  go_enter Try.func59, Try.ntmps59
  go_wp2_with (first
    | (go_at_call 101; refine H1.out.mono ?_; clear H1 hW; rintro e w1 ⟨ho, k1⟩
       obtain rfl : e = .returned (.tuple #[.agg #[.slice a n c], .int .i64 0]) := by
         rcases ho with ⟨_, _, h3⟩ | ⟨h1, _⟩
         · exact h3
         · exact absurd HT.out h1
       have B1 := Bx.mk (HB.out.trans (k1.mono HB.out.size))
       have BN := Bx.mk (B1.out.trans ((above_new w1 (.cells #[.slice a n c] 123)).mono B1.out.size))
       have Z1 := (HZ.out.keep (k1.block _ hlZ)).keep ((above_new w1 (.cells #[.slice a n c] 123)).block _ (Nat.lt_of_lt_of_le hlZ k1.size))
       have V1 := (HV.out.keep (k1.block _ hlV)).keep ((above_new w1 (.cells #[.slice a n c] 123)).block _ (Nat.lt_of_lt_of_le hlV k1.size))
       have HZ1 := Bx.mk Z1
       have HV1 := Bx.mk V1
       have hlZ1 := Z1.lt
       have hlV1 := V1.lt
       have HX1 := Bx.mk (Boxed.new w1 123 (.slice a n c))
       have hlX1 := HX1.out.lt
       have X1c := HX1.out.cell
       clear k1 Z1 V1 ho)
    | (go_at_call 107; refine (H2.out (w1.alloc (.cells #[.slice a n c] 123)) (HS.out.keep BN.out)).mono ?_; clear H2; rintro e w2 ⟨rfl, k2⟩
       have B2 := Bx.mk (BN.out.trans (k2.mono BN.out.size))
       have Z2 := HZ1.out.keep (k2.block _ hlZ1)
       have V2 := HV1.out.keep (k2.block _ hlV1)
       have X2c := ((show Boxed w2 w1.heap.size 123 (.slice a n c) from (k2.block _ hlX1).trans HX1.out)).cell
       have HZ2 := Bx.mk Z2
       have hlZ2 := Z2.lt
       have g0 := Z2.c0
       have g1 := Z2.c1
       have g2 := Z2.c2
       have g3 := Z2.c3
       have g4 := Z2.c4
       have g5 := Z2.c5
       have z0 := Z2.f 0
       have z1 := Z2.f 1
       have z2 := Z2.f 2
       have z3 := Z2.f 3
       have z4 := Z2.f 4
       have z5 := Z2.f 5
       have v0 := V2.c0
       have v1 := V2.c1
       have v2 := V2.c2
       have v3 := V2.c3
       have v4 := V2.c4
       have v5 := V2.c5
       clear k2 Z2 V2
       cases b)
    | (go_at_call 109; refine (H3.out w2 (HR.out.keep B2.out) (HS.out.keep B2.out) (HG.out.1 (by simp))).mono ?_; clear H3; rintro e w3 ⟨rfl, k3⟩
       have B3 := Bx.mk (B2.out.trans (k3.mono B2.out.size))
       have BU := Bx.mk (B3.out.trans ((above_new w3 (.cells #[.int .i64 (u 0), .int .i64 (u 1), .int .i64 (u 2), .int .i64 (u 3), .int .i64 (u 4), .int .i64 (u 5)] 65)).mono B3.out.size))
       have Z3 := (HZ2.out.keep (k3.block _ hlZ2)).keep ((above_new w3 (.cells #[.int .i64 (u 0), .int .i64 (u 1), .int .i64 (u 2), .int .i64 (u 3), .int .i64 (u 4), .int .i64 (u 5)] 65)).block _ (Nat.lt_of_lt_of_le hlZ2 k3.size))
       have HZ3 := Bx.mk Z3
       have hlZ3 := Z3.lt
       have U3 := VT.new w3 65 u
       have HU3 := Bx.mk U3
       have hlU3 := U3.lt
       have u0 := U3.c0
       have u1 := U3.c1
       have u2 := U3.c2
       have u3 := U3.c3
       have u4 := U3.c4
       have u5 := U3.c5
       clear k3 Z3 U3)
    | (go_at_call 108; refine (H4.out (w3.alloc (.cells #[.int .i64 (u 0), .int .i64 (u 1), .int .i64 (u 2), .int .i64 (u 3), .int .i64 (u 4), .int .i64 (u 5)] 65))).mono ?_; clear H4; rintro e w4 ⟨rfl, k4⟩
       have B4 := Bx.mk (BU.out.trans (k4.mono BU.out.size))
       have Z4 := HZ3.out.keep (k4.block _ hlZ3)
       have U4 := HU3.out.keep (k4.block _ hlU3)
       have HZ4 := Bx.mk Z4
       have g0 := Z4.c0
       have g1 := Z4.c1
       have g2 := Z4.c2
       have g3 := Z4.c3
       have g4 := Z4.c4
       have g5 := Z4.c5
       have z0 := Z4.f 0
       have z1 := Z4.f 1
       have z2 := Z4.f 2
       have z3 := Z4.f 3
       have z4 := Z4.f 4
       have z5 := Z4.f 5
       have u0 := U4.c0
       have u1 := U4.c1
       have u2 := U4.c2
       have u3 := U4.c3
       have u4 := U4.c4
       have u5 := U4.c5
       clear k4 Z4 U4
       cases bu))
  all_goals go_wp2_with fail
  ·
    have V6 := HZ2.out.lit (fun _ => 0)
    have hb6 := but_lit (w.heap.size + 1 + 1) w2 (fun _ => 0)
    have y0 := V6.c0
    have y1 := V6.c1
    have y2 := V6.c2
    have y3 := V6.c3
    have y4 := V6.c4
    have y5 := V6.c5
    have HBF := Bx.mk (B2.out.trans (but_below hb6 (n := w.heap.size) (by omega) B2.out.size))
    refine bodyPost_ret_by (v := .tuple #[.agg #[.int .i64 0, .int .i64 0, .int .i64 0, .int .i64 0, .int .i64 0, .int .i64 0], .int .i64 1]) (by simp [results, Try.results59, go_sem, y0, y1, y2, y3, y4, y5]) rfl ?_
    exact ⟨.inr ⟨fun h => Bool.noConfusion (HG.out.2 h.2.2.2), rfl⟩, HBF.out⟩
  ·
    have V6 := HZ4.out.lit (fun _ => 0)
    have hb6 := but_lit (w.heap.size + 1 + 1) w4 (fun _ => 0)
    have y0 := V6.c0
    have y1 := V6.c1
    have y2 := V6.c2
    have y3 := V6.c3
    have y4 := V6.c4
    have y5 := V6.c5
    have HBF := Bx.mk (B4.out.trans (but_below hb6 (n := w.heap.size) (by omega) B4.out.size))
    refine bodyPost_ret_by (v := .tuple #[.agg #[.int .i64 0, .int .i64 0, .int .i64 0, .int .i64 0, .int .i64 0, .int .i64 0], .int .i64 3]) (by simp [results, Try.results59, go_sem, y0, y1, y2, y3, y4, y5]) rfl ?_
    exact ⟨.inl ⟨⟨HT.out.1, HT.out.2, rfl, HG.out.1 (by simp)⟩, by rw [HE.out]; exact .inr ⟨fun h => Bool.noConfusion (HU.out.2 h), rfl⟩⟩, HBF.out⟩
  ·
    have V6 := HZ4.out.lit u
    have hb6 := but_lit (w.heap.size + 1 + 1) w4 u
    have y0 := V6.c0
    have y1 := V6.c1
    have y2 := V6.c2
    have y3 := V6.c3
    have y4 := V6.c4
    have y5 := V6.c5
    have HBF := Bx.mk (B4.out.trans (but_below hb6 (n := w.heap.size) (by omega) B4.out.size))
    refine bodyPost_ret_by (v := .tuple #[.agg #[.int .i64 (u 0), .int .i64 (u 1), .int .i64 (u 2), .int .i64 (u 3), .int .i64 (u 4), .int .i64 (u 5)], .int .i64 0]) (by simp [results, Try.results59, go_sem, y0, y1, y2, y3, y4, y5]) rfl ?_
    exact ⟨.inl ⟨⟨HT.out.1, HT.out.2, rfl, HG.out.1 (by simp)⟩, by rw [HE.out]; exact .inl ⟨HU.out.1 (by simp), rfl⟩⟩, HBF.out⟩
end Go.Proofs.Ytnbamjoadankmaa
/- The program's temper: Tune, all cases. -/
namespace Go.Proofs.Ytnbamjoadankmaa
open Go.RowKit D
theorem tune_any (a go : Option Addr) (n c gn gc : Nat) (M G : Nat → Nat → Int) (v : Nat → Int) (w : World) (hc1 : n ≤ c) (hc2 : c ≤ maxLen) (hR : CV w a n M) (hgc : gn ≤ gc) (hgm : gc ≤ maxLen) (hS : CV w go gn G) :
    Calls Try.prog 59 #[.agg #[.slice a n c], .slice go gn gc, PV v] w fun e w' => TuneOut M G n gn v e ∧ Below w.heap.size w w' := by
  by_cases h : Tm M n ∧ Iv v
  · by_cases hg : gn = n
    · subst hg
      exact tune_same a go gn c gc M G v w hc1 hc2 hR h.1 h.2 hgc hgm hS
    · exact tune_bad2 a go n c gn gc M G v w hc1 hc2 hR h.1 h.2 ⟨hgc, hgm⟩ hg
  · exact tune_bad1 a go n c gn gc M G v w hc1 hc2 hR h
end Go.Proofs.Ytnbamjoadankmaa

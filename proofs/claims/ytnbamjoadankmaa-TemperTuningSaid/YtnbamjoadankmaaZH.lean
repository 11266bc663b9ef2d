/- The program's temper: Pure. -/
import Derived.Test.YtnbamjoadankmaaYT
import Derived.Test.YtnbamjoadankmaaYX
import Derived.Test.YtnbamjoadankmaaYF
import Derived.Test.YtnbamjoadankmaaYP
import Derived.Test.YtnbamjoadankmaaR6
namespace Go.Proofs.Ytnbamjoadankmaa
open Go.RowKit D
/-- What Pure answers. -/
def PureOut (M G : Nat → Nat → Int) (n gn : Nat) (v : Nat → Int) (e : Ending) : Prop :=
  (TuneOk M G n gn v ∧ Pv (tu M v G n) ∧ ∃ b : Bool, (b = true ↔ Pu M G v n) ∧ e = .returned (.tuple #[.bool b, .int .i64 0])) ∨ (TuneOk M G n gn v ∧ ¬ Pv (tu M v G n) ∧ e = .returned (.tuple #[.bool false, .int .i64 3])) ∨ (¬ TuneOk M G n gn v ∧ e = .returned (.tuple #[.bool false, .int .i64 1]))
theorem TuneOut.three {M G : Nat → Nat → Int} {n gn : Nat} {v : Nat → Int} {e : Ending} (h : TuneOut M G n gn v e) : (TuneOk M G n gn v ∧ Pv (tu M v G n) ∧ e = .returned (.tuple #[PV (tu M v G n), .int .i64 0])) ∨ (Bx (TuneOk M G n gn v ∧ ¬ Pv (tu M v G n)) ∧ e = .returned (.tuple #[PV (fun _ => 0), .int .i64 3])) ∨ (Bx (¬ TuneOk M G n gn v) ∧ e = .returned (.tuple #[PV (fun _ => 0), .int .i64 1])) := by
  rcases h with ⟨h, ⟨h1, h2⟩ | ⟨h1, h2⟩⟩ | ⟨h, h1⟩
  · exact .inl ⟨h, h1, h2⟩
  · exact .inr (.inl ⟨⟨h, h1⟩, h2⟩)
  · exact .inr (.inr ⟨⟨h⟩, h1⟩)
theorem one6 (w : World) (t : TypeId) (x : Nat → Int) : Below w.heap.size w (w.alloc (.cells #[.int .i64 (x 0), .int .i64 (x 1), .int .i64 (x 2), .int .i64 (x 3), .int .i64 (x 4), .int .i64 (x 5)] t)) := (Below.refl _ w).alloc (Nat.le_refl _) _
set_option maxRecDepth 100000 in
set_option maxHeartbeats 32000000 in
theorem pure_any (a go : Option Addr) (n c gn gc : Nat) (M G : Nat → Nat → Int) (v : Nat → Int) (w : World) (hc1 : n ≤ c) (hc2 : c ≤ maxLen) (hR : CV w a n M) (hgc : gn ≤ gc) (hgm : gc ≤ maxLen) (hS : CV w go gn G) :
    Calls Try.prog 61 #[.agg #[.slice a n c], .slice go gn gc, PV v] w fun e w' => PureOut M G n gn v e ∧ Below w.heap.size w w' := by
  obtain ⟨W, hW⟩ : ∃ W, (w.alloc (.cells #[.slice a n c] 57)).alloc (.cells #[.int .i64 (v 0), .int .i64 (v 1), .int .i64 (v 2), .int .i64 (v 3), .int .i64 (v 4), .int .i64 (v 5)] 36) = W := ⟨_, rfl⟩
  obtain ⟨h0, hv, hb, hs⟩ := map_boxes w a n c v W hW
  have m0 := h0.cell
  have v0 := hv.c0
  have v1 := hv.c1
  have v2 := hv.c2
  have v3 := hv.c3
  have v4 := hv.c4
  have v5 := hv.c5
  have HV := Bx.mk hv
  have hvl := hv.lt
  have HB := Bx.mk hb
  have H1 := Bx.mk (tune_any a go n c gn gc M G v W hc1 hc2 (hR.keep hb) hgc hgm (hS.keep hb))
  obtain ⟨u, hu⟩ : ∃ u, tu M v G n = u := ⟨_, rfl⟩
  have HE := Bx.mk hu
  obtain ⟨y, hy⟩ : ∃ y, sv (fun _ => 0) v 12 = y := ⟨_, rfl⟩
  have HY := Bx.mk hy
  have H2 := Bx.mk (fun (hi : Iv v) w => (of_any v w).mono (R' := fun e w' => e = .returned (.tuple #[PV y, .int .i64 0]) ∧ Bx (Below w.heap.size w w')) fun e w' ⟨h, b⟩ => by
    rcases h with ⟨_, h⟩ | ⟨h, _⟩
    · rw [hy] at h; exact ⟨h, ⟨b⟩⟩
    · exact absurd hi h)
  obtain ⟨p, hp⟩ := bool_of (∀ j, j < 6 → u j = y j)
  have HP := Bx.mk hp
  have E6 := eq6_is 65 Try.underlying65 u y p hp
  unfold PV at H2 E6 ⊢
  clear hR hS hv h0 hb hu hy hp hs
  go_enter Try.func61, Try.ntmps61
  go_wp2_with (first
    | (go_at_call 59; refine H1.out.mono ?_; clear H1 hW; rintro e w1 ⟨ho, k1⟩
       have B1 := Bx.mk (HB.out.trans (k1.mono HB.out.size))
       have V1 := HV.out.keep (k1.block _ hvl)
       have HV1 := Bx.mk V1
       have hv1l := V1.lt
       have v0 := V1.c0
       have v1 := V1.c1
       have v2 := V1.c2
       have v3 := V1.c3
       have v4 := V1.c4
       have v5 := V1.c5
       clear k1 V1
       have ho' := ho.three
       clear ho
       rw [HE.out] at ho'
       unfold PV at ho'
       rcases ho' with ⟨hok, hpv, rfl⟩ | ⟨hno, rfl⟩ | ⟨hno, rfl⟩)
    | (go_at_call 111; refine (H2.out hok.2.1 _).mono ?_; clear H2; rintro e w2 ⟨rfl, k2⟩
       have U1 := VT.new w1 65 u
       have hu1l := U1.lt
       have BU := Bx.mk (B1.out.trans ((one6 w1 65 u).mono B1.out.size))
       have B2 := Bx.mk (BU.out.trans (k2.out.mono BU.out.size))
       have UK := Bx.mk (U1.keep (k2.out.block _ hu1l))
       have U2 := UK.out.keep ((one6 w2 65 y).block _ (UK.out.lt))
       have Y2 := VT.new w2 65 y
       have u0 := U2.c0
       have u1 := U2.c1
       have u2 := U2.c2
       have u3 := U2.c3
       have u4 := U2.c4
       have u5 := U2.c5
       have y0 := Y2.c0
       have y1 := Y2.c1
       have y2 := Y2.c2
       have y3 := Y2.c3
       have y4 := Y2.c4
       have y5 := Y2.c5
       clear U1 U2 Y2))
  all_goals go_wp2_with fail
  · refine bodyPost_ret_by (v := .tuple #[.bool p, .int .i64 0]) (by simp [results, Try.results61, go_sem]) rfl ?_
    exact ⟨.inl ⟨hok, by rw [HE.out]; exact hpv, p, HP.out.trans ⟨fun h j hj => by rw [HE.out, h j hj, ← HY.out]; show (0 : Int) + 12 * v j = 12 * v j; omega, fun h j hj => by
      have e := h j hj
      rw [HE.out] at e
      rw [e, ← HY.out]; show 12 * v j = (0 : Int) + 12 * v j; omega⟩, rfl⟩, B2.out.trans ((one6 w2 65 y).mono B2.out.size)⟩
  · refine bodyPost_ret_by (v := .tuple #[.bool false, .int .i64 3]) (by simp [results, Try.results61, go_sem]) rfl ?_
    exact ⟨.inr (.inl ⟨hno.out.1, by rw [HE.out]; exact hno.out.2, rfl⟩), B1.out.trans ((one6 w1 65 (fun _ => 0)).mono B1.out.size)⟩
  · refine bodyPost_ret_by (v := .tuple #[.bool false, .int .i64 1]) (by simp [results, Try.results61, go_sem]) rfl ?_
    exact ⟨.inr (.inr ⟨hno.out, rfl⟩), B1.out.trans ((one6 w1 65 (fun _ => 0)).mono B1.out.size)⟩
end Go.Proofs.Ytnbamjoadankmaa
/- The program's temper: From. -/
namespace Go.Proofs.Ytnbamjoadankmaa
open Go.RowKit D
/-- The rows of a kernel. -/
structure KerS (C : Nat → Nat → Int) (k u : Nat) (O : Nat → Nat → Int) (p : Nat → Nat) : Prop where
  hf : Hf O u 6 p
  orth : ∀ i t, i < u → t < k → dot 6 (C t) (O i) = 0
  all : ∀ y, (∀ t, t < k → dot 6 (C t) y = 0) → Sp O u 6 y
  six : u ≤ 6
/-- What From answers. -/
def FrOut (C : Nat → Nat → Int) (k : Nat) (e : Ending) (w' : World) : Prop :=
  (¬ (VM C k ∧ ∀ j, j < k → Iv (C j)) ∧ e = .returned (.tuple #[.agg #[.slice none 0 0], .int .i64 1])) ∨
  (VM C k ∧ (∀ j, j < k → Iv (C j)) ∧ ∃ u O p, KerS C k u O p ∧ (((u = 0 ∨ 3 < u) ∧ e = .returned (.tuple #[.agg #[.slice none 0 0], .int .i64 4])) ∨ (0 < u ∧ u ≤ 3 ∧ ¬ Tm O u ∧ e = .returned (.tuple #[.agg #[.slice none 0 0], .int .i64 3])) ∨
    (Tm O u ∧ ∃ ho hc, e = .returned (.tuple #[.agg #[.slice ho u hc], .int .i64 0]) ∧ u ≤ hc ∧ hc ≤ maxLen ∧ CV w' ho u O)))
theorem KerOut.split {M : Nat → Nat → Int} {n : Nat} {e : Ending} {w' : World} (h : KerOut M n e w') : (Bx (¬ VM M n) ∧ e = .returned (.tuple #[.slice none 0 0, .int .i64 1])) ∨ (∃ (ho : Option Addr) (hc u : Nat) (O : Nat → Nat → Int) (p : Nat → Nat), e = .returned (.tuple #[.slice ho u hc, .int .i64 0]) ∧ u ≤ hc ∧ hc ≤ maxLen ∧ u ≤ 6 ∧ Bx (VM M n ∧ KerS M n u O p) ∧ Bx (CV w' ho u O)) := by
  rcases h with ⟨h, he⟩ | ⟨hv, ho, hc, u, O, p, he, hcv, h1, h2, h6, hO, k1, k2⟩
  · exact .inl ⟨⟨h⟩, he⟩
  · exact .inr ⟨ho, hc, u, O, p, he, h1, h2, h6, ⟨hv, hO, k1, k2, h6⟩, ⟨hcv⟩⟩
theorem setcell_cv {w : World} {ao : Option Addr} {n b : Nat} {M : Nat → Nat → Int} {y : Value} (h : CV w ao n M) (hb : ∀ ad, ao = some ad → ad.block ≠ b) : CV (w.setCell ⟨b, 0, none⟩ y) ao n M := fun hn => by
  obtain ⟨c, o, ha, hl, hc⟩ := h hn
  refine ⟨c, o, ha, by simpa using hl, fun i j hi hj => ?_⟩
  rw [← hc i j hi hj]
  exact cell_same (setCell_heap_ne (fun e => hb _ ha e))
theorem boxed_ne {w : World} {b : Nat} {t : TypeId} {s : Option Addr} {x y : Nat} {ao : Option Addr} {n : Nat} {M : Nat → Nat → Int} (h : Boxed w b t (.slice s x y)) (hM : CV w ao n M) (hn : 0 < n) {ad : Addr} (ha : ao = some ad) (hb : ad.block = b) : False := by
  obtain ⟨c, o, hc, _, hcells⟩ := hM hn
  rw [ha] at hc
  cases hc
  have h0 := hcells 0 0 hn (by omega)
  have h' : w.heap[c]? = some (.cells #[.slice s x y] t (0, 0)) := by
    have : c = b := hb
    rw [this]; exact h
  simp only [World.cell?, h'] at h0
  rcases Nat.eq_zero_or_pos (o + 0 * 6 + 0) with e | e
  · rw [e] at h0; simp at h0
  · rw [Array.getElem?_eq_none (by simp; omega)] at h0; simp at h0
set_option maxRecDepth 100000 in
set_option maxHeartbeats 16000000 in
theorem from_any (ao : Option Addr) (n c : Nat) (C : Nat → Nat → Int) (w : World) (hc1 : n ≤ c) (hc2 : c ≤ maxLen) (hR : CV w ao n C) :
    Calls Try.prog 57 #[.slice ao n c] w fun e w' => FrOut C n e w' ∧ Bx (Below w.heap.size w w') := by
  obtain ⟨W, hW⟩ : ∃ W, w.alloc (.cells #[.slice none 0 0] 57) = W := ⟨_, rfl⟩
  obtain ⟨h0, hb, hs⟩ := map_box w none 0 0 W hW
  have HM := Bx.mk h0
  have hl := h0.lt
  have HB := Bx.mk hb
  have HR := Bx.mk hR
  have H1 := Bx.mk (kernel_pub ao n c C W hc1 hc2 (hR.keep hb))
  have m0c := h0.cell
  have m0f := h0.frozen
  clear h0 hb hR
  by_cases hv : VM C n
  · obtain ⟨b, hb2⟩ := bool_of (∀ j, j < n → Iv (C j))
    have HI := Bx.mk hb2
    have hn8 : n ≤ 8 := hv.1
    have HV := Bx.mk hv
    have H2 := Bx.mk (fun w' (h : CV w' ao n C) => all_vec ao n c C w' (by omega) hc1 h b hb2)
    clear hb2 hv
    go_enter Try.func57, Try.ntmps57
    go_wp2_with (first
      | (go_at_call 24; refine H1.out.mono ?_; clear H1 hW; rintro e w1 ⟨ho, k1⟩
         obtain ⟨h0, hc, u, O, p, rfl, huc, hcm, hu6, HK, HC⟩ := (ho.split).resolve_left (fun h => h.1.out HV.out)
         have B1 := Bx.mk (HB.out.trans (k1.mono HB.out.size))
         have HM1 : Bx (Boxed w1 w.heap.size 57 (.slice none 0 0)) := ⟨(k1.block _ hl).trans HM.out⟩
         have m1c := HM1.out.cell
         have m1f := HM1.out.frozen
         clear ho k1 m0c m0f)
      | (go_at_call 106; refine (H2.out w1 (HR.out.keep B1.out)).mono ?_; clear H2; rintro e w2 ⟨rfl, k2⟩
         have B2 := Bx.mk (B1.out.trans (k2.mono B1.out.size))
         have HM2 : Bx (Boxed w2 w.heap.size 57 (.slice none 0 0)) := ⟨(k2.block _ HM1.out.lt).trans HM1.out⟩
         have HC2 := Bx.mk (HC.out.keep k2)
         have m2c := HM2.out.cell
         have m2f := HM2.out.frozen
         clear k2
         have hall : b = false ∨ (b = true ∧ u = 0) ∨ (b = true ∧ 3 < u ∧ (u : Int) > 3 ∧ ((u : Int) == 0) = false) ∨ (b = true ∧ ¬ 3 < u ∧ ¬ (u : Int) > 3 ∧ ((u : Int) == 0) = false ∧ Bx (0 < u)) := by
           rcases Bool.eq_false_or_eq_true b with h | h
           · by_cases h0 : u = 0
             · exact .inr (.inl ⟨h, h0⟩)
             · by_cases h3 : 3 < u
               · exact .inr (.inr (.inl ⟨h, h3, by omega, by simp; omega⟩))
               · exact .inr (.inr (.inr ⟨h, h3, by omega, by simp; omega, ⟨by omega⟩⟩))
           · exact .inl h
         rcases hall with rfl | ⟨rfl, rfl⟩ | ⟨rfl, hu3, hu3', hu0'⟩ | ⟨rfl, hu3, hu3', hu0', HU⟩)
      | (go_at_call 47; obtain ⟨bt, hbt⟩ := bool_of (Tm O u); refine (tvalid_any h0 u hc O _ huc hcm (HC2.out.keep (above_new w2 (.cells #[.slice h0 u hc] 57))) bt hbt).mono ?_; rintro e w3 ⟨rfl, k3⟩
         have BA := above_new w2 (.cells #[.slice h0 u hc] 57)
         have BN := B2.out.trans (BA.mono B2.out.size)
         have B3 := Bx.mk (BN.trans (k3.mono BN.size))
         have X2 := Boxed.new w2 57 (.slice h0 u hc)
         have HX3 : Bx (Boxed w3 w2.heap.size 57 (.slice h0 u hc)) := ⟨(k3.block _ X2.lt).trans X2⟩
         have HM3 : Bx (Boxed w3 w.heap.size 57 (.slice none 0 0)) := ⟨(k3.block _ (Nat.lt_of_lt_of_le HM2.out.lt BA.size)).trans ((BA.block _ HM2.out.lt).trans HM2.out)⟩
         have HC3 := Bx.mk ((HC2.out.keep BA).keep k3)
         have HTB := Bx.mk hbt
         have x3c := HX3.out.cell
         have m3c := HM3.out.cell
         have m3f := HM3.out.frozen
         clear k3 BA BN X2 hbt m2c m2f
         cases bt))
    all_goals go_wp2_with fail
    · have hcx := (HM2.out.set (.slice none 0 0)).cell
      have HBF := Bx.mk (B2.out.setCell (p := ⟨w.heap.size, 0, none⟩) (Nat.le_refl _) (.slice none 0 0))
      refine bodyPost_ret_by (v := .tuple #[.agg #[.slice none 0 0], .int .i64 1]) (by simp [results, Try.results57, go_sem, hcx]) rfl ?_
      exact ⟨.inl ⟨fun h => Bool.noConfusion (HI.out.2 h.2), rfl⟩, HBF⟩
    · have hcx := (HM2.out.set (.slice none 0 0)).cell
      have HBF := Bx.mk (B2.out.setCell (p := ⟨w.heap.size, 0, none⟩) (Nat.le_refl _) (.slice none 0 0))
      refine bodyPost_ret_by (v := .tuple #[.agg #[.slice none 0 0], .int .i64 4]) (by simp [results, Try.results57, go_sem, hcx]) rfl ?_
      exact ⟨.inr ⟨HV.out, HI.out.1 (by trivial), 0, O, p, HK.out.2, .inl ⟨.inl rfl, rfl⟩⟩, HBF⟩
    · have hcx := (HM2.out.set (.slice none 0 0)).cell
      have HBF := Bx.mk (B2.out.setCell (p := ⟨w.heap.size, 0, none⟩) (Nat.le_refl _) (.slice none 0 0))
      refine bodyPost_ret_by (v := .tuple #[.agg #[.slice none 0 0], .int .i64 4]) (by simp [results, Try.results57, go_sem, hcx]) rfl ?_
      exact ⟨.inr ⟨HV.out, HI.out.1 (by trivial), u, O, p, HK.out.2, .inl ⟨.inr hu3, rfl⟩⟩, HBF⟩
    · have hcx := (HM3.out.set (.slice none 0 0)).cell
      have HBF := Bx.mk (B3.out.setCell (p := ⟨w.heap.size, 0, none⟩) (Nat.le_refl _) (.slice none 0 0))
      refine bodyPost_ret_by (v := .tuple #[.agg #[.slice none 0 0], .int .i64 3]) (by simp [results, Try.results57, go_sem, hcx]) rfl ?_
      exact ⟨.inr ⟨HV.out, HI.out.1 (by trivial), u, O, p, HK.out.2, .inr (.inl ⟨HU.out, by omega, fun h => Bool.noConfusion (HTB.out.2 h), rfl⟩)⟩, HBF⟩
    · have hcx := (HM3.out.set (.slice h0 u hc)).cell
      have HBF := Bx.mk (B3.out.setCell (p := ⟨w.heap.size, 0, none⟩) (Nat.le_refl _) (.slice h0 u hc))
      refine bodyPost_ret_by (v := .tuple #[.agg #[.slice h0 u hc], .int .i64 0]) (by simp [results, Try.results57, go_sem, hcx]) rfl ?_
      refine ⟨.inr ⟨HV.out, HI.out.1 (by trivial), u, O, p, HK.out.2, .inr (.inr ⟨HTB.out.1 (by trivial), h0, hc, rfl, huc, hcm, setcell_cv HC3.out fun ad hq hb => ?_⟩)⟩, HBF⟩
      exact boxed_ne HM3.out HC3.out HU.out hq hb
  · have HV := Bx.mk hv
    clear hv
    go_enter Try.func57, Try.ntmps57
    go_wp2_with (first
      | (go_at_call 24; refine H1.out.mono ?_; clear H1 hW; rintro e w1 ⟨ho, k1⟩
         obtain rfl : e = .returned (.tuple #[.slice none 0 0, .int .i64 1]) := by
           rcases ho.split with h | ⟨_, _, _, _, _, _, _, _, _, h, _⟩
           · exact h.2
           · exact absurd h.out.1 HV.out
         have B1 := Bx.mk (HB.out.trans (k1.mono HB.out.size))
         have HM1 : Bx (Boxed w1 w.heap.size 57 (.slice none 0 0)) := ⟨(k1.block _ hl).trans HM.out⟩
         have m1c := HM1.out.cell
         have m1f := HM1.out.frozen
         clear ho k1 m0c m0f))
    all_goals go_wp2_with fail
    · have hcx := (HM1.out.set (.slice none 0 0)).cell
      have HBF := Bx.mk (B1.out.setCell (p := ⟨w.heap.size, 0, none⟩) (Nat.le_refl _) (.slice none 0 0))
      refine bodyPost_ret_by (v := .tuple #[.agg #[.slice none 0 0], .int .i64 1]) (by simp [results, Try.results57, go_sem, hcx]) rfl ?_
      exact ⟨.inl ⟨fun h => HV.out h.1, rfl⟩, HBF⟩
end Go.Proofs.Ytnbamjoadankmaa
/- schismaref07's Ints and Same. -/
namespace Go.Proofs.Ytnbamjoadankmaa
open Go.RowKit D
theorem ints7_any (ao bo : Option Addr) (c1 c2 n m : Nat) (A B : List Int) (w : World) (hn : A.length = n) (hm : B.length = m) (hc1 : n ≤ c1) (hc2 : c1 ≤ maxLen) (hc3 : m ≤ c2) (hc4 : c2 ≤ maxLen) (hA : CI w ao A) (hB : CI w bo B) (b : Bool) (hb : b = true ↔ A = B) :
    Calls Try.prog 51 #[.slice ao n c1, .slice bo m c2] w fun e w' => e = .returned (.bool b) ∧ Below w.heap.size w w' := by
  unfold maxLen at hc2 hc4
  by_cases hl : n = m
  · subst hl
    have HY := Bx.mk (show (∀ i, i < n → A.getD i 0 = B.getD i 0) → b = true from fun h => hb.2 (List.ext_getElem (by omega) fun i h1 h2 => by
      have := h i (by omega)
      rwa [List.getD_eq_getElem?_getD, List.getD_eq_getElem?_getD, List.getElem?_eq_getElem h1, List.getElem?_eq_getElem h2] at this))
    have HN := Bx.mk (show ∀ i, A.getD i 0 ≠ B.getD i 0 → b = false from fun i h => by
      cases hbb : b with
      | false => rfl
      | true => rw [hb.1 hbb] at h; exact absurd rfl h)
    have HHA := Bx.mk hn
    have HHB := Bx.mk hm
    clear hb hn hm
    go_enter Try.func51, Try.ntmps51
    go_wp2_with fail
    go_loopw [5] (fun i wr => ∃ k : Nat, k ≤ n ∧ i = .int .i64 k ∧ Bx (∀ i, i < k → A.getD i 0 = B.getD i 0) ∧ Below w.heap.size w wr) (fun i _ => n - (intOf i).toNat)
    case atStart => exact ⟨0, by omega, rfl, ⟨fun i hi => by omega⟩, Below.refl _ _⟩
    case round =>
      obtain ⟨k, hk, rfl, HE, hB'⟩ := hrel
      by_cases hlt : k < n
      · obtain ⟨b1, o1, rfl, hb1, hca⟩ := hA (by intro e; have := HHA.out; subst e; simp at this; omega)
        obtain ⟨b2, o2, rfl, hb2, hcb⟩ := hB (by intro e; have := HHB.out; subst e; simp at this; omega)
        have ha := hB'.cell (p := ⟨b1, o1 + k, none⟩) hb1
        have hbk := hB'.cell (p := ⟨b2, o2 + k, none⟩) hb2
        rw [hca k (by have := HHA.out; omega)] at ha
        rw [hcb k (by have := HHB.out; omega)] at hbk
        obtain ⟨x, hx⟩ : ∃ x, A.getD k 0 = x := ⟨_, rfl⟩
        obtain ⟨y, hy⟩ : ∃ y, B.getD k 0 = y := ⟨_, rfl⟩
        rw [hx] at ha; rw [hy] at hbk
        by_cases hxy : x = y
        · subst hxy
          have HE' := Bx.mk (show ∀ i, i < k + 1 → A.getD i 0 = B.getD i 0 from fun i hi => by
            rcases Nat.lt_or_eq_of_le (Nat.le_of_lt_succ hi) with z | z
            · exact HE.out i z
            · rw [z, hx, hy])
          clear hx hy hca hcb
          go_wp2_with fail
          go_region
          all_goals go_wp2_with fail
          all_goals exact ⟨⟨k + 1, by omega, by go_num, HE', (by repeat (first | with_reducible exact Below.refl _ _ | with_reducible exact hB' | (with_reducible refine Below.setCell ?_ ?side _; case side => (first | omega | (simp <;> omega))) | (with_reducible refine Below.alloc ?_ ?side _; case side => (first | omega | (simp <;> omega))) | with_reducible apply below_drewN | with_reducible apply below_drew))⟩, by simp [intOf]; omega⟩
        · obtain rfl : b = false := HN.out k (by rw [hx, hy]; exact hxy)
          have hxy' : (x == y) = false := by simpa using hxy
          clear hx hy hca hcb hxy
          go_wp2_with fail
          go_region
          all_goals go_wp2_with fail
          all_goals go_ret
          all_goals exact ⟨rfl, (by repeat (first | with_reducible exact Below.refl _ _ | with_reducible exact hB' | (with_reducible refine Below.setCell ?_ ?side _; case side => (first | omega | (simp <;> omega))) | (with_reducible refine Below.alloc ?_ ?side _; case side => (first | omega | (simp <;> omega))) | with_reducible apply below_drewN | with_reducible apply below_drew))⟩
      · obtain rfl : k = n := by omega
        obtain rfl : b = true := HY.out HE.out
        go_wp2_with fail
        go_ret
        exact ⟨rfl, (by repeat (first | with_reducible exact Below.refl _ _ | with_reducible exact hB' | (with_reducible refine Below.setCell ?_ ?side _; case side => (first | omega | (simp <;> omega))) | (with_reducible refine Below.alloc ?_ ?side _; case side => (first | omega | (simp <;> omega))) | with_reducible apply below_drewN | with_reducible apply below_drew))⟩
  · obtain rfl : b = false := by
      cases hbb : b with
      | false => rfl
      | true => rw [hb.1 hbb] at hn; omega
    have hl' : ((n : Int) == m) = false := by simp; omega
    go_enter Try.func51, Try.ntmps51
    go_wp2_with fail
    go_ret
    exact ⟨rfl, (by repeat (first | with_reducible exact Below.refl _ _ | with_reducible exact hB' | (with_reducible refine Below.setCell ?_ ?side _; case side => (first | omega | (simp <;> omega))) | (with_reducible refine Below.alloc ?_ ?side _; case side => (first | omega | (simp <;> omega))) | with_reducible apply below_drewN | with_reducible apply below_drew))⟩
end Go.Proofs.Ytnbamjoadankmaa
/- Same. -/
namespace Go.Proofs.Ytnbamjoadankmaa
open Go.RowKit D
theorem same7_any (ao bo : Option Addr) (c1 c2 n m : Nat) (A B : Nat → Nat → Int) (w : World) (hc1 : n ≤ c1) (hc2 : c1 ≤ maxLen) (hc3 : m ≤ c2) (hc4 : c2 ≤ maxLen) (hA : CV w ao n A) (hB : CV w bo m B) (b : Bool) (hb : b = true ↔ n = m ∧ ∀ i j, i < n → j < 6 → A i j = B i j) :
    Calls Try.prog 56 #[.slice ao n c1, .slice bo m c2] w fun e w' => e = .returned (.bool b) ∧ Below w.heap.size w w' := by
  unfold maxLen at hc2 hc4
  by_cases hl : n = m
  · subst hl
    have HY := Bx.mk (show (∀ i j, i < n → j < 6 → A i j = B i j) → b = true from fun h => hb.2 ⟨rfl, h⟩)
    have HN := Bx.mk (show ¬ (∀ i j, i < n → j < 6 → A i j = B i j) → b = false from fun h => by
      cases hbb : b with
      | false => rfl
      | true => exact absurd (hb.1 hbb).2 h)
    clear hb
    go_enter Try.func56, Try.ntmps56
    go_wp2_with fail
    go_loopw [5] (fun i wr => ∃ k : Nat, k ≤ n ∧ i = .int .i64 k ∧ Bx (∀ i j, i < k → j < 6 → A i j = B i j) ∧ Below w.heap.size w wr) (fun i _ => n - (intOf i).toNat)
    case atStart => exact ⟨0, by omega, rfl, ⟨fun i j hi => by omega⟩, Below.refl _ _⟩
    case round =>
      obtain ⟨k, hk, rfl, HE, hB'⟩ := hrel
      by_cases hlt : k < n
      · obtain ⟨b1, o1, rfl, hb1, hca⟩ := hA (by omega)
        obtain ⟨b2, o2, rfl, hb2, hcb⟩ := hB (by omega)
        have a0 := hB'.cell (p := ⟨b1, o1 + k * 6 + 0, none⟩) hb1
        have a1 := hB'.cell (p := ⟨b1, o1 + k * 6 + 1, none⟩) hb1
        have a2 := hB'.cell (p := ⟨b1, o1 + k * 6 + 2, none⟩) hb1
        have a3 := hB'.cell (p := ⟨b1, o1 + k * 6 + 3, none⟩) hb1
        have a4 := hB'.cell (p := ⟨b1, o1 + k * 6 + 4, none⟩) hb1
        have a5 := hB'.cell (p := ⟨b1, o1 + k * 6 + 5, none⟩) hb1
        have e0 := hB'.cell (p := ⟨b2, o2 + k * 6 + 0, none⟩) hb2
        have e1 := hB'.cell (p := ⟨b2, o2 + k * 6 + 1, none⟩) hb2
        have e2 := hB'.cell (p := ⟨b2, o2 + k * 6 + 2, none⟩) hb2
        have e3 := hB'.cell (p := ⟨b2, o2 + k * 6 + 3, none⟩) hb2
        have e4 := hB'.cell (p := ⟨b2, o2 + k * 6 + 4, none⟩) hb2
        have e5 := hB'.cell (p := ⟨b2, o2 + k * 6 + 5, none⟩) hb2
        rw [hca k _ hlt (by omega)] at a0 a1 a2 a3 a4 a5
        rw [hcb k _ hlt (by omega)] at e0 e1 e2 e3 e4 e5
        rw [Nat.add_zero] at a0 e0
        clear hca hcb
        by_cases hq : ∀ j, j < 6 → A k j = B k j
        · have E6 := eq6_is 36 Try.underlying36 (A k) (B k) true (by simpa using hq)
          have HE' := Bx.mk (show ∀ i j, i < k + 1 → j < 6 → A i j = B i j from fun i j hi hj => by
            rcases Nat.lt_or_eq_of_le (Nat.le_of_lt_succ hi) with z | z
            · exact HE.out i j z hj
            · rw [z]; exact hq j hj)
          clear hq
          go_wp2_with fail
          go_region
          all_goals go_wp2_with fail
          all_goals exact ⟨⟨k + 1, by omega, by go_num, HE', (by repeat (first | with_reducible exact Below.refl _ _ | with_reducible exact hB' | (with_reducible refine Below.setCell ?_ ?side _; case side => (first | omega | (simp <;> omega))) | (with_reducible refine Below.alloc ?_ ?side _; case side => (first | omega | (simp <;> omega))) | with_reducible apply below_drewN | with_reducible apply below_drew))⟩, by simp [intOf]; omega⟩
        · obtain rfl : b = false := HN.out fun h => hq fun j hj => h k j hlt hj
          have E6 := eq6_is 36 Try.underlying36 (A k) (B k) false (by simpa using hq)
          clear hq
          go_wp2_with fail
          go_region
          all_goals go_wp2_with fail
          all_goals go_ret
          all_goals exact ⟨rfl, (by repeat (first | with_reducible exact Below.refl _ _ | with_reducible exact hB' | (with_reducible refine Below.setCell ?_ ?side _; case side => (first | omega | (simp <;> omega))) | (with_reducible refine Below.alloc ?_ ?side _; case side => (first | omega | (simp <;> omega))) | with_reducible apply below_drewN | with_reducible apply below_drew))⟩
      · obtain rfl : k = n := by omega
        obtain rfl : b = true := HY.out HE.out
        go_wp2_with fail
        go_ret
        exact ⟨rfl, (by repeat (first | with_reducible exact Below.refl _ _ | with_reducible exact hB' | (with_reducible refine Below.setCell ?_ ?side _; case side => (first | omega | (simp <;> omega))) | (with_reducible refine Below.alloc ?_ ?side _; case side => (first | omega | (simp <;> omega))) | with_reducible apply below_drewN | with_reducible apply below_drew))⟩
  · obtain rfl : b = false := by
      cases hbb : b with
      | false => rfl
      | true => exact absurd (hb.1 hbb).1 hl
    have hl' : ((n : Int) == m) = false := by simp; omega
    go_enter Try.func56, Try.ntmps56
    go_wp2_with fail
    go_ret
    exact ⟨rfl, (by repeat (first | with_reducible exact Below.refl _ _ | with_reducible exact hB' | (with_reducible refine Below.setCell ?_ ?side _; case side => (first | omega | (simp <;> omega))) | (with_reducible refine Below.alloc ?_ ?side _; case side => (first | omega | (simp <;> omega))) | with_reducible apply below_drewN | with_reducible apply below_drew))⟩
end Go.Proofs.Ytnbamjoadankmaa
/- Temper: what the head of the laws calls. -/
namespace Go.Proofs.Ytnbamjoadankmaa
open Go.RowKit D
theorem rs_congr {m : Nat} {u v : Nat → Int} : ∀ k, k ≤ m → (∀ j, j < m → u j = v j) → rs k u = rs k v := by
  intro k
  induction k with
  | zero => intro _ _; rfl
  | succ k ih => intro hk h; simp only [rs]; rw [ih (by omega) h, h k (by omega)]
theorem vol_congr {A B : Nat → Nat → Int} {n : Nat} (e : ∀ i j, i < n → j < 6 → A i j = B i j) : ∀ k, k ≤ n → vol A 6 k = vol B 6 k := by
  intro k
  induction k with
  | zero => intro _; rfl
  | succ k ih => intro hk; simp only [vol]; rw [ih (by omega), rs_congr 6 (Nat.le_refl _) (fun j hj => e k j (by omega) hj)]
theorem Tm.at {A B : Nat → Nat → Int} {n : Nat} {p : Nat → Nat} (h : Tm A n) (e : ∀ i j, i < n → j < 6 → B i j = A i j) (hf : Hf B n 6 p) : Tm B n :=
  ⟨h.some, h.three, fun i hi j hj => by rw [e i j hi hj]; exact h.ent i hi j hj, ⟨h.vm.1, fun i j hi hj => by rw [e i j hi hj]; exact h.vm.2.1 i j hi hj, by rw [vol_congr e n (Nat.le_refl _)]; exact h.vm.2.2⟩, fun k => hf.rank (fun i hi => Sp.unit hi) (fun i hi => Sp.unit hi) k⟩
theorem pvt_congr {f g : Nat → Int} (h : ∀ j, j < 6 → f j = g j) : PV f = PV g := by
  unfold PV
  rw [h 0 (by omega), h 1 (by omega), h 2 (by omega), h 3 (by omega), h 4 (by omega), h 5 (by omega)]
theorem imgX (ao : Option Addr) (w : World) (hR : CV w ao 1 (lm txA)) : Calls Try.prog 49 #[.agg #[.slice ao 1 1], (.agg #[.int .i64 (-1), .int .i64 1, .int .i64 0, .int .i64 0, .int .i64 0, .int .i64 0])] w fun e w' => ∃ lo lc, e = .returned (.tuple #[.slice lo 1 lc, .int .i64 0]) ∧ 1 ≤ lc ∧ lc ≤ maxLen ∧ Bx (CI w' lo [7]) ∧ Bx (Below w.heap.size w w') :=
  (Image_any ao 1 1 (lm txA) (lm [-1, 1, 0, 0, 0, 0] 0) w (Nat.le_refl _) (by decide) hR).mono fun e w' ⟨h, hb⟩ => by
    rcases h with ⟨_, _, lo, lc, h1, h2, h3, h4⟩ | ⟨h, _⟩
    · have e : (List.range 1).map (img (lm txA) (lm [-1, 1, 0, 0, 0, 0] 0)) = [7] := by decide +kernel
      exact ⟨lo, lc, h1, h2, h3, ⟨e ▸ h4.out⟩, hb⟩
    · exact absurd ⟨tmA, by unfold Iv; decide +kernel⟩ h
theorem tmpX (ao : Option Addr) (w : World) (hR : CV w ao 1 (lm txA)) : Calls Try.prog 52 #[.agg #[.slice ao 1 1], (.agg #[.int .i64 (-4), .int .i64 4, .int .i64 (-1), .int .i64 0, .int .i64 0, .int .i64 0])] w fun e w' => e = .returned (.tuple #[.bool true, .int .i64 0]) ∧ Bx (Below w.heap.size w w') :=
  (Tempers_any ao 1 1 (lm txA) (lm [-4, 4, -1, 0, 0, 0] 0) w (Nat.le_refl _) (by decide) hR).mono fun e w' ⟨h, hb⟩ => by
    rcases h with ⟨_, _, b, h1, h2⟩ | ⟨h, _⟩
    · obtain rfl : b = true := h1.2 (by decide +kernel)
      exact ⟨h2, hb⟩
    · exact absurd ⟨tmA, by unfold Iv; decide +kernel⟩ h
theorem frC (ao : Option Addr) (w : World) (hR : CV w ao 4 (lm txC)) : Calls Try.prog 57 #[.slice ao 4 4] w fun e w' => ∃ ho hc, e = .returned (.tuple #[.agg #[.slice ho 2 hc], .int .i64 0]) ∧ 2 ≤ hc ∧ hc ≤ maxLen ∧ Bx (CV w' ho 2 (lm exH)) ∧ Bx (Below w.heap.size w w') :=
  (from_any ao 4 4 (lm txC) w (Nat.le_refl _) (by decide) hR).mono fun e w' ⟨h, hb⟩ => by
    rcases h with ⟨h, _⟩ | ⟨_, _, u, O, p, hk, h⟩
    · exact absurd ⟨vmC, by unfold Iv; decide +kernel⟩ h
    · obtain ⟨rfl, hO⟩ := ker_C hk.hf hk.orth hk.all
      rcases h with ⟨h, _⟩ | ⟨_, _, h, _⟩ | ⟨_, ho, hc, h1, h2, h3, h4⟩
      · omega
      · exact absurd (tmH.at hO hk.hf) h
      · exact ⟨ho, hc, h1, h2, h3, ⟨h4.congr hO⟩, hb⟩
theorem frS (ao : Option Addr) (w : World) (hR : CV w ao 1 (lm txS)) : Calls Try.prog 57 #[.slice ao 1 1] w fun e w' => e = .returned (.tuple #[.agg #[.slice none 0 0], .int .i64 4]) ∧ Bx (Below w.heap.size w w') :=
  (from_any ao 1 1 (lm txS) w (Nat.le_refl _) (by decide) hR).mono fun e w' ⟨h, hb⟩ => by
    rcases h with ⟨h, _⟩ | ⟨_, _, u, O, p, hk, h⟩
    · exact absurd ⟨vmS, by unfold Iv; decide +kernel⟩ h
    · obtain rfl := ker_S hk.hf hk.orth hk.all
      rcases h with ⟨_, h⟩ | ⟨_, h, _⟩ | ⟨h, _⟩
      · exact ⟨h, hb⟩
      · omega
      · have := h.three; omega
theorem kerX (ao : Option Addr) (w : World) (hR : CV w ao 2 (lm exH)) : Calls Try.prog 54 #[.agg #[.slice ao 2 2]] w fun e w' => ∃ ho hc, e = .returned (.tuple #[.slice ho 4 hc, .int .i64 0]) ∧ 4 ≤ hc ∧ hc ≤ maxLen ∧ Bx (CV w' ho 4 (lm exK)) ∧ Bx (Below w.heap.size w w') :=
  (TKernel_any ao 2 2 (lm exH) w (Nat.le_refl _) (by decide) hR).mono fun e w' ⟨h, hb⟩ => by
    rcases h with ⟨_, h⟩ | ⟨h, _⟩
    · rcases h with ⟨h, _⟩ | ⟨_, ho, hc, u, O, p, he, hcv, h1, h2, h6, hO, k1, k2⟩
      · exact absurd tmH.vm h
      · obtain ⟨rfl, e2⟩ := ker_H hO k1 k2
        exact ⟨ho, hc, he, h1, h2, ⟨hcv.congr e2⟩, hb⟩
    · exact absurd tmH h
theorem pvG : ∀ j, j < 2 → Pv (lm txG j) := two_rows (by unfold Pv; decide +kernel) (by unfold Pv; decide +kernel)
theorem okX1 : TuneOk (lm exH) (lm txG) 2 2 (lm [-1, 1, 0, 0, 0, 0] 0) := ⟨tmH, by unfold Iv; decide +kernel, rfl, pvG⟩
theorem okX2 : TuneOk (lm exH) (lm txG) 2 2 (lm [-2, 0, 1, 0, 0, 0] 0) := ⟨tmH, by unfold Iv; decide +kernel, rfl, pvG⟩
theorem tuneX (ao go : Option Addr) (w : World) (hR : CV w ao 2 (lm exH)) (hS : CV w go 2 (lm txG)) : Calls Try.prog 59 #[.agg #[.slice ao 2 2], .slice go 2 2, (.agg #[.int .i64 (-1), .int .i64 1, .int .i64 0, .int .i64 0, .int .i64 0, .int .i64 0])] w fun e w' => e = .returned (.tuple #[(.agg #[.int .i64 0, .int .i64 0, .int .i64 3, .int .i64 0, .int .i64 0, .int .i64 0]), .int .i64 0]) ∧ Bx (Below w.heap.size w w') :=
  (tune_any ao go 2 2 2 2 (lm exH) (lm txG) (lm [-1, 1, 0, 0, 0, 0] 0) w (Nat.le_refl _) (by decide) hR (Nat.le_refl _) (by decide) hS).mono fun e w' ⟨h, hb⟩ => by
    rcases h with ⟨_, ⟨_, h⟩ | ⟨h, _⟩⟩ | ⟨h, _⟩
    · exact ⟨h.trans (by rw [pvt_congr tu_one]; rfl), ⟨hb⟩⟩
    · exact absurd (by unfold Pv; decide +kernel) h
    · exact absurd okX1 h
theorem pureX1 (ao go : Option Addr) (w : World) (hR : CV w ao 2 (lm exH)) (hS : CV w go 2 (lm txG)) : Calls Try.prog 61 #[.agg #[.slice ao 2 2], .slice go 2 2, (.agg #[.int .i64 (-1), .int .i64 1, .int .i64 0, .int .i64 0, .int .i64 0, .int .i64 0])] w fun e w' => e = .returned (.tuple #[.bool false, .int .i64 0]) ∧ Bx (Below w.heap.size w w') :=
  (pure_any ao go 2 2 2 2 (lm exH) (lm txG) (lm [-1, 1, 0, 0, 0, 0] 0) w (Nat.le_refl _) (by decide) hR (Nat.le_refl _) (by decide) hS).mono fun e w' ⟨h, hb⟩ => by
    rcases h with ⟨_, _, b, h1, h2⟩ | ⟨_, h, _⟩ | ⟨h, _⟩
    · have hn : b ≠ true := fun e => absurd (h1.1 e) (by unfold Pu; decide +kernel)
      obtain rfl : b = false := by cases b <;> simp_all
      exact ⟨h2, ⟨hb⟩⟩
    · exact absurd (by unfold Pv; decide +kernel) h
    · exact absurd okX1 h
theorem pureX2 (ao go : Option Addr) (w : World) (hR : CV w ao 2 (lm exH)) (hS : CV w go 2 (lm txG)) : Calls Try.prog 61 #[.agg #[.slice ao 2 2], .slice go 2 2, (.agg #[.int .i64 (-2), .int .i64 0, .int .i64 1, .int .i64 0, .int .i64 0, .int .i64 0])] w fun e w' => e = .returned (.tuple #[.bool true, .int .i64 0]) ∧ Bx (Below w.heap.size w w') :=
  (pure_any ao go 2 2 2 2 (lm exH) (lm txG) (lm [-2, 0, 1, 0, 0, 0] 0) w (Nat.le_refl _) (by decide) hR (Nat.le_refl _) (by decide) hS).mono fun e w' ⟨h, hb⟩ => by
    rcases h with ⟨_, _, b, h1, h2⟩ | ⟨_, h, _⟩ | ⟨h, _⟩
    · obtain rfl : b = true := h1.2 (by unfold Pu; decide +kernel)
      exact ⟨h2, ⟨hb⟩⟩
    · exact absurd (by unfold Pv; decide +kernel) h
    · exact absurd okX2 h
set_option maxRecDepth 100000 in
theorem mean_any (w : World) : Calls Try.prog 98 #[] w fun e w' => ∃ a g, e = .returned (.tuple #[.agg #[.slice a 2 2], .slice g 2 2]) ∧ Bx (CV w' a 2 (lm exH)) ∧ Bx (CV w' g 2 (lm txG)) ∧ Bx (Below w.heap.size w w') := by
  obtain ⟨W, hW⟩ : ∃ W, w.alloc (.cells #[.slice none 0 0] 57) = W := ⟨_, rfl⟩
  obtain ⟨h0, hb, hs⟩ := map_box w none 0 0 W hW
  have h0c := h0.cell
  have h0f := h0.frozen
  have HB := Bx.mk hb
  have HM := Bx.mk h0
  obtain ⟨V, hV⟩ : ∃ V, W.setCell ⟨w.heap.size, 0, none⟩ (.slice (some ⟨w.heap.size + 1, 0, none⟩) 2 2) = V := ⟨_, rfl⟩
  have hVs : V.heap.size = w.heap.size + 1 := by rw [← hV]; simp [hs]
  have hVc : Boxed V w.heap.size 57 (.slice (some ⟨w.heap.size + 1, 0, none⟩) 2 2) := by rw [← hV]; exact h0.set _
  have hVb : Below w.heap.size w V := by rw [← hV]; exact hb.setCell (p := ⟨w.heap.size, 0, none⟩) (Nat.le_refl _) _
  have C1 := cv_lit V exH 2 36 rfl
  have A1 := above_new V (.cells (exH.map (Value.int .i64)).toArray 36)
  have C2 := cv_lit (V.alloc (.cells (exH.map (Value.int .i64)).toArray 36)) txG 2 65 rfl
  have A2 := above_new (V.alloc (.cells (exH.map (Value.int .i64)).toArray 36)) (.cells (txG.map (Value.int .i64)).toArray 65)
  have hs2 : (V.alloc (.cells (exH.map (Value.int .i64)).toArray 36)).heap.size = w.heap.size + 1 + 1 := by simp [hVs]
  rw [hs2] at C2
  rw [hVs] at C1
  have HC1 := Bx.mk (C1.keep A2)
  have HC2 := Bx.mk C2
  have hl2 := hVc.lt
  have HVb := Bx.mk ((hVb.trans (A1.mono hVb.size)).trans (A2.mono (hVb.trans (A1.mono hVb.size)).size))
  have hcx := cell_same (k := 0) ((A2.block _ (Nat.lt_of_lt_of_le hl2 A1.size)).trans (A1.block _ hl2))
  rw [hVc.cell] at hcx
  have HV := Bx.mk hV
  clear h0 hb C1 C2 A1 A2 hVc hVb hV
  go_enter Try.func98, Try.ntmps98
  go_wp2_with fail
  rw [HV.out]
  obtain ⟨Z, hZ⟩ : ∃ Z, (V.alloc (.cells #[.int .i64 1, .int .i64 0, .int .i64 (-4), .int .i64 0, .int .i64 0, .int .i64 0, .int .i64 0, .int .i64 1, .int .i64 4, .int .i64 0, .int .i64 0, .int .i64 0] 36)).alloc (.cells #[.int .i64 12, .int .i64 0, .int .i64 0, .int .i64 0, .int .i64 0, .int .i64 0, .int .i64 12, .int .i64 0, .int .i64 3, .int .i64 0, .int .i64 0, .int .i64 0] 65) = Z := ⟨_, rfl⟩
  have hcz : Z.cell? ⟨w.heap.size, 0, none⟩ = some (.slice (some ⟨w.heap.size + 1, 0, none⟩) 2 2) := by rw [← hZ]; exact hcx
  rw [hZ]
  refine bodyPost_ret_by (v := .tuple #[.agg #[.slice (some ⟨w.heap.size + 1, 0, none⟩) 2 2], .slice (some ⟨w.heap.size + 1 + 1, 0, none⟩) 2 2]) (by simp [results, Try.results98, go_sem, hcz]) rfl ?_
  subst hZ
  exact ⟨_, _, rfl, HC1, HC2, HVb⟩
end Go.Proofs.Ytnbamjoadankmaa

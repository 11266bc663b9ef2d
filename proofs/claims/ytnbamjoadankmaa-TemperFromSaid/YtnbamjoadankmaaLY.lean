/- The law: LatticeSame. -/
import Derived.Test.YtnbamjoadankmaaLX
namespace Go.Proofs.Ytnbamjoadankmaa
open Go.RowKit D
/-- What Member answers. -/
def Mem (A : Nat → Nat → Int) (n : Nat) (v : Nat → Int) (b : Bool) (c : Int) : Prop :=
  (c = 0 ∧ VM A n ∧ Vv v ∧ (b = true ↔ Sp A n 6 v)) ∨ (c = 3 ∧ b = false) ∨ (c = 1 ∧ b = false ∧ ¬ (VM A n ∧ Vv v))
theorem lmember_any (ao : Option Addr) (n c1 : Nat) (M : Nat → Nat → Int) (v : Nat → Int) (w : World) (hc1 : n ≤ c1) (hc2 : c1 ≤ maxLen) (hR : CV w ao n M) :
    Calls Try.prog 32 #[.slice ao n c1, PV v] w fun e w' => ∃ lo nn lc b c, e = .returned (.tuple #[.slice lo nn lc, .bool b, .int .i64 c]) ∧ Bx (Mem M n v b c) ∧ Bx (Below w.heap.size w w') := by
  by_cases h : VM M n ∧ VV v
  · refine (lmember_at ao n c1 M v w hc1 hc2 hR h.1 h.2).mono fun e w' ⟨q, O, p, hS, h6, hM, hb⟩ => ?_
    have hs : HfS M n O q p := ⟨hS.1, hS.2.1, hS.2.2, h6⟩
    rcases hM.split with ⟨lo, lc, he, hi⟩ | ⟨he, hi⟩ | ⟨he, hi⟩
    · exact ⟨_, _, _, _, _, he, ⟨.inl ⟨rfl, h.1, h.2, fun _ => (hs.sp v).2 (hi.out.sp hs.hf), fun _ => rfl⟩⟩, ⟨hb⟩⟩
    · exact ⟨_, _, _, _, _, he, ⟨.inl ⟨rfl, h.1, h.2, fun e => Bool.noConfusion e, fun k => absurd ((hs.sp v).1 k) (hi.out.sp hs.hf)⟩⟩, ⟨hb⟩⟩
    · exact ⟨_, _, _, _, _, he, ⟨.inr (.inl ⟨rfl, rfl⟩)⟩, ⟨hb⟩⟩
  · exact (lmember_bad ao n c1 M v w hc1 hc2 hR h).mono fun e w' ⟨he, hb⟩ => ⟨_, _, _, _, _, he, ⟨.inr (.inr ⟨rfl, rfl, h⟩)⟩, ⟨hb⟩⟩
theorem Mem.split {A : Nat → Nat → Int} {n : Nat} {v : Nat → Int} {b : Bool} {c : Int} (hA : VM A n) (hv : Vv v) (h : Mem A n v b c) : (c = 0 ∧ Bx (b = true ↔ Sp A n 6 v)) ∨ (c = 3 ∧ b = false) := by
  rcases h with ⟨h1, _, _, h2⟩ | ⟨h1, h2⟩ | ⟨_, _, h⟩
  · exact .inl ⟨h1, ⟨h2⟩⟩
  · exact .inr ⟨h1, h2⟩
  · exact absurd ⟨hA, hv⟩ h
theorem owns_none6 {w : World} {base g : Nat} {e : TypeId} (hb : base ≤ g) (h : w.heap[g]? = some (.cells #[] e (0, 0))) : w.ownsRow base e 6 (.slice (some ⟨g, 0, none⟩) 0 0) 0 [] :=
  ⟨rfl, .inr ⟨g, 0, #[], rfl, hb, h, Nat.le_refl _, Nat.zero_le _, rfl, rfl⟩⟩
/-- Each row of one is in the other. -/
def Bth (A B : Nat → Nat → Int) (n m k : Nat) : Prop := ∀ t, t < k → (t < n → Sp B m 6 (A t)) ∧ (¬ t < n → Sp A n 6 (B (t - n)))
theorem Bth.succ {A B : Nat → Nat → Int} {n m k : Nat} {bb b : Bool} {T : Prop} (h : bb = true ↔ Bth A B n m k) (hT : T ↔ (k < n → Sp B m 6 (A k)) ∧ (¬ k < n → Sp A n 6 (B (k - n)))) (hb : b = true ↔ T) : (bb && b) = true ↔ Bth A B n m (k + 1) := by
  rw [Bool.and_eq_true, h, hb, hT]
  refine ⟨fun h t ht => ?_, fun h => ⟨fun t ht => h t (by omega), h k (by omega)⟩⟩
  by_cases e : t = k
  · rw [e]; exact h.2
  · exact h.1 t (by omega)
theorem Bth.same {A B O O' : Nat → Nat → Int} {n m q q' : Nat} {p p' : Nat → Nat} {b : Bool} (hb : b = true ↔ q = q' ∧ ∀ i j, i < q → j < 6 → O i j = O' i j) (h1 : HfS A n O q p) (h2 : HfS B m O' q' p') : b = true ↔ Bth A B n m (n + m) := by
  rw [hb]
  constructor
  · rintro ⟨rfl, e⟩ t ht
    have k1 : ∀ i, i < q → Sp O' q 6 (O i) := fun i hi => (Sp.unit (M := O') (n := q) (m := 6) hi).congr fun j hj => e i j hi hj
    have k2 : ∀ i, i < q → Sp O q 6 (O' i) := fun i hi => (Sp.unit (M := O) (n := q) (m := 6) hi).congr fun j hj => (e i j hi hj).symm
    exact ⟨fun hn => (h2.sp _).2 ((h1.rows t hn).trans k1), fun hn => (h1.sp _).2 ((h2.rows (t - n) (by omega)).trans k2)⟩
  · intro h
    have k1 : ∀ t, t < n → Sp O' q' 6 (A t) := fun t ht => (h2.sp _).1 ((h t (by omega)).1 ht)
    have k2 : ∀ t, t < m → Sp O q 6 (B t) := fun t ht => (h1.sp _).1 (by have := (h (n + t) (by omega)).2 (by omega); rwa [Nat.add_sub_cancel_left] at this)
    have e := h1.hf.one h2.hf (fun i hi => (h2.sub i hi).trans k2) (fun i hi => (h1.sub i hi).trans k1)
    exact ⟨e.1, e.2.2⟩
set_option maxRecDepth 100000 in
set_option maxHeartbeats 16000000 in
theorem lsame_law (ao bo : Option Addr) (n m c1 c2 : Nat) (A B : Nat → Nat → Int) (w : World) (hc1 : n ≤ c1) (hc1m : c1 ≤ maxLen) (hc2 : m ≤ c2) (hc2m : c2 ≤ maxLen) (hA : CV w ao n A) (hB : CV w bo m B) (hna : ao = none → n = 0 ∧ c1 = 0) (hnb : bo = none → m = 0 ∧ c2 = 0) :
    Calls Try.prog 7 #[.slice ao n c1, .slice bo m c2] w fun e w' => e = .returned (.bool true) ∧ Below w.heap.size w w' := by
  have M1 : Bx True := ⟨trivial⟩
  by_cases va : VM A n
  · by_cases vb : VM B m
    · obtain ⟨tj, htj, htj2⟩ := Option.map_eq_some_iff.1 info_rows2
      simp only [Prod.mk.injEq] at htj2
      obtain ⟨hy0, hy1, hy2⟩ := htj2
      have HTJ := Bx.mk htj
      have H1 := Bx.mk (fun w' (hb : Below w.heap.size w w') => rvalid_any ao n c1 A w' hc1 hc1m (hA.keep hb) true ⟨fun _ => va, fun _ => rfl⟩)
      have H2 := Bx.mk (fun w' (hb : Below w.heap.size w w') => rvalid_any bo m c2 B w' hc2 hc2m (hB.keep hb) true ⟨fun _ => vb, fun _ => rfl⟩)
      have HS := Bx.mk (fun w' (hb : Below w.heap.size w w') => lsame_ok ao bo n m c1 c2 A B w' hc1 hc1m hc2 hc2m (hA.keep hb) (hB.keep hb) va vb)
      have HMA := Bx.mk (fun v w' (hb : Below w.heap.size w w') => lmember_any ao n c1 A v w' hc1 hc1m (hA.keep hb))
      have HMB := Bx.mk (fun v w' (hb : Below w.heap.size w w') => lmember_any bo m c2 B v w' hc2 hc2m (hB.keep hb))
      have HA := Bx.mk hA
      have HB := Bx.mk hB
      have VA := Bx.mk va
      have VB' := Bx.mk vb
      have HNA := Bx.mk hna
      have HNB := Bx.mk hnb
      have hn8 := va.1
      have hm8 := vb.1
      clear hA hB va vb hna hnb htj
      go_enter Try.func7, Try.ntmps7
      go_wp2_with (first
        | (go_at_call 31; refine (lhead_any w).mono ?_; rintro e w1 ⟨rfl, b1⟩; have B1 := Bx.mk b1; clear b1)
        | (clear M1; go_at_call 20; refine (H1.out _ B1.out).mono ?_; clear H1; rintro e w2 ⟨rfl, b2⟩; have B2 := Bx.mk (B1.out.trans (b2.mono B1.out.size)); clear b2)
        | (go_at_call 20; refine (H2.out _ B2.out).mono ?_; clear H2; rintro e w3 ⟨rfl, b3⟩; have B3 := Bx.mk (B2.out.trans (b3.mono B2.out.size)); clear b3)
        | (go_at_call 36; refine (HS.out _ B3.out).mono ?_; clear HS; rintro e w4 ⟨b, q, q', O, O', p, p', rfl, hb, hs1, hs2, b4⟩
           have B4 := Bx.mk (B3.out.trans (b4.out.mono B3.out.size))
           have HBT := Bx.mk (Bth.same hb.out hs1.out hs2.out)
           have HA4 := Bx.mk (HA.out.keep (B4.out.trans ((above_new w4 (.cells #[] 36)).mono B4.out.size)))
           have hbw : w.heap.size ≤ w4.heap.size := B4.out.size
           have HOE := Bx.mk (owns_none6 (base := w4.heap.size) (Nat.le_refl _) (World.alloc_heap_new w4 (.cells #[] 36)))
           have hz4 : w4.heap.size ≤ (w4.alloc (.cells #[] 36)).heap.size := by simp
           clear b4 hb hs1 hs2)
        | (at_builtin; refine wpList_append_any rfl (.tmp 31) (.tmp 32) 22 rfl w4.heap.size 36 tj _ 6 48 Try.underlying22 HTJ.out hy0 hy1 hy2 rfl (by decide) _ 0 [] rfl HOE.out ao n c1 (rowsL A n) rfl (rowsL_length A n) HNA.out (cv_news HA4.out) (rowsL_one A n) (by unfold maxLen; omega) (by omega) hz4 ?_
           intro v5 w5 ho5 hg5
           have B5 := Bx.mk (Below.grown (above_new w4 (.cells #[] 36)) hg5 hz4 (fun b hb => by cases hb; exact Nat.le_refl _))
           have HO5 := Bx.mk ho5
           have HB5 := Bx.mk (HB.out.keep (B4.out.trans (B5.out.mono hbw)))
           clear ho5 hg5)
        | (at_builtin; refine wpList_append_any rfl (.tmp 33) (.tmp 34) 22 rfl w4.heap.size 36 tj _ 6 48 Try.underlying22 HTJ.out hy0 hy1 hy2 rfl (by decide) _ _ _ rfl HO5.out bo m c2 (rowsL B m) rfl (rowsL_length B m) HNB.out (cv_news HB5.out) (rowsL_one B m) (by unfold maxLen; omega) (by omega) B5.out.size ?_
           intro v6 w6 ho6 hg6
           have B6 := Bx.mk (Below.grown B5.out hg6 B5.out.size (fun b hb => (own_lt HO5.out b hb).1))
           rw [Nat.zero_add, List.nil_append] at ho6
           obtain ⟨so, sc, rfl, hsc, hscm, hcv⟩ := cv_cat ho6
           have HCV := Bx.mk (show CV w6 so (n + m) (cat A B n) from hcv)
           have B6w := Bx.mk (B4.out.trans (B6.out.mono hbw))
           clear ho6 hg6 hcv))
      go_loopw [37, 8] (fun ix sb wr => ∃ (k : Nat) (bb : Bool), k ≤ n + m ∧ ix = .int .i64 k ∧ sb = .bool bb ∧ Bx (bb = true ↔ Bth A B n m k) ∧ Bx (Below w6.heap.size w6 wr)) (fun ix _ _ => n + m - (intOf ix).toNat)
      case atStart => exact ⟨0, true, by omega, rfl, rfl, ⟨⟨fun _ t ht => by omega, fun _ => rfl⟩⟩, ⟨Below.refl _ _⟩⟩
      case round =>
        obtain ⟨k, bb, hk, rfl, rfl, HBB, HBr⟩ := hrel
        by_cases hlt : k < n + m
        · obtain ⟨b6, o6, rfl, hb6, hcr⟩ := HCV.out (by omega)
          obtain ⟨a0, a1, a2, a3, a4, a5⟩ := row_six hcr hb6 HBr.out hlt
          have HBW := Bx.mk (B6w.out.trans (HBr.out.mono B6w.out.size))
          have hki : (k : Int) < (n : Int) + m := by omega
          clear hcr
          obtain ⟨x, hx⟩ : ∃ x, cat A B n k = x := ⟨_, rfl⟩
          rw [hx] at a0 a1 a2 a3 a4 a5
          have HQ6 : Bx (Below w6.heap.size w6 (wr.alloc (.cells #[.int .i64 (x 0), .int .i64 (x 1), .int .i64 (x 2), .int .i64 (x 3), .int .i64 (x 4), .int .i64 (x 5)] 36))) := ⟨HBr.out.trans ((above_new wr _).mono HBr.out.size)⟩
          have HQ : Bx (Below w.heap.size w (wr.alloc (.cells #[.int .i64 (x 0), .int .i64 (x 1), .int .i64 (x 2), .int .i64 (x 3), .int .i64 (x 4), .int .i64 (x 5)] 36))) := ⟨B6w.out.trans (HQ6.out.mono B6w.out.size)⟩
          by_cases hn : k < n
          · have hni : (k : Int) < n := by omega
            have hxx : Bx (x = A k) := ⟨by rw [← hx]; funext j; simp [cat, hn]⟩
            have HX : Bx (Vv x) := ⟨by rw [hxx.out]; exact VA.out.row hn⟩
            have HME := Bx.mk (HMB.out x _ HQ.out)
            unfold PV at HME
            clear hx
            cases bb with
            | true =>
              go_wp2_with (first
                | (go_at_call 32; refine HME.out.mono ?_; clear HME; rintro e w7 ⟨lo, nn, lc, b', c, rfl, hm', b7⟩
                   have B7 := Bx.mk (HQ6.out.trans (b7.out.mono HQ6.out.size))
                   clear b7
                   rcases hm'.out.split VB'.out HX.out with ⟨rfl, hb'⟩ | ⟨rfl, rfl⟩))
              · exact ⟨⟨k + 1, true && b', by omega, by go_num, rfl, ⟨Bth.succ (T := Sp B m 6 x) (bb := true) (by simpa using HBB.out) ⟨fun h => ⟨fun _ => by rw [hxx.out] at h; exact h, fun e => absurd hn e⟩, fun h => by rw [hxx.out]; exact h.1 hn⟩ hb'.out⟩, B7⟩, by simp [intOf]; omega⟩
              · go_ret
                exact ⟨rfl, B6w.out.trans (B7.out.mono B6w.out.size)⟩
            | false =>
              go_wp2_with (first
                | (go_at_call 32; refine HME.out.mono ?_; clear HME; rintro e w7 ⟨lo, nn, lc, b', c, rfl, hm', b7⟩
                   have B7 := Bx.mk (HQ6.out.trans (b7.out.mono HQ6.out.size))
                   clear b7
                   rcases hm'.out.split VB'.out HX.out with ⟨rfl, hb'⟩ | ⟨rfl, rfl⟩))
              · exact ⟨⟨k + 1, false && b', by omega, by go_num, rfl, ⟨Bth.succ (T := Sp B m 6 x) (bb := false) (by simpa using HBB.out) ⟨fun h => ⟨fun _ => by rw [hxx.out] at h; exact h, fun e => absurd hn e⟩, fun h => by rw [hxx.out]; exact h.1 hn⟩ hb'.out⟩, B7⟩, by simp [intOf]; omega⟩
              · go_ret
                exact ⟨rfl, B6w.out.trans (B7.out.mono B6w.out.size)⟩
          · have hni : ¬ (k : Int) < n := by omega
            have hxx : Bx (x = B (k - n)) := ⟨by rw [← hx]; funext j; simp [cat, hn]⟩
            have HX : Bx (Vv x) := ⟨by rw [hxx.out]; exact VB'.out.row (by omega)⟩
            have HME := Bx.mk (HMA.out x _ HQ.out)
            unfold PV at HME
            clear hx
            cases bb with
            | true =>
              go_wp2_with (first
                | (go_at_call 32; refine HME.out.mono ?_; clear HME; rintro e w7 ⟨lo, nn, lc, b', c, rfl, hm', b7⟩
                   have B7 := Bx.mk (HQ6.out.trans (b7.out.mono HQ6.out.size))
                   clear b7
                   rcases hm'.out.split VA.out HX.out with ⟨rfl, hb'⟩ | ⟨rfl, rfl⟩))
              · exact ⟨⟨k + 1, true && b', by omega, by go_num, rfl, ⟨Bth.succ (T := Sp A n 6 x) (bb := true) (by simpa using HBB.out) ⟨fun h => ⟨fun e => absurd e hn, fun _ => by rw [hxx.out] at h; exact h⟩, fun h => by rw [hxx.out]; exact h.2 hn⟩ hb'.out⟩, B7⟩, by simp [intOf]; omega⟩
              · go_ret
                exact ⟨rfl, B6w.out.trans (B7.out.mono B6w.out.size)⟩
            | false =>
              go_wp2_with (first
                | (go_at_call 32; refine HME.out.mono ?_; clear HME; rintro e w7 ⟨lo, nn, lc, b', c, rfl, hm', b7⟩
                   have B7 := Bx.mk (HQ6.out.trans (b7.out.mono HQ6.out.size))
                   clear b7
                   rcases hm'.out.split VA.out HX.out with ⟨rfl, hb'⟩ | ⟨rfl, rfl⟩))
              · exact ⟨⟨k + 1, false && b', by omega, by go_num, rfl, ⟨Bth.succ (T := Sp A n 6 x) (bb := false) (by simpa using HBB.out) ⟨fun h => ⟨fun e => absurd e hn, fun _ => by rw [hxx.out] at h; exact h⟩, fun h => by rw [hxx.out]; exact h.2 hn⟩ hb'.out⟩, B7⟩, by simp [intOf]; omega⟩
              · go_ret
                exact ⟨rfl, B6w.out.trans (B7.out.mono B6w.out.size)⟩
        · obtain rfl : k = n + m := by omega
          obtain rfl : bb = b := by
            have e := HBB.out.trans HBT.out.symm
            cases bb <;> cases b <;> simp_all
          go_wp2_with fail
          all_goals go_ret
          all_goals exact ⟨rfl, B6w.out.trans (HBr.out.mono B6w.out.size)⟩
    · have H1 := Bx.mk (fun w' (hb : Below w.heap.size w w') => rvalid_any ao n c1 A w' hc1 hc1m (hA.keep hb) true ⟨fun _ => va, fun _ => rfl⟩)
      have H2 := Bx.mk (fun w' (hb : Below w.heap.size w w') => rvalid_any bo m c2 B w' hc2 hc2m (hB.keep hb) false ⟨fun e => Bool.noConfusion e, fun e => absurd e vb⟩)
      clear hA hB
      go_enter Try.func7, Try.ntmps7
      go_wp2_with (first
        | (go_at_call 31; refine (lhead_any w).mono ?_; rintro e w1 ⟨rfl, b1⟩; have B1 := Bx.mk b1; clear b1)
        | (clear M1; go_at_call 20; refine (H1.out _ B1.out).mono ?_; clear H1; rintro e w2 ⟨rfl, b2⟩; have B2 := Bx.mk (B1.out.trans (b2.mono B1.out.size)); clear b2)
        | (go_at_call 20; refine (H2.out _ B2.out).mono ?_; clear H2; rintro e w3 ⟨rfl, b3⟩; have B3 := Bx.mk (B2.out.trans (b3.mono B2.out.size)); clear b3))
      go_ret
      exact ⟨rfl, B3.out⟩
  · have H1 := Bx.mk (fun w' (hb : Below w.heap.size w w') => rvalid_any ao n c1 A w' hc1 hc1m (hA.keep hb) false ⟨fun e => Bool.noConfusion e, fun e => absurd e va⟩)
    clear hA hB
    go_enter Try.func7, Try.ntmps7
    go_wp2_with (first
      | (go_at_call 31; refine (lhead_any w).mono ?_; rintro e w1 ⟨rfl, b1⟩; have B1 := Bx.mk b1; clear b1)
      | (clear M1; go_at_call 20; refine (H1.out _ B1.out).mono ?_; clear H1; rintro e w2 ⟨rfl, b2⟩; have B2 := Bx.mk (B1.out.trans (b2.mono B1.out.size)); clear b2))
    go_ret
    exact ⟨rfl, B2.out⟩
end Go.Proofs.Ytnbamjoadankmaa
/- The law: LatticeSum. -/
namespace Go.Proofs.Ytnbamjoadankmaa
open Go.RowKit D
theorem cat_lt {A B : Nat → Nat → Int} {n k : Nat} (h : k < n) : cat A B n k = A k := by funext j; simp [cat, h]
theorem cat_ge {A B : Nat → Nat → Int} {n k : Nat} (h : ¬ k < n) : cat A B n k = B (k - n) := by funext j; simp [cat, h]
theorem vol_cat (A B : Nat → Nat → Int) (n : Nat) : ∀ m, vol (cat A B n) 6 (n + m) = vol A 6 n * vol B 6 m
  | 0 => by
    have h : ∀ k, k ≤ n → vol (cat A B n) 6 k = vol A 6 k := fun k => by
      induction k with
      | zero => intro _; rfl
      | succ k ih => intro hk; simp only [vol]; rw [ih (by omega), cat_lt (by omega)]
    show vol (cat A B n) 6 n = vol A 6 n * 1
    rw [h n (Nat.le_refl _), Nat.mul_one]
  | m + 1 => by
    have e : cat A B n (n + m) = B m := by rw [cat_ge (by omega), Nat.add_sub_cancel_left]
    show vol (cat A B n) 6 (n + m) * (if rs 6 (cat A B n (n + m)) = 0 then 1 else rs 6 (cat A B n (n + m))) = vol A 6 n * (vol B 6 m * _)
    rw [vol_cat A B n m, e, Nat.mul_assoc]
theorem vm_cat {A B : Nat → Nat → Int} {n m : Nat} (va : VM A n) (vb : VM B m) (h : VM (cat A B n) (n + m)) : VM (cat B A m) (m + n) := by
  refine ⟨by have := h.1; omega, fun i j hi hj => ?_, ?_⟩
  · by_cases e : i < m
    · rw [cat_lt e]; exact vb.2.1 i j e hj
    · rw [cat_ge e]; exact va.2.1 (i - m) j (by omega) hj
  · have h3 := h.2.2
    rw [vol_cat] at h3 ⊢
    rw [Nat.mul_comm]; exact h3
theorem Vv.cat {A B : Nat → Nat → Int} {n m k : Nat} (va : VM A n) (vb : VM B m) (h : k < n + m) : Vv (cat A B n k) := by
  by_cases e : k < n
  · rw [cat_lt e]; exact va.row e
  · rw [cat_ge e]; exact vb.row (by omega)
theorem cat_sp {A B : Nat → Nat → Int} {n m : Nat} : ∀ t, t < m + n → Sp (cat A B n) (n + m) 6 (cat B A m t) := fun t ht => by
  by_cases e : t < m
  · have h : cat B A m t = cat A B n (n + t) := by rw [cat_lt e, cat_ge (by omega), Nat.add_sub_cancel_left]
    rw [h]; exact Sp.unit (by omega)
  · have h : cat B A m t = cat A B n (t - m) := by rw [cat_ge e, cat_lt (by omega)]
    rw [h]; exact Sp.unit (by omega)
theorem cat_same {A B O O' : Nat → Nat → Int} {n m q q' : Nat} {p p' : Nat → Nat} (h1 : HfS (cat A B n) (n + m) O q p) (h2 : HfS (cat B A m) (m + n) O' q' p') : true = true ↔ q = q' ∧ ∀ i j, i < q → j < 6 → O i j = O' i j := by
  have e := h1.hf.one h2.hf (fun i hi => ((h2.sub i hi).trans cat_sp).trans h1.rows) (fun i hi => ((h1.sub i hi).trans cat_sp).trans h2.rows)
  exact ⟨fun _ => ⟨e.1, e.2.2⟩, fun _ => rfl⟩
/-- Member of a vector that is in the lattice. -/
theorem Mem.yes {A : Nat → Nat → Int} {n : Nat} {v : Nat → Int} {b : Bool} {c : Int} (hA : VM A n) (hv : Vv v) (hs : Sp A n 6 v) (h : Mem A n v b c) : (c = 0 ∧ b = true) ∨ (c = 3 ∧ b = false) := by
  rcases h.split hA hv with ⟨h1, h2⟩ | h
  · exact .inl ⟨h1, h2.out.2 hs⟩
  · exact .inr h
theorem Mem.three {A : Nat → Nat → Int} {n : Nat} {v : Nat → Int} {b : Bool} {c : Int} (hA : VM A n) (hv : Vv v) (h : Mem A n v b c) : (c = 0 ∧ b = true ∧ Bx (Sp A n 6 v)) ∨ (c = 0 ∧ b = false ∧ Bx (¬ Sp A n 6 v)) ∨ (c = 3 ∧ b = false) := by
  rcases h.split hA hv with ⟨h1, h2⟩ | h
  · cases b with
    | true => exact .inl ⟨h1, rfl, ⟨h2.out.1 rfl⟩⟩
    | false => exact .inr (.inl ⟨h1, rfl, ⟨fun k => Bool.noConfusion (h2.out.2 k)⟩⟩)
  · exact .inr (.inr h)
theorem lsum_any (ao bo : Option Addr) (n m c1 c2 : Nat) (A B : Nat → Nat → Int) (w : World) (hc1 : n ≤ c1) (hc1m : c1 ≤ maxLen) (hc2 : m ≤ c2) (hc2m : c2 ≤ maxLen) (hA : CV w ao n A) (hB : CV w bo m B) (va : VM A n) (vb : VM B m) (hna : ao = none → n = 0 ∧ c1 = 0) (hnb : bo = none → m = 0 ∧ c2 = 0) (vc : VM (cat A B n) (n + m)) :
    Calls Try.prog 38 #[.slice ao n c1, .slice bo m c2] w fun e w' => ∃ (ho : Option Addr) (hc q : Nat) (O : Nat → Nat → Int) (p : Nat → Nat), e = .returned (.tuple #[.slice ho q hc, .int .i64 0]) ∧ q ≤ hc ∧ hc ≤ maxLen ∧ Bx (CV w' ho q O) ∧ Bx (HfS (cat A B n) (n + m) O q p) ∧ Bx (Below w.heap.size w w') :=
  (lsum_ok ao bo n m c1 c2 A B w hc1 hc1m hc2 hc2m hA hB va vb hna hnb).mono fun e w' ⟨h, hb⟩ => by
    rcases h with ⟨h, _⟩ | ⟨_, ho, hc, q, O, p, he, hcv, h1, h2, hS⟩
    · exact absurd vc h
    · exact ⟨ho, hc, q, O, p, he, h1, h2, ⟨hcv⟩, ⟨hS⟩, ⟨hb⟩⟩
theorem lsum_none (ao bo : Option Addr) (n m c1 c2 : Nat) (A B : Nat → Nat → Int) (w : World) (hc1 : n ≤ c1) (hc1m : c1 ≤ maxLen) (hc2 : m ≤ c2) (hc2m : c2 ≤ maxLen) (hA : CV w ao n A) (hB : CV w bo m B) (hna : ao = none → n = 0 ∧ c1 = 0) (hnb : bo = none → m = 0 ∧ c2 = 0) (c : Int) (h : (c = 1 ∧ ¬ (VM A n ∧ VM B m)) ∨ (c = 2 ∧ VM A n ∧ VM B m ∧ ¬ VM (cat A B n) (n + m))) :
    Calls Try.prog 38 #[.slice ao n c1, .slice bo m c2] w fun e w' => e = .returned (.tuple #[.slice none 0 0, .int .i64 c]) ∧ Bx (Below w.heap.size w w') := by
  rcases h with ⟨rfl, h⟩ | ⟨rfl, va, vb, h⟩
  · exact lsum_bad ao bo n m c1 c2 A B w hc1 hc1m hc2 hc2m hA hB h
  · exact (lsum_ok ao bo n m c1 c2 A B w hc1 hc1m hc2 hc2m hA hB va vb hna hnb).mono fun e w' ⟨hS, hb⟩ => by
      rcases hS with ⟨_, he⟩ | ⟨k, _⟩
      · exact ⟨he, ⟨hb⟩⟩
      · exact absurd k h
set_option maxRecDepth 100000 in
set_option maxHeartbeats 16000000 in
/-- Where there is no sum. -/
theorem lsum_law0 (ao bo co : Option Addr) (n m l c1 c2 c3 : Nat) (A B : Nat → Nat → Int) (w : World) (hc1 : n ≤ c1) (hc1m : c1 ≤ maxLen) (hc2 : m ≤ c2) (hc2m : c2 ≤ maxLen) (hA : CV w ao n A) (hB : CV w bo m B) (hna : ao = none → n = 0 ∧ c1 = 0) (hnb : bo = none → m = 0 ∧ c2 = 0) (c : Int) (h : (c = 1 ∧ ¬ (VM A n ∧ VM B m)) ∨ (c = 2 ∧ VM A n ∧ VM B m ∧ ¬ VM (cat A B n) (n + m))) :
    Calls Try.prog 8 #[.slice ao n c1, .slice bo m c2, .slice co l c3] w fun e w' => e = .returned (.bool true) ∧ Below w.heap.size w w' := by
  have M1 : Bx True := ⟨trivial⟩
  have h' : (c = 1 ∧ ¬ (VM B m ∧ VM A n)) ∨ (c = 2 ∧ VM B m ∧ VM A n ∧ ¬ VM (cat B A m) (m + n)) := by
    rcases h with ⟨h1, h2⟩ | ⟨h1, va, vb, h2⟩
    · exact .inl ⟨h1, fun k => h2 ⟨k.2, k.1⟩⟩
    · exact .inr ⟨h1, vb, va, fun k => h2 (vm_cat vb va k)⟩
  have hc0 : ¬ c = 0 := by rcases h with ⟨h, _⟩ | ⟨h, _⟩ <;> omega
  have H1 := Bx.mk (fun w' (hb : Below w.heap.size w w') => lsum_none ao bo n m c1 c2 A B w' hc1 hc1m hc2 hc2m (hA.keep hb) (hB.keep hb) hna hnb c h)
  have H2 := Bx.mk (fun w' (hb : Below w.heap.size w w') => lsum_none bo ao m n c2 c1 B A w' hc2 hc2m hc1 hc1m (hB.keep hb) (hA.keep hb) hnb hna c h')
  clear hA hB h h' hna hnb
  go_enter Try.func8, Try.ntmps8
  go_wp2_with (first
    | (go_at_call 31; refine (lhead_any w).mono ?_; rintro e w1 ⟨rfl, b1⟩; have B1 := Bx.mk b1; clear b1)
    | (clear M1; go_at_call 38; refine (H1.out _ B1.out).mono ?_; clear H1; rintro e w2 ⟨rfl, b2⟩; have B2 := Bx.mk (B1.out.trans (b2.out.mono B1.out.size)); clear b2)
    | (go_at_call 38; refine (H2.out _ B2.out).mono ?_; clear H2; rintro e w3 ⟨rfl, b3⟩; have B3 := Bx.mk (B2.out.trans (b3.out.mono B2.out.size)); clear b3)
    | (go_at_call 23; refine (same_any none none 0 0 0 0 (fun _ _ => 0) (fun _ _ => 0) w3 (Nat.le_refl _) (Nat.zero_le _) (Nat.le_refl _) (Nat.zero_le _) (fun h => absurd h (Nat.lt_irrefl _)) (fun h => absurd h (Nat.lt_irrefl _)) true ⟨fun _ => ⟨rfl, fun _ _ _ _ => rfl⟩, fun _ => rfl⟩).mono ?_; rintro e w4 ⟨rfl, b4⟩; have B4 := Bx.mk (B3.out.trans (b4.mono B3.out.size)); clear b4))
  go_ret
  exact ⟨rfl, B4.out⟩
end Go.Proofs.Ytnbamjoadankmaa

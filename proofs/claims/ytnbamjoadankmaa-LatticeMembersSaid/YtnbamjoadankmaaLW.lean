/- The law: LatticeMembers. -/
import Derived.Test.YtnbamjoadankmaaLQ
namespace Go.Proofs.Ytnbamjoadankmaa
open Go.RowKit D
theorem ps_at {O : Nat → Nat → Int} {p : Nat → Nat} {q : Nat} (h : Hf O q 6 p) (k v : Nat → Int) {t : Nat} (ht : t < q) : ∀ i, t + 1 ≤ i → i ≤ q → ps O k v i (p t) = ps O k v (t + 1) (p t) := by
  intro i
  induction i with
  | zero => intro h1; omega
  | succ i ih =>
    intro h1 h2
    by_cases e : i = t
    · rw [e]
    · show ps O k v i (p t) + k i * O i (p t) = _
      rw [ih (by omega) (by omega), h.left i (p t) (by omega) (h.rise t i (by omega) (by omega)), Int.mul_zero, Int.add_zero]
theorem rmd_ps {O : Nat → Nat → Int} {p : Nat → Nat} {q : Nat} (h : Hf O q 6 p) (k : Nat → Int) : ∀ t, t ≤ q → ∀ j, rmd O p (ps O k (fun _ => 0) q) t j = ps O k (fun _ => 0) q j - ps O k (fun _ => 0) t j := by
  intro t
  induction t with
  | zero => intro _ j; show ps O k (fun _ => 0) q j = ps O k (fun _ => 0) q j - 0; omega
  | succ t ih =>
    intro ht j
    have hp := h.pos t (by omega)
    have e : rmd O p (ps O k (fun _ => 0) q) t (p t) = k t * O t (p t) := by
      rw [ih (by omega) (p t), ps_at h k _ (by omega) q (by omega) (Nat.le_refl _)]
      show ps O k (fun _ => 0) t (p t) + k t * O t (p t) - ps O k (fun _ => 0) t (p t) = _
      omega
    show rmd O p (ps O k (fun _ => 0) q) t j + -(rmd O p (ps O k (fun _ => 0) q) t (p t) / O t (p t)) * O t j = ps O k (fun _ => 0) q j - (ps O k (fun _ => 0) t j + k t * O t j)
    rw [e, Int.mul_ediv_cancel _ (by omega), ih (by omega) j, Int.neg_mul]
    omega
theorem ckf_ps {O : Nat → Nat → Int} {p : Nat → Nat} {q : Nat} (h : Hf O q 6 p) (k : Nat → Int) {t : Nat} (ht : t < q) : ckf O p (ps O k (fun _ => 0) q) t = k t := by
  have hp := h.pos t ht
  unfold ckf
  rw [rmd_ps h k t (by omega) (p t), ps_at h k _ ht q (by omega) (Nat.le_refl _)]
  show (ps O k (fun _ => 0) t (p t) + k t * O t (p t) - ps O k (fun _ => 0) t (p t)) / O t (p t) = k t
  rw [show ps O k (fun _ => 0) t (p t) + k t * O t (p t) - ps O k (fun _ => 0) t (p t) = k t * O t (p t) by omega, Int.mul_ediv_cancel _ (by omega)]
theorem vv_zero : Vv (fun _ => 0) := fun _ _ => by show (-1000000000 : Int) ≤ 0 ∧ (0 : Int) ≤ 1000000000; omega
theorem lmember_ps (ao : Option Addr) (n c1 : Nat) (M O : Nat → Nat → Int) (q : Nat) (p : Nat → Nat) (k : Nat → Int) (w : World) (hc1 : n ≤ c1) (hc2 : c1 ≤ maxLen) (hR : CV w ao n M) (hm : VM M n) (hs : HfS M n O q p) (hv : Vv (ps O k (fun _ => 0) q)) :
    Calls Try.prog 32 #[.slice ao n c1, PV (ps O k (fun _ => 0) q)] w fun e w' => ((∃ lo lc, e = .returned (.tuple #[.slice lo q lc, .bool true, .int .i64 0]) ∧ q ≤ lc ∧ lc ≤ maxLen ∧ Bx (CI w' lo ((List.range q).map k))) ∨ e = .returned (.tuple #[.slice none 0 0, .bool false, .int .i64 3])) ∧ Bx (Below w.heap.size w w') :=
  (lmember_at ao n c1 M _ w hc1 hc2 hR hm hv).mono fun e w' ⟨q', O', p', hS, h6, hM, hb⟩ => by
    refine ⟨?_, ⟨hb⟩⟩
    rcases hM.at hs.can ⟨hS.1, hS.2.1, hS.2.2, h6⟩ with ⟨_, ⟨_, lo, lc, he, h1, h2, h3⟩ | ⟨h0, _⟩⟩ | ⟨_, he⟩
    · have e2 : (List.range q).map (ckf O p (ps O k (fun _ => 0) q)) = (List.range q).map k := List.map_congr_left fun t ht => ckf_ps hs.hf k (List.mem_range.1 ht)
      exact .inl ⟨lo, lc, he, h1, h2, ⟨e2 ▸ h3⟩⟩
    · exact absurd (fun j _ => by rw [rmd_ps hs.hf k q (Nat.le_refl _) j]; omega) h0
    · exact .inr he
theorem memps_at {w0 w : World} {ao : Option Addr} {n c1 q : Nat} {O : Nat → Nat → Int} {k x : Nat → Int} {R : Ending → World → Prop} (hx : ps O k (fun _ => 0) q = x) (h : Vv (ps O k (fun _ => 0) q) → ∀ w', Below w0.heap.size w0 w' → Calls Try.prog 32 #[.slice ao n c1, PV (ps O k (fun _ => 0) q)] w' (fun e w'' => R e w'' ∧ Bx (Below w'.heap.size w' w''))) (hv : Vv x) (hb : Below w0.heap.size w0 w) :
    Calls Try.prog 32 #[.slice ao n c1, (.agg #[.int .i64 (x 0), .int .i64 (x 1), .int .i64 (x 2), .int .i64 (x 3), .int .i64 (x 4), .int .i64 (x 5)])] w (fun e w'' => R e w'' ∧ Bx (Below w.heap.size w w'')) := by
  subst hx
  exact h hv w hb
set_option maxRecDepth 100000 in
set_option maxHeartbeats 32000000 in
theorem mem_law (ao bo : Option Addr) (n bn c1 c2 : Nat) (A : Nat → Nat → Int) (f : Nat → Int) (w : World) (hc1 : n ≤ c1) (hc1m : c1 ≤ maxLen) (hc2 : bn ≤ c2) (hc2m : c2 ≤ maxLen) (hA : CV w ao n A) (hF : CS w bo bn f) :
    Calls Try.prog 5 #[.slice ao n c1, .slice bo bn c2] w fun e w' => e = .returned (.bool true) ∧ Below w.heap.size w w' := by
  by_cases va : VM A n
  · have H1 := Bx.mk (fun w' (hb : Below w.heap.size w w') => herm_ok ao n c1 A w' hc1 hc1m (hA.keep hb) va)
    have HM := Bx.mk (fun O q p k (hs : HfS A n O q p) (hv : Vv (ps O k (fun _ => 0) q)) w' (hb : Below w.heap.size w w') => lmember_ps ao n c1 A O q p k w' hc1 hc1m (hA.keep hb) va hs hv)
    have HF := Bx.mk hF
    have VA := Bx.mk va
    clear hA hF va
    go_enter Try.func5, Try.ntmps5
    go_wp2_with (first
      | (go_at_call 31; refine (lhead_any w).mono ?_; rintro e w1 ⟨rfl, b1⟩
         have B1 := Bx.mk b1
         clear b1)
      | (go_at_call 21; refine (H1.out _ B1.out).mono ?_; clear H1; rintro e w2 ⟨ho, hc, q, O, p, rfl, HO, k1, k2, k6, HS, b2⟩
         have B2 := Bx.mk (B1.out.trans (b2.out.mono B1.out.size))
         have hqi : ¬ (q : Int) > 6 := by omega
         obtain ⟨b3, hb3⟩ := bool_of (Vv (ps O (kk bn f) (fun _ => 0) q))
         have HB3 := Bx.mk hb3
         have HPL := Bx.mk (lplus_any ho bo q bn hc c2 O f (fun _ => 0) w2 (by omega) k1 hc2 hc2m HO.out (HF.out.keep B2.out) (fun i j hi hj => hf_entry VA.out k6 HS.out.hf HS.out.rows HS.out.sub i j hi hj) vv_zero b3 hb3)
         obtain ⟨x, hx⟩ : ∃ x, ps O (kk bn f) (fun _ => 0) q = x := ⟨_, rfl⟩
         have HX := Bx.mk hx
         rw [hx] at HPL HB3
         unfold PV at HPL
         clear b2 hb3 hx)
      | (go_at_call 44; refine HPL.out.mono ?_; clear HPL; rintro e w3 ⟨rfl, b4⟩
         have B3 := Bx.mk ((B2.out.trans (b4.mono B2.out.size)).trans ((above_new w3 (.cells #[.int .i64 (x 0), .int .i64 (x 1), .int .i64 (x 2), .int .i64 (x 3), .int .i64 (x 4), .int .i64 (x 5)] 36)).mono (Nat.le_trans B2.out.size b4.size)))
         clear b4
         cases b3)
      | (go_at_call 32; refine (memps_at HX.out (HM.out O q p (kk bn f) HS.out) (HB3.out.1 (by simp)) B3.out).mono ?_; rintro e w4 ⟨hr, b5⟩
         have B4 := Bx.mk (B3.out.trans (b5.out.mono B3.out.size))
         clear b5
         rcases hr with ⟨lo, lc, rfl, m1, m2, HC⟩ | rfl))
    · go_ret
      exact ⟨rfl, B3.out⟩
    · go_loopw [13, 5] (fun ix u wr => ∃ k : Nat, k ≤ q ∧ ix = .int .i64 k ∧ u = .bool true ∧ wr = w4) (fun ix _ _ => q - (intOf ix).toNat)
      case atStart => exact ⟨0, by omega, rfl, by simp, rfl⟩
      case round =>
        obtain ⟨k, hk, rfl, rfl, rfl⟩ := hrel
        by_cases hlt : k < q
        · have hkq : (k : Int) < (q : Int) := by omega
          obtain ⟨b6, o6, rfl, hb6, hcr⟩ := HC.out (by intro e; have := congrArg List.length e; simp at this; omega)
          have hcc := hcr k (by simp; exact hlt)
          rw [show ((List.range q).map (kk bn f)).getD k 0 = kk bn f k by simp [List.getD, hlt]] at hcc
          clear hcr
          by_cases hbn : k < bn
          · obtain ⟨b7, o7, rfl, hb7, hcf⟩ := HF.out (by omega)
            obtain ⟨hf0, hf1, hf2⟩ := hcf k hbn
            have hf := (B4.out.cell (p := ⟨b7, o7 + k, none⟩) hb7).trans hf0
            have hib : (k : Int) < (bn : Int) := by omega
            have hky := kk_bound bn f k
            obtain ⟨z, hz⟩ : ∃ z, f k = z := ⟨_, rfl⟩
            rw [hz] at hf hf1 hf2
            obtain ⟨y, hy⟩ : ∃ y, Int.tmod z 1001 = y := ⟨_, rfl⟩
            have e : kk bn f k = y := by unfold kk; rw [if_pos hbn, hz, hy]
            rw [e] at hcc hky
            have hwx : IntKind.i64.wrap z = z := by rw [IntWalk.i64_in] <;> omega
            have hwx2 : wrap64 z = z := by unfold wrap64; omega
            have hwy : IntKind.i64.wrap y = y := by rw [IntWalk.i64_in] <;> omega
            have hwy2 : wrap64 y = y := by unfold wrap64; omega
            clear hcf hf0 hz e
            go_wp2_with fail
            exact ⟨⟨k + 1, by omega, by go_num, by simp, by trivial⟩, by simp [intOf]; omega⟩
          · have hib : ¬ (k : Int) < (bn : Int) := by omega
            have e : kk bn f k = 0 := by unfold kk; rw [if_neg hbn]
            rw [e] at hcc
            clear e
            go_wp2_with fail
            exact ⟨⟨k + 1, by omega, by go_num, by simp, by trivial⟩, by simp [intOf]; omega⟩
        · obtain rfl : k = q := by omega
          go_wp2_with fail
          go_ret
          exact ⟨rfl, B4.out⟩
    · go_ret
      exact ⟨rfl, B4.out⟩
  · have H1 := Bx.mk (fun w' (hb : Below w.heap.size w w') => herm_no ao n c1 A w' hc1 hc1m (hA.keep hb) va)
    have H2 := Bx.mk (fun w' (hb : Below w.heap.size w w') => rvalid_any ao n c1 A w' hc1 hc1m (hA.keep hb) false ⟨fun e => Bool.noConfusion e, fun e => absurd e va⟩)
    clear hA hF
    go_enter Try.func5, Try.ntmps5
    go_wp2_with (first
      | (go_at_call 31; refine (lhead_any w).mono ?_; rintro e w1 ⟨rfl, b1⟩
         have B1 := Bx.mk b1
         clear b1)
      | (go_at_call 21; refine (H1.out _ B1.out).mono ?_; clear H1; rintro e w2 ⟨rfl, b2⟩
         have B2 := Bx.mk (B1.out.trans (b2.out.mono B1.out.size))
         clear b2)
      | (go_at_call 20; refine (H2.out _ B2.out).mono ?_; clear H2; rintro e w3 ⟨rfl, b3⟩
         have B3 := Bx.mk (B2.out.trans (b3.mono B2.out.size))
         clear b3))
    go_ret
    exact ⟨rfl, B3.out⟩
end Go.Proofs.Ytnbamjoadankmaa

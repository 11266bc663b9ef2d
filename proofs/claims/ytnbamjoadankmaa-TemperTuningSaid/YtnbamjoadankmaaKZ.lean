/- The program's Hermite, Rank, Kernel and Divisors. -/
import Derived.Test.YtnbamjoadankmaaKX
import Derived.Test.YtnbamjoadankmaaCM
import Derived.Test.YtnbamjoadankmaaKS
namespace Go.Proofs.Ytnbamjoadankmaa
open Go.RowKit D
/-- The number that has the divisors of all minors of a size. -/
theorem dv_nums (n : Nat) (M : Nat → Nat → Int) : ∃ g : Nat → Nat, ∀ k d, Dv M n 6 k d ↔ d ∣ (g k : Int) := by
  obtain ⟨s, _, h2⟩ := smith n 6 M
  exact ⟨fun k => (pr s k).natAbs, fun k d => (h2 k d).trans Int.dvd_natAbs.symm⟩
theorem dv_one {a b : Nat} {P : Int → Prop} (h : ∀ d, P d ↔ d ∣ (a : Int)) (k : ∀ d, P d ↔ d ∣ (b : Int)) : a = b := by
  have h1 := (k a).1 ((h a).2 (Int.dvd_refl _))
  have h2 := (h b).1 ((k b).2 (Int.dvd_refl _))
  exact Nat.dvd_antisymm (by exact_mod_cast h1) (by exact_mod_cast h2)
/-- What Hermite answers. -/
def HermOut (M : Nat → Nat → Int) (n : Nat) (e : Ending) (w' : World) : Prop :=
  (¬ VM M n ∧ e = .returned (.tuple #[.slice none 0 0, .int .i64 1])) ∨
  (VM M n ∧ ∃ (ho : Option Addr) (hc q : Nat) (O : Nat → Nat → Int) (p : Nat → Nat), e = .returned (.tuple #[.slice ho q hc, .int .i64 0]) ∧ CV w' ho q O ∧ q ≤ hc ∧ hc ≤ maxLen ∧ q ≤ 6 ∧ Hf O q 6 p ∧ (∀ t, t < n → Sp O q 6 (M t)) ∧ ∀ i, i < q → Sp M n 6 (O i))
def KerOut (M : Nat → Nat → Int) (n : Nat) (e : Ending) (w' : World) : Prop :=
  (¬ VM M n ∧ e = .returned (.tuple #[.slice none 0 0, .int .i64 1])) ∨
  (VM M n ∧ ∃ (ho : Option Addr) (hc u : Nat) (O : Nat → Nat → Int) (p : Nat → Nat), e = .returned (.tuple #[.slice ho u hc, .int .i64 0]) ∧ CV w' ho u O ∧ u ≤ hc ∧ hc ≤ maxLen ∧ u ≤ 6 ∧ Hf O u 6 p ∧ (∀ i k, i < u → k < n → dot 6 (M k) (O i) = 0) ∧ ∀ y, (∀ k, k < n → dot 6 (M k) y = 0) → Sp O u 6 y)
def RankOut (M : Nat → Nat → Int) (n : Nat) (e : Ending) : Prop :=
  (¬ VM M n ∧ e = .returned (.tuple #[.int .i64 0, .int .i64 1])) ∨
  (VM M n ∧ ∃ q : Nat, e = .returned (.tuple #[.int .i64 q, .int .i64 0]) ∧ q ≤ 6 ∧ ∀ k, Dv M n 6 k 0 ↔ q < k)
def DivOut (M : Nat → Nat → Int) (n : Nat) (e : Ending) (w' : World) : Prop :=
  (¬ VM M n ∧ e = .returned (.tuple #[.slice none 0 0, .int .i64 1])) ∨
  (VM M n ∧ ∃ (g : Nat → Nat) (ho : Option Addr) (hc r : Nat), e = .returned (.tuple #[.slice ho r hc, .int .i64 0]) ∧ CN w' ho ((List.range r).map fun i => g (i + 1)) ∧ r ≤ hc ∧ hc ≤ maxLen ∧ r ≤ 6 ∧ (∀ k d, Dv M n 6 k d ↔ d ∣ (g k : Int)) ∧ (∀ k, k < r → 0 < g (k + 1) ∧ g (k + 1) ≤ 1000000000) ∧ g (r + 1) = 0)
set_option maxRecDepth 100000 in
set_option maxHeartbeats 4000000 in
theorem hermite_pub (ao : Option Addr) (n c1 : Nat) (M : Nat → Nat → Int) (w : World) (hc1 : n ≤ c1) (hc2 : c1 ≤ maxLen) (hR : CV w ao n M) :
    Calls Try.prog 21 #[.slice ao n c1] w fun e w' => HermOut M n e w' ∧ Below w.heap.size w w' := by
  by_cases hv : VM M n
  · have PA := Bx.mk (pvalid_any ao n c1 M w hc1 hc2 hR true (by simp [hv]))
    have HR := Bx.mk hR
    have HV := Bx.mk hv
    clear hR hv
    go_enter Try.func21, Try.ntmps21
    go_wp2_with (first
      | (go_at_call 19; refine PA.out.mono ?_; clear PA; rintro e w2 ⟨rfl, hb2⟩)
      | (go_at_call 68; refine (phermite_any ao n c1 M _ HV.out hc1 (HR.out.keep hb2)).mono ?_; rintro e w3 ⟨v, O, q, p, rfl, hov, hq6, hO, h1, h2, hb3⟩
         obtain ⟨ho, hc, rfl⟩ := own_any hov
         have hcc : q ≤ hc ∧ hc ≤ maxLen := by
           rcases hov.2 with ⟨e, e2⟩ | ⟨g, cap, cur, e, _, _, h1, h2, _⟩
           · cases e; exact ⟨by omega, Nat.zero_le _⟩
           · simp only [Value.slice.injEq] at e; omega
         have HOUT := Bx.mk (And.intro (own_cv hov) (And.intro hO (And.intro h1 h2)))
         have HB := Bx.mk (hb2.trans (hb3.mono hb2.size))
         clear hov hO h1 h2 hb2 hb3))
    go_ret2
    exact ⟨.inr ⟨HV.out, ho, hc, q, O, p, rfl, HOUT.out.1, hcc.1, hcc.2, hq6, HOUT.out.2.1, HOUT.out.2.2.1, HOUT.out.2.2.2⟩, HB.out⟩
  · have PA := Bx.mk (pvalid_any ao n c1 M w hc1 hc2 hR false (by simp [hv]))
    have HV := Bx.mk hv
    clear hR hv
    go_enter Try.func21, Try.ntmps21
    go_wp2_with (first
      | (go_at_call 19; refine PA.out.mono ?_; clear PA; rintro e w2 ⟨rfl, hb2⟩))
    go_ret2
    exact ⟨.inl ⟨HV.out, rfl⟩, hb2⟩
set_option maxRecDepth 100000 in
set_option maxHeartbeats 4000000 in
theorem kernel_pub (ao : Option Addr) (n c1 : Nat) (M : Nat → Nat → Int) (w : World) (hc1 : n ≤ c1) (hc2 : c1 ≤ maxLen) (hR : CV w ao n M) :
    Calls Try.prog 24 #[.slice ao n c1] w fun e w' => KerOut M n e w' ∧ Below w.heap.size w w' := by
  by_cases hv : VM M n
  · have PA := Bx.mk (pvalid_any ao n c1 M w hc1 hc2 hR true (by simp [hv]))
    have HR := Bx.mk hR
    have HV := Bx.mk hv
    clear hR hv
    go_enter Try.func24, Try.ntmps24
    go_wp2_with (first
      | (go_at_call 19; refine PA.out.mono ?_; clear PA; rintro e w2 ⟨rfl, hb2⟩)
      | (go_at_call 76; refine (pkernel_any ao n c1 M _ HV.out hc1 (HR.out.keep hb2)).mono ?_; rintro e w3 ⟨ho, hc, q, O, p, rfl, hcv, hqc, hcm, hq6, hO, h1, h2, hb3⟩
         have HOUT := Bx.mk (And.intro hcv (And.intro hO (And.intro h1 h2)))
         have HB := Bx.mk (hb2.trans (hb3.mono hb2.size))
         clear hcv hO h1 h2 hb2 hb3))
    go_ret2
    exact ⟨.inr ⟨HV.out, ho, hc, q, O, p, rfl, HOUT.out.1, hqc, hcm, hq6, HOUT.out.2.1, HOUT.out.2.2.1, HOUT.out.2.2.2⟩, HB.out⟩
  · have PA := Bx.mk (pvalid_any ao n c1 M w hc1 hc2 hR false (by simp [hv]))
    have HV := Bx.mk hv
    clear hR hv
    go_enter Try.func24, Try.ntmps24
    go_wp2_with (first
      | (go_at_call 19; refine PA.out.mono ?_; clear PA; rintro e w2 ⟨rfl, hb2⟩))
    go_ret2
    exact ⟨.inl ⟨HV.out, rfl⟩, hb2⟩
set_option maxRecDepth 100000 in
set_option maxHeartbeats 4000000 in
theorem rank_pub (ao : Option Addr) (n c1 : Nat) (M : Nat → Nat → Int) (w : World) (hc1 : n ≤ c1) (hc2 : c1 ≤ maxLen) (hR : CV w ao n M) :
    Calls Try.prog 29 #[.slice ao n c1] w fun e w' => RankOut M n e ∧ Below w.heap.size w w' := by
  by_cases hv : VM M n
  · have PA := Bx.mk (pvalid_any ao n c1 M w hc1 hc2 hR true (by simp [hv]))
    have HR := Bx.mk hR
    have HV := Bx.mk hv
    clear hR hv
    have hfd : ∀ (a b c : Value) (w : World), (Instr.field 96 (.agg #[a, b, c]) 0).run Try.prog w = .ok a w := fun _ _ _ _ => by kernel_rfl
    go_enter Try.func29, Try.ntmps29
    go_wp2_with (first
      | (go_at_call 19; refine PA.out.mono ?_; clear PA; rintro e w2 ⟨rfl, hb2⟩)
      | (go_at_call 81; refine (first2_any ao n c1 M _ HV.out hc1 (HR.out.keep hb2)).mono ?_; rintro e w3 ⟨is, cs, fo, ro, fc, rc, q, om, rfl, HQ, HOM, HGR, hq6, hom0, hom1, HMB, HF, HRV, HB2⟩
         have HB := Bx.mk (hb2.trans (HB2.out.mono hb2.size))
         clear hb2 HB2))
    go_ret2
    exact ⟨.inr ⟨HV.out, q, rfl, hq6, fun k => by rw [← HQ.out]; exact HGR.out.1.rank k⟩, HB.out⟩
  · have PA := Bx.mk (pvalid_any ao n c1 M w hc1 hc2 hR false (by simp [hv]))
    have HV := Bx.mk hv
    clear hR hv
    go_enter Try.func29, Try.ntmps29
    go_wp2_with (first
      | (go_at_call 19; refine PA.out.mono ?_; clear PA; rintro e w2 ⟨rfl, hb2⟩))
    go_ret2
    exact ⟨.inl ⟨HV.out, rfl⟩, hb2⟩
end Go.Proofs.Ytnbamjoadankmaa
/- The program's Divisors. -/
namespace Go.Proofs.Ytnbamjoadankmaa
open Go.RowKit D
set_option maxRecDepth 100000 in
set_option maxHeartbeats 8000000 in
theorem divisors_pub (ao : Option Addr) (n c1 : Nat) (M : Nat → Nat → Int) (w : World) (hc1 : n ≤ c1) (hc2 : c1 ≤ maxLen) (hR : CV w ao n M) :
    Calls Try.prog 26 #[.slice ao n c1] w fun e w' => DivOut M n e w' ∧ Below w.heap.size w w' := by
  by_cases hv : VM M n
  · have PA := Bx.mk (pvalid_any ao n c1 M w hc1 hc2 hR true (by simp [hv]))
    obtain ⟨ti, hti, hti2⟩ := Option.map_eq_some_iff.1 info_int
    simp only [Prod.mk.injEq] at hti2
    obtain ⟨hz0, hz1, hz2⟩ := hti2
    have HTI := Bx.mk hti
    have HR := Bx.mk hR
    have HV := Bx.mk hv
    obtain ⟨g, hg⟩ := dv_nums n M
    have HG := Bx.mk hg
    have hg7 : g 7 = 0 := by
      have h := (hg 7 0).1 (by
        intro is js hi hj hn hm
        have hnd : ¬ js.Nodup := fun x => by
          have := (List.Nodup.length_le_of_subset x (l₂ := List.range 6) fun i hi => List.mem_range.2 (hm i hi))
          simp at this; omega
        rw [mn_cols_dup hnd _ (by simp [hi, hj])]; exact Int.dvd_refl _)
      have := Int.zero_dvd.1 h; omega
    clear hR hv hti hg
    go_enter Try.func26, Try.ntmps26
    go_wp2_with (first
      | (go_at_call 19; refine PA.out.mono ?_; clear PA; rintro e w2 ⟨rfl, hb2⟩))
    have HB0 := Bx.mk hb2
    clear hb2
    go_loopw [4, 5] (fun lv' ix wr => ∃ (k : Nat) (lv : Value), k ≤ 6 ∧ ix = .int .i64 ((k + 1 : Nat) : Int) ∧ lv = lv' ∧ Bx (wr.ownsRow w.heap.size 3 1 lv k (((List.range k).map fun i => g (i + 1)).map fun (j : Nat) => Value.int .i64 (j : Int))) ∧ Bx (∀ i, i < k → 0 < g (i + 1) ∧ g (i + 1) ≤ 1000000000) ∧ Bx (Below w.heap.size w wr)) (fun _ ix _ => 7 - (intOf ix).toNat)
    case atStart => exact ⟨0, _, by omega, rfl, rfl, ⟨World.ownsRow_nil _ _ _ _⟩, ⟨fun i hi => by omega⟩, HB0⟩
    case round =>
      clear HB0
      obtain ⟨k, lv, hk, rfl, rfl, HLV, HGP, HB⟩ := hrel
      have hws := HB.out.size
      have j0 : (((k + 1 : Nat) : Int) : Int) = (k : Int) + 1 := by omega
      rw [j0]
      by_cases hlt : k < 6
      · have j1 : (k : Int) + 1 ≤ 6 := by omega
        have CA0 := common_any ao n c1 M (k + 1) wr hc1 hc2 (HR.out.keep HB.out) HV.out (by omega) (by omega)
        rw [j0] at CA0
        have CA := Bx.mk (CA0.mono (R' := fun e w' => e = .returned (.int .i64 (g (k + 1) : Nat)) ∧ g (k + 1) ≤ 1000000000 ∧ Below wr.heap.size wr w') fun e w' ⟨x, he, hx, hd, hb⟩ => by
          obtain rfl := dv_one hd (HG.out (k + 1))
          exact ⟨he, hx, hb⟩)
        clear CA0
        obtain ⟨x, hx⟩ : ∃ x, g (k + 1) = x := ⟨_, rfl⟩
        rw [hx] at CA
        have HX := Bx.mk hx
        clear hx
        by_cases h0 : x = 0
        · subst h0
          go_wp2_with (first
            | (go_at_call 79; refine CA.out.mono ?_; clear CA; rintro e w4 ⟨rfl, hx9, hb4⟩))
          obtain ⟨lo, lc, e1, l1, l2, n1⟩ := cn_of_owns (own_keep (w' := w4) HLV.out fun q _ hq => hb4.block q hq)
          subst e1
          go_wp2_with fail
          go_ret2
          refine ⟨.inr ⟨HV.out, g, lo, lc, k, ?_, n1, by simpa using l1, l2, by omega, HG.out, HGP.out, HX.out⟩, HB.out.trans (hb4.mono hws)⟩
          simp
        · have h0' : ((x : Int) == 0) = false := by simp; omega
          go_wp2_with (first
            | (go_at_call 79; refine CA.out.mono ?_; clear CA; rintro e w4 ⟨rfl, hx9, hb4⟩)
            | (at_builtin; refine wpList_append_any rfl (.tmp 19) (.tmp 21) 29 rfl w.heap.size 3 ti (.int .i64 0) 1 8 Try.underlying29 HTI.out hz0 hz1 hz2 rfl (by decide) lv k _ rfl ((own_keep (w' := w4) HLV.out fun q _ hq => hb4.block q hq).alloc _) _ 1 _ [.int .i64 (x : Int)] rfl rfl (by intro h; cases h) (by intro ad had; cases had; exact one_new _ _ _) (by simp [Value.oneCell']) (by unfold maxLen; omega) (by omega) (by have := hb4.size; simp; omega) ?_
               intro lv5 w5 ho5 hg5))
          go_roundw
          case rel =>
            have hb45 := hb4.size
            refine ⟨k + 1, lv5, by omega, by go_num, rfl, ⟨?_⟩, ⟨fun i hi => if e : i = k then by rw [e, HX.out]; exact ⟨by omega, hx9⟩ else HGP.out i (by omega)⟩, ⟨((HB.out.trans (hb4.mono hws)).alloc (by omega) _).grown hg5 (by simp; omega) (fun q hq => (own_lt HLV.out q hq).1)⟩⟩
            rw [ints_snoc] at ho5
            rw [List.range_succ, List.map_append, List.map_cons, List.map_nil, HX.out]
            exact ho5
          case measure => simp [intOf]; omega
      · obtain rfl : 6 = k := by omega
        obtain ⟨lo, lc, e1, l1, l2, n1⟩ := cn_of_owns HLV.out
        subst e1
        go_wp2_with fail
        go_ret2
        refine ⟨.inr ⟨HV.out, g, lo, lc, 6, ?_, n1, by simpa using l1, l2, by omega, HG.out, HGP.out, hg7⟩, HB.out⟩
        simp
  · have PA := Bx.mk (pvalid_any ao n c1 M w hc1 hc2 hR false (by simp [hv]))
    have HV := Bx.mk hv
    clear hR hv
    go_enter Try.func26, Try.ntmps26
    go_wp2_with (first
      | (go_at_call 19; refine PA.out.mono ?_; clear PA; rintro e w2 ⟨rfl, hb2⟩))
    go_ret2
    exact ⟨.inl ⟨HV.out, rfl⟩, hb2⟩
end Go.Proofs.Ytnbamjoadankmaa

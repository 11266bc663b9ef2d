/- The program's Hermite, Rank, Kernel and Divisors. -/
import Derived.Test.YtmknbgiihhimfaaKX
import Derived.Test.YtmknbgiihhimfaaCM
import Derived.Test.YtmknbgiihhimfaaKS
namespace Go.Proofs.Ytmknbgiihhimfaa
open Go.RowKit D
/-- The number that has the divisors of all minors of a size. -/
theorem dv_nums (n : Nat) (M : Nat → Nat → Int) : ∃ g : Nat → Nat, ∀ k d, Dv M n 6 k d ↔ d ∣ (g k : Int) := by
  obtain ⟨s, _, h2⟩ := smith n 6 M
  exact ⟨fun k => (pr s k).natAbs, fun k d => (h2 k d).trans Int.dvd_natAbs.symm⟩
theorem dv_one {a b : Nat} {P : Int → Prop} (h : ∀ d, P d ↔ d ∣ (a : Int)) (k : ∀ d, P d ↔ d ∣ (b : Int)) : a = b := by
  have h1 := (k a).1 ((h a).2 (Int.dvd_refl _))
  have h2 := (h b).1 ((k b).2 (Int.dvd_refl _))
  exact Nat.dvd_antisymm (by exact_mod_cast h1) (by exact_mod_cast h2)
/-- What Hermite answers. -/
def HermOut (M : Nat → Nat → Int) (n : Nat) (e : Ending) (w' : World) : Prop :=
  (¬ VM M n ∧ e = .returned (.tuple #[.slice none 0 0, .int .i64 1])) ∨
  (VM M n ∧ ∃ (ho : Option Addr) (hc q : Nat) (O : Nat → Nat → Int) (p : Nat → Nat), e = .returned (.tuple #[.slice ho q hc, .int .i64 0]) ∧ CV w' ho q O ∧ q ≤ hc ∧ hc ≤ maxLen ∧ q ≤ 6 ∧ Hf O q 6 p ∧ (∀ t, t < n → Sp O q 6 (M t)) ∧ ∀ i, i < q → Sp M n 6 (O i))
def KerOut (M : Nat → Nat → Int) (n : Nat) (e : Ending) (w' : World) : Prop :=
  (¬ VM M n ∧ e = .returned (.tuple #[.slice none 0 0, .int .i64 1])) ∨
  (VM M n ∧ ∃ (ho : Option Addr) (hc u : Nat) (O : Nat → Nat → Int) (p : Nat → Nat), e = .returned (.tuple #[.slice ho u hc, .int .i64 0]) ∧ CV w' ho u O ∧ u ≤ hc ∧ hc ≤ maxLen ∧ u ≤ 6 ∧ Hf O u 6 p ∧ (∀ i k, i < u → k < n → dot 6 (M k) (O i) = 0) ∧ ∀ y, (∀ k, k < n → dot 6 (M k) y = 0) → Sp O u 6 y)
def RankOut (M : Nat → Nat → Int) (n : Nat) (e : Ending) : Prop :=
  (¬ VM M n ∧ e = .returned (.tuple #[.int .i64 0, .int .i64 1])) ∨
  (VM M n ∧ ∃ q : Nat, e = .returned (.tuple #[.int .i64 q, .int .i64 0]) ∧ q ≤ 6 ∧ ∀ k, Dv M n 6 k 0 ↔ q < k)
def DivOut (M : Nat → Nat → Int) (n : Nat) (e : Ending) (w' : World) : Prop :=
  (¬ VM M n ∧ e = .returned (.tuple #[.slice none 0 0, .int .i64 1])) ∨
  (VM M n ∧ ∃ (g : Nat → Nat) (ho : Option Addr) (hc r : Nat), e = .returned (.tuple #[.slice ho r hc, .int .i64 0]) ∧ CN w' ho ((List.range r).map fun i => g (i + 1)) ∧ r ≤ hc ∧ hc ≤ maxLen ∧ r ≤ 6 ∧ (∀ k d, Dv M n 6 k d ↔ d ∣ (g k : Int)) ∧ (∀ k, k < r → 0 < g (k + 1) ∧ g (k + 1) ≤ 1000000000) ∧ g (r + 1) = 0)
set_option maxRecDepth 100000 in
set_option maxHeartbeats 4000000 in
theorem hermite_pub (ao : Option Addr) (n c1 : Nat) (M : Nat → Nat → Int) (w : World) (hc1 : n ≤ c1) (hc2 : c1 ≤ maxLen) (hR : CV w ao n M) :
    Calls Try.prog 13 #[.slice ao n c1] w fun e w' => HermOut M n e w' ∧ Below w.heap.size w w' := by
  by_cases hv : VM M n
  · have PA := Bx.mk (pvalid_any ao n c1 M w hc1 hc2 hR true (by simp [hv]))
    have HR := Bx.mk hR
    have HV := Bx.mk hv
    clear hR hv
    go_enter Try.func13, Try.ntmps13
    go_wp2_with (first
      | (go_at_call 11; refine PA.out.mono ?_; clear PA; rintro e w2 ⟨rfl, hb2⟩)
      | (go_at_call 30; refine (phermite_any ao n c1 M _ HV.out hc1 (HR.out.keep hb2)).mono ?_; rintro e w3 ⟨v, O, q, p, rfl, hov, hq6, hO, h1, h2, hb3⟩
         obtain ⟨ho, hc, rfl⟩ := own_any hov
         have hcc : q ≤ hc ∧ hc ≤ maxLen := by
           rcases hov.2 with ⟨e, e2⟩ | ⟨g, cap, cur, e, _, _, h1, h2, _⟩
           · cases e; exact ⟨by omega, Nat.zero_le _⟩
           · simp only [Value.slice.injEq] at e; omega
         have HOUT := Bx.mk (And.intro (own_cv hov) (And.intro hO (And.intro h1 h2)))
         have HB := Bx.mk (hb2.trans (hb3.mono hb2.size))
         clear hov hO h1 h2 hb2 hb3))
    go_ret2
    exact ⟨.inr ⟨HV.out, ho, hc, q, O, p, rfl, HOUT.out.1, hcc.1, hcc.2, hq6, HOUT.out.2.1, HOUT.out.2.2.1, HOUT.out.2.2.2⟩, HB.out⟩
  · have PA := Bx.mk (pvalid_any ao n c1 M w hc1 hc2 hR false (by simp [hv]))
    have HV := Bx.mk hv
    clear hR hv
    go_enter Try.func13, Try.ntmps13
    go_wp2_with (first
      | (go_at_call 11; refine PA.out.mono ?_; clear PA; rintro e w2 ⟨rfl, hb2⟩))
    go_ret2
    exact ⟨.inl ⟨HV.out, rfl⟩, hb2⟩
set_option maxRecDepth 100000 in
set_option maxHeartbeats 4000000 in
theorem kernel_pub (ao : Option Addr) (n c1 : Nat) (M : Nat → Nat → Int) (w : World) (hc1 : n ≤ c1) (hc2 : c1 ≤ maxLen) (hR : CV w ao n M) :
    Calls Try.prog 16 #[.slice ao n c1] w fun e w' => KerOut M n e w' ∧ Below w.heap.size w w' := by
  by_cases hv : VM M n
  · have PA := Bx.mk (pvalid_any ao n c1 M w hc1 hc2 hR true (by simp [hv]))
    have HR := Bx.mk hR
    have HV := Bx.mk hv
    clear hR hv
    go_enter Try.func16, Try.ntmps16
    go_wp2_with (first
      | (go_at_call 11; refine PA.out.mono ?_; clear PA; rintro e w2 ⟨rfl, hb2⟩)
      | (go_at_call 38; refine (pkernel_any ao n c1 M _ HV.out hc1 (HR.out.keep hb2)).mono ?_; rintro e w3 ⟨ho, hc, q, O, p, rfl, hcv, hqc, hcm, hq6, hO, h1, h2, hb3⟩
         have HOUT := Bx.mk (And.intro hcv (And.intro hO (And.intro h1 h2)))
         have HB := Bx.mk (hb2.trans (hb3.mono hb2.size))
         clear hcv hO h1 h2 hb2 hb3))
    go_ret2
    exact ⟨.inr ⟨HV.out, ho, hc, q, O, p, rfl, HOUT.out.1, hqc, hcm, hq6, HOUT.out.2.1, HOUT.out.2.2.1, HOUT.out.2.2.2⟩, HB.out⟩
  · have PA := Bx.mk (pvalid_any ao n c1 M w hc1 hc2 hR false (by simp [hv]))
    have HV := Bx.mk hv
    clear hR hv
    go_enter Try.func16, Try.ntmps16
    go_wp2_with (first
      | (go_at_call 11; refine PA.out.mono ?_; clear PA; rintro e w2 ⟨rfl, hb2⟩))
    go_ret2
    exact ⟨.inl ⟨HV.out, rfl⟩, hb2⟩
set_option maxRecDepth 100000 in
set_option maxHeartbeats 4000000 in
theorem rank_pub (ao : Option Addr) (n c1 : Nat) (M : Nat → Nat → Int) (w : World) (hc1 : n ≤ c1) (hc2 : c1 ≤ maxLen) (hR : CV w ao n M) :
    Calls Try.prog 21 #[.slice ao n c1] w fun e w' => RankOut M n e ∧ Below w.heap.size w w' := by
  by_cases hv : VM M n
  · have PA := Bx.mk (pvalid_any ao n c1 M w hc1 hc2 hR true (by simp [hv]))
    have HR := Bx.mk hR
    have HV := Bx.mk hv
    clear hR hv
    have hfd : ∀ (a b c : Value) (w : World), (Instr.field 61 (.agg #[a, b, c]) 0).run Try.prog w = .ok a w := fun _ _ _ _ => by kernel_rfl
    go_enter Try.func21, Try.ntmps21
    go_wp2_with (first
      | (go_at_call 11; refine PA.out.mono ?_; clear PA; rintro e w2 ⟨rfl, hb2⟩)
      | (go_at_call 42; refine (first2_any ao n c1 M _ HV.out hc1 (HR.out.keep hb2)).mono ?_; rintro e w3 ⟨is, cs, fo, ro, fc, rc, q, om, rfl, HQ, HOM, HGR, hq6, hom0, hom1, HMB, HF, HRV, HB2⟩
         have HB := Bx.mk (hb2.trans (HB2.out.mono hb2.size))
         clear hb2 HB2))
    go_ret2
    exact ⟨.inr ⟨HV.out, q, rfl, hq6, fun k => by rw [← HQ.out]; exact HGR.out.1.rank k⟩, HB.out⟩
  · have PA := Bx.mk (pvalid_any ao n c1 M w hc1 hc2 hR false (by simp [hv]))
    have HV := Bx.mk hv
    clear hR hv
    go_enter Try.func21, Try.ntmps21
    go_wp2_with (first
      | (go_at_call 11; refine PA.out.mono ?_; clear PA; rintro e w2 ⟨rfl, hb2⟩))
    go_ret2
    exact ⟨.inl ⟨HV.out, rfl⟩, hb2⟩
end Go.Proofs.Ytmknbgiihhimfaa

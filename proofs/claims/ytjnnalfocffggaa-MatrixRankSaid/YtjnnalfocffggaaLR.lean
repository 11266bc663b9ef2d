/- MatrixRank: the law's walk. -/
import Derived.Test.YtjnnalfocffggaaHC
import Derived.Test.YtjnnalfocffggaaF6
namespace Go.Proofs.Ytjnnalfocffggaa
open Go.RowKit D
theorem rank_unique {q r : Nat} {P : Nat → Prop} (h1 : ∀ k, P k ↔ q < k) (h2 : ∀ k, P k ↔ r < k) : q = r := by
  have a := (h1 (r + 1)).1 ((h2 (r + 1)).2 (by omega))
  have b := (h2 (q + 1)).1 ((h1 (q + 1)).2 (by omega))
  omega
theorem rank_divs {M : Nat → Nat → Int} {n q r : Nat} {g : Nat → Nat} (hq : ∀ k, Dv M n 6 k 0 ↔ q < k) (hg : ∀ k d, Dv M n 6 k d ↔ d ∣ (g k : Int)) (hp : ∀ k, k < r → 0 < g (k + 1) ∧ g (k + 1) ≤ 1000000000) (h0 : g (r + 1) = 0) : r = q := by
  have e : ∀ k, g k = 0 ↔ q < k := fun k => by
    rw [← hq k, hg k 0]
    exact ⟨fun e => by rw [e]; exact Int.dvd_refl _, fun e => by have := Int.zero_dvd.1 e; omega⟩
  have a := (e (r + 1)).1 h0
  refine Classical.byContradiction fun hne => ?_
  have hr : 0 < r := by omega
  have b := (hp (r - 1) (by omega)).1
  rw [show r - 1 + 1 = r by omega] at b
  have c := (e r).2 (by omega)
  omega
set_option maxRecDepth 100000 in
set_option maxHeartbeats 8000000 in
theorem rank_law (ao : Option Addr) (n c1 : Nat) (M : Nat → Nat → Int) (w : World) (hc1 : n ≤ c1) (hc2 : c1 ≤ maxLen) (hR : CV w ao n M) :
    Calls Try.prog 6 #[.slice ao n c1] w fun e w' => e = .returned (.bool true) ∧ Below w.heap.size w w' := by
  have HR := Bx.mk hR
  by_cases hv : VM M n
  · have HV := Bx.mk hv
    have hn8 := hv.1
    clear hR hv
    go_enter Try.func6, Try.ntmps6
    go_wp2_with (first
      | (go_at_call 17; refine (head_any _).mono ?_; rintro e w1 ⟨rfl, B1⟩)
      | (go_at_call 28; refine ((rank_pub ao n c1 M _ hc1 hc2 (HR.out.keep B1)).mono (R' := fun e w' => ∃ q : Nat, e = .returned (.tuple #[.int .i64 q, .int .i64 0]) ∧ q ≤ 6 ∧ q ≤ n ∧ Bx (∀ k, Dv M n 6 k 0 ↔ q < k) ∧ Below w1.heap.size w1 w') fun e w' ⟨h, hb⟩ => by
           rcases h with ⟨h, _⟩ | ⟨_, q, he, h6, hq⟩
           · exact absurd HV.out h
           · exact ⟨q, he, h6, by have := (hq (n + 1)).1 (Dv.many (by omega) 0); omega, ⟨hq⟩, hb⟩).mono ?_; rintro e w2 ⟨q, rfl, hq6, hqn, HQ, B2⟩)
      | (go_at_call 20; refine ((hermite_pub ao n c1 M _ hc1 hc2 ((HR.out.keep B1).keep B2)).mono (R' := fun e w' => ∃ (ho : Option Addr) (hc : Nat), e = .returned (.tuple #[.slice ho q hc, .int .i64 0]) ∧ Below w2.heap.size w2 w') fun e w' ⟨h, hb⟩ => by
           rcases h with ⟨h, _⟩ | ⟨_, ho, hc, r, O, p, he, hcv, h1, h2, h6, hO, k1, k2⟩
           · exact absurd HV.out h
           · obtain rfl := rank_unique HQ.out (hO.rank k1 k2)
             exact ⟨ho, hc, he, hb⟩).mono ?_; rintro e w3 ⟨h0, hc, rfl, B3⟩)
      | (go_at_call 25; refine ((divisors_pub ao n c1 M _ hc1 hc2 (((HR.out.keep B1).keep B2).keep B3)).mono (R' := fun e w' => ∃ (ho : Option Addr) (hc : Nat), e = .returned (.tuple #[.slice ho q hc, .int .i64 0]) ∧ Below w3.heap.size w3 w') fun e w' ⟨h, hb⟩ => by
           rcases h with ⟨h, _⟩ | ⟨_, g, ho, hc, r, he, hcn, h1, h2, h6, k1, k2, k3⟩
           · exact absurd HV.out h
           · obtain rfl := rank_divs HQ.out k1 k2 k3
             exact ⟨ho, hc, he, hb⟩).mono ?_; rintro e w4 ⟨d0, dc, rfl, B4⟩)
      | (go_at_call 23; refine ((kernel_pub ao n c1 M _ hc1 hc2 ((((HR.out.keep B1).keep B2).keep B3).keep B4)).mono (R' := fun e w' => ∃ (ho : Option Addr) (hc u : Nat), e = .returned (.tuple #[.slice ho u hc, .int .i64 0]) ∧ u + q = 6 ∧ Below w4.heap.size w4 w') fun e w' ⟨h, hb⟩ => by
           rcases h with ⟨h, _⟩ | ⟨_, ho, hc, u, O, p, he, hcv, h1, h2, h6, hO, k1, k2⟩
           · exact absurd HV.out h
           · have hk := ker_count hO k1 k2 HQ.out
             exact ⟨ho, hc, u, he, by omega, hb⟩).mono ?_; rintro e w5 ⟨x0, xc, u, rfl, huq, B5⟩
         have i1 : ((u : Int) == 6 - (q : Int)) = true := by simp; omega
         have i2 : IntKind.i64.wrap (6 - (q : Int)) = 6 - (q : Int) := by rw [IntWalk.i64_in] <;> omega
         have i3 : (0 : Int) ≤ (q : Int) := by omega
         have i4 : (q : Int) ≤ 6 := by omega
         have i5 : (q : Int) ≤ (n : Int) := by omega))
    go_ret
    exact ⟨rfl, (((B1.trans (B2.mono B1.size)).trans (B3.mono (Nat.le_trans B1.size B2.size))).trans (B4.mono (Nat.le_trans (Nat.le_trans B1.size B2.size) B3.size))).trans (B5.mono (Nat.le_trans (Nat.le_trans (Nat.le_trans B1.size B2.size) B3.size) B4.size))⟩
  · have HV := Bx.mk hv
    clear hR hv
    go_enter Try.func6, Try.ntmps6
    go_wp2_with (first
      | (go_at_call 17; refine (head_any _).mono ?_; rintro e w1 ⟨rfl, B1⟩)
      | (go_at_call 28; refine ((rank_pub ao n c1 M _ hc1 hc2 (HR.out.keep B1)).mono (R' := fun e w' => e = .returned (.tuple #[.int .i64 0, .int .i64 1]) ∧ Below w1.heap.size w1 w') fun e w' ⟨h, hb⟩ => by
           rcases h with ⟨_, h⟩ | ⟨h, _⟩
           · exact ⟨h, hb⟩
           · exact absurd h HV.out).mono ?_; rintro e w2 ⟨rfl, B2⟩)
      | (go_at_call 20; refine ((hermite_pub ao n c1 M _ hc1 hc2 ((HR.out.keep B1).keep B2)).mono (R' := fun e w' => e = .returned (.tuple #[.slice none 0 0, .int .i64 1]) ∧ Below w2.heap.size w2 w') fun e w' ⟨h, hb⟩ => by
           rcases h with ⟨_, h⟩ | ⟨h, _⟩
           · exact ⟨h, hb⟩
           · exact absurd h HV.out).mono ?_; rintro e w3 ⟨rfl, B3⟩)
      | (go_at_call 25; refine ((divisors_pub ao n c1 M _ hc1 hc2 (((HR.out.keep B1).keep B2).keep B3)).mono (R' := fun e w' => e = .returned (.tuple #[.slice none 0 0, .int .i64 1]) ∧ Below w3.heap.size w3 w') fun e w' ⟨h, hb⟩ => by
           rcases h with ⟨_, h⟩ | ⟨h, _⟩
           · exact ⟨h, hb⟩
           · exact absurd h HV.out).mono ?_; rintro e w4 ⟨rfl, B4⟩)
      | (go_at_call 23; refine ((kernel_pub ao n c1 M _ hc1 hc2 ((((HR.out.keep B1).keep B2).keep B3).keep B4)).mono (R' := fun e w' => e = .returned (.tuple #[.slice none 0 0, .int .i64 1]) ∧ Below w4.heap.size w4 w') fun e w' ⟨h, hb⟩ => by
           rcases h with ⟨_, h⟩ | ⟨h, _⟩
           · exact ⟨h, hb⟩
           · exact absurd h HV.out).mono ?_; rintro e w5 ⟨rfl, B5⟩)
      | (go_at_call 18; refine (pvalid_any ao n c1 M _ hc1 hc2 (((((HR.out.keep B1).keep B2).keep B3).keep B4).keep B5) false (by simp [HV.out])).mono ?_; rintro e w6 ⟨rfl, B6⟩))
    go_ret
    have J5 := (((B1.trans (B2.mono B1.size)).trans (B3.mono (Nat.le_trans B1.size B2.size))).trans (B4.mono (Nat.le_trans (Nat.le_trans B1.size B2.size) B3.size))).trans (B5.mono (Nat.le_trans (Nat.le_trans (Nat.le_trans B1.size B2.size) B3.size) B4.size))
    exact ⟨rfl, J5.trans (B6.mono J5.size)⟩
end Go.Proofs.Ytjnnalfocffggaa

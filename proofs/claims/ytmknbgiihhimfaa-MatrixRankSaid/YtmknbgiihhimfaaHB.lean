/- The chapter's examples: head of the laws. -/
import Derived.Test.YtmknbgiihhimfaaHA
import Derived.Test.YtmknbgiihhimfaaR5
namespace Go.Proofs.Ytmknbgiihhimfaa
open Go.RowKit D
theorem CV.congr {w : World} {ao : Option Addr} {n : Nat} {A B : Nat → Nat → Int} (h : CV w ao n A) (e : ∀ i j, i < n → j < 6 → A i j = B i j) : CV w ao n B := fun hn => by
  obtain ⟨b, o, ha, hl, hc⟩ := h hn
  exact ⟨b, o, ha, hl, fun i j hi hj => by rw [hc i j hi hj, e i j hi hj]⟩
theorem hermM_any (ao : Option Addr) (w : World) (hR : CV w ao 2 (lm exM)) : Calls Try.prog 13 #[.slice ao 2 2] w fun e w' => ∃ (ho : Option Addr) (hc : Nat), e = .returned (.tuple #[.slice ho 2 hc, .int .i64 0]) ∧ Bx (CV w' ho 2 (lm exH) ∧ 2 ≤ hc ∧ hc ≤ maxLen) ∧ Bx (Below w.heap.size w w') :=
  (hermite_pub ao 2 2 (lm exM) w (Nat.le_refl _) (by decide) hR).mono fun e w' ⟨h, hb⟩ => by
    rcases h with ⟨h, _⟩ | ⟨_, ho, hc, q, O, p, he, hcv, h1, h2, _, hO, k1, k2⟩
    · exact absurd vmM h
    · obtain ⟨rfl, e2⟩ := herm_M hO k1 k2
      exact ⟨ho, hc, he, ⟨CV.congr hcv fun i j hi hj => e2 i j hi hj, h1, h2⟩, ⟨hb⟩⟩
theorem hermT_any (ao : Option Addr) (w : World) (hR : CV w ao 2 (lm exT)) : Calls Try.prog 13 #[.slice ao 2 2] w fun e w' => ∃ (ho : Option Addr) (hc : Nat), e = .returned (.tuple #[.slice ho 1 hc, .int .i64 0]) ∧ Bx (CV w' ho 1 (lm exU) ∧ 1 ≤ hc ∧ hc ≤ maxLen) ∧ Bx (Below w.heap.size w w') :=
  (hermite_pub ao 2 2 (lm exT) w (Nat.le_refl _) (by decide) hR).mono fun e w' ⟨h, hb⟩ => by
    rcases h with ⟨h, _⟩ | ⟨_, ho, hc, q, O, p, he, hcv, h1, h2, _, hO, k1, k2⟩
    · exact absurd vmT h
    · obtain ⟨rfl, e2⟩ := herm_T hO k1 k2
      exact ⟨ho, hc, he, ⟨CV.congr hcv fun i j hi hj => e2 i j hi hj, h1, h2⟩, ⟨hb⟩⟩
theorem kerM_any (ao : Option Addr) (w : World) (hR : CV w ao 2 (lm exM)) : Calls Try.prog 16 #[.slice ao 2 2] w fun e w' => ∃ (ho : Option Addr) (hc : Nat), e = .returned (.tuple #[.slice ho 4 hc, .int .i64 0]) ∧ Bx (CV w' ho 4 (lm exK) ∧ 4 ≤ hc ∧ hc ≤ maxLen) ∧ Bx (Below w.heap.size w w') :=
  (kernel_pub ao 2 2 (lm exM) w (Nat.le_refl _) (by decide) hR).mono fun e w' ⟨h, hb⟩ => by
    rcases h with ⟨h, _⟩ | ⟨_, ho, hc, q, O, p, he, hcv, h1, h2, _, hO, k1, k2⟩
    · exact absurd vmM h
    · obtain ⟨rfl, e2⟩ := ker_M hO k1 k2
      exact ⟨ho, hc, he, ⟨CV.congr hcv fun i j hi hj => e2 i j hi hj, h1, h2⟩, ⟨hb⟩⟩
theorem divD_any (ao : Option Addr) (w : World) (hR : CV w ao 2 (lm exD)) : Calls Try.prog 18 #[.slice ao 2 2] w fun e w' => ∃ (ho : Option Addr) (hc : Nat), e = .returned (.tuple #[.slice ho 2 hc, .int .i64 0]) ∧ Bx (CI w' ho [2, 12] ∧ 2 ≤ hc ∧ hc ≤ maxLen) ∧ Bx (Below w.heap.size w w') :=
  (divisors_pub ao 2 2 (lm exD) w (Nat.le_refl _) (by decide) hR).mono fun e w' ⟨h, hb⟩ => by
    rcases h with ⟨h, _⟩ | ⟨_, g, ho, hc, r, he, hcn, h1, h2, _, k1, k2, k3⟩
    · exact absurd vmD h
    · obtain ⟨rfl, e1, e2⟩ := div_D k1 k2 k3
      refine ⟨ho, hc, he, ⟨fun _ => ?_, h1, h2⟩, ⟨hb⟩⟩
      obtain ⟨b, o, ha, hl, hx⟩ := hcn (by simp)
      refine ⟨b, o, ha, hl, fun i hi => ?_⟩
      have hi2 : i < 2 := by simpa using hi
      rw [hx i (by simpa using hi2)]
      rcases (show i = 0 ∨ i = 1 by omega) with rfl | rfl <;> simp [e1, e2]
theorem rankR_any (ao : Option Addr) (w : World) (hR : CV w ao 2 (lm exR)) : Calls Try.prog 21 #[.slice ao 2 2] w fun e w' => e = .returned (.tuple #[.int .i64 1, .int .i64 0]) ∧ Bx (Below w.heap.size w w') :=
  (rank_pub ao 2 2 (lm exR) w (Nat.le_refl _) (by decide) hR).mono fun e w' ⟨h, hb⟩ => by
    rcases h with ⟨h, _⟩ | ⟨_, q, he, _, hq⟩
    · exact absurd vmR h
    · obtain rfl := rank_R hq
      exact ⟨he, ⟨hb⟩⟩
theorem rankB_any (ao : Option Addr) (w : World) (hR : CV w ao 1 (lm exB)) : Calls Try.prog 21 #[.slice ao 1 1] w fun e w' => e = .returned (.tuple #[.int .i64 0, .int .i64 1]) ∧ Bx (Below w.heap.size w w') :=
  (rank_pub ao 1 1 (lm exB) w (Nat.le_refl _) (by decide) hR).mono fun e w' ⟨h, hb⟩ => by
    rcases h with ⟨_, h⟩ | ⟨h, _⟩
    · exact ⟨h, ⟨hb⟩⟩
    · exact absurd h vmB
theorem below_new {w w' : World} {o : Obj} (h : Below (w.alloc o).heap.size (w.alloc o) w') : Below w.heap.size w w' := ((Below.refl _ w).alloc (Nat.le_refl _) o).trans (h.mono (by simp))
end Go.Proofs.Ytmknbgiihhimfaa

/- remainder and lowered: a row less a multiple of another one, modulo a number. -/
import Derived.Test.YtnbamjoadankmaaR9
namespace Go.Proofs.Ytnbamjoadankmaa
open Go.RowKit D
set_option maxHeartbeats 1000000 in
theorem remainder_any (n d : Int) (w : World) (hd : 0 < d) (hd2 : d ≤ 1000000000) (h1 : -9223372036854775808 ≤ n) (h2 : n ≤ 9223372036854775807) : Calls Try.prog 145 #[.int .i64 n, .int .i64 d] w fun e w' => e = .returned (.int .i64 (n % d)) ∧ w' = w := by
  obtain ⟨s, hs⟩ : ∃ s, n.tmod d = s := ⟨_, rfl⟩
  have h5 : s.natAbs < d.natAbs := by rw [← hs, Int.natAbs_tmod]; exact Nat.mod_lt _ (by omega)
  have h3 : s < d := by omega
  have h4 : -d < s := by omega
  have hd0 : d ≠ 0 := by omega
  by_cases h0 : s < 0
  · have e : s + d = n % d := by
      have a := Int.tmod_add_mul_tdiv n d
      rw [hs] at a
      rw [show n = s + d + d * (n.tdiv d - 1) by rw [Int.mul_sub]; omega, Int.add_mul_emod_self_left]
      exact (Int.emod_eq_of_lt (by omega) (by omega)).symm
    have E := Bx.mk e
    clear e
    go_enter Try.func145, Try.ntmps145
    go_wp2_with fail
    go_ret
    exact ⟨by rw [← E.out]; rfl, rfl⟩
  · have e : s = n % d := by
      have a := Int.tmod_add_mul_tdiv n d
      rw [hs] at a
      rw [show n = s + d * (n.tdiv d) by omega, Int.add_mul_emod_self_left]
      exact (Int.emod_eq_of_lt (by omega) (by omega)).symm
    have E := Bx.mk e
    clear e
    go_enter Try.func145, Try.ntmps145
    go_wp2_with fail
    go_ret
    exact ⟨by rw [← E.out]; rfl, rfl⟩
theorem box_cell3 (w : World) (u v : Nat → Int) (t : TypeId) : (∀ l, l < 6 → (((w.alloc (.cells #[.int .i64 (u 0), .int .i64 (u 1), .int .i64 (u 2), .int .i64 (u 3), .int .i64 (u 4), .int .i64 (u 5)] t)).alloc (.cells #[.int .i64 (v 0), .int .i64 (v 1), .int .i64 (v 2), .int .i64 (v 3), .int .i64 (v 4), .int .i64 (v 5)] t)).alloc (.cells #[.int .i64 0, .int .i64 0, .int .i64 0, .int .i64 0, .int .i64 0, .int .i64 0] t)).cell? ⟨w.heap.size, l, none⟩ = some (.int .i64 (u l)) ∧ (((w.alloc (.cells #[.int .i64 (u 0), .int .i64 (u 1), .int .i64 (u 2), .int .i64 (u 3), .int .i64 (u 4), .int .i64 (u 5)] t)).alloc (.cells #[.int .i64 (v 0), .int .i64 (v 1), .int .i64 (v 2), .int .i64 (v 3), .int .i64 (v 4), .int .i64 (v 5)] t)).alloc (.cells #[.int .i64 0, .int .i64 0, .int .i64 0, .int .i64 0, .int .i64 0, .int .i64 0] t)).frozen? ⟨w.heap.size, l, none⟩ = false) ∧
    (∀ l, l < 6 → (((w.alloc (.cells #[.int .i64 (u 0), .int .i64 (u 1), .int .i64 (u 2), .int .i64 (u 3), .int .i64 (u 4), .int .i64 (u 5)] t)).alloc (.cells #[.int .i64 (v 0), .int .i64 (v 1), .int .i64 (v 2), .int .i64 (v 3), .int .i64 (v 4), .int .i64 (v 5)] t)).alloc (.cells #[.int .i64 0, .int .i64 0, .int .i64 0, .int .i64 0, .int .i64 0, .int .i64 0] t)).cell? ⟨w.heap.size + 1, l, none⟩ = some (.int .i64 (v l))) ∧
    ∀ l, l < 6 → (((w.alloc (.cells #[.int .i64 (u 0), .int .i64 (u 1), .int .i64 (u 2), .int .i64 (u 3), .int .i64 (u 4), .int .i64 (u 5)] t)).alloc (.cells #[.int .i64 (v 0), .int .i64 (v 1), .int .i64 (v 2), .int .i64 (v 3), .int .i64 (v 4), .int .i64 (v 5)] t)).alloc (.cells #[.int .i64 0, .int .i64 0, .int .i64 0, .int .i64 0, .int .i64 0, .int .i64 0] t)).cell? ⟨w.heap.size + 1 + 1, l, none⟩ = some (.int .i64 0) ∧ (((w.alloc (.cells #[.int .i64 (u 0), .int .i64 (u 1), .int .i64 (u 2), .int .i64 (u 3), .int .i64 (u 4), .int .i64 (u 5)] t)).alloc (.cells #[.int .i64 (v 0), .int .i64 (v 1), .int .i64 (v 2), .int .i64 (v 3), .int .i64 (v 4), .int .i64 (v 5)] t)).alloc (.cells #[.int .i64 0, .int .i64 0, .int .i64 0, .int .i64 0, .int .i64 0, .int .i64 0] t)).frozen? ⟨w.heap.size + 1 + 1, l, none⟩ = false :=
  ⟨six (by simp [go_sem]) (by simp [go_sem]) (by simp [go_sem]) (by simp [go_sem]) (by simp [go_sem]) (by simp [go_sem]), six (by simp [go_sem]) (by simp [go_sem]) (by simp [go_sem]) (by simp [go_sem]) (by simp [go_sem]) (by simp [go_sem]), six (by simp [go_sem]) (by simp [go_sem]) (by simp [go_sem]) (by simp [go_sem]) (by simp [go_sem]) (by simp [go_sem])⟩
def low (u v : Nat → Int) (c : Nat) (d : Int) : Nat → Int := fun j => if j < c then u j else (u j - u c / v c * v j) % d
end Go.Proofs.Ytnbamjoadankmaa
/- lowered: a row less a multiple of another one. -/
namespace Go.Proofs.Ytnbamjoadankmaa
open Go.RowKit D
set_option maxRecDepth 100000 in
set_option maxHeartbeats 8000000 in
theorem lowered_any (u v : Nat → Int) (c : Nat) (d : Int) (w : World) (hc : c < 6) (hd : 0 < d) (hd2 : d ≤ 1000000000) (hv0 : 0 < v c) (hu : ∀ j, c ≤ j → j < 6 → 0 ≤ u j ∧ u j ≤ 1000000000) (hv : ∀ j, c ≤ j → j < 6 → 0 ≤ v j ∧ v j ≤ 1000000000) :
    Calls Try.prog 148 #[PV u, PV v, .int .i64 c, .int .i64 d] w fun e w' => e = .returned (PV (low u v c d)) ∧ Below w.heap.size w w' := by
  obtain ⟨q, hq⟩ : ∃ q, (u c).tdiv (v c) = q := ⟨_, rfl⟩
  have hqe : q = u c / v c := by rw [← hq]; exact Int.tdiv_eq_ediv_of_nonneg (hu c (Nat.le_refl _) hc).1
  have hq0 : 0 ≤ q := by rw [hqe]; exact Int.ediv_nonneg (hu c (Nat.le_refl _) hc).1 (by omega)
  have hq1 : q ≤ 1000000000 := by rw [hqe]; exact Int.le_trans (Int.ediv_le_self _ (hu c (Nat.le_refl _) hc).1) (hu c (Nat.le_refl _) hc).2
  have HU := Bx.mk hu
  have HV := Bx.mk hv
  have HC := Bx.mk (box_cell3 w u v 36)
  have hvc : v c ≠ 0 := by omega
  have hmx : Try.prog.follows .mixedOrders = true := by kernel_rfl
  have c0 := (HC.out.1 c hc).1
  have c1 := (HC.out.2.1 c hc)
  have HQ := Bx.mk hqe
  clear hu hv hqe
  go_enter Try.func148, Try.ntmps148
  go_wp2_with fail
  go_region
  all_goals go_wp2_with fail
  all_goals
    go_loopw [10] (fun i wr => ∃ l : Nat, c ≤ l ∧ l ≤ 6 ∧ i = .int .i64 l ∧ Bx (∀ t, t < 6 → wr.cell? ⟨w.heap.size, t, none⟩ = some (.int .i64 (if t < l then low u v c d t else u t)) ∧ wr.frozen? ⟨w.heap.size, t, none⟩ = false) ∧ Bx (∀ t, t < 6 → wr.cell? ⟨w.heap.size + 1, t, none⟩ = some (.int .i64 (v t))) ∧ Bx (∀ t, t < 6 → wr.cell? ⟨w.heap.size + 1 + 1, t, none⟩ = some (.int .i64 0) ∧ wr.frozen? ⟨w.heap.size + 1 + 1, t, none⟩ = false) ∧ Bx (Below w.heap.size w wr)) (fun i _ => 6 - (intOf i).toNat)
    case atStart => exact ⟨c, Nat.le_refl _, by omega, rfl, ⟨fun t ht => ⟨by
        have := (HC.out.1 t ht).1
        by_cases h : t < c
        · rw [if_pos h]; unfold low; rw [if_pos h]; exact this
        · rw [if_neg h]; exact this, (HC.out.1 t ht).2⟩⟩, ⟨fun t ht => HC.out.2.1 t ht⟩, ⟨fun t ht => HC.out.2.2 t ht⟩, ⟨below_drew ((((Below.refl _ w).alloc (Nat.le_refl _) _).alloc (by simp) _).alloc (by simp; omega) _)⟩⟩
    case round =>
      obtain ⟨l, hcl, hl6, rfl, HW, HZ, HR, HB⟩ := hrel
      by_cases hlt : l < 6
      · have e0 := (HW.out l hlt).1
        have e1 := (HW.out l hlt).2
        have e2 := HZ.out l hlt
        rw [if_neg (by omega)] at e0
        obtain ⟨x, hx⟩ : ∃ x, u l = x := ⟨_, rfl⟩
        obtain ⟨y, hy⟩ : ∃ y, v l = y := ⟨_, rfl⟩
        have b1 := HU.out l hcl hlt
        have b2 := HV.out l hcl hlt
        rw [hx] at e0 b1; rw [hy] at e2 b2
        obtain ⟨P, hP⟩ : ∃ P, q * y = P := ⟨_, rfl⟩
        have p1 : 0 ≤ P := by rw [← hP]; exact Int.mul_nonneg hq0 b2.1
        have p2 : P ≤ 1000000000000000000 := by rw [← hP]; have := Int.mul_le_mul hq1 b2.2 b2.1 (by omega); omega
        obtain ⟨x1, x2⟩ := b1
        obtain ⟨y1, y2⟩ := b2
        obtain ⟨z, hz⟩ : ∃ z, (x - P) % d = z := ⟨_, rfl⟩
        have RM := Bx.mk (fun w => remainder_any (x - P) d w hd hd2 (by omega) (by omega))
        rw [hz] at RM
        have HL := Bx.mk (show z = low u v c d l by unfold low; rw [if_neg (by omega), ← HQ.out, hx, hy, hP, hz])
        have hwP : IntKind.i64.wrap P = P := by rw [IntWalk.i64_in] <;> omega
        have hwD : IntKind.i64.wrap (x - P) = x - P := by rw [IntWalk.i64_in] <;> omega
        clear hx hy hz
        go_wp2_with fail
        refine wp_region_still_tail 12 hmx (by kernel_rfl) ?_
        simp only [List.take_succ_cons, List.take_zero, List.drop_succ_cons, List.drop_zero]
        change wpStill _ _ wr.drew (fun a' => wpList _ _ _ _ a' wr.drew) _ _
        iterate 11 still_step
        still_call (RM.out _)
        refine wpStill_nil ?_
        go_wp2_with fail
        exact ⟨⟨l + 1, by omega, by omega, by go_num, ⟨cells_set HW.out hlt (h := fun t => if t < l + 1 then low u v c d t else u t) (by simp only [if_pos (Nat.lt_succ_self l)]; exact HL.out) fun t ht hne => by
            by_cases z : t < l
            · simp only [if_pos z, if_pos (show t < l + 1 by omega)]
            · simp only [if_neg z, if_neg (show ¬ t < l + 1 by omega)]⟩, ⟨fun t ht => (World.cell?_setCell_other wr _ _ _ (by simp)).trans (HZ.out t ht)⟩, ⟨fun t ht => ⟨(World.cell?_setCell_other wr _ _ _ (by simp)).trans (HR.out t ht).1, (World.frozen?_setCell wr _ _ _).trans (HR.out t ht).2⟩⟩, ⟨below_drew (HB.out.setCell (p := ⟨w.heap.size, l, none⟩) (by simp) _)⟩⟩, by simp [intOf]; omega⟩
      · obtain rfl : l = 6 := by omega
        have f0 := (HW.out 0 (by omega)).1
        have f1 := (HW.out 1 (by omega)).1
        have f2 := (HW.out 2 (by omega)).1
        have f3 := (HW.out 3 (by omega)).1
        have f4 := (HW.out 4 (by omega)).1
        have f5 := (HW.out 5 (by omega)).1
        simp only [Nat.reduceLT, reduceIte] at f0 f1 f2 f3 f4 f5
        have g0 := (HR.out 0 (by omega)).1
        have g1 := (HR.out 1 (by omega)).1
        have g2 := (HR.out 2 (by omega)).1
        have g3 := (HR.out 3 (by omega)).1
        have g4 := (HR.out 4 (by omega)).1
        have g5 := (HR.out 5 (by omega)).1
        have k0 := (HR.out 0 (by omega)).2
        have k1 := (HR.out 1 (by omega)).2
        have k2 := (HR.out 2 (by omega)).2
        have k3 := (HR.out 3 (by omega)).2
        have k4 := (HR.out 4 (by omega)).2
        have k5 := (HR.out 5 (by omega)).2
        have hB := HB.out
        go_wp2_with fail
        refine bodyPost_ret_by (v := PV (low u v c d)) (by simp [results, Try.results148, go_sem, g0, g1, g2, g3, g4, g5]) rfl ?_
        exact ⟨rfl, (by repeat (first | with_reducible exact hB | (with_reducible refine Below.setCell ?_ ?side _; case side => (first | omega | (simp <;> omega)))))⟩
end Go.Proofs.Ytnbamjoadankmaa

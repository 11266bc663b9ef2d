/- pitch.divided, divisor. -/
import Derived.Test.YtomgihlkbmaleaaDoorP2
import Derived.LoopN
namespace Go.Proofs.YtomgihlkbmaleaaDoor
open Go.RowKit M
/-- The world but for the count of draws. -/
theorem divisor_any (a b : Int) (g : Nat) (w : World) (ha0 : -1000000 ≤ a) (ha1 : a ≤ 1000000) (hb0 : -1000000 ≤ b) (hb1 : b ≤ 1000000) (hg : Nat.gcd a.natAbs b.natAbs = g) :
    Calls Tryd.prog 45 #[.int .i64 a, .int .i64 b] w fun e w' => e = .returned (.int .i64 (g : Int)) ∧ Quiet w w' := by
  have HG := Hx.mk hg
  clear hg
  go_enter Tryd.func45, Tryd.ntmps45
  go_wp2
  go_loopw [0, 1] (fun av bv wr => ∃ x y : Int, av = .int .i64 x ∧ bv = .int .i64 y ∧ -1000000 ≤ x ∧ x ≤ 1000000 ∧ -1000000 ≤ y ∧ y ≤ 1000000 ∧ Hx (Nat.gcd x.natAbs y.natAbs = g) ∧ Quiet w wr) (fun _ bv _ => (intOf bv).natAbs)
  case atStart => exact ⟨a, b, rfl, rfl, ha0, ha1, hb0, hb1, HG, Quiet.refl w⟩
  case round =>
    clear ha0 ha1 hb0 hb1
    obtain ⟨x, y, rfl, rfl, hx0, hx1, hy0, hy1, HXY, hq⟩ := hrel
    by_cases h0 : y = 0
    · subst h0
      have hgx : x.natAbs = g := by have := HXY.out; simpa using this
      clear HXY
      by_cases hs : 0 ≤ x
      · have hm : max x (-x) = (g : Int) := by omega
        go_wp2
        go_ret
        exact ⟨rfl, hq⟩
      · have hm : max x (-x) = (g : Int) := by omega
        go_wp2
        go_ret
        exact ⟨rfl, hq⟩
    · have hz : (y == 0) = false := beq_eq_false_iff_ne.2 h0
      obtain ⟨r, hm⟩ : ∃ r, x.tmod y = r := ⟨_, rfl⟩
      have hr : r.natAbs = x.natAbs % y.natAbs := by rw [← hm, Int.natAbs_tmod]
      have HR := Hx.mk (show Nat.gcd y.natAbs r.natAbs = g from by rw [hr, Nat.gcd_comm, ← Nat.gcd_rec, Nat.gcd_comm]; exact HXY.out)
      have hlt : r.natAbs < y.natAbs := by rw [hr]; exact Nat.mod_lt _ (by omega)
      clear hr
      go_wp2
      go_quiet (fail)
      go_wp2
      refine ⟨⟨y, r, rfl, rfl, hy0, hy1, by omega, by omega, HR, hq.drewN _⟩, ?_⟩
      simpa [intOf] using hlt
theorem bd_quo {v d u : Int} (hd : 0 < d) (h : v = d * u) (l : -1000000 ≤ v) (t : v ≤ 1000000) : -1000000 ≤ u ∧ u ≤ 1000000 := by
  subst h
  constructor
  · refine Int.not_lt.1 fun hn => ?_
    have : d * u ≤ 1 * u := Int.mul_le_mul_of_nonpos_right (by omega) (by omega)
    omega
  · refine Int.not_lt.1 fun hn => ?_
    have : 1 * u ≤ d * u := Int.mul_le_mul_of_nonneg_right (by omega) (by omega)
    omega
set_option maxHeartbeats 1000000 in
theorem divided_yes (v u : Nat → Int) (d : Int) (w : World) (hd0 : 0 < d) (hd1 : d ≤ 1000000) (hv : Hx (Lim 1000000 v)) (hu : Hx (∀ i, i < 6 → v i = d * u i)) :
    Calls Tryd.prog 46 #[PV v, .int .i64 d] w fun e w' => e = .returned (.tuple #[PV u, .bool true]) ∧ Below w.heap.size w w' := by
  have i0 := at0 v
  obtain ⟨l0, t0⟩ := hv.out 0 (by omega)
  have m0 : (v 0).tmod d = 0 := by rw [hu.out 0 (by omega)]; exact Int.mul_tmod_right _ _
  have q0 : (v 0).tdiv d = u 0 := by rw [hu.out 0 (by omega)]; exact Int.mul_tdiv_cancel_left _ (by omega)
  obtain ⟨x0, y0⟩ := bd_quo hd0 (hu.out 0 (by omega)) l0 t0
  have i1 := at1 v
  obtain ⟨l1, t1⟩ := hv.out 1 (by omega)
  have m1 : (v 1).tmod d = 0 := by rw [hu.out 1 (by omega)]; exact Int.mul_tmod_right _ _
  have q1 : (v 1).tdiv d = u 1 := by rw [hu.out 1 (by omega)]; exact Int.mul_tdiv_cancel_left _ (by omega)
  obtain ⟨x1, y1⟩ := bd_quo hd0 (hu.out 1 (by omega)) l1 t1
  have i2 := at2 v
  obtain ⟨l2, t2⟩ := hv.out 2 (by omega)
  have m2 : (v 2).tmod d = 0 := by rw [hu.out 2 (by omega)]; exact Int.mul_tmod_right _ _
  have q2 : (v 2).tdiv d = u 2 := by rw [hu.out 2 (by omega)]; exact Int.mul_tdiv_cancel_left _ (by omega)
  obtain ⟨x2, y2⟩ := bd_quo hd0 (hu.out 2 (by omega)) l2 t2
  have i3 := at3 v
  obtain ⟨l3, t3⟩ := hv.out 3 (by omega)
  have m3 : (v 3).tmod d = 0 := by rw [hu.out 3 (by omega)]; exact Int.mul_tmod_right _ _
  have q3 : (v 3).tdiv d = u 3 := by rw [hu.out 3 (by omega)]; exact Int.mul_tdiv_cancel_left _ (by omega)
  obtain ⟨x3, y3⟩ := bd_quo hd0 (hu.out 3 (by omega)) l3 t3
  have i4 := at4 v
  obtain ⟨l4, t4⟩ := hv.out 4 (by omega)
  have m4 : (v 4).tmod d = 0 := by rw [hu.out 4 (by omega)]; exact Int.mul_tmod_right _ _
  have q4 : (v 4).tdiv d = u 4 := by rw [hu.out 4 (by omega)]; exact Int.mul_tdiv_cancel_left _ (by omega)
  obtain ⟨x4, y4⟩ := bd_quo hd0 (hu.out 4 (by omega)) l4 t4
  have i5 := at5 v
  obtain ⟨l5, t5⟩ := hv.out 5 (by omega)
  have m5 : (v 5).tmod d = 0 := by rw [hu.out 5 (by omega)]; exact Int.mul_tmod_right _ _
  have q5 : (v 5).tdiv d = u 5 := by rw [hu.out 5 (by omega)]; exact Int.mul_tdiv_cancel_left _ (by omega)
  obtain ⟨x5, y5⟩ := bd_quo hd0 (hu.out 5 (by omega)) l5 t5
  go_enter Tryd.func46, Tryd.ntmps46
  go_wp2
  refine wp_loop_rounds 7 ?_
  rw [rounds_succ]
  go_wp2
  rw [rounds_succ]
  go_wp2
  rw [rounds_succ]
  go_wp2
  rw [rounds_succ]
  go_wp2
  rw [rounds_succ]
  go_wp2
  rw [rounds_succ]
  go_wp2
  rw [rounds_succ]
  go_wp2
  exact bodyPost_ret (v := .tuple #[PV u, .bool true]) (by simp [results, Tryd.results46, go_sem]) rfl ⟨rfl, ((Below.refl _ _).alloc (Nat.le_refl _) _).alloc (by simp) _⟩
end Go.Proofs.YtomgihlkbmaleaaDoor

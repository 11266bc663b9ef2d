/- the reference's Sign, Cmp, Floor. -/
import Derived.Test.YthfpkjeobdajiabGreatDoorRA
namespace Go.Proofs.YthfpkjeobdajiabGreatDoor
open Go.RowKit M
theorem sgn_sub (x y : Int) : sgn (x - y) 0 = sgn x y := by
  rcases sgn_cases x y with ⟨h, e⟩ | ⟨h, e⟩ | ⟨h, e⟩ <;> rw [e] <;> rcases sgn_cases (x - y) 0 with ⟨h', e'⟩ | ⟨h', e'⟩ | ⟨h', e'⟩ <;> rw [e'] <;> omega
theorem sign_any (x : Int) (w : World) : Calls Tryz.prog 54 #[.int .i64 x] w fun e w' => e = .returned (.int .i64 (sgn x 0)) ∧ w' = w := by
  rcases sgn_cases x 0 with ⟨h, e⟩ | ⟨h, e⟩ | ⟨h, e⟩
  all_goals
    rw [e]
    clear e
    (try subst h)
    go_enter Tryz.func54, Tryz.ntmps54
    go_wp2
    go_ret
    exact ⟨rfl, rfl⟩
theorem refCmp_any (n1 d1 n2 d2 : Int) (w : World) (i1 : I64 n1) (i2 : I64 d1) (i3 : I64 n2) (i4 : I64 d2) :
    Calls Tryz.prog 24 #[RV n1 d1, RV n2 d2] w fun e w' => e = .returned (.tuple #[.int .i64 (cmpQ n1 d1 n2 d2).1, .int .i64 (cmpQ n1 d1 n2 d2).2]) ∧ Below w.heap.size w w' := by
  have V1 := Bx.mk (fun w => refValid_any n1 d1 w i1 i2)
  have V2 := Bx.mk (fun w => refValid_any n2 d2 w i3 i4)
  have hW : Below w.heap.size w (((w.alloc (.cells #[.int .i64 n1, .int .i64 d1] 23)).alloc (.cells #[.int .i64 n2, .int .i64 d2] 23))) := by repeat (first | exact Below.refl _ _ | apply below_drewN | refine Below.setCell ?_ (by simp <;> omega) _ | refine Below.alloc ?_ (by simp <;> omega) _)
  have K1 : Cap (((w.alloc (.cells #[.int .i64 n1, .int .i64 d1] 23)).alloc (.cells #[.int .i64 n2, .int .i64 d2] 23))) w.heap.size n1 d1 := ⟨by simp <;> omega, by simp [go_sem], by simp [go_sem]⟩
  have K2 : Cap (((w.alloc (.cells #[.int .i64 n1, .int .i64 d1] 23)).alloc (.cells #[.int .i64 n2, .int .i64 d2] 23))) (w.heap.size + 1) n2 d2 := ⟨by simp <;> omega, by simp [go_sem], by simp [go_sem]⟩
  obtain ⟨v1, hv1⟩ : ∃ v, validQ n1 d1 = v := ⟨_, rfl⟩
  obtain ⟨v2, hv2⟩ : ∃ v, validQ n2 d2 = v := ⟨_, rfl⟩
  rw [hv1] at V1
  rw [hv2] at V2
  go_enter Tryz.func24, Tryz.ntmps24
  go_wp2_with fail
  refine (V1.out _).mono ?_
  rintro e w1 ⟨rfl, hb⟩
  have hB := Bx.mk (hW.trans (hb.mono hW.size))
  have K1 := K1.keep hb
  have K2 := K2.keep hb
  clear hb hW
  obtain ⟨k0, k1, k2⟩ := id K1
  obtain ⟨k3, k4, k5⟩ := id K2
  go_wp2_with fail
  refine (V2.out _).mono ?_
  rintro e w2 ⟨rfl, hb⟩
  have hB := Bx.mk (hB.out.trans (hb.mono hB.out.size))
  have K1 := K1.keep hb
  have K2 := K2.keep hb
  clear hb k0 k1 k2 k3 k4 k5
  obtain ⟨k0, k1, k2⟩ := id K1
  obtain ⟨k3, k4, k5⟩ := id K2
  by_cases hok : validQ n1 d1 = true ∧ validQ n2 d2 = true
  · obtain ⟨rfl, rfl⟩ : v1 = true ∧ v2 = true := ⟨hv1.symm.trans hok.1, hv2.symm.trans hok.2⟩
    have B1 := validQ_bd _ _ hok.1
    have B2 := validQ_bd _ _ hok.2
    have j0 := prod_bd B1.lo B1.hi (show -1000000000 ≤ d2 by have := B2.pos; omega) B2.top
    have j1 := prod_bd B2.lo B2.hi (show -1000000000 ≤ d1 by have := B1.pos; omega) B1.top
    have HS := Bx.mk (fun w => sign_any (n1 * d2 - n2 * d1) w)
    rw [sgn_sub] at HS
    have HQ := Bx.mk (cmpQ_good hok.1 hok.2)
    clear hok B1 B2 i1 i2 i3 i4 hv1 hv2
    go_wp2_with fail
    refine (HS.out _).mono ?_
    rintro e w3 ⟨rfl, rfl⟩
    go_wp2
    go_ret2
    rw [HQ.out]
    exact ⟨rfl, hB.out⟩
  · have HQ := Bx.mk (cmpQ_bad hok)
    rw [hv1, hv2] at hok
    clear hv1 hv2
    cases v1 <;> cases v2
    rotate_left 3
    · exact absurd ⟨rfl, rfl⟩ hok
    all_goals
      clear hok
      go_wp2_with fail
      (try simp only [Exit.inBlock, Exit.then])
      go_ret2
      rw [HQ.out]
      exact ⟨rfl, hB.out⟩
theorem valid_r (n d : Int) (v : Bool) (w : World) (i1 : I64 n) (i2 : I64 d) (h : validQ n d = v) :
    Calls Tryz.prog 6 #[RV n d] w fun e' w' => e' = .returned (.bool v) ∧ Below w.heap.size w w' := by
  have := refValid_any n d w i1 i2
  rw [h] at this; exact this
theorem refFloor_any (n1 d1 : Int) (w : World) (i1 : I64 n1) (i2 : I64 d1) :
    Calls Tryz.prog 26 #[RV n1 d1] w fun e w' => e = .returned (.tuple #[.int .i64 (floorQ n1 d1).1, .int .i64 (floorQ n1 d1).2]) ∧ Below w.heap.size w w' := by
  have hW : Below w.heap.size w (w.alloc (.cells #[.int .i64 n1, .int .i64 d1] 23)) := by repeat (first | exact Below.refl _ _ | apply below_drewN | refine Below.setCell ?_ (by simp <;> omega) _ | refine Below.alloc ?_ (by simp <;> omega) _)
  have K1 : Cap (w.alloc (.cells #[.int .i64 n1, .int .i64 d1] 23)) w.heap.size n1 d1 := ⟨by simp <;> omega, by simp [go_sem], by simp [go_sem]⟩
  cases hv : validQ n1 d1
  · have V1 := Bx.mk (fun w => valid_r n1 d1 false w i1 i2 hv)
    have HQ := Bx.mk (show floorQ n1 d1 = (0, 1) from by simp [floorQ, hv])
    clear i1 i2 hv
    go_enter Tryz.func26, Tryz.ntmps26
    go_wp2_with fail
    refine (V1.out _).mono ?_
    rintro e w1 ⟨rfl, hb⟩
    have hB := Bx.mk (hW.trans (hb.mono hW.size))
    clear hb hW K1
    go_wp2
    go_ret2
    rw [HQ.out]
    exact ⟨rfl, hB.out⟩
  · have V1 := Bx.mk (fun w => valid_r n1 d1 true w i1 i2 hv)
    obtain ⟨h1, h2, h3, h4⟩ := validQ_bd _ _ hv
    have HQ := Bx.mk (show floorQ n1 d1 = (n1 / d1, 0) from by simp [floorQ, hv])
    have q1 : -1000000000 ≤ n1 / d1 := (Int.le_ediv_iff_mul_le (by omega)).2 (by omega)
    have q2 : n1 / d1 ≤ 1000000000 := by
      have : n1 / d1 < 1000000001 := (Int.ediv_lt_iff_lt_mul (by omega)).2 (by omega)
      omega
    rcases floor_cases n1 d1 h3 with ⟨hr, hq⟩ | ⟨hr, hq⟩
    all_goals
      generalize n1 / d1 = q at *
      clear i1 i2 hv
      go_enter Tryz.func26, Tryz.ntmps26
      go_wp2_with fail
      refine (V1.out _).mono ?_
      rintro e w1 ⟨rfl, hb⟩
      have hB := Bx.mk (hW.trans (hb.mono hW.size))
      obtain ⟨k0, k1, k2⟩ := K1.keep hb
      clear hb hW K1
      go_wp2
      go_ret2
      rw [HQ.out]
      exact ⟨by simp, hB.out⟩
end Go.Proofs.YthfpkjeobdajiabGreatDoor

/- the reference's Valid, Add, Sub, Mul, Div, Cmp, Floor. -/
import Derived.Test.YthfpkjeobdajiabGreatDoorR14
import Derived.Test.YthfpkjeobdajiabGreatDoorL0
namespace Go.Proofs.YthfpkjeobdajiabGreatDoor
open Go.RowKit M
theorem refValid_any (n d : Int) (w : World) (hn : I64 n) (hd : I64 d) :
    Calls Tryz.prog 6 #[RV n d] w fun e w' => e = .returned (.bool (validQ n d)) ∧ Below w.heap.size w w' := by
  have h1 := hd.lo
  have h2 := hd.hi
  have h3 := hn.lo
  have h4 := hn.hi
  have HN := Bx.mk (fun w => size_any n w hn)
  have HD := Bx.mk (fun w => size_any d w hd)
  have HB := Bx.mk ((Below.refl w.heap.size w).alloc (Nat.le_refl _) (.cells #[.int .i64 n, .int .i64 d] 23))
  clear hn hd
  by_cases c : d < 1
  · have HV := Bx.mk (validQ_no n d (.inr (.inl c)))
    go_enter Tryz.func6, Tryz.ntmps6
    go_wp2
    go_ret
    exact ⟨by rw [HV.out]; rfl, HB.out⟩
  have c1 : 1 ≤ d := by omega
  clear c
  by_cases c : 1000000000 < d
  · have HV := Bx.mk (validQ_no n d (.inr (.inr c)))
    go_enter Tryz.func6, Tryz.ntmps6
    go_wp2
    go_ret
    exact ⟨by rw [HV.out]; rfl, HB.out⟩
  have c2 : d ≤ 1000000000 := by omega
  clear c
  by_cases c : n < -1000000000
  · have HV := Bx.mk (validQ_no n d (.inl (by omega)))
    go_enter Tryz.func6, Tryz.ntmps6
    go_wp2
    go_ret
    exact ⟨by rw [HV.out]; rfl, HB.out⟩
  have c3 : -1000000000 ≤ n := by omega
  clear c
  by_cases c : 1000000000 < n
  · have HV := Bx.mk (validQ_no n d (.inl (by omega)))
    go_enter Tryz.func6, Tryz.ntmps6
    go_wp2
    go_ret
    exact ⟨by rw [HV.out]; rfl, HB.out⟩
  have c4 : n ≤ 1000000000 := by omega
  clear c
  obtain ⟨A, hA⟩ : ∃ A : Nat, n.natAbs = A := ⟨_, rfl⟩
  obtain ⟨B, hB⟩ : ∃ B : Nat, d.natAbs = B := ⟨_, rfl⟩
  rw [hA] at HN
  rw [hB] at HD
  obtain ⟨g, hg⟩ : ∃ g, Nat.gcd A B = g := ⟨_, rfl⟩
  have HG := Bx.mk (fun w => gcd_any A B g w (by omega) (by omega) hg)
  have HV := Bx.mk (show validQ n d = ((g : Int) == 1) from by
    have e : ((g : Int) == 1) = decide (g = 1) := by by_cases h : g = 1 <;> simp [h] <;> omega
    rw [e]; unfold validQ; simp [hA, hB, hg]; omega)
  clear hg hA hB
  go_enter Tryz.func6, Tryz.ntmps6
  go_wp2_with fail
  go_quiet (first | (go_at_call_of 33 (Value.int .i64 n); exact Calls.quiet_of_same (HN.out _)) | (go_at_call_of 33 (Value.int .i64 d); exact Calls.quiet_of_same (HD.out _)) | (go_at_call_of 32 (Value.int .u64 (A : Int)); exact Calls.quiet_of (HG.out _)))
  go_wp2
  go_ret
  exact ⟨by rw [HV.out]; rfl, below_drewN HB.out _⟩
theorem refAdd_any (n1 d1 n2 d2 : Int) (q : Res) (w : World) (i1 : I64 n1) (i2 : I64 d1) (i3 : I64 n2) (i4 : I64 d2) (hq : addQ n1 d1 n2 d2 = q) : Calls Tryz.prog 10 #[RV n1 d1, RV n2 d2] w (OutR q w) := by
  have V1 := Bx.mk (fun w => refValid_any n1 d1 w i1 i2)
  have V2 := Bx.mk (fun w => refValid_any n2 d2 w i3 i4)
  have hW : Below w.heap.size w (((w.alloc (.cells #[.int .i64 n1, .int .i64 d1] 23)).alloc (.cells #[.int .i64 n2, .int .i64 d2] 23)).alloc (.cells #[.int .i64 0, .int .i64 0] 23)) := by repeat (first | exact Below.refl _ _ | apply below_drewN | refine Below.setCell ?_ (by simp <;> omega) _ | refine Below.alloc ?_ (by simp <;> omega) _)
  have K1 : Cap (((w.alloc (.cells #[.int .i64 n1, .int .i64 d1] 23)).alloc (.cells #[.int .i64 n2, .int .i64 d2] 23)).alloc (.cells #[.int .i64 0, .int .i64 0] 23)) w.heap.size n1 d1 := ⟨by simp <;> omega, by simp [go_sem], by simp [go_sem]⟩
  have K2 : Cap (((w.alloc (.cells #[.int .i64 n1, .int .i64 d1] 23)).alloc (.cells #[.int .i64 n2, .int .i64 d2] 23)).alloc (.cells #[.int .i64 0, .int .i64 0] 23)) (w.heap.size + 1) n2 d2 := ⟨by simp <;> omega, by simp [go_sem], by simp [go_sem]⟩
  have P : Plc (((w.alloc (.cells #[.int .i64 n1, .int .i64 d1] 23)).alloc (.cells #[.int .i64 n2, .int .i64 d2] 23)).alloc (.cells #[.int .i64 0, .int .i64 0] 23)) (w.heap.size + 1 + 1) := ⟨by simp <;> omega, by simp [go_sem], by simp [go_sem], by simp [go_sem], by simp [go_sem]⟩
  obtain ⟨v1, hv1⟩ : ∃ v, validQ n1 d1 = v := ⟨_, rfl⟩
  obtain ⟨v2, hv2⟩ : ∃ v, validQ n2 d2 = v := ⟨_, rfl⟩
  rw [hv1] at V1
  rw [hv2] at V2
  go_enter Tryz.func10, Tryz.ntmps10
  go_wp2_with fail
  refine (V1.out _).mono ?_
  rintro e w1 ⟨rfl, hb⟩
  have hB := Bx.mk (hW.trans (hb.mono hW.size))
  have K1 := K1.keep hb
  have K2 := K2.keep hb
  have P := P.keep hb
  clear hb hW
  obtain ⟨k0, k1, k2⟩ := id K1
  obtain ⟨k3, k4, k5⟩ := id K2
  go_wp2_with fail
  refine (V2.out _).mono ?_
  rintro e w2 ⟨rfl, hb⟩
  have hB := Bx.mk (hB.out.trans (hb.mono hB.out.size))
  have K1 := K1.keep hb
  have K2 := K2.keep hb
  have P := P.keep hb
  clear hb k0 k1 k2 k3 k4 k5
  obtain ⟨k0, k1, k2⟩ := id K1
  obtain ⟨k3, k4, k5⟩ := id K2
  obtain ⟨p0, p1, p2, p3, p4⟩ := id P
  by_cases hok : validQ n1 d1 = true ∧ validQ n2 d2 = true
  · obtain ⟨rfl, rfl⟩ : v1 = true ∧ v2 = true := ⟨hv1.symm.trans hok.1, hv2.symm.trans hok.2⟩
    have B1 := validQ_bd _ _ hok.1
    have B2 := validQ_bd _ _ hok.2
    have j0 := prod_bd B1.lo B1.hi (show -1000000000 ≤ d2 by have := B2.pos; omega) B2.top
    have j1 := prod_bd B2.lo B2.hi (show -1000000000 ≤ d1 by have := B1.pos; omega) B1.top
    have j2 := prod_bd (show -1000000000 ≤ d1 by have := B1.pos; omega) B1.top (show -1000000000 ≤ d2 by have := B2.pos; omega) B2.top
    have HM := Bx.mk (fun w => refMake_any (n1 * d2 + n2 * d1) (d1 * d2) q w ⟨by omega, by omega⟩ ⟨by omega, by omega⟩ (by rw [← hq, addQ, opQ, if_pos (by simp [hok])]))
    have P := Bx.mk P
    clear hok B1 B2 hq i1 i2 i3 i4 hv1 hv2
    go_wp2_with fail
    refine (HM.out _).mono ?_
    rintro e w3 ⟨rfl, hb⟩
    have hB := Bx.mk (hB.out.trans (hb.mono hB.out.size))
    clear p0 p1 p2 p3 p4
    obtain ⟨p0, p1, p2, p3, p4⟩ := P.out.keep hb
    clear hb
    go_wp2
    (try simp only [Exit.inBlock, Exit.then])
    refine bodyPost_ret_by (v := .tuple #[RV q.n q.d, .int .i64 q.e]) (by simp [results, Tryz.results10, go_sem, p0, p1, p2]) rfl ?_
    exact ⟨rfl, by repeat (first | exact hB.out | apply below_drewN | refine Below.setCell ?_ (by first | omega | (simp <;> omega)) _ | refine Below.alloc ?_ (by first | omega | (simp <;> omega)) _)⟩
  · have HQ := Bx.mk (show q = ⟨0, 0, 1⟩ from by rw [← hq, addQ]; exact opQ_bad hok)
    rw [hv1, hv2] at hok
    clear hq hv1 hv2
    cases v1 <;> cases v2
    rotate_left 3
    · exact absurd ⟨rfl, rfl⟩ hok
    all_goals
      clear hok
      go_wp2_with fail
      (try simp only [Exit.inBlock, Exit.then])
      refine bodyPost_ret_by (v := .tuple #[RV 0 0, .int .i64 1]) (by simp [results, Tryz.results10, go_sem, p0, p1, p2]) rfl ?_
      rw [HQ.out]
      exact ⟨rfl, by repeat (first | exact hB.out | apply below_drewN | refine Below.setCell ?_ (by first | omega | (simp <;> omega)) _ | refine Below.alloc ?_ (by first | omega | (simp <;> omega)) _)⟩
theorem refSub_any (n1 d1 n2 d2 : Int) (q : Res) (w : World) (i1 : I64 n1) (i2 : I64 d1) (i3 : I64 n2) (i4 : I64 d2) (hq : subQ n1 d1 n2 d2 = q) : Calls Tryz.prog 12 #[RV n1 d1, RV n2 d2] w (OutR q w) := by
  have V1 := Bx.mk (fun w => refValid_any n1 d1 w i1 i2)
  have V2 := Bx.mk (fun w => refValid_any n2 d2 w i3 i4)
  have hW : Below w.heap.size w (((w.alloc (.cells #[.int .i64 n1, .int .i64 d1] 23)).alloc (.cells #[.int .i64 n2, .int .i64 d2] 23)).alloc (.cells #[.int .i64 0, .int .i64 0] 23)) := by repeat (first | exact Below.refl _ _ | apply below_drewN | refine Below.setCell ?_ (by simp <;> omega) _ | refine Below.alloc ?_ (by simp <;> omega) _)
  have K1 : Cap (((w.alloc (.cells #[.int .i64 n1, .int .i64 d1] 23)).alloc (.cells #[.int .i64 n2, .int .i64 d2] 23)).alloc (.cells #[.int .i64 0, .int .i64 0] 23)) w.heap.size n1 d1 := ⟨by simp <;> omega, by simp [go_sem], by simp [go_sem]⟩
  have K2 : Cap (((w.alloc (.cells #[.int .i64 n1, .int .i64 d1] 23)).alloc (.cells #[.int .i64 n2, .int .i64 d2] 23)).alloc (.cells #[.int .i64 0, .int .i64 0] 23)) (w.heap.size + 1) n2 d2 := ⟨by simp <;> omega, by simp [go_sem], by simp [go_sem]⟩
  have P : Plc (((w.alloc (.cells #[.int .i64 n1, .int .i64 d1] 23)).alloc (.cells #[.int .i64 n2, .int .i64 d2] 23)).alloc (.cells #[.int .i64 0, .int .i64 0] 23)) (w.heap.size + 1 + 1) := ⟨by simp <;> omega, by simp [go_sem], by simp [go_sem], by simp [go_sem], by simp [go_sem]⟩
  obtain ⟨v1, hv1⟩ : ∃ v, validQ n1 d1 = v := ⟨_, rfl⟩
  obtain ⟨v2, hv2⟩ : ∃ v, validQ n2 d2 = v := ⟨_, rfl⟩
  rw [hv1] at V1
  rw [hv2] at V2
  go_enter Tryz.func12, Tryz.ntmps12
  go_wp2_with fail
  refine (V1.out _).mono ?_
  rintro e w1 ⟨rfl, hb⟩
  have hB := Bx.mk (hW.trans (hb.mono hW.size))
  have K1 := K1.keep hb
  have K2 := K2.keep hb
  have P := P.keep hb
  clear hb hW
  obtain ⟨k0, k1, k2⟩ := id K1
  obtain ⟨k3, k4, k5⟩ := id K2
  go_wp2_with fail
  refine (V2.out _).mono ?_
  rintro e w2 ⟨rfl, hb⟩
  have hB := Bx.mk (hB.out.trans (hb.mono hB.out.size))
  have K1 := K1.keep hb
  have K2 := K2.keep hb
  have P := P.keep hb
  clear hb k0 k1 k2 k3 k4 k5
  obtain ⟨k0, k1, k2⟩ := id K1
  obtain ⟨k3, k4, k5⟩ := id K2
  obtain ⟨p0, p1, p2, p3, p4⟩ := id P
  by_cases hok : validQ n1 d1 = true ∧ validQ n2 d2 = true
  · obtain ⟨rfl, rfl⟩ : v1 = true ∧ v2 = true := ⟨hv1.symm.trans hok.1, hv2.symm.trans hok.2⟩
    have B1 := validQ_bd _ _ hok.1
    have B2 := validQ_bd _ _ hok.2
    have j0 := prod_bd B1.lo B1.hi (show -1000000000 ≤ d2 by have := B2.pos; omega) B2.top
    have j1 := prod_bd B2.lo B2.hi (show -1000000000 ≤ d1 by have := B1.pos; omega) B1.top
    have j2 := prod_bd (show -1000000000 ≤ d1 by have := B1.pos; omega) B1.top (show -1000000000 ≤ d2 by have := B2.pos; omega) B2.top
    have HM := Bx.mk (fun w => refMake_any (n1 * d2 - n2 * d1) (d1 * d2) q w ⟨by omega, by omega⟩ ⟨by omega, by omega⟩ (by rw [← hq, subQ, opQ, if_pos (by simp [hok])]))
    have P := Bx.mk P
    clear hok B1 B2 hq i1 i2 i3 i4 hv1 hv2
    go_wp2_with fail
    refine (HM.out _).mono ?_
    rintro e w3 ⟨rfl, hb⟩
    have hB := Bx.mk (hB.out.trans (hb.mono hB.out.size))
    clear p0 p1 p2 p3 p4
    obtain ⟨p0, p1, p2, p3, p4⟩ := P.out.keep hb
    clear hb
    go_wp2
    (try simp only [Exit.inBlock, Exit.then])
    refine bodyPost_ret_by (v := .tuple #[RV q.n q.d, .int .i64 q.e]) (by simp [results, Tryz.results12, go_sem, p0, p1, p2]) rfl ?_
    exact ⟨rfl, by repeat (first | exact hB.out | apply below_drewN | refine Below.setCell ?_ (by first | omega | (simp <;> omega)) _ | refine Below.alloc ?_ (by first | omega | (simp <;> omega)) _)⟩
  · have HQ := Bx.mk (show q = ⟨0, 0, 1⟩ from by rw [← hq, subQ]; exact opQ_bad hok)
    rw [hv1, hv2] at hok
    clear hq hv1 hv2
    cases v1 <;> cases v2
    rotate_left 3
    · exact absurd ⟨rfl, rfl⟩ hok
    all_goals
      clear hok
      go_wp2_with fail
      (try simp only [Exit.inBlock, Exit.then])
      refine bodyPost_ret_by (v := .tuple #[RV 0 0, .int .i64 1]) (by simp [results, Tryz.results12, go_sem, p0, p1, p2]) rfl ?_
      rw [HQ.out]
      exact ⟨rfl, by repeat (first | exact hB.out | apply below_drewN | refine Below.setCell ?_ (by first | omega | (simp <;> omega)) _ | refine Below.alloc ?_ (by first | omega | (simp <;> omega)) _)⟩
theorem refMul_any (n1 d1 n2 d2 : Int) (q : Res) (w : World) (i1 : I64 n1) (i2 : I64 d1) (i3 : I64 n2) (i4 : I64 d2) (hq : mulQ n1 d1 n2 d2 = q) : Calls Tryz.prog 14 #[RV n1 d1, RV n2 d2] w (OutR q w) := by
  have V1 := Bx.mk (fun w => refValid_any n1 d1 w i1 i2)
  have V2 := Bx.mk (fun w => refValid_any n2 d2 w i3 i4)
  have hW : Below w.heap.size w (((w.alloc (.cells #[.int .i64 n1, .int .i64 d1] 23)).alloc (.cells #[.int .i64 n2, .int .i64 d2] 23)).alloc (.cells #[.int .i64 0, .int .i64 0] 23)) := by repeat (first | exact Below.refl _ _ | apply below_drewN | refine Below.setCell ?_ (by simp <;> omega) _ | refine Below.alloc ?_ (by simp <;> omega) _)
  have K1 : Cap (((w.alloc (.cells #[.int .i64 n1, .int .i64 d1] 23)).alloc (.cells #[.int .i64 n2, .int .i64 d2] 23)).alloc (.cells #[.int .i64 0, .int .i64 0] 23)) w.heap.size n1 d1 := ⟨by simp <;> omega, by simp [go_sem], by simp [go_sem]⟩
  have K2 : Cap (((w.alloc (.cells #[.int .i64 n1, .int .i64 d1] 23)).alloc (.cells #[.int .i64 n2, .int .i64 d2] 23)).alloc (.cells #[.int .i64 0, .int .i64 0] 23)) (w.heap.size + 1) n2 d2 := ⟨by simp <;> omega, by simp [go_sem], by simp [go_sem]⟩
  have P : Plc (((w.alloc (.cells #[.int .i64 n1, .int .i64 d1] 23)).alloc (.cells #[.int .i64 n2, .int .i64 d2] 23)).alloc (.cells #[.int .i64 0, .int .i64 0] 23)) (w.heap.size + 1 + 1) := ⟨by simp <;> omega, by simp [go_sem], by simp [go_sem], by simp [go_sem], by simp [go_sem]⟩
  obtain ⟨v1, hv1⟩ : ∃ v, validQ n1 d1 = v := ⟨_, rfl⟩
  obtain ⟨v2, hv2⟩ : ∃ v, validQ n2 d2 = v := ⟨_, rfl⟩
  rw [hv1] at V1
  rw [hv2] at V2
  go_enter Tryz.func14, Tryz.ntmps14
  go_wp2_with fail
  refine (V1.out _).mono ?_
  rintro e w1 ⟨rfl, hb⟩
  have hB := Bx.mk (hW.trans (hb.mono hW.size))
  have K1 := K1.keep hb
  have K2 := K2.keep hb
  have P := P.keep hb
  clear hb hW
  obtain ⟨k0, k1, k2⟩ := id K1
  obtain ⟨k3, k4, k5⟩ := id K2
  go_wp2_with fail
  refine (V2.out _).mono ?_
  rintro e w2 ⟨rfl, hb⟩
  have hB := Bx.mk (hB.out.trans (hb.mono hB.out.size))
  have K1 := K1.keep hb
  have K2 := K2.keep hb
  have P := P.keep hb
  clear hb k0 k1 k2 k3 k4 k5
  obtain ⟨k0, k1, k2⟩ := id K1
  obtain ⟨k3, k4, k5⟩ := id K2
  obtain ⟨p0, p1, p2, p3, p4⟩ := id P
  by_cases hok : validQ n1 d1 = true ∧ validQ n2 d2 = true
  · obtain ⟨rfl, rfl⟩ : v1 = true ∧ v2 = true := ⟨hv1.symm.trans hok.1, hv2.symm.trans hok.2⟩
    have B1 := validQ_bd _ _ hok.1
    have B2 := validQ_bd _ _ hok.2
    have j0 := prod_bd B1.lo B1.hi B2.lo B2.hi
    have j1 := prod_bd (show -1000000000 ≤ d1 by have := B1.pos; omega) B1.top (show -1000000000 ≤ d2 by have := B2.pos; omega) B2.top
    have HM := Bx.mk (fun w => refMake_any (n1 * n2) (d1 * d2) q w ⟨by omega, by omega⟩ ⟨by omega, by omega⟩ (by rw [← hq, mulQ, opQ, if_pos (by simp [hok])]))
    have P := Bx.mk P
    clear hok B1 B2 hq i1 i2 i3 i4 hv1 hv2
    go_wp2_with fail
    refine (HM.out _).mono ?_
    rintro e w3 ⟨rfl, hb⟩
    have hB := Bx.mk (hB.out.trans (hb.mono hB.out.size))
    clear p0 p1 p2 p3 p4
    obtain ⟨p0, p1, p2, p3, p4⟩ := P.out.keep hb
    clear hb
    go_wp2
    (try simp only [Exit.inBlock, Exit.then])
    refine bodyPost_ret_by (v := .tuple #[RV q.n q.d, .int .i64 q.e]) (by simp [results, Tryz.results14, go_sem, p0, p1, p2]) rfl ?_
    exact ⟨rfl, by repeat (first | exact hB.out | apply below_drewN | refine Below.setCell ?_ (by first | omega | (simp <;> omega)) _ | refine Below.alloc ?_ (by first | omega | (simp <;> omega)) _)⟩
  · have HQ := Bx.mk (show q = ⟨0, 0, 1⟩ from by rw [← hq, mulQ]; exact opQ_bad hok)
    rw [hv1, hv2] at hok
    clear hq hv1 hv2
    cases v1 <;> cases v2
    rotate_left 3
    · exact absurd ⟨rfl, rfl⟩ hok
    all_goals
      clear hok
      go_wp2_with fail
      (try simp only [Exit.inBlock, Exit.then])
      refine bodyPost_ret_by (v := .tuple #[RV 0 0, .int .i64 1]) (by simp [results, Tryz.results14, go_sem, p0, p1, p2]) rfl ?_
      rw [HQ.out]
      exact ⟨rfl, by repeat (first | exact hB.out | apply below_drewN | refine Below.setCell ?_ (by first | omega | (simp <;> omega)) _ | refine Below.alloc ?_ (by first | omega | (simp <;> omega)) _)⟩
theorem refDiv_any (n1 d1 n2 d2 : Int) (q : Res) (w : World) (i1 : I64 n1) (i2 : I64 d1) (i3 : I64 n2) (i4 : I64 d2) (hq : divQ n1 d1 n2 d2 = q) : Calls Tryz.prog 16 #[RV n1 d1, RV n2 d2] w (OutR q w) := by
  have V1 := Bx.mk (fun w => refValid_any n1 d1 w i1 i2)
  have V2 := Bx.mk (fun w => refValid_any n2 d2 w i3 i4)
  have hW : Below w.heap.size w (((w.alloc (.cells #[.int .i64 n1, .int .i64 d1] 23)).alloc (.cells #[.int .i64 n2, .int .i64 d2] 23)).alloc (.cells #[.int .i64 0, .int .i64 0] 23)) := by repeat (first | exact Below.refl _ _ | apply below_drewN | refine Below.setCell ?_ (by simp <;> omega) _ | refine Below.alloc ?_ (by simp <;> omega) _)
  have K1 : Cap (((w.alloc (.cells #[.int .i64 n1, .int .i64 d1] 23)).alloc (.cells #[.int .i64 n2, .int .i64 d2] 23)).alloc (.cells #[.int .i64 0, .int .i64 0] 23)) w.heap.size n1 d1 := ⟨by simp <;> omega, by simp [go_sem], by simp [go_sem]⟩
  have K2 : Cap (((w.alloc (.cells #[.int .i64 n1, .int .i64 d1] 23)).alloc (.cells #[.int .i64 n2, .int .i64 d2] 23)).alloc (.cells #[.int .i64 0, .int .i64 0] 23)) (w.heap.size + 1) n2 d2 := ⟨by simp <;> omega, by simp [go_sem], by simp [go_sem]⟩
  have P : Plc (((w.alloc (.cells #[.int .i64 n1, .int .i64 d1] 23)).alloc (.cells #[.int .i64 n2, .int .i64 d2] 23)).alloc (.cells #[.int .i64 0, .int .i64 0] 23)) (w.heap.size + 1 + 1) := ⟨by simp <;> omega, by simp [go_sem], by simp [go_sem], by simp [go_sem], by simp [go_sem]⟩
  obtain ⟨v1, hv1⟩ : ∃ v, validQ n1 d1 = v := ⟨_, rfl⟩
  obtain ⟨v2, hv2⟩ : ∃ v, validQ n2 d2 = v := ⟨_, rfl⟩
  rw [hv1] at V1
  rw [hv2] at V2
  go_enter Tryz.func16, Tryz.ntmps16
  go_wp2_with fail
  refine (V1.out _).mono ?_
  rintro e w1 ⟨rfl, hb⟩
  have hB := Bx.mk (hW.trans (hb.mono hW.size))
  have K1 := K1.keep hb
  have K2 := K2.keep hb
  have P := P.keep hb
  clear hb hW
  obtain ⟨k0, k1, k2⟩ := id K1
  obtain ⟨k3, k4, k5⟩ := id K2
  go_wp2_with fail
  refine (V2.out _).mono ?_
  rintro e w2 ⟨rfl, hb⟩
  have hB := Bx.mk (hB.out.trans (hb.mono hB.out.size))
  have K1 := K1.keep hb
  have K2 := K2.keep hb
  have P := P.keep hb
  clear hb k0 k1 k2 k3 k4 k5
  obtain ⟨k0, k1, k2⟩ := id K1
  obtain ⟨k3, k4, k5⟩ := id K2
  obtain ⟨p0, p1, p2, p3, p4⟩ := id P
  by_cases hok : validQ n1 d1 = true ∧ validQ n2 d2 = true
  · obtain ⟨rfl, rfl⟩ : v1 = true ∧ v2 = true := ⟨hv1.symm.trans hok.1, hv2.symm.trans hok.2⟩
    have B1 := validQ_bd _ _ hok.1
    have B2 := validQ_bd _ _ hok.2
    have j0 := prod_bd B1.lo B1.hi (show -1000000000 ≤ d2 by have := B2.pos; omega) B2.top
    have j1 := prod_bd (show -1000000000 ≤ d1 by have := B1.pos; omega) B1.top B2.lo B2.hi
    have HM := Bx.mk (fun w => refMake_any (n1 * d2) (d1 * n2) q w ⟨by omega, by omega⟩ ⟨by omega, by omega⟩ (by rw [← hq, divQ, opQ, if_pos (by simp [hok])]))
    have P := Bx.mk P
    clear hok B1 B2 hq i1 i2 i3 i4 hv1 hv2
    go_wp2_with fail
    refine (HM.out _).mono ?_
    rintro e w3 ⟨rfl, hb⟩
    have hB := Bx.mk (hB.out.trans (hb.mono hB.out.size))
    clear p0 p1 p2 p3 p4
    obtain ⟨p0, p1, p2, p3, p4⟩ := P.out.keep hb
    clear hb
    go_wp2
    (try simp only [Exit.inBlock, Exit.then])
    refine bodyPost_ret_by (v := .tuple #[RV q.n q.d, .int .i64 q.e]) (by simp [results, Tryz.results16, go_sem, p0, p1, p2]) rfl ?_
    exact ⟨rfl, by repeat (first | exact hB.out | apply below_drewN | refine Below.setCell ?_ (by first | omega | (simp <;> omega)) _ | refine Below.alloc ?_ (by first | omega | (simp <;> omega)) _)⟩
  · have HQ := Bx.mk (show q = ⟨0, 0, 1⟩ from by rw [← hq, divQ]; exact opQ_bad hok)
    rw [hv1, hv2] at hok
    clear hq hv1 hv2
    cases v1 <;> cases v2
    rotate_left 3
    · exact absurd ⟨rfl, rfl⟩ hok
    all_goals
      clear hok
      go_wp2_with fail
      (try simp only [Exit.inBlock, Exit.then])
      refine bodyPost_ret_by (v := .tuple #[RV 0 0, .int .i64 1]) (by simp [results, Tryz.results16, go_sem, p0, p1, p2]) rfl ?_
      rw [HQ.out]
      exact ⟨rfl, by repeat (first | exact hB.out | apply below_drewN | refine Below.setCell ?_ (by first | omega | (simp <;> omega)) _ | refine Below.alloc ?_ (by first | omega | (simp <;> omega)) _)⟩
end Go.Proofs.YthfpkjeobdajiabGreatDoor

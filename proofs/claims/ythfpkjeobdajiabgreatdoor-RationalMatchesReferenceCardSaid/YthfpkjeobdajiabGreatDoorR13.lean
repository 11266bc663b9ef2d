/- the reference's Make; of. -/
import Derived.Test.YthfpkjeobdajiabGreatDoorR12
namespace Go.Proofs.YthfpkjeobdajiabGreatDoor
open Go.RowKit M
theorem refMake_any (n d : Int) (q : Res) (w : World) (hn : I64 n) (hd : I64 d) (hq : makeQ n d = q) : Calls Tryz.prog 8 #[.int .i64 n, .int .i64 d] w (OutR q w) := by
  by_cases h0 : d = 0
  · have HQ := Bx.mk (show q = ⟨0, 0, 7⟩ from by rw [← hq, makeQ, if_pos h0])
    clear hq hn hd
    go_enter Tryz.func8, Tryz.ntmps8
    go_wp2
    (try simp only [Exit.inBlock, Exit.then])
    refine bodyPost_ret_by (v := .tuple #[RV 0 0, .int .i64 7]) (by simp [results, Tryz.results8, go_sem]) rfl ?_
    rw [HQ.out]
    exact ⟨rfl, by repeat (first | exact Below.refl _ _ | apply below_drewN | refine Below.setCell ?_ (by simp <;> omega) _ | refine Below.alloc ?_ (by simp <;> omega) _)⟩
  · have hm := makeQ_code n d h0
    rw [hq] at hm
    obtain ⟨g, hg⟩ : ∃ g, Nat.gcd n.natAbs d.natAbs = g := ⟨_, rfl⟩
    rw [hg] at hm
    have h1 := hd.lo
    have h2 := hd.hi
    have h3 := hn.lo
    have h4 := hn.hi
    have hgp : 0 < g := by rw [← hg]; exact Nat.gcd_pos_of_pos_right _ (by omega)
    have HG := Bx.mk (fun w => gcd_any n.natAbs d.natAbs g w (by omega) (by omega) hg)
    have HN := Bx.mk (fun w => size_any n w hn)
    have HD := Bx.mk (fun w => size_any d w hd)
    clear hg
    obtain ⟨A, hA⟩ : ∃ A : Nat, A = n.natAbs := ⟨_, rfl⟩
    obtain ⟨B, hB⟩ : ∃ B : Nat, B = d.natAbs := ⟨_, rfl⟩
    rw [← hA] at hm HG HN
    rw [← hB] at hm HG HD
    have hA' : A ≤ 9223372036854775808 := by omega
    have hB' : B ≤ 9223372036854775808 := by omega
    have hz : ((g : Int) == 0) = false := beq_eq_false_iff_ne.2 (by omega)
    have hpos : 0 < (g : Int) := by omega
    obtain ⟨p, hp⟩ : ∃ p : Nat, p = A / g := ⟨_, rfl⟩
    obtain ⟨r, hr⟩ : ∃ r : Nat, r = B / g := ⟨_, rfl⟩
    have hE : IntKind.u64.wrap ((A : Int) / (g : Int)) = (p : Int) := by
      have h : A / g ≤ A := Nat.div_le_self _ _
      rw [wrap64, hp, ← Int.natCast_ediv]; omega
    have hF : IntKind.u64.wrap ((B : Int) / (g : Int)) = (r : Int) := by
      have h : B / g ≤ B := Nat.div_le_self _ _
      rw [wrap64, hr, ← Int.natCast_ediv]; omega
    have HM := Bx.mk (hp ▸ hr ▸ hm)
    clear hp hr hA hB hA' hB' h1 h2 h3 h4 hn hd hq hm
    by_cases c1 : 1000000000 < p
    · have HQ := Bx.mk (show q = ⟨0, 0, 3⟩ from by rw [HM.out, if_pos (.inl c1)])
      go_enter Tryz.func8, Tryz.ntmps8
      go_wp2_with fail
      refine (HN.out _).mono ?_
      rintro e w' ⟨rfl, rfl⟩
      go_wp2_with fail
      refine (HD.out _).mono ?_
      rintro e w' ⟨rfl, rfl⟩
      go_wp2_with fail
      refine (HG.out _).mono ?_
      rintro e w' ⟨rfl, dr, rfl⟩
      go_wp2_with fail
      (try simp only [Exit.inBlock, Exit.then])
      refine bodyPost_ret_by (v := .tuple #[RV 0 0, .int .i64 3]) (by simp [results, Tryz.results8, go_sem]) rfl ?_
      rw [HQ.out]
      exact ⟨rfl, by repeat (first | exact Below.refl _ _ | apply below_drewN | refine Below.setCell ?_ (by simp <;> omega) _ | refine Below.alloc ?_ (by simp <;> omega) _)⟩
    by_cases c2 : 1000000000 < r
    · have HQ := Bx.mk (show q = ⟨0, 0, 3⟩ from by rw [HM.out, if_pos (.inr c2)])
      go_enter Tryz.func8, Tryz.ntmps8
      go_wp2_with fail
      refine (HN.out _).mono ?_
      rintro e w' ⟨rfl, rfl⟩
      go_wp2_with fail
      refine (HD.out _).mono ?_
      rintro e w' ⟨rfl, rfl⟩
      go_wp2_with fail
      refine (HG.out _).mono ?_
      rintro e w' ⟨rfl, dr, rfl⟩
      go_wp2_with fail
      (try simp only [Exit.inBlock, Exit.then])
      refine bodyPost_ret_by (v := .tuple #[RV 0 0, .int .i64 3]) (by simp [results, Tryz.results8, go_sem]) rfl ?_
      rw [HQ.out]
      exact ⟨rfl, by repeat (first | exact Below.refl _ _ | apply below_drewN | refine Below.setCell ?_ (by simp <;> omega) _ | refine Below.alloc ?_ (by simp <;> omega) _)⟩
    by_cases c3 : n < 0
    · by_cases c4 : d < 0
      · have HQ := Bx.mk (show q = ⟨p, r, 0⟩ from by rw [HM.out, if_neg (by omega)]; simp [c3, c4])
        have d3 : decide (n < 0) = true := by simpa using c3
        have d4 : decide (d < 0) = true := by simpa using c4
        clear c3 c4 HM
        go_enter Tryz.func8, Tryz.ntmps8
        go_wp2_with fail
        refine (HN.out _).mono ?_
        rintro e w' ⟨rfl, rfl⟩
        go_wp2_with fail
        refine (HD.out _).mono ?_
        rintro e w' ⟨rfl, rfl⟩
        go_wp2_with fail
        refine (HG.out _).mono ?_
        rintro e w' ⟨rfl, dr, rfl⟩
        go_wp2_with fail
        (try simp only [Exit.inBlock, Exit.then])
        refine bodyPost_ret_by (v := .tuple #[RV p r, .int .i64 0]) (by simp [results, Tryz.results8, go_sem]) rfl ?_
        rw [HQ.out]
        exact ⟨rfl, by repeat (first | exact Below.refl _ _ | apply below_drewN | refine Below.setCell ?_ (by simp <;> omega) _ | refine Below.alloc ?_ (by simp <;> omega) _)⟩
      · have HQ := Bx.mk (show q = ⟨-p, r, 0⟩ from by rw [HM.out, if_neg (by omega)]; simp [c3, c4])
        have d3 : decide (n < 0) = true := by simpa using c3
        have d4 : decide (d < 0) = false := by simpa using c4
        clear c3 c4 HM
        go_enter Tryz.func8, Tryz.ntmps8
        go_wp2_with fail
        refine (HN.out _).mono ?_
        rintro e w' ⟨rfl, rfl⟩
        go_wp2_with fail
        refine (HD.out _).mono ?_
        rintro e w' ⟨rfl, rfl⟩
        go_wp2_with fail
        refine (HG.out _).mono ?_
        rintro e w' ⟨rfl, dr, rfl⟩
        go_wp2_with fail
        (try simp only [Exit.inBlock, Exit.then])
        refine bodyPost_ret_by (v := .tuple #[RV (-p) r, .int .i64 0]) (by simp [results, Tryz.results8, go_sem]) rfl ?_
        rw [HQ.out]
        exact ⟨rfl, by repeat (first | exact Below.refl _ _ | apply below_drewN | refine Below.setCell ?_ (by simp <;> omega) _ | refine Below.alloc ?_ (by simp <;> omega) _)⟩
    · by_cases c4 : d < 0
      · have HQ := Bx.mk (show q = ⟨-p, r, 0⟩ from by rw [HM.out, if_neg (by omega)]; simp [c3, c4])
        have d3 : decide (n < 0) = false := by simpa using c3
        have d4 : decide (d < 0) = true := by simpa using c4
        clear c3 c4 HM
        go_enter Tryz.func8, Tryz.ntmps8
        go_wp2_with fail
        refine (HN.out _).mono ?_
        rintro e w' ⟨rfl, rfl⟩
        go_wp2_with fail
        refine (HD.out _).mono ?_
        rintro e w' ⟨rfl, rfl⟩
        go_wp2_with fail
        refine (HG.out _).mono ?_
        rintro e w' ⟨rfl, dr, rfl⟩
        go_wp2_with fail
        (try simp only [Exit.inBlock, Exit.then])
        refine bodyPost_ret_by (v := .tuple #[RV (-p) r, .int .i64 0]) (by simp [results, Tryz.results8, go_sem]) rfl ?_
        rw [HQ.out]
        exact ⟨rfl, by repeat (first | exact Below.refl _ _ | apply below_drewN | refine Below.setCell ?_ (by simp <;> omega) _ | refine Below.alloc ?_ (by simp <;> omega) _)⟩
      · have HQ := Bx.mk (show q = ⟨p, r, 0⟩ from by rw [HM.out, if_neg (by omega)]; simp [c3, c4])
        have d3 : decide (n < 0) = false := by simpa using c3
        have d4 : decide (d < 0) = false := by simpa using c4
        clear c3 c4 HM
        go_enter Tryz.func8, Tryz.ntmps8
        go_wp2_with fail
        refine (HN.out _).mono ?_
        rintro e w' ⟨rfl, rfl⟩
        go_wp2_with fail
        refine (HD.out _).mono ?_
        rintro e w' ⟨rfl, rfl⟩
        go_wp2_with fail
        refine (HG.out _).mono ?_
        rintro e w' ⟨rfl, dr, rfl⟩
        go_wp2_with fail
        (try simp only [Exit.inBlock, Exit.then])
        refine bodyPost_ret_by (v := .tuple #[RV p r, .int .i64 0]) (by simp [results, Tryz.results8, go_sem]) rfl ?_
        rw [HQ.out]
        exact ⟨rfl, by repeat (first | exact Below.refl _ _ | apply below_drewN | refine Below.setCell ?_ (by simp <;> omega) _ | refine Below.alloc ?_ (by simp <;> omega) _)⟩
theorem of_any (n d : Int) (q : Res) (w : World) (hn : I64 n) (hd : I64 d) (hq : makeQ n d = q) : Calls Tryz.prog 29 #[.int .i64 n, .int .i64 d] w fun e w' => e = .returned (RV q.n q.d) ∧ Below w.heap.size w w' := by
  have HC := Bx.mk (fun w => refMake_any n d q w hn hd hq)
  clear hn hd hq
  go_enter Tryz.func29, Tryz.ntmps29
  go_wp2_with fail
  refine (HC.out _).mono ?_
  rintro e w2 ⟨rfl, hb⟩
  have hB := Bx.mk ((show Below w.heap.size w (w.alloc (.cells #[.int .i64 0, .int .i64 0] 23)) from by repeat (first | exact Below.refl _ _ | apply below_drewN | refine Below.setCell ?_ (by simp <;> omega) _ | refine Below.alloc ?_ (by simp <;> omega) _)).trans (hb.mono (by simp <;> omega)))
  obtain ⟨p0, p1, p2, p3, p4⟩ := (Plc.fresh w).keep hb
  clear hb
  go_wp2_with fail
  (try simp only [Exit.inBlock, Exit.then])
  refine bodyPost_ret_by (v := RV q.n q.d) (by simp [results, Tryz.results29, go_sem, p0, p1, p2]) rfl ?_
  exact ⟨rfl, by repeat (first | exact hB.out | refine Below.setCell ?_ (by simp <;> omega) _ | refine Below.alloc ?_ (by simp <;> omega) _)⟩
end Go.Proofs.YthfpkjeobdajiabGreatDoor

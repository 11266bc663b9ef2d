/- rational.reduce and the operations. -/
import Derived.Test.YthfpkjeobdajiabGreatDoorR1
namespace Go.Proofs.YthfpkjeobdajiabGreatDoor
open Go.RowKit M
/-- A value comes back, or an error code is raised; nothing old has turned. z: what stands for no value. -/
def Gives (z : Value) (w : World) (v : Value) (c : Int) (e : Ending) (w' : World) : Prop :=
  ((c = 0 ∧ e = .returned v) ∨ (c ≠ 0 ∧ v = z ∧ e = .panicked [{ v := .iface 26 (.int .i64 c), recovered := false }])) ∧ Below w.heap.size w w'
theorem reduce_any (n d : Int) (q : Res) (w : World) (hn : I64 n) (hd : I64 d) (hq : makeQ n d = q) :
    Calls Tryz.prog 36 #[RV n d] w (Gives (RV 0 0) w (RV q.n q.d) q.e) := by
  have HB := Bx.mk ((Below.refl w.heap.size w).alloc (Nat.le_refl _) (.cells #[.int .i64 n, .int .i64 d] 44))
  by_cases h0 : d = 0
  · have HQ := Bx.mk (show (⟨0, 0, 7⟩ : Res) = q from by rw [← hq, makeQ, if_pos h0])
    clear hq hn hd
    go_enter Tryz.func36, Tryz.ntmps36
    go_wp2
    rw [← HQ.out]
    exact ⟨rfl, .inr ⟨by decide, rfl, rfl⟩, by repeat (first | exact Below.refl _ _ | apply below_drewN | refine Below.setCell ?_ (by simp) _ | refine Below.alloc ?_ (by simp) _)⟩
  · have hm := makeQ_code n d h0
    rw [hq] at hm
    obtain ⟨g, hg⟩ : ∃ g, Nat.gcd n.natAbs d.natAbs = g := ⟨_, rfl⟩
    rw [hg] at hm
    have h1 := hd.lo
    have h2 := hd.hi
    have h3 := hn.lo
    have h4 := hn.hi
    have hgp : 0 < g := by rw [← hg]; exact Nat.gcd_pos_of_pos_right _ (by omega)
    have HG := Bx.mk (fun w => divisor_any n.natAbs d.natAbs g w (by omega) (by omega) hg)
    have HN := Bx.mk (fun w => (magnitude_any n w hn).mono (R' := fun e w' => e = .returned (.int .u64 (n.natAbs : Int)) ∧ w' = w) fun _ _ h => ⟨h.1, h.2.symm⟩)
    have HD := Bx.mk (fun w => (magnitude_any d w hd).mono (R' := fun e w' => e = .returned (.int .u64 (d.natAbs : Int)) ∧ w' = w) fun _ _ h => ⟨h.1, h.2.symm⟩)
    clear hg
    obtain ⟨A, hA⟩ : ∃ A : Nat, A = n.natAbs := ⟨_, rfl⟩
    obtain ⟨B, hB⟩ : ∃ B : Nat, B = d.natAbs := ⟨_, rfl⟩
    rw [← hA] at hm HG HN
    rw [← hB] at hm HG HD
    have hA' : A ≤ 9223372036854775808 := by omega
    have hB' : B ≤ 9223372036854775808 := by omega
    have hz : ((g : Int) == 0) = false := beq_eq_false_iff_ne.2 (by omega)
    have hpos : 0 < (g : Int) := by omega
    have HA := Bx.mk hA
    have HM := Bx.mk hm
    clear hq hn hd hA hB hm
    go_enter Tryz.func36, Tryz.ntmps36
    go_wp2_with fail
    go_quiet (first | (go_at_call_of 30 (Value.int .i64 n); exact Calls.quiet_of_same (HN.out _)) | (go_at_call_of 30 (Value.int .i64 d); exact Calls.quiet_of_same (HD.out _)))
    go_wp2_with fail
    refine (HG.out _).mono ?_
    rintro e w' ⟨rfl, dr, rfl⟩
    obtain ⟨p, hp⟩ : ∃ p : Nat, p = A / g := ⟨_, rfl⟩
    obtain ⟨r, hr⟩ : ∃ r : Nat, r = B / g := ⟨_, rfl⟩
    have hE : IntKind.u64.wrap ((A : Int) / (g : Int)) = (p : Int) := by
      have h : A / g ≤ A := Nat.div_le_self _ _
      rw [wrap64, hp, ← Int.natCast_ediv]; omega
    have hF : IntKind.u64.wrap ((B : Int) / (g : Int)) = (r : Int) := by
      have h : B / g ≤ B := Nat.div_le_self _ _
      rw [wrap64, hr, ← Int.natCast_ediv]; omega
    have HM := Bx.mk (hp ▸ hr ▸ HM.out)
    clear hp hr HA hA' hB' h1 h2 h3 h4 HN HD HG
    by_cases c1 : 1000000000 < p
    · have HQ := Bx.mk (show q = ⟨0, 0, 3⟩ from by rw [HM.out, if_pos (.inl c1)])
      go_wp2
      go_quiet (fail)
      go_wp2_with fail
      rw [HQ.out]
      exact ⟨rfl, .inr ⟨by decide, rfl, rfl⟩, by repeat (first | exact Below.refl _ _ | apply below_drewN | refine Below.setCell ?_ (by simp) _ | refine Below.alloc ?_ (by simp) _)⟩
    by_cases c2 : 1000000000 < r
    · have HQ := Bx.mk (show q = ⟨0, 0, 3⟩ from by rw [HM.out, if_pos (.inr c2)])
      go_wp2
      go_quiet (fail)
      go_wp2_with fail
      rw [HQ.out]
      exact ⟨rfl, .inr ⟨by decide, rfl, rfl⟩, by repeat (first | exact Below.refl _ _ | apply below_drewN | refine Below.setCell ?_ (by simp) _ | refine Below.alloc ?_ (by simp) _)⟩
    by_cases c3 : n < 0
    · by_cases c4 : d < 0
      · have HQ := Bx.mk (show q = ⟨p, r, 0⟩ from by rw [HM.out, if_neg (by omega)]; simp [c3, c4])
        have d3 : decide (n < 0) = true := by simpa using c3
        have d4 : decide (d < 0) = true := by simpa using c4
        clear c3 c4 HM
        go_wp2
        go_quiet (fail)
        go_wp2_with fail
        refine bodyPost_ret_by (v := RV p r) (by simp [results, Tryz.results36, go_sem]) rfl ?_
        rw [HQ.out]
        exact ⟨.inl ⟨rfl, rfl⟩, by repeat (first | exact Below.refl _ _ | apply below_drewN | refine Below.setCell ?_ (by simp) _ | refine Below.alloc ?_ (by simp) _)⟩
      · have HQ := Bx.mk (show q = ⟨-p, r, 0⟩ from by rw [HM.out, if_neg (by omega)]; simp [c3, c4])
        have d3 : decide (n < 0) = true := by simpa using c3
        have d4 : decide (d < 0) = false := by simpa using c4
        clear c3 c4 HM
        go_wp2
        go_quiet (fail)
        go_wp2_with fail
        refine bodyPost_ret_by (v := RV (-p) r) (by simp [results, Tryz.results36, go_sem]) rfl ?_
        rw [HQ.out]
        exact ⟨.inl ⟨rfl, rfl⟩, by repeat (first | exact Below.refl _ _ | apply below_drewN | refine Below.setCell ?_ (by simp) _ | refine Below.alloc ?_ (by simp) _)⟩
    · by_cases c4 : d < 0
      · have HQ := Bx.mk (show q = ⟨-p, r, 0⟩ from by rw [HM.out, if_neg (by omega)]; simp [c3, c4])
        have d3 : decide (n < 0) = false := by simpa using c3
        have d4 : decide (d < 0) = true := by simpa using c4
        clear c3 c4 HM
        go_wp2
        go_quiet (fail)
        go_wp2_with fail
        refine bodyPost_ret_by (v := RV (-p) r) (by simp [results, Tryz.results36, go_sem]) rfl ?_
        rw [HQ.out]
        exact ⟨.inl ⟨rfl, rfl⟩, by repeat (first | exact Below.refl _ _ | apply below_drewN | refine Below.setCell ?_ (by simp) _ | refine Below.alloc ?_ (by simp) _)⟩
      · have HQ := Bx.mk (show q = ⟨p, r, 0⟩ from by rw [HM.out, if_neg (by omega)]; simp [c3, c4])
        have d3 : decide (n < 0) = false := by simpa using c3
        have d4 : decide (d < 0) = false := by simpa using c4
        clear c3 c4 HM
        go_wp2
        go_quiet (fail)
        go_wp2_with fail
        refine bodyPost_ret_by (v := RV p r) (by simp [results, Tryz.results36, go_sem]) rfl ?_
        rw [HQ.out]
        exact ⟨.inl ⟨rfl, rfl⟩, by repeat (first | exact Below.refl _ _ | apply below_drewN | refine Below.setCell ?_ (by simp) _ | refine Below.alloc ?_ (by simp) _)⟩
end Go.Proofs.YthfpkjeobdajiabGreatDoor

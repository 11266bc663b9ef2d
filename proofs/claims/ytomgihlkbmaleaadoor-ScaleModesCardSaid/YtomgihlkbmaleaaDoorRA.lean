/- The reference's Valid, of scale. -/
import Derived.Test.YtomgihlkbmaleaaDoorUN
import Derived.Test.YtomgihlkbmaleaaDoorQW
namespace Go.Proofs.YtomgihlkbmaleaaDoor
open Go.RowKit M
theorem rp_any (a b : Nat → Int) (k c : Int) (hk : cm a b = k) (hc : cmE a b = c) (w : World) : Calls Tryd.prog 55 #[PV a, PV b] w fun e w' => e = .returned (.tuple #[.int .i64 k, .int .i64 c]) ∧ Below w.heap.size w w' := by
  by_cases ha : bdB a 576 = true
  · by_cases hb : bdB b 576 = true
    · have e1 : k = sg (subV a b) := by rw [← hk, cm_ok ha hb]
      have e2 : c = 0 := by rw [← hc]; simp [cmE, ha, hb]
      rw [e1, e2]; exact rp_cmp a b (subV a b) w ha hb (fun i _ => rfl)
    · have e1 : k = 0 := by rw [← hk]; simp [cm, hb]
      have e2 : c = 1 := by rw [← hc]; simp [cmE, hb]
      rw [e1, e2]; exact rp_cmpb a b w ha (by simpa using hb)
  · have e1 : k = 0 := by rw [← hk]; simp [cm, ha]
    have e2 : c = 1 := by rw [← hc]; simp [cmE, ha]
    rw [e1, e2]; exact rp_cmpa a b _ w (by simpa using ha) rfl
set_option maxRecDepth 100000 in
theorem rcmp_any (a b : Nat → Int) (k : Int) (hk : cm a b = k) (w : World) : Calls Tryd.prog 37 #[PV a, PV b] w fun e w' => e = .returned (.int .i64 k) ∧ Below w.heap.size w w' := by
  obtain ⟨c, hc⟩ : ∃ c, cmE a b = c := ⟨_, rfl⟩
  have H1 := Hx.mk (rp_any a b k c hk hc)
  clear hk hc
  go_enter Tryd.func37, Tryd.ntmps37
  go_wp2_with fail
  refine (H1.out _).mono ?_
  rintro e w1 ⟨rfl, hb⟩
  obtain ⟨hc1, hf1⟩ := bcell hb
  have hz1 := hb.size
  (try simp at hz1)
  have hB : Hx (Below w.heap.size w w1) := ⟨Below.trans (by repeat (first | with_reducible exact hB.out | with_reducible exact Below.refl _ _ | (with_reducible refine Below.setCell ?_ ?side _; case side => (first | omega | (simp <;> omega))) | (with_reducible refine Below.alloc ?_ ?side _; case side => (first | omega | (simp <;> omega))) | with_reducible apply below_drewN)) (hb.mono (by first | omega | (simp <;> omega)))⟩
  clear hb
  have hy1_0 : w.heap.size < w1.heap.size := by omega
  have hy1_1 : w.heap.size + 1 < w1.heap.size := by omega
  go_wp2_with fail
  go_ret
  exact ⟨rfl, (by repeat (first | with_reducible exact hB.out | with_reducible exact Below.refl _ _ | (with_reducible refine Below.setCell ?_ ?side _; case side => (first | omega | (simp <;> omega))) | (with_reducible refine Below.alloc ?_ ?side _; case side => (first | omega | (simp <;> omega))) | with_reducible apply below_drewN))⟩
set_option maxRecDepth 100000 in
theorem rin_no (p : Nat → Int) (k : Int) (hk : k < 0) (e : cm p (fun _ => 0) = k) (w : World) : Calls Tryd.prog 38 #[PV p] w fun e w' => e = .returned (.bool false) ∧ Below w.heap.size w w' := by
  have H1 : Hx (∀ w, Calls Tryd.prog 37 #[PV p, .agg #[.int .i64 0, .int .i64 0, .int .i64 0, .int .i64 0, .int .i64 0, .int .i64 0]] w fun e w' => e = .returned (.int .i64 k) ∧ Below w.heap.size w w') := ⟨fun w => rcmp_any p (fun _ => 0) k e w⟩
  have g : decide (0 ≤ k) = false := by simp; omega
  clear e hk
  go_enter Tryd.func38, Tryd.ntmps38
  go_wp2_with fail
  refine (H1.out _).mono ?_
  rintro e w1 ⟨rfl, hb⟩
  obtain ⟨hc1, hf1⟩ := bcell hb
  have hz1 := hb.size
  (try simp at hz1)
  have hB : Hx (Below w.heap.size w w1) := ⟨Below.trans (by repeat (first | with_reducible exact hB.out | with_reducible exact Below.refl _ _ | (with_reducible refine Below.setCell ?_ ?side _; case side => (first | omega | (simp <;> omega))) | (with_reducible refine Below.alloc ?_ ?side _; case side => (first | omega | (simp <;> omega))) | with_reducible apply below_drewN)) (hb.mono (by first | omega | (simp <;> omega)))⟩
  clear hb
  have hy1_0 : w.heap.size < w1.heap.size := by omega
  go_wp2_with fail
  go_ret
  exact ⟨rfl, (by repeat (first | with_reducible exact hB.out | with_reducible exact Below.refl _ _ | (with_reducible refine Below.setCell ?_ ?side _; case side => (first | omega | (simp <;> omega))) | (with_reducible refine Below.alloc ?_ ?side _; case side => (first | omega | (simp <;> omega))) | with_reducible apply below_drewN))⟩
set_option maxRecDepth 100000 in
theorem rin_ok (p : Nat → Int) (k l : Int) (b : Bool) (hk : 0 ≤ k) (e : cm p (fun _ => 0) = k) (e2 : cm p (oc 1) = l) (hl : decide (l < 0) = b) (w : World) : Calls Tryd.prog 38 #[PV p] w fun e w' => e = .returned (.bool b) ∧ Below w.heap.size w w' := by
  have H1 : Hx (∀ w, Calls Tryd.prog 37 #[PV p, .agg #[.int .i64 0, .int .i64 0, .int .i64 0, .int .i64 0, .int .i64 0, .int .i64 0]] w fun e w' => e = .returned (.int .i64 k) ∧ Below w.heap.size w w') := ⟨fun w => rcmp_any p (fun _ => 0) k e w⟩
  have H2 : Hx (∀ w, Calls Tryd.prog 37 #[PV p, .agg #[.int .i64 12, .int .i64 0, .int .i64 0, .int .i64 0, .int .i64 0, .int .i64 0]] w fun e w' => e = .returned (.int .i64 l) ∧ Below w.heap.size w w') := ⟨fun w => rcmp_any p (oc 1) l e2 w⟩
  clear e e2
  go_enter Tryd.func38, Tryd.ntmps38
  go_wp2_with fail
  refine (H1.out _).mono ?_
  rintro e w1 ⟨rfl, hb⟩
  obtain ⟨hc1, hf1⟩ := bcell hb
  have hz1 := hb.size
  (try simp at hz1)
  have hB : Hx (Below w.heap.size w w1) := ⟨Below.trans (by repeat (first | with_reducible exact hB.out | with_reducible exact Below.refl _ _ | (with_reducible refine Below.setCell ?_ ?side _; case side => (first | omega | (simp <;> omega))) | (with_reducible refine Below.alloc ?_ ?side _; case side => (first | omega | (simp <;> omega))) | with_reducible apply below_drewN)) (hb.mono (by first | omega | (simp <;> omega)))⟩
  clear hb
  have hy1_0 : w.heap.size < w1.heap.size := by omega
  go_wp2_with fail
  refine (H2.out _).mono ?_
  rintro e w2 ⟨rfl, hb⟩
  obtain ⟨hc2, hf2⟩ := bcell hb
  have hz2 := hb.size
  (try simp at hz2)
  have hB : Hx (Below w.heap.size w w2) := ⟨Below.trans (by repeat (first | with_reducible exact hB.out | with_reducible exact Below.refl _ _ | (with_reducible refine Below.setCell ?_ ?side _; case side => (first | omega | (simp <;> omega))) | (with_reducible refine Below.alloc ?_ ?side _; case side => (first | omega | (simp <;> omega))) | with_reducible apply below_drewN)) (hb.mono (by first | omega | (simp <;> omega)))⟩
  clear hb
  have hy2_0 : w.heap.size < w2.heap.size := by omega
  go_wp2_with fail
  go_ret
  exact ⟨rfl, (by repeat (first | with_reducible exact hB.out | with_reducible exact Below.refl _ _ | (with_reducible refine Below.setCell ?_ ?side _; case side => (first | omega | (simp <;> omega))) | (with_reducible refine Below.alloc ?_ ?side _; case side => (first | omega | (simp <;> omega))) | with_reducible apply below_drewN))⟩
end Go.Proofs.YtomgihlkbmaleaaDoor

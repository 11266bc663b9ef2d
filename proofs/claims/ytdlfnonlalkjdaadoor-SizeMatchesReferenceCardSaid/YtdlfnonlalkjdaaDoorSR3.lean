/- the reference's Lower, Upper, Exponents of sizes. -/
import Derived.Test.YtdlfnonlalkjdaaDoorSM
import Derived.Test.YtdlfnonlalkjdaaDoorSR2
namespace Go.Proofs.YtdlfnonlalkjdaaDoor
open Go.RowKit M
theorem lower0 (w : World) : Calls Tryd.prog 55 #[.int .i64 0] w fun e w' => e = .returned (.int .i64 1000000000) ∧ Below w.heap.size w w' := by
  go_enter Tryd.func55, Tryd.ntmps55
  go_wp2_with fail
  go_ret
  exact ⟨rfl, (by repeat (first | with_reducible exact Below.refl _ _ | (with_reducible refine Below.setCell ?_ ?side _; case side => (first | omega | (simp <;> omega))) | (with_reducible refine Below.alloc ?_ ?side _; case side => (first | omega | (simp <;> omega))) | with_reducible apply below_drewN))⟩
theorem lower1 (w : World) : Calls Tryd.prog 55 #[.int .i64 1] w fun e w' => e = .returned (.int .i64 1584962500) ∧ Below w.heap.size w w' := by
  go_enter Tryd.func55, Tryd.ntmps55
  go_wp2_with fail
  go_ret
  exact ⟨rfl, (by repeat (first | with_reducible exact Below.refl _ _ | (with_reducible refine Below.setCell ?_ ?side _; case side => (first | omega | (simp <;> omega))) | (with_reducible refine Below.alloc ?_ ?side _; case side => (first | omega | (simp <;> omega))) | with_reducible apply below_drewN))⟩
theorem lower2 (w : World) : Calls Tryd.prog 55 #[.int .i64 2] w fun e w' => e = .returned (.int .i64 2321928094) ∧ Below w.heap.size w w' := by
  go_enter Tryd.func55, Tryd.ntmps55
  go_wp2_with fail
  go_ret
  exact ⟨rfl, (by repeat (first | with_reducible exact Below.refl _ _ | (with_reducible refine Below.setCell ?_ ?side _; case side => (first | omega | (simp <;> omega))) | (with_reducible refine Below.alloc ?_ ?side _; case side => (first | omega | (simp <;> omega))) | with_reducible apply below_drewN))⟩
theorem lower3 (w : World) : Calls Tryd.prog 55 #[.int .i64 3] w fun e w' => e = .returned (.int .i64 2807354922) ∧ Below w.heap.size w w' := by
  go_enter Tryd.func55, Tryd.ntmps55
  go_wp2_with fail
  go_ret
  exact ⟨rfl, (by repeat (first | with_reducible exact Below.refl _ _ | (with_reducible refine Below.setCell ?_ ?side _; case side => (first | omega | (simp <;> omega))) | (with_reducible refine Below.alloc ?_ ?side _; case side => (first | omega | (simp <;> omega))) | with_reducible apply below_drewN))⟩
theorem lower4 (w : World) : Calls Tryd.prog 55 #[.int .i64 4] w fun e w' => e = .returned (.int .i64 3459431618) ∧ Below w.heap.size w w' := by
  go_enter Tryd.func55, Tryd.ntmps55
  go_wp2_with fail
  go_ret
  exact ⟨rfl, (by repeat (first | with_reducible exact Below.refl _ _ | (with_reducible refine Below.setCell ?_ ?side _; case side => (first | omega | (simp <;> omega))) | (with_reducible refine Below.alloc ?_ ?side _; case side => (first | omega | (simp <;> omega))) | with_reducible apply below_drewN))⟩
theorem lower5 (w : World) : Calls Tryd.prog 55 #[.int .i64 5] w fun e w' => e = .returned (.int .i64 3700439718) ∧ Below w.heap.size w w' := by
  go_enter Tryd.func55, Tryd.ntmps55
  go_wp2_with fail
  go_ret
  exact ⟨rfl, (by repeat (first | with_reducible exact Below.refl _ _ | (with_reducible refine Below.setCell ?_ ?side _; case side => (first | omega | (simp <;> omega))) | (with_reducible refine Below.alloc ?_ ?side _; case side => (first | omega | (simp <;> omega))) | with_reducible apply below_drewN))⟩
theorem upper0 (w : World) : Calls Tryd.prog 56 #[.int .i64 0] w fun e w' => e = .returned (.int .i64 1000000000) ∧ Below w.heap.size w w' := by
  have H := Hx.mk lower0
  go_enter Tryd.func56, Tryd.ntmps56
  go_wp2_with fail
  refine (H.out _).mono ?_
  rintro e w1 ⟨rfl, hb⟩
  obtain ⟨hc1, hf1⟩ := bcell hb
  have hz1 := hb.size
  (try simp at hz1)
  have hB : Hx (Below w.heap.size w w1) := ⟨Below.trans (by repeat (first | with_reducible exact hB.out | with_reducible exact Below.refl _ _ | (with_reducible refine Below.setCell ?_ ?side _; case side => (first | omega | (simp <;> omega))) | (with_reducible refine Below.alloc ?_ ?side _; case side => (first | omega | (simp <;> omega))) | with_reducible apply below_drewN)) (hb.mono (by first | omega | (simp <;> omega)))⟩
  clear hb
  go_wp2_with fail
  go_ret
  exact ⟨rfl, (by repeat (first | with_reducible exact hB.out | with_reducible exact Below.refl _ _ | (with_reducible refine Below.setCell ?_ ?side _; case side => (first | omega | (simp <;> omega))) | (with_reducible refine Below.alloc ?_ ?side _; case side => (first | omega | (simp <;> omega))) | with_reducible apply below_drewN))⟩
theorem upper1 (w : World) : Calls Tryd.prog 56 #[.int .i64 1] w fun e w' => e = .returned (.int .i64 1584962501) ∧ Below w.heap.size w w' := by
  have H := Hx.mk lower1
  go_enter Tryd.func56, Tryd.ntmps56
  go_wp2_with fail
  refine (H.out _).mono ?_
  rintro e w1 ⟨rfl, hb⟩
  obtain ⟨hc1, hf1⟩ := bcell hb
  have hz1 := hb.size
  (try simp at hz1)
  have hB : Hx (Below w.heap.size w w1) := ⟨Below.trans (by repeat (first | with_reducible exact hB.out | with_reducible exact Below.refl _ _ | (with_reducible refine Below.setCell ?_ ?side _; case side => (first | omega | (simp <;> omega))) | (with_reducible refine Below.alloc ?_ ?side _; case side => (first | omega | (simp <;> omega))) | with_reducible apply below_drewN)) (hb.mono (by first | omega | (simp <;> omega)))⟩
  clear hb
  go_wp2_with fail
  go_ret
  exact ⟨rfl, (by repeat (first | with_reducible exact hB.out | with_reducible exact Below.refl _ _ | (with_reducible refine Below.setCell ?_ ?side _; case side => (first | omega | (simp <;> omega))) | (with_reducible refine Below.alloc ?_ ?side _; case side => (first | omega | (simp <;> omega))) | with_reducible apply below_drewN))⟩
theorem upper2 (w : World) : Calls Tryd.prog 56 #[.int .i64 2] w fun e w' => e = .returned (.int .i64 2321928095) ∧ Below w.heap.size w w' := by
  have H := Hx.mk lower2
  go_enter Tryd.func56, Tryd.ntmps56
  go_wp2_with fail
  refine (H.out _).mono ?_
  rintro e w1 ⟨rfl, hb⟩
  obtain ⟨hc1, hf1⟩ := bcell hb
  have hz1 := hb.size
  (try simp at hz1)
  have hB : Hx (Below w.heap.size w w1) := ⟨Below.trans (by repeat (first | with_reducible exact hB.out | with_reducible exact Below.refl _ _ | (with_reducible refine Below.setCell ?_ ?side _; case side => (first | omega | (simp <;> omega))) | (with_reducible refine Below.alloc ?_ ?side _; case side => (first | omega | (simp <;> omega))) | with_reducible apply below_drewN)) (hb.mono (by first | omega | (simp <;> omega)))⟩
  clear hb
  go_wp2_with fail
  go_ret
  exact ⟨rfl, (by repeat (first | with_reducible exact hB.out | with_reducible exact Below.refl _ _ | (with_reducible refine Below.setCell ?_ ?side _; case side => (first | omega | (simp <;> omega))) | (with_reducible refine Below.alloc ?_ ?side _; case side => (first | omega | (simp <;> omega))) | with_reducible apply below_drewN))⟩
theorem upper3 (w : World) : Calls Tryd.prog 56 #[.int .i64 3] w fun e w' => e = .returned (.int .i64 2807354923) ∧ Below w.heap.size w w' := by
  have H := Hx.mk lower3
  go_enter Tryd.func56, Tryd.ntmps56
  go_wp2_with fail
  refine (H.out _).mono ?_
  rintro e w1 ⟨rfl, hb⟩
  obtain ⟨hc1, hf1⟩ := bcell hb
  have hz1 := hb.size
  (try simp at hz1)
  have hB : Hx (Below w.heap.size w w1) := ⟨Below.trans (by repeat (first | with_reducible exact hB.out | with_reducible exact Below.refl _ _ | (with_reducible refine Below.setCell ?_ ?side _; case side => (first | omega | (simp <;> omega))) | (with_reducible refine Below.alloc ?_ ?side _; case side => (first | omega | (simp <;> omega))) | with_reducible apply below_drewN)) (hb.mono (by first | omega | (simp <;> omega)))⟩
  clear hb
  go_wp2_with fail
  go_ret
  exact ⟨rfl, (by repeat (first | with_reducible exact hB.out | with_reducible exact Below.refl _ _ | (with_reducible refine Below.setCell ?_ ?side _; case side => (first | omega | (simp <;> omega))) | (with_reducible refine Below.alloc ?_ ?side _; case side => (first | omega | (simp <;> omega))) | with_reducible apply below_drewN))⟩
theorem upper4 (w : World) : Calls Tryd.prog 56 #[.int .i64 4] w fun e w' => e = .returned (.int .i64 3459431619) ∧ Below w.heap.size w w' := by
  have H := Hx.mk lower4
  go_enter Tryd.func56, Tryd.ntmps56
  go_wp2_with fail
  refine (H.out _).mono ?_
  rintro e w1 ⟨rfl, hb⟩
  obtain ⟨hc1, hf1⟩ := bcell hb
  have hz1 := hb.size
  (try simp at hz1)
  have hB : Hx (Below w.heap.size w w1) := ⟨Below.trans (by repeat (first | with_reducible exact hB.out | with_reducible exact Below.refl _ _ | (with_reducible refine Below.setCell ?_ ?side _; case side => (first | omega | (simp <;> omega))) | (with_reducible refine Below.alloc ?_ ?side _; case side => (first | omega | (simp <;> omega))) | with_reducible apply below_drewN)) (hb.mono (by first | omega | (simp <;> omega)))⟩
  clear hb
  go_wp2_with fail
  go_ret
  exact ⟨rfl, (by repeat (first | with_reducible exact hB.out | with_reducible exact Below.refl _ _ | (with_reducible refine Below.setCell ?_ ?side _; case side => (first | omega | (simp <;> omega))) | (with_reducible refine Below.alloc ?_ ?side _; case side => (first | omega | (simp <;> omega))) | with_reducible apply below_drewN))⟩
theorem upper5 (w : World) : Calls Tryd.prog 56 #[.int .i64 5] w fun e w' => e = .returned (.int .i64 3700439719) ∧ Below w.heap.size w w' := by
  have H := Hx.mk lower5
  go_enter Tryd.func56, Tryd.ntmps56
  go_wp2_with fail
  refine (H.out _).mono ?_
  rintro e w1 ⟨rfl, hb⟩
  obtain ⟨hc1, hf1⟩ := bcell hb
  have hz1 := hb.size
  (try simp at hz1)
  have hB : Hx (Below w.heap.size w w1) := ⟨Below.trans (by repeat (first | with_reducible exact hB.out | with_reducible exact Below.refl _ _ | (with_reducible refine Below.setCell ?_ ?side _; case side => (first | omega | (simp <;> omega))) | (with_reducible refine Below.alloc ?_ ?side _; case side => (first | omega | (simp <;> omega))) | with_reducible apply below_drewN)) (hb.mono (by first | omega | (simp <;> omega)))⟩
  clear hb
  go_wp2_with fail
  go_ret
  exact ⟨rfl, (by repeat (first | with_reducible exact hB.out | with_reducible exact Below.refl _ _ | (with_reducible refine Below.setCell ?_ ?side _; case side => (first | omega | (simp <;> omega))) | (with_reducible refine Below.alloc ?_ ?side _; case side => (first | omega | (simp <;> omega))) | with_reducible apply below_drewN))⟩
/-- What holds within Exponents: the exponents, the sum, the result's cells, the older memory as it was. -/
structure Es (w : World) (v : Nat → Int) (a b : Int) (W : World) : Prop where
  bl : Below w.heap.size w W
  sz : w.heap.size + 2 < W.heap.size
  x0 : W.cell? ⟨w.heap.size, 0, none⟩ = some (.int .i64 (v 0))
  x1 : W.cell? ⟨w.heap.size, 1, none⟩ = some (.int .i64 (v 1))
  x2 : W.cell? ⟨w.heap.size, 2, none⟩ = some (.int .i64 (v 2))
  x3 : W.cell? ⟨w.heap.size, 3, none⟩ = some (.int .i64 (v 3))
  x4 : W.cell? ⟨w.heap.size, 4, none⟩ = some (.int .i64 (v 4))
  x5 : W.cell? ⟨w.heap.size, 5, none⟩ = some (.int .i64 (v 5))
  c0 : W.cell? ⟨w.heap.size + 1 + 1, 0, none⟩ = some (.int .i64 a)
  c1 : W.cell? ⟨w.heap.size + 1 + 1, 1, none⟩ = some (.int .i64 b)
  f0 : W.frozen? ⟨w.heap.size + 1 + 1, 0, none⟩ = false
  f1 : W.frozen? ⟨w.heap.size + 1 + 1, 1, none⟩ = false
  d0 : W.cell? ⟨w.heap.size + 1, 0, none⟩ = some (.int .i64 0)
  d1 : W.cell? ⟨w.heap.size + 1, 1, none⟩ = some (.int .i64 0)
  e0 : W.frozen? ⟨w.heap.size + 1, 0, none⟩ = false
  e1 : W.frozen? ⟨w.heap.size + 1, 1, none⟩ = false
theorem Es.keep {w W W' : World} {v : Nat → Int} {a b : Int} (h : Es w v a b W) (hb : Below W.heap.size W W') : Es w v a b W' := by
  have h2 := h.sz
  have h1 : w.heap.size + 1 < W.heap.size := by omega
  have h0 : w.heap.size < W.heap.size := by omega
  exact ⟨h.bl.trans (hb.mono h.bl.size), Nat.lt_of_lt_of_le h.sz hb.size,
    (hb.cell (p := ⟨w.heap.size, 0, none⟩) h0).trans h.x0,
    (hb.cell (p := ⟨w.heap.size, 1, none⟩) h0).trans h.x1,
    (hb.cell (p := ⟨w.heap.size, 2, none⟩) h0).trans h.x2,
    (hb.cell (p := ⟨w.heap.size, 3, none⟩) h0).trans h.x3,
    (hb.cell (p := ⟨w.heap.size, 4, none⟩) h0).trans h.x4,
    (hb.cell (p := ⟨w.heap.size, 5, none⟩) h0).trans h.x5,
    (hb.cell (p := ⟨w.heap.size + 1 + 1, 0, none⟩) h2).trans h.c0, (hb.cell (p := ⟨w.heap.size + 1 + 1, 1, none⟩) h2).trans h.c1, (hb.frozen (p := ⟨w.heap.size + 1 + 1, 0, none⟩) h2).trans h.f0, (hb.frozen (p := ⟨w.heap.size + 1 + 1, 1, none⟩) h2).trans h.f1,
    (hb.cell (p := ⟨w.heap.size + 1, 0, none⟩) h1).trans h.d0, (hb.cell (p := ⟨w.heap.size + 1, 1, none⟩) h1).trans h.d1, (hb.frozen (p := ⟨w.heap.size + 1, 0, none⟩) h1).trans h.e0, (hb.frozen (p := ⟨w.heap.size + 1, 1, none⟩) h1).trans h.e1⟩
theorem Es.drew {w W : World} {v : Nat → Int} {a b : Int} (h : Es w v a b W) : Es w v a b W.drew := h.keep (Below.refl _ _).drew
theorem Es.set {w W : World} {v : Nat → Int} {a b x y : Int} (h : Es w v a b W) : Es w v x y ((W.setCell ⟨w.heap.size + 1 + 1, 0, none⟩ (.int .i64 x)).setCell ⟨w.heap.size + 1 + 1, 1, none⟩ (.int .i64 y)) := by
  have hb : Below (w.heap.size + 1 + 1) W ((W.setCell ⟨w.heap.size + 1 + 1, 0, none⟩ (.int .i64 x)).setCell ⟨w.heap.size + 1 + 1, 1, none⟩ (.int .i64 y)) := by
    refine Below.setCell (Below.setCell (Below.refl _ _) ?_ _) ?_ _ <;> simp
  obtain ⟨bl, sz, x0, x1, x2, x3, x4, x5, c0, c1, f0, f1, d0, d1, e0, e1⟩ := h
  refine ⟨bl.trans (hb.mono (by omega)), by simpa using sz, ?_, ?_, ?_, ?_, ?_, ?_, ?_, ?_, ?_, ?_, ?_, ?_, ?_, ?_⟩
  all_goals simp [go_sem, x0, x1, x2, x3, x4, x5, c0, c1, f0, f1, d0, d1, e0, e1]
theorem Es.all0 {w W : World} {v : Nat → Int} {a b : Int} (h : Es w v a b W) : Es w v a b W ∧ W.cell? ⟨w.heap.size, 0, none⟩ = some (.int .i64 (v 0)) := ⟨h, h.x0⟩
theorem Es.all1 {w W : World} {v : Nat → Int} {a b : Int} (h : Es w v a b W) : Es w v a b W ∧ W.cell? ⟨w.heap.size, 1, none⟩ = some (.int .i64 (v 1)) := ⟨h, h.x1⟩
theorem Es.all2 {w W : World} {v : Nat → Int} {a b : Int} (h : Es w v a b W) : Es w v a b W ∧ W.cell? ⟨w.heap.size, 2, none⟩ = some (.int .i64 (v 2)) := ⟨h, h.x2⟩
theorem Es.all3 {w W : World} {v : Nat → Int} {a b : Int} (h : Es w v a b W) : Es w v a b W ∧ W.cell? ⟨w.heap.size, 3, none⟩ = some (.int .i64 (v 3)) := ⟨h, h.x3⟩
theorem Es.all4 {w W : World} {v : Nat → Int} {a b : Int} (h : Es w v a b W) : Es w v a b W ∧ W.cell? ⟨w.heap.size, 4, none⟩ = some (.int .i64 (v 4)) := ⟨h, h.x4⟩
theorem Es.all5 {w W : World} {v : Nat → Int} {a b : Int} (h : Es w v a b W) : Es w v a b W ∧ W.cell? ⟨w.heap.size, 5, none⟩ = some (.int .i64 (v 5)) := ⟨h, h.x5⟩
theorem wrapI (n : Int) (h1 : -9223372036854775808 ≤ n) (h2 : n ≤ 9223372036854775807) : IntKind.i64.wrap n = n := by
  simp [IntKind.wrap, IntKind.signed, IntKind.bits]; omega
theorem mmt0 (x : Int) : min (x * 1000000000) (x * 1000000000) = tLo 0 x ∧ max (x * 1000000000) (x * 1000000000) = tHi 0 x := by
  simp only [tLo, tHi, loN, hiN, reduceIte]
  split <;> omega
theorem mmt1 (x : Int) : min (x * 1584962500) (x * 1584962501) = tLo 1 x ∧ max (x * 1584962500) (x * 1584962501) = tHi 1 x := by
  simp only [tLo, tHi, loN, hiN, Nat.reduceEqDiff, reduceIte]
  split <;> omega
theorem mmt2 (x : Int) : min (x * 2321928094) (x * 2321928095) = tLo 2 x ∧ max (x * 2321928094) (x * 2321928095) = tHi 2 x := by
  simp only [tLo, tHi, loN, hiN, Nat.reduceEqDiff, reduceIte]
  split <;> omega
theorem mmt3 (x : Int) : min (x * 2807354922) (x * 2807354923) = tLo 3 x ∧ max (x * 2807354922) (x * 2807354923) = tHi 3 x := by
  simp only [tLo, tHi, loN, hiN, Nat.reduceEqDiff, reduceIte]
  split <;> omega
theorem mmt4 (x : Int) : min (x * 3459431618) (x * 3459431619) = tLo 4 x ∧ max (x * 3459431618) (x * 3459431619) = tHi 4 x := by
  simp only [tLo, tHi, loN, hiN, Nat.reduceEqDiff, reduceIte]
  split <;> omega
theorem mmt5 (x : Int) : min (x * 3700439718) (x * 3700439719) = tLo 5 x ∧ max (x * 3700439718) (x * 3700439719) = tHi 5 x := by
  simp only [tLo, tHi, loN, hiN, Nat.reduceEqDiff, reduceIte]
  split <;> omega
set_option maxHeartbeats 8000000 in
theorem exponents_any (v : Nat → Int) (w : World) (hv : Hx (Lim 1152 v)) : Calls Tryd.prog 40 #[PV v] w fun e w' => e = .returned (SV (mLo v) (mHi v)) ∧ Below w.heap.size w w' := by
  rw [← sLo_six, ← sHi_six]
  have B0 : Hx ((-1152 ≤ v 0 ∧ v 0 ≤ 1152) ∧ (-5000000000000 ≤ tLo 0 (v 0) ∧ tLo 0 (v 0) ≤ 5000000000000) ∧ (-5000000000000 ≤ tHi 0 (v 0) ∧ tHi 0 (v 0) ≤ 5000000000000) ∧ (-(5000000000000 * ((0 : Nat) : Int)) ≤ sLo v 0 ∧ sLo v 0 ≤ 5000000000000 * ((0 : Nat) : Int)) ∧ (-(5000000000000 * ((0 : Nat) : Int)) ≤ sHi v 0 ∧ sHi v 0 ≤ 5000000000000 * ((0 : Nat) : Int))) :=
    ⟨hv.out 0 (by omega), tLo_bd (by omega) (hv.out 0 (by omega)).1 (hv.out 0 (by omega)).2, tHi_bd (by omega) (hv.out 0 (by omega)).1 (hv.out 0 (by omega)).2, sLo_bd hv.out 0 (by omega), sHi_bd hv.out 0 (by omega)⟩
  have B1 : Hx ((-1152 ≤ v 1 ∧ v 1 ≤ 1152) ∧ (-5000000000000 ≤ tLo 1 (v 1) ∧ tLo 1 (v 1) ≤ 5000000000000) ∧ (-5000000000000 ≤ tHi 1 (v 1) ∧ tHi 1 (v 1) ≤ 5000000000000) ∧ (-(5000000000000 * ((1 : Nat) : Int)) ≤ sLo v 1 ∧ sLo v 1 ≤ 5000000000000 * ((1 : Nat) : Int)) ∧ (-(5000000000000 * ((1 : Nat) : Int)) ≤ sHi v 1 ∧ sHi v 1 ≤ 5000000000000 * ((1 : Nat) : Int))) :=
    ⟨hv.out 1 (by omega), tLo_bd (by omega) (hv.out 1 (by omega)).1 (hv.out 1 (by omega)).2, tHi_bd (by omega) (hv.out 1 (by omega)).1 (hv.out 1 (by omega)).2, sLo_bd hv.out 1 (by omega), sHi_bd hv.out 1 (by omega)⟩
  have B2 : Hx ((-1152 ≤ v 2 ∧ v 2 ≤ 1152) ∧ (-5000000000000 ≤ tLo 2 (v 2) ∧ tLo 2 (v 2) ≤ 5000000000000) ∧ (-5000000000000 ≤ tHi 2 (v 2) ∧ tHi 2 (v 2) ≤ 5000000000000) ∧ (-(5000000000000 * ((2 : Nat) : Int)) ≤ sLo v 2 ∧ sLo v 2 ≤ 5000000000000 * ((2 : Nat) : Int)) ∧ (-(5000000000000 * ((2 : Nat) : Int)) ≤ sHi v 2 ∧ sHi v 2 ≤ 5000000000000 * ((2 : Nat) : Int))) :=
    ⟨hv.out 2 (by omega), tLo_bd (by omega) (hv.out 2 (by omega)).1 (hv.out 2 (by omega)).2, tHi_bd (by omega) (hv.out 2 (by omega)).1 (hv.out 2 (by omega)).2, sLo_bd hv.out 2 (by omega), sHi_bd hv.out 2 (by omega)⟩
  have B3 : Hx ((-1152 ≤ v 3 ∧ v 3 ≤ 1152) ∧ (-5000000000000 ≤ tLo 3 (v 3) ∧ tLo 3 (v 3) ≤ 5000000000000) ∧ (-5000000000000 ≤ tHi 3 (v 3) ∧ tHi 3 (v 3) ≤ 5000000000000) ∧ (-(5000000000000 * ((3 : Nat) : Int)) ≤ sLo v 3 ∧ sLo v 3 ≤ 5000000000000 * ((3 : Nat) : Int)) ∧ (-(5000000000000 * ((3 : Nat) : Int)) ≤ sHi v 3 ∧ sHi v 3 ≤ 5000000000000 * ((3 : Nat) : Int))) :=
    ⟨hv.out 3 (by omega), tLo_bd (by omega) (hv.out 3 (by omega)).1 (hv.out 3 (by omega)).2, tHi_bd (by omega) (hv.out 3 (by omega)).1 (hv.out 3 (by omega)).2, sLo_bd hv.out 3 (by omega), sHi_bd hv.out 3 (by omega)⟩
  have B4 : Hx ((-1152 ≤ v 4 ∧ v 4 ≤ 1152) ∧ (-5000000000000 ≤ tLo 4 (v 4) ∧ tLo 4 (v 4) ≤ 5000000000000) ∧ (-5000000000000 ≤ tHi 4 (v 4) ∧ tHi 4 (v 4) ≤ 5000000000000) ∧ (-(5000000000000 * ((4 : Nat) : Int)) ≤ sLo v 4 ∧ sLo v 4 ≤ 5000000000000 * ((4 : Nat) : Int)) ∧ (-(5000000000000 * ((4 : Nat) : Int)) ≤ sHi v 4 ∧ sHi v 4 ≤ 5000000000000 * ((4 : Nat) : Int))) :=
    ⟨hv.out 4 (by omega), tLo_bd (by omega) (hv.out 4 (by omega)).1 (hv.out 4 (by omega)).2, tHi_bd (by omega) (hv.out 4 (by omega)).1 (hv.out 4 (by omega)).2, sLo_bd hv.out 4 (by omega), sHi_bd hv.out 4 (by omega)⟩
  have B5 : Hx ((-1152 ≤ v 5 ∧ v 5 ≤ 1152) ∧ (-5000000000000 ≤ tLo 5 (v 5) ∧ tLo 5 (v 5) ≤ 5000000000000) ∧ (-5000000000000 ≤ tHi 5 (v 5) ∧ tHi 5 (v 5) ≤ 5000000000000) ∧ (-(5000000000000 * ((5 : Nat) : Int)) ≤ sLo v 5 ∧ sLo v 5 ≤ 5000000000000 * ((5 : Nat) : Int)) ∧ (-(5000000000000 * ((5 : Nat) : Int)) ≤ sHi v 5 ∧ sHi v 5 ≤ 5000000000000 * ((5 : Nat) : Int))) :=
    ⟨hv.out 5 (by omega), tLo_bd (by omega) (hv.out 5 (by omega)).1 (hv.out 5 (by omega)).2, tHi_bd (by omega) (hv.out 5 (by omega)).1 (hv.out 5 (by omega)).2, sLo_bd hv.out 5 (by omega), sHi_bd hv.out 5 (by omega)⟩
  clear hv
  go_enter Tryd.func40, Tryd.ntmps40
  go_wp2_with fail
  go_loopw [4] (fun iv wr => ∃ k : Nat, k ≤ 6 ∧ iv = .int .i64 (k : Int) ∧ Hx (Es w v (sLo v k) (sHi v k) wr)) (fun iv _ => 6 - (intOf iv).toNat)
  case atStart => exact ⟨0, by omega, rfl, ⟨⟨by (repeat (first | with_reducible exact Below.refl _ _ | (with_reducible refine Below.alloc ?_ ?side _; case side => (first | omega | (simp <;> omega))))), by simp, by simp [go_sem], by simp [go_sem], by simp [go_sem], by simp [go_sem], by simp [go_sem], by simp [go_sem], by simp [go_sem, sLo], by simp [go_sem, sHi], by simp [go_sem], by simp [go_sem], by simp [go_sem], by simp [go_sem], by simp [go_sem], by simp [go_sem]⟩⟩⟩
  case round =>
    obtain ⟨k, hk, rfl, HS⟩ := hrel
    have : k = 0 ∨ k = 1 ∨ k = 2 ∨ k = 3 ∨ k = 4 ∨ k = 5 ∨ k = 6 := by omega
    rcases this with rfl | rfl | rfl | rfl | rfl | rfl | rfl
    · have hz := t0 (v 0)
      obtain ⟨⟨q1, q2⟩, ⟨q3, q4⟩, ⟨q5, q6⟩, ⟨q7, q8⟩, ⟨q9, q10⟩⟩ := B0.out
      obtain ⟨T, hT⟩ : ∃ T, tLo 0 (v 0) = T := ⟨_, rfl⟩
      have hU : tHi 0 (v 0) = T := by rw [hz.2, ← hz.1]; exact hT
      have hw1 : IntKind.i64.wrap (v 0 * 1000000000) = T := by rw [← hT, hz.1]; exact wrapI _ (by omega) (by omega)
      rw [hT] at q3 q4
      clear q5 q6 hz
      have HL1 : Hx (sLo v 1 = sLo v 0 + T ∧ sHi v 1 = sHi v 0 + T) := ⟨by rw [← hT]; rfl, by rw [← hU]; rfl⟩
      clear hT hU
      have HS0 := HS.out.all0
      have HS1 := HS.out.drew.all0
      go_wp2_with fail
      go_region_held3 (fun W' => Es w v (sLo v 0) (sHi v 0) W' ∧ W'.cell? ⟨w.heap.size, 0, none⟩ = some (.int .i64 (v 0)))
        (first | (with_reducible assumption) | (refine Es.all0 ?_; with_reducible assumption) | (refine Es.all0 (Es.drew ?_); with_reducible assumption))
        (first | (go_at_call 55; refine (lower0 _).mono ?_; rintro e w' ⟨rfl, hb1⟩; have hS' := Es.keep (And.left (by assumption)) hb1))
      clear HS0 HS1 HS
      have HT := Hx.mk hS'
      clear hS' hb1
      have HS0 := HT.out.all0
      have HS1 := HT.out.drew.all0
      go_wp2_with fail
      go_region_held3 (fun W' => Es w v (sLo v 0) (sHi v 0) W' ∧ W'.cell? ⟨w.heap.size, 0, none⟩ = some (.int .i64 (v 0)))
        (first | (with_reducible assumption) | (refine Es.all0 ?_; with_reducible assumption) | (refine Es.all0 (Es.drew ?_); with_reducible assumption))
        (first | (go_at_call 56; refine (upper0 _).mono ?_; rintro e w' ⟨rfl, hb1⟩; have hS' := Es.keep (And.left (by assumption)) hb1))
      clear HS0 HS1 HT
      have HT := Hx.mk hS'
      clear hS' hb1
      have c0 := HT.out.c0
      have c1 := HT.out.c1
      have f0 := HT.out.f0
      have f1 := HT.out.f1
      go_wp2_with fail
      go_roundw
      case rel => exact ⟨1, by omega, rfl, ⟨by rw [HL1.out.1, HL1.out.2]; exact HT.out.set⟩⟩
      case measure => simp [intOf]
    · obtain ⟨⟨q1, q2⟩, ⟨q3, q4⟩, ⟨q5, q6⟩, ⟨q7, q8⟩, ⟨q9, q10⟩⟩ := B1.out
      obtain ⟨hm1, hm2⟩ := mmt1 (v 1)
      obtain ⟨x, hx⟩ : ∃ x, v 1 * 1584962500 = x := ⟨_, rfl⟩
      obtain ⟨y, hy⟩ : ∃ y, v 1 * 1584962501 = y := ⟨_, rfl⟩
      have hw1 : IntKind.i64.wrap (v 1 * 1584962500) = x := by rw [← hx]; exact wrapI _ (by omega) (by omega)
      have hw2 : IntKind.i64.wrap (v 1 * 1584962501) = y := by rw [← hy]; exact wrapI _ (by omega) (by omega)
      obtain ⟨T, hT⟩ : ∃ T, tLo 1 (v 1) = T := ⟨_, rfl⟩
      obtain ⟨U, hU⟩ : ∃ U, tHi 1 (v 1) = U := ⟨_, rfl⟩
      have HL1 : Hx (sLo v 2 = sLo v 1 + T ∧ sHi v 2 = sHi v 1 + U) := ⟨by rw [← hT]; rfl, by rw [← hU]; rfl⟩
      rw [hx, hy, hT] at hm1
      rw [hx, hy, hU] at hm2
      rw [hT] at q3 q4
      rw [hU] at q5 q6
      clear hT hU hx hy
      have HS0 := HS.out.all1
      have HS1 := HS.out.drew.all1
      go_wp2_with fail
      go_region_held3 (fun W' => Es w v (sLo v 1) (sHi v 1) W' ∧ W'.cell? ⟨w.heap.size, 1, none⟩ = some (.int .i64 (v 1)))
        (first | (with_reducible assumption) | (refine Es.all1 ?_; with_reducible assumption) | (refine Es.all1 (Es.drew ?_); with_reducible assumption))
        (first | (go_at_call 55; refine (lower1 _).mono ?_; rintro e w' ⟨rfl, hb1⟩; have hS' := Es.keep (And.left (by assumption)) hb1))
      clear HS0 HS1 HS
      have HT := Hx.mk hS'
      clear hS' hb1
      have HS0 := HT.out.all1
      have HS1 := HT.out.drew.all1
      go_wp2_with fail
      go_region_held3 (fun W' => Es w v (sLo v 1) (sHi v 1) W' ∧ W'.cell? ⟨w.heap.size, 1, none⟩ = some (.int .i64 (v 1)))
        (first | (with_reducible assumption) | (refine Es.all1 ?_; with_reducible assumption) | (refine Es.all1 (Es.drew ?_); with_reducible assumption))
        (first | (go_at_call 56; refine (upper1 _).mono ?_; rintro e w' ⟨rfl, hb1⟩; have hS' := Es.keep (And.left (by assumption)) hb1))
      clear HS0 HS1 HT
      have HT := Hx.mk hS'
      clear hS' hb1
      have c0 := HT.out.c0
      have c1 := HT.out.c1
      have f0 := HT.out.f0
      have f1 := HT.out.f1
      go_wp2_with fail
      go_roundw
      case rel => exact ⟨2, by omega, rfl, ⟨by rw [HL1.out.1, HL1.out.2]; exact HT.out.set⟩⟩
      case measure => simp [intOf]
    · obtain ⟨⟨q1, q2⟩, ⟨q3, q4⟩, ⟨q5, q6⟩, ⟨q7, q8⟩, ⟨q9, q10⟩⟩ := B2.out
      obtain ⟨hm1, hm2⟩ := mmt2 (v 2)
      obtain ⟨x, hx⟩ : ∃ x, v 2 * 2321928094 = x := ⟨_, rfl⟩
      obtain ⟨y, hy⟩ : ∃ y, v 2 * 2321928095 = y := ⟨_, rfl⟩
      have hw1 : IntKind.i64.wrap (v 2 * 2321928094) = x := by rw [← hx]; exact wrapI _ (by omega) (by omega)
      have hw2 : IntKind.i64.wrap (v 2 * 2321928095) = y := by rw [← hy]; exact wrapI _ (by omega) (by omega)
      obtain ⟨T, hT⟩ : ∃ T, tLo 2 (v 2) = T := ⟨_, rfl⟩
      obtain ⟨U, hU⟩ : ∃ U, tHi 2 (v 2) = U := ⟨_, rfl⟩
      have HL1 : Hx (sLo v 3 = sLo v 2 + T ∧ sHi v 3 = sHi v 2 + U) := ⟨by rw [← hT]; rfl, by rw [← hU]; rfl⟩
      rw [hx, hy, hT] at hm1
      rw [hx, hy, hU] at hm2
      rw [hT] at q3 q4
      rw [hU] at q5 q6
      clear hT hU hx hy
      have HS0 := HS.out.all2
      have HS1 := HS.out.drew.all2
      go_wp2_with fail
      go_region_held3 (fun W' => Es w v (sLo v 2) (sHi v 2) W' ∧ W'.cell? ⟨w.heap.size, 2, none⟩ = some (.int .i64 (v 2)))
        (first | (with_reducible assumption) | (refine Es.all2 ?_; with_reducible assumption) | (refine Es.all2 (Es.drew ?_); with_reducible assumption))
        (first | (go_at_call 55; refine (lower2 _).mono ?_; rintro e w' ⟨rfl, hb1⟩; have hS' := Es.keep (And.left (by assumption)) hb1))
      clear HS0 HS1 HS
      have HT := Hx.mk hS'
      clear hS' hb1
      have HS0 := HT.out.all2
      have HS1 := HT.out.drew.all2
      go_wp2_with fail
      go_region_held3 (fun W' => Es w v (sLo v 2) (sHi v 2) W' ∧ W'.cell? ⟨w.heap.size, 2, none⟩ = some (.int .i64 (v 2)))
        (first | (with_reducible assumption) | (refine Es.all2 ?_; with_reducible assumption) | (refine Es.all2 (Es.drew ?_); with_reducible assumption))
        (first | (go_at_call 56; refine (upper2 _).mono ?_; rintro e w' ⟨rfl, hb1⟩; have hS' := Es.keep (And.left (by assumption)) hb1))
      clear HS0 HS1 HT
      have HT := Hx.mk hS'
      clear hS' hb1
      have c0 := HT.out.c0
      have c1 := HT.out.c1
      have f0 := HT.out.f0
      have f1 := HT.out.f1
      go_wp2_with fail
      go_roundw
      case rel => exact ⟨3, by omega, rfl, ⟨by rw [HL1.out.1, HL1.out.2]; exact HT.out.set⟩⟩
      case measure => simp [intOf]
    · obtain ⟨⟨q1, q2⟩, ⟨q3, q4⟩, ⟨q5, q6⟩, ⟨q7, q8⟩, ⟨q9, q10⟩⟩ := B3.out
      obtain ⟨hm1, hm2⟩ := mmt3 (v 3)
      obtain ⟨x, hx⟩ : ∃ x, v 3 * 2807354922 = x := ⟨_, rfl⟩
      obtain ⟨y, hy⟩ : ∃ y, v 3 * 2807354923 = y := ⟨_, rfl⟩
      have hw1 : IntKind.i64.wrap (v 3 * 2807354922) = x := by rw [← hx]; exact wrapI _ (by omega) (by omega)
      have hw2 : IntKind.i64.wrap (v 3 * 2807354923) = y := by rw [← hy]; exact wrapI _ (by omega) (by omega)
      obtain ⟨T, hT⟩ : ∃ T, tLo 3 (v 3) = T := ⟨_, rfl⟩
      obtain ⟨U, hU⟩ : ∃ U, tHi 3 (v 3) = U := ⟨_, rfl⟩
      have HL1 : Hx (sLo v 4 = sLo v 3 + T ∧ sHi v 4 = sHi v 3 + U) := ⟨by rw [← hT]; rfl, by rw [← hU]; rfl⟩
      rw [hx, hy, hT] at hm1
      rw [hx, hy, hU] at hm2
      rw [hT] at q3 q4
      rw [hU] at q5 q6
      clear hT hU hx hy
      have HS0 := HS.out.all3
      have HS1 := HS.out.drew.all3
      go_wp2_with fail
      go_region_held3 (fun W' => Es w v (sLo v 3) (sHi v 3) W' ∧ W'.cell? ⟨w.heap.size, 3, none⟩ = some (.int .i64 (v 3)))
        (first | (with_reducible assumption) | (refine Es.all3 ?_; with_reducible assumption) | (refine Es.all3 (Es.drew ?_); with_reducible assumption))
        (first | (go_at_call 55; refine (lower3 _).mono ?_; rintro e w' ⟨rfl, hb1⟩; have hS' := Es.keep (And.left (by assumption)) hb1))
      clear HS0 HS1 HS
      have HT := Hx.mk hS'
      clear hS' hb1
      have HS0 := HT.out.all3
      have HS1 := HT.out.drew.all3
      go_wp2_with fail
      go_region_held3 (fun W' => Es w v (sLo v 3) (sHi v 3) W' ∧ W'.cell? ⟨w.heap.size, 3, none⟩ = some (.int .i64 (v 3)))
        (first | (with_reducible assumption) | (refine Es.all3 ?_; with_reducible assumption) | (refine Es.all3 (Es.drew ?_); with_reducible assumption))
        (first | (go_at_call 56; refine (upper3 _).mono ?_; rintro e w' ⟨rfl, hb1⟩; have hS' := Es.keep (And.left (by assumption)) hb1))
      clear HS0 HS1 HT
      have HT := Hx.mk hS'
      clear hS' hb1
      have c0 := HT.out.c0
      have c1 := HT.out.c1
      have f0 := HT.out.f0
      have f1 := HT.out.f1
      go_wp2_with fail
      go_roundw
      case rel => exact ⟨4, by omega, rfl, ⟨by rw [HL1.out.1, HL1.out.2]; exact HT.out.set⟩⟩
      case measure => simp [intOf]
    · obtain ⟨⟨q1, q2⟩, ⟨q3, q4⟩, ⟨q5, q6⟩, ⟨q7, q8⟩, ⟨q9, q10⟩⟩ := B4.out
      obtain ⟨hm1, hm2⟩ := mmt4 (v 4)
      obtain ⟨x, hx⟩ : ∃ x, v 4 * 3459431618 = x := ⟨_, rfl⟩
      obtain ⟨y, hy⟩ : ∃ y, v 4 * 3459431619 = y := ⟨_, rfl⟩
      have hw1 : IntKind.i64.wrap (v 4 * 3459431618) = x := by rw [← hx]; exact wrapI _ (by omega) (by omega)
      have hw2 : IntKind.i64.wrap (v 4 * 3459431619) = y := by rw [← hy]; exact wrapI _ (by omega) (by omega)
      obtain ⟨T, hT⟩ : ∃ T, tLo 4 (v 4) = T := ⟨_, rfl⟩
      obtain ⟨U, hU⟩ : ∃ U, tHi 4 (v 4) = U := ⟨_, rfl⟩
      have HL1 : Hx (sLo v 5 = sLo v 4 + T ∧ sHi v 5 = sHi v 4 + U) := ⟨by rw [← hT]; rfl, by rw [← hU]; rfl⟩
      rw [hx, hy, hT] at hm1
      rw [hx, hy, hU] at hm2
      rw [hT] at q3 q4
      rw [hU] at q5 q6
      clear hT hU hx hy
      have HS0 := HS.out.all4
      have HS1 := HS.out.drew.all4
      go_wp2_with fail
      go_region_held3 (fun W' => Es w v (sLo v 4) (sHi v 4) W' ∧ W'.cell? ⟨w.heap.size, 4, none⟩ = some (.int .i64 (v 4)))
        (first | (with_reducible assumption) | (refine Es.all4 ?_; with_reducible assumption) | (refine Es.all4 (Es.drew ?_); with_reducible assumption))
        (first | (go_at_call 55; refine (lower4 _).mono ?_; rintro e w' ⟨rfl, hb1⟩; have hS' := Es.keep (And.left (by assumption)) hb1))
      clear HS0 HS1 HS
      have HT := Hx.mk hS'
      clear hS' hb1
      have HS0 := HT.out.all4
      have HS1 := HT.out.drew.all4
      go_wp2_with fail
      go_region_held3 (fun W' => Es w v (sLo v 4) (sHi v 4) W' ∧ W'.cell? ⟨w.heap.size, 4, none⟩ = some (.int .i64 (v 4)))
        (first | (with_reducible assumption) | (refine Es.all4 ?_; with_reducible assumption) | (refine Es.all4 (Es.drew ?_); with_reducible assumption))
        (first | (go_at_call 56; refine (upper4 _).mono ?_; rintro e w' ⟨rfl, hb1⟩; have hS' := Es.keep (And.left (by assumption)) hb1))
      clear HS0 HS1 HT
      have HT := Hx.mk hS'
      clear hS' hb1
      have c0 := HT.out.c0
      have c1 := HT.out.c1
      have f0 := HT.out.f0
      have f1 := HT.out.f1
      go_wp2_with fail
      go_roundw
      case rel => exact ⟨5, by omega, rfl, ⟨by rw [HL1.out.1, HL1.out.2]; exact HT.out.set⟩⟩
      case measure => simp [intOf]
    · obtain ⟨⟨q1, q2⟩, ⟨q3, q4⟩, ⟨q5, q6⟩, ⟨q7, q8⟩, ⟨q9, q10⟩⟩ := B5.out
      obtain ⟨hm1, hm2⟩ := mmt5 (v 5)
      obtain ⟨x, hx⟩ : ∃ x, v 5 * 3700439718 = x := ⟨_, rfl⟩
      obtain ⟨y, hy⟩ : ∃ y, v 5 * 3700439719 = y := ⟨_, rfl⟩
      have hw1 : IntKind.i64.wrap (v 5 * 3700439718) = x := by rw [← hx]; exact wrapI _ (by omega) (by omega)
      have hw2 : IntKind.i64.wrap (v 5 * 3700439719) = y := by rw [← hy]; exact wrapI _ (by omega) (by omega)
      obtain ⟨T, hT⟩ : ∃ T, tLo 5 (v 5) = T := ⟨_, rfl⟩
      obtain ⟨U, hU⟩ : ∃ U, tHi 5 (v 5) = U := ⟨_, rfl⟩
      have HL1 : Hx (sLo v 6 = sLo v 5 + T ∧ sHi v 6 = sHi v 5 + U) := ⟨by rw [← hT]; rfl, by rw [← hU]; rfl⟩
      rw [hx, hy, hT] at hm1
      rw [hx, hy, hU] at hm2
      rw [hT] at q3 q4
      rw [hU] at q5 q6
      clear hT hU hx hy
      have HS0 := HS.out.all5
      have HS1 := HS.out.drew.all5
      go_wp2_with fail
      go_region_held3 (fun W' => Es w v (sLo v 5) (sHi v 5) W' ∧ W'.cell? ⟨w.heap.size, 5, none⟩ = some (.int .i64 (v 5)))
        (first | (with_reducible assumption) | (refine Es.all5 ?_; with_reducible assumption) | (refine Es.all5 (Es.drew ?_); with_reducible assumption))
        (first | (go_at_call 55; refine (lower5 _).mono ?_; rintro e w' ⟨rfl, hb1⟩; have hS' := Es.keep (And.left (by assumption)) hb1))
      clear HS0 HS1 HS
      have HT := Hx.mk hS'
      clear hS' hb1
      have HS0 := HT.out.all5
      have HS1 := HT.out.drew.all5
      go_wp2_with fail
      go_region_held3 (fun W' => Es w v (sLo v 5) (sHi v 5) W' ∧ W'.cell? ⟨w.heap.size, 5, none⟩ = some (.int .i64 (v 5)))
        (first | (with_reducible assumption) | (refine Es.all5 ?_; with_reducible assumption) | (refine Es.all5 (Es.drew ?_); with_reducible assumption))
        (first | (go_at_call 56; refine (upper5 _).mono ?_; rintro e w' ⟨rfl, hb1⟩; have hS' := Es.keep (And.left (by assumption)) hb1))
      clear HS0 HS1 HT
      have HT := Hx.mk hS'
      clear hS' hb1
      have c0 := HT.out.c0
      have c1 := HT.out.c1
      have f0 := HT.out.f0
      have f1 := HT.out.f1
      go_wp2_with fail
      go_roundw
      case rel => exact ⟨6, by omega, rfl, ⟨by rw [HL1.out.1, HL1.out.2]; exact HT.out.set⟩⟩
      case measure => simp [intOf]
    · have c0 := HS.out.c0
      have c1 := HS.out.c1
      have f0 := HS.out.f0
      have f1 := HS.out.f1
      have d0 := HS.out.d0
      have d1 := HS.out.d1
      have e0 := HS.out.e0
      have e1 := HS.out.e1
      go_wp2
      refine bodyPost_ret_by (v := SV (sLo v 6) (sHi v 6)) (by simp [results, Tryd.results40, go_sem, d0, d1]) rfl ?_
      refine ⟨rfl, HS.out.bl.trans (Below.setCell (Below.setCell (Below.refl _ _) ?_ _) ?_ _)⟩ <;> simp
end Go.Proofs.YtdlfnonlalkjdaaDoor

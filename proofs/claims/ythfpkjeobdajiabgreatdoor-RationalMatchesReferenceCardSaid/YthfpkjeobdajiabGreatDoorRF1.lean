/- the reference's Simple below 0. -/
import Derived.Test.YthfpkjeobdajiabGreatDoorRF0
namespace Go.Proofs.YthfpkjeobdajiabGreatDoor
open Go.RowKit M
set_option maxRecDepth 20000 in
set_option maxHeartbeats 2000000 in
theorem refSimple_neg (n1 d1 n2 d2 c p q : Int) (w : World) (HC : Bx (∀ w : World, Calls Tryz.prog 24 #[RV n1 d1, RV n2 d2] w fun e' w' => e' = .returned (.tuple #[.int .i64 c, .int .i64 0]) ∧ Below w.heap.size w w')) (hc : c ≤ 0) (h1 : n1 < 0) (h2 : n2 < 0) (b1 : -1000000000 ≤ n1) (b2 : n1 ≤ 1000000000) (b3 : -1000000000 ≤ n2) (b4 : -2000000000 ≤ p) (b5 : p ≤ 2000000000)
    (HS : Bx (∀ w : World, Calls Tryz.prog 48 #[.int .i64 (-n2), .int .i64 d2, .int .i64 (-n1), .int .i64 d1] w fun e w' => e = .returned (.tuple #[.int .i64 p, .int .i64 q]) ∧ Below w.heap.size w w')) : Calls Tryz.prog 20 #[RV n1 d1, RV n2 d2] w (OutR ⟨-p, q, 0⟩ w) := by
  have g1 : ¬ 0 ≤ n2 := by omega
  have hW : Below w.heap.size w (((w.alloc (.cells #[.int .i64 n1, .int .i64 d1] 23)).alloc (.cells #[.int .i64 n2, .int .i64 d2] 23)).alloc (.cells #[.int .i64 0, .int .i64 0] 23)) := by repeat (first | exact Below.refl _ _ | apply below_drewN | refine Below.setCell ?_ (by simp <;> omega) _ | refine Below.alloc ?_ (by simp <;> omega) _)
  have K1 : Cap (((w.alloc (.cells #[.int .i64 n1, .int .i64 d1] 23)).alloc (.cells #[.int .i64 n2, .int .i64 d2] 23)).alloc (.cells #[.int .i64 0, .int .i64 0] 23)) w.heap.size n1 d1 := ⟨by simp <;> omega, by simp [go_sem], by simp [go_sem]⟩
  have K2 : Cap (((w.alloc (.cells #[.int .i64 n1, .int .i64 d1] 23)).alloc (.cells #[.int .i64 n2, .int .i64 d2] 23)).alloc (.cells #[.int .i64 0, .int .i64 0] 23)) (w.heap.size + 1) n2 d2 := ⟨by simp <;> omega, by simp [go_sem], by simp [go_sem]⟩
  have P : Plc (((w.alloc (.cells #[.int .i64 n1, .int .i64 d1] 23)).alloc (.cells #[.int .i64 n2, .int .i64 d2] 23)).alloc (.cells #[.int .i64 0, .int .i64 0] 23)) (w.heap.size + 1 + 1) := ⟨by simp <;> omega, by simp [go_sem], by simp [go_sem], by simp [go_sem], by simp [go_sem]⟩
  go_enter Tryz.func20, Tryz.ntmps20
  go_wp2_with fail
  refine (HC.out _).mono ?_
  rintro e w2 ⟨rfl, hb⟩
  have hB := Bx.mk (hW.trans (hb.mono hW.size))
  have K1 := K1.keep hb
  have K2 := K2.keep hb
  have P := P.keep hb
  clear hb hW HC
  obtain ⟨k0, k1, k2⟩ := id K1
  obtain ⟨k3, k4, k5⟩ := id K2
  obtain ⟨p0, p1, p2, p3, p4⟩ := id P
  go_wp2_with fail
  refine (HS.out _).mono ?_
  rintro e w3 ⟨rfl, hb⟩
  have hB := Bx.mk (hB.out.trans (hb.mono hB.out.size))
  clear p0 p1 p2 p3 p4
  obtain ⟨p0, p1, p2, p3, p4⟩ := P.keep hb
  clear hb
  go_wp2
  (try simp only [Exit.inBlock, Exit.then])
  refine bodyPost_ret_by (v := .tuple #[RV (-p) q, .int .i64 0]) (by simp [results, Tryz.results20, go_sem, p0, p1, p2]) rfl ?_
  exact ⟨rfl, by repeat (first | exact hB.out | apply below_drewN | refine Below.setCell ?_ (by first | omega | (simp <;> omega)) _ | refine Below.alloc ?_ (by first | omega | (simp <;> omega)) _)⟩
end Go.Proofs.YthfpkjeobdajiabGreatDoor

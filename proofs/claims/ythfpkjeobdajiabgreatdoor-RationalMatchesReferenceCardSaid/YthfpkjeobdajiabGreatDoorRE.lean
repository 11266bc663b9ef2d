/- the reference's Near, all cases. -/
import Derived.Test.YthfpkjeobdajiabGreatDoorRD
namespace Go.Proofs.YthfpkjeobdajiabGreatDoor
open Go.RowKit M
set_option maxRecDepth 20000 in
theorem refNear_bad (A D m f e : Int) (w : World) (HF : Bx (∀ w : World, Calls Tryz.prog 26 #[RV A D] w fun e' w' => e' = .returned (.tuple #[.int .i64 f, .int .i64 e]) ∧ Below w.heap.size w w'))
    (h : (e = 1) ∨ (e = 0 ∧ m < 1) ∨ (e = 0 ∧ 1 ≤ m ∧ 1000000000 < m)) : Calls Tryz.prog 18 #[RV A D, .int .i64 m] w (OutR ⟨0, 0, 1⟩ w) := by
  rcases h with rfl | ⟨rfl, h⟩ | ⟨rfl, h, h'⟩
  · have hW : Below w.heap.size w ((w.alloc (.cells #[.int .i64 A, .int .i64 D] 23)).alloc (.cells #[.int .i64 0, .int .i64 0] 23)) := by repeat (first | exact Below.refl _ _ | apply below_drewN | refine Below.setCell ?_ (by simp <;> omega) _ | refine Below.alloc ?_ (by simp <;> omega) _)
    have K1 : Cap ((w.alloc (.cells #[.int .i64 A, .int .i64 D] 23)).alloc (.cells #[.int .i64 0, .int .i64 0] 23)) w.heap.size A D := ⟨by simp <;> omega, by simp [go_sem], by simp [go_sem]⟩
    have P : Plc ((w.alloc (.cells #[.int .i64 A, .int .i64 D] 23)).alloc (.cells #[.int .i64 0, .int .i64 0] 23)) (w.heap.size + 1) := ⟨by simp <;> omega, by simp [go_sem], by simp [go_sem], by simp [go_sem], by simp [go_sem]⟩
    go_enter Tryz.func18, Tryz.ntmps18
    go_wp2_with fail
    refine (HF.out _).mono ?_
    rintro e w2 ⟨rfl, hb⟩
    have hB := Bx.mk (hW.trans (hb.mono hW.size))
    have K1 := K1.keep hb
    have P := P.keep hb
    clear hb hW HF
    obtain ⟨k0, k1, k2⟩ := id K1
    obtain ⟨p0, p1, p2, p3, p4⟩ := id P
    go_wp2_with fail
    (try simp only [Exit.inBlock, Exit.then])
    refine bodyPost_ret_by (v := .tuple #[RV 0 0, .int .i64 1]) (by simp [results, Tryz.results18, go_sem, p0, p1, p2]) rfl ?_
    exact ⟨rfl, by repeat (first | exact hB.out | apply below_drewN | refine Below.setCell ?_ (by first | omega | (simp <;> omega)) _ | refine Below.alloc ?_ (by first | omega | (simp <;> omega)) _)⟩
  · have hW : Below w.heap.size w ((w.alloc (.cells #[.int .i64 A, .int .i64 D] 23)).alloc (.cells #[.int .i64 0, .int .i64 0] 23)) := by repeat (first | exact Below.refl _ _ | apply below_drewN | refine Below.setCell ?_ (by simp <;> omega) _ | refine Below.alloc ?_ (by simp <;> omega) _)
    have K1 : Cap ((w.alloc (.cells #[.int .i64 A, .int .i64 D] 23)).alloc (.cells #[.int .i64 0, .int .i64 0] 23)) w.heap.size A D := ⟨by simp <;> omega, by simp [go_sem], by simp [go_sem]⟩
    have P : Plc ((w.alloc (.cells #[.int .i64 A, .int .i64 D] 23)).alloc (.cells #[.int .i64 0, .int .i64 0] 23)) (w.heap.size + 1) := ⟨by simp <;> omega, by simp [go_sem], by simp [go_sem], by simp [go_sem], by simp [go_sem]⟩
    go_enter Tryz.func18, Tryz.ntmps18
    go_wp2_with fail
    refine (HF.out _).mono ?_
    rintro e w2 ⟨rfl, hb⟩
    have hB := Bx.mk (hW.trans (hb.mono hW.size))
    have K1 := K1.keep hb
    have P := P.keep hb
    clear hb hW HF
    obtain ⟨k0, k1, k2⟩ := id K1
    obtain ⟨p0, p1, p2, p3, p4⟩ := id P
    go_wp2_with fail
    (try simp only [Exit.inBlock, Exit.then])
    refine bodyPost_ret_by (v := .tuple #[RV 0 0, .int .i64 1]) (by simp [results, Tryz.results18, go_sem, p0, p1, p2]) rfl ?_
    exact ⟨rfl, by repeat (first | exact hB.out | apply below_drewN | refine Below.setCell ?_ (by first | omega | (simp <;> omega)) _ | refine Below.alloc ?_ (by first | omega | (simp <;> omega)) _)⟩
  · have hW : Below w.heap.size w ((w.alloc (.cells #[.int .i64 A, .int .i64 D] 23)).alloc (.cells #[.int .i64 0, .int .i64 0] 23)) := by repeat (first | exact Below.refl _ _ | apply below_drewN | refine Below.setCell ?_ (by simp <;> omega) _ | refine Below.alloc ?_ (by simp <;> omega) _)
    have K1 : Cap ((w.alloc (.cells #[.int .i64 A, .int .i64 D] 23)).alloc (.cells #[.int .i64 0, .int .i64 0] 23)) w.heap.size A D := ⟨by simp <;> omega, by simp [go_sem], by simp [go_sem]⟩
    have P : Plc ((w.alloc (.cells #[.int .i64 A, .int .i64 D] 23)).alloc (.cells #[.int .i64 0, .int .i64 0] 23)) (w.heap.size + 1) := ⟨by simp <;> omega, by simp [go_sem], by simp [go_sem], by simp [go_sem], by simp [go_sem]⟩
    go_enter Tryz.func18, Tryz.ntmps18
    go_wp2_with fail
    refine (HF.out _).mono ?_
    rintro e w2 ⟨rfl, hb⟩
    have hB := Bx.mk (hW.trans (hb.mono hW.size))
    have K1 := K1.keep hb
    have P := P.keep hb
    clear hb hW HF
    obtain ⟨k0, k1, k2⟩ := id K1
    obtain ⟨p0, p1, p2, p3, p4⟩ := id P
    go_wp2_with fail
    (try simp only [Exit.inBlock, Exit.then])
    refine bodyPost_ret_by (v := .tuple #[RV 0 0, .int .i64 1]) (by simp [results, Tryz.results18, go_sem, p0, p1, p2]) rfl ?_
    exact ⟨rfl, by repeat (first | exact hB.out | apply below_drewN | refine Below.setCell ?_ (by first | omega | (simp <;> omega)) _ | refine Below.alloc ?_ (by first | omega | (simp <;> omega)) _)⟩
set_option maxRecDepth 20000 in
theorem refNear_same (A D m f : Int) (w : World) (HF : Bx (∀ w : World, Calls Tryz.prog 26 #[RV A D] w fun e' w' => e' = .returned (.tuple #[.int .i64 f, .int .i64 0]) ∧ Below w.heap.size w w'))
    (h1 : 1 ≤ m) (h2 : m ≤ 1000000000) (h : D ≤ m) : Calls Tryz.prog 18 #[RV A D, .int .i64 m] w (OutR ⟨A, D, 0⟩ w) := by
  have hW : Below w.heap.size w ((w.alloc (.cells #[.int .i64 A, .int .i64 D] 23)).alloc (.cells #[.int .i64 0, .int .i64 0] 23)) := by repeat (first | exact Below.refl _ _ | apply below_drewN | refine Below.setCell ?_ (by simp <;> omega) _ | refine Below.alloc ?_ (by simp <;> omega) _)
  have K1 : Cap ((w.alloc (.cells #[.int .i64 A, .int .i64 D] 23)).alloc (.cells #[.int .i64 0, .int .i64 0] 23)) w.heap.size A D := ⟨by simp <;> omega, by simp [go_sem], by simp [go_sem]⟩
  have P : Plc ((w.alloc (.cells #[.int .i64 A, .int .i64 D] 23)).alloc (.cells #[.int .i64 0, .int .i64 0] 23)) (w.heap.size + 1) := ⟨by simp <;> omega, by simp [go_sem], by simp [go_sem], by simp [go_sem], by simp [go_sem]⟩
  go_enter Tryz.func18, Tryz.ntmps18
  go_wp2_with fail
  refine (HF.out _).mono ?_
  rintro e w2 ⟨rfl, hb⟩
  have hB := Bx.mk (hW.trans (hb.mono hW.size))
  have K1 := K1.keep hb
  have P := P.keep hb
  clear hb hW HF
  obtain ⟨k0, k1, k2⟩ := id K1
  obtain ⟨p0, p1, p2, p3, p4⟩ := id P
  go_wp2_with fail
  (try simp only [Exit.inBlock, Exit.then])
  refine bodyPost_ret_by (v := .tuple #[RV A D, .int .i64 0]) (by simp [results, Tryz.results18, go_sem, p0, p1, p2]) rfl ?_
  exact ⟨rfl, by repeat (first | exact hB.out | apply below_drewN | refine Below.setCell ?_ (by first | omega | (simp <;> omega)) _ | refine Below.alloc ?_ (by first | omega | (simp <;> omega)) _)⟩
theorem refNear_any (A D m x y c : Int) (w : World) (i1 : I64 A) (i2 : I64 D) (hr : NearR A D m x y c) : Calls Tryz.prog 18 #[RV A D, .int .i64 m] w (OutR ⟨x, y, c⟩ w) := by
  have HF := Bx.mk (fun w => refFloor_any A D w i1 i2)
  cases hv : validQ A D
  · obtain ⟨rfl, rfl, rfl⟩ := hr.unique (.inr ⟨.inl hv, rfl, rfl, rfl⟩)
    rw [show floorQ A D = (0, 1) from by simp [floorQ, hv]] at HF
    exact refNear_bad A D m 0 1 w HF (.inl rfl)
  · rw [show floorQ A D = (A / D, 0) from by simp [floorQ, hv]] at HF
    by_cases h1 : m < 1
    · obtain ⟨rfl, rfl, rfl⟩ := hr.unique (.inr ⟨.inr (.inl h1), rfl, rfl, rfl⟩)
      exact refNear_bad A D m _ 0 w HF (.inr (.inl ⟨rfl, h1⟩))
    by_cases h2 : 1000000000 < m
    · obtain ⟨rfl, rfl, rfl⟩ := hr.unique (.inr ⟨.inr (.inr h2), rfl, rfl, rfl⟩)
      exact refNear_bad A D m _ 0 w HF (.inr (.inr ⟨rfl, by omega, h2⟩))
    by_cases h3 : D ≤ m
    · obtain ⟨rfl, rfl, rfl⟩ := hr.unique (.inl ⟨hv, by omega, by omega, rfl, .inl ⟨h3, rfl, rfl⟩⟩)
      exact refNear_same _ _ m _ w HF (by omega) (by omega) h3
    · refine (refNear_walk A D m w hv (by omega) (by omega) (by omega)).mono ?_
      rintro e w' ⟨x', y', hn, hO⟩
      obtain ⟨rfl, rfl, rfl⟩ := hr.unique (.inl ⟨hv, by omega, by omega, rfl, hn⟩)
      exact hO
end Go.Proofs.YthfpkjeobdajiabGreatDoor

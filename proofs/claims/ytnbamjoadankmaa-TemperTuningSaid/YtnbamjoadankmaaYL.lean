/- The program's pitch: Mul. -/
import Derived.Test.YtnbamjoadankmaaYK
namespace Go.Proofs.Ytnbamjoadankmaa
open Go.RowKit D
set_option maxRecDepth 100000 in
set_option maxHeartbeats 16000000 in
theorem mul_any (a v : Nat → Int) (w : World) : Calls Try.prog 67 #[PV a, PV v] w fun e w' => CoOut a v 1 e ∧ Below w.heap.size w w' := by
  obtain ⟨W, hW⟩ : ∃ W, ((w.alloc (.cells #[.int .i64 (a 0), .int .i64 (a 1), .int .i64 (a 2), .int .i64 (a 3), .int .i64 (a 4), .int .i64 (a 5)] 65)).alloc (.cells #[.int .i64 (v 0), .int .i64 (v 1), .int .i64 (v 2), .int .i64 (v 3), .int .i64 (v 4), .int .i64 (v 5)] 65)).alloc (.cells #[.int .i64 0, .int .i64 0, .int .i64 0, .int .i64 0, .int .i64 0, .int .i64 0] 65) = W := ⟨_, rfl⟩
  obtain ⟨hA, hV, hZ, hB, hs⟩ := three6 w 65 65 65 a v (fun _ => 0) W hW
  have a0 := hA.c0
  have a1 := hA.c1
  have a2 := hA.c2
  have a3 := hA.c3
  have a4 := hA.c4
  have a5 := hA.c5
  have v0 := hV.c0
  have v1 := hV.c1
  have v2 := hV.c2
  have v3 := hV.c3
  have v4 := hV.c4
  have v5 := hV.c5
  have hlZ := hZ.lt
  have HZ := Bx.mk hZ
  have HB := Bx.mk hB
  have H1 := Bx.mk (combine_any a v 1 (by decide) W)
  obtain ⟨u, hu⟩ : ∃ u, sv a v 1 = u := ⟨_, rfl⟩
  unfold CoOut at H1 ⊢
  rw [hu] at H1 ⊢
  unfold CkOut PV at H1
  unfold PV
  clear hA hV hZ hB hs hu
  go_enter Try.func67, Try.ntmps67
  go_wp2_with (first
    | (go_at_call 113; refine H1.out.mono ?_; clear H1 hW; rintro e w4 ⟨ho, k4⟩
       have B4 := Bx.mk (HB.out.trans (k4.mono HB.out.size))
       have Z4 := HZ.out.keep (k4.block _ hlZ)
       have HZ4 := Bx.mk Z4
       have g0 := Z4.c0
       have g1 := Z4.c1
       have g2 := Z4.c2
       have g3 := Z4.c3
       have g4 := Z4.c4
       have g5 := Z4.c5
       have z0 := Z4.f 0
       have z1 := Z4.f 1
       have z2 := Z4.f 2
       have z3 := Z4.f 3
       have z4 := Z4.f 4
       have z5 := Z4.f 5
       clear k4 Z4
       rcases ho with ⟨h1, h2, ⟨hp, rfl⟩ | ⟨hp, rfl⟩⟩ | ⟨hno, rfl⟩))
  all_goals go_wp2_with fail
  ·
    have V6 := HZ4.out.lit u
    have hb6 := but_lit (w.heap.size + 1 + 1) w4 u
    have y0 := V6.c0
    have y1 := V6.c1
    have y2 := V6.c2
    have y3 := V6.c3
    have y4 := V6.c4
    have y5 := V6.c5
    have HBF := Bx.mk (B4.out.trans (but_below hb6 (n := w.heap.size) (by omega) B4.out.size))
    refine bodyPost_ret_by (v := .tuple #[.agg #[.int .i64 (u 0), .int .i64 (u 1), .int .i64 (u 2), .int .i64 (u 3), .int .i64 (u 4), .int .i64 (u 5)], .int .i64 0]) (by simp [results, Try.results67, go_sem, y0, y1, y2, y3, y4, y5]) rfl ?_
    exact ⟨.inl ⟨h1, h2, .inl ⟨hp, rfl⟩⟩, HBF.out⟩
  ·
    have V6 := HZ4.out.lit (fun _ => 0)
    have hb6 := but_lit (w.heap.size + 1 + 1) w4 (fun _ => 0)
    have y0 := V6.c0
    have y1 := V6.c1
    have y2 := V6.c2
    have y3 := V6.c3
    have y4 := V6.c4
    have y5 := V6.c5
    have HBF := Bx.mk (B4.out.trans (but_below hb6 (n := w.heap.size) (by omega) B4.out.size))
    refine bodyPost_ret_by (v := .tuple #[.agg #[.int .i64 0, .int .i64 0, .int .i64 0, .int .i64 0, .int .i64 0, .int .i64 0], .int .i64 3]) (by simp [results, Try.results67, go_sem, y0, y1, y2, y3, y4, y5]) rfl ?_
    exact ⟨.inl ⟨h1, h2, .inr ⟨hp, rfl⟩⟩, HBF.out⟩
  ·
    have V6 := HZ4.out.lit (fun _ => 0)
    have hb6 := but_lit (w.heap.size + 1 + 1) w4 (fun _ => 0)
    have y0 := V6.c0
    have y1 := V6.c1
    have y2 := V6.c2
    have y3 := V6.c3
    have y4 := V6.c4
    have y5 := V6.c5
    have HBF := Bx.mk (B4.out.trans (but_below hb6 (n := w.heap.size) (by omega) B4.out.size))
    refine bodyPost_ret_by (v := .tuple #[.agg #[.int .i64 0, .int .i64 0, .int .i64 0, .int .i64 0, .int .i64 0, .int .i64 0], .int .i64 1]) (by simp [results, Try.results67, go_sem, y0, y1, y2, y3, y4, y5]) rfl ?_
    exact ⟨.inr ⟨hno, rfl⟩, HBF.out⟩
end Go.Proofs.Ytnbamjoadankmaa

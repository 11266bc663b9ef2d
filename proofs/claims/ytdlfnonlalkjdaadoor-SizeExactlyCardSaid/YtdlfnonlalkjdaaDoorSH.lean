/- the head of the laws of size: the examples of the chapter. -/
import Derived.Test.YtdlfnonlalkjdaaDoorSM
namespace Go.Proofs.YtdlfnonlalkjdaaDoor
open Go.RowKit M
theorem y1 (w : World) (hL : Lm w) : Calls Tryd.prog 15 #[.agg #[.int .i64 (-12), .int .i64 12, .int .i64 0, .int .i64 0, .int .i64 0, .int .i64 0]] w (OutZ w 7019550000 7019550012 0) := sof_any (vec6 (-12) 12 0 0 0 0) _ _ _ (by decide +kernel) w hL
theorem y2 (w : World) (hL : Lm w) : Calls Tryd.prog 15 #[.agg #[.int .i64 (-48), .int .i64 48, .int .i64 (-12), .int .i64 0, .int .i64 0, .int .i64 0]] w (OutZ w 215062860 215062920 0) := sof_any (vec6 (-48) 48 (-12) 0 0 0) _ _ _ (by decide +kernel) w hL
theorem y3 (w : World) (hL : Lm w) : Calls Tryd.prog 31 #[.agg #[.int .i64 (-48), .int .i64 48, .int .i64 (-12), .int .i64 0, .int .i64 0, .int .i64 0], .agg #[.int .i64 0, .int .i64 0, .int .i64 0, .int .i64 0, .int .i64 0, .int .i64 0], .int .i64 21506] w (OutI w (-1) 0) := snear_any (vec6 (-48) 48 (-12) 0 0 0) (vec6 0 0 0 0 0 0) 21506 _ _ (by decide +kernel) w hL
theorem y4 (w : World) (hL : Lm w) : Calls Tryd.prog 31 #[.agg #[.int .i64 (-48), .int .i64 48, .int .i64 (-12), .int .i64 0, .int .i64 0, .int .i64 0], .agg #[.int .i64 0, .int .i64 0, .int .i64 0, .int .i64 0, .int .i64 0, .int .i64 0], .int .i64 21507] w (OutI w 1 0) := snear_any (vec6 (-48) 48 (-12) 0 0 0) (vec6 0 0 0 0 0 0) 21507 _ _ (by decide +kernel) w hL
theorem y5 (w : World) : Calls Tryd.prog 29 #[SV 7019550000 7019550012, .int .i64 7019550000, .int .i64 7019550011] w (OutI w 0 0) := swithin_any _ _ _ _ _ _ (by decide +kernel) w
theorem y6 (w : World) : Calls Tryd.prog 23 #[SV 1 3, .int .i64 (-2)] w (OutZ w (-6) (-2) 0) := stimes_any _ _ _ _ _ _ (by decide +kernel) w
theorem y7 (w : World) : Calls Tryd.prog 25 #[SV 1 3, SV 3 9] w (OutZ w 3 3 0) := smeet_any _ _ _ _ _ _ _ (by decide +kernel) w
theorem y8 (w : World) : Calls Tryd.prog 25 #[SV 1 3, SV 4 9] w (OutZ w 0 0 4) := smeet_any _ _ _ _ _ _ _ (by decide +kernel) w
theorem y9 (w : World) : Calls Tryd.prog 23 #[SV 0 1, .int .i64 100000000000001] w (OutZ w 0 0 3) := stimes_any _ _ _ _ _ _ (by decide +kernel) w
theorem y10 (w : World) : Calls Tryd.prog 13 #[SV 1 0] w fun e w' => e = .returned (.bool false) ∧ Below w.heap.size w w' := svalid_any 1 0 w false (by decide +kernel)
set_option maxRecDepth 20000 in
set_option maxHeartbeats 4000000 in
theorem shead_any (w : World) (hl : Lm w) : Calls Tryd.prog 12 #[] w fun e w' => e = .returned (.bool true) ∧ Below w.heap.size w w' := by
  have S : Bx (SS w w []) := ⟨SS.start w hl⟩
  go_enter Tryd.func12, Tryd.ntmps12
  replace S := Bx.mk (S.out.push #[.int .i64 (-48), .int .i64 48, .int .i64 (-12), .int .i64 0, .int .i64 0, .int .i64 0] 25)
  go_wp2_with fail
  refine (y1 _ S.out.lm).mono ?_
  rintro e w1 ⟨rfl, hb⟩
  replace S := Bx.mk (S.out.call hb)
  clear hb
  replace S := Bx.mk (S.out.push #[.int .i64 7019550000, .int .i64 7019550012] 23)
  obtain ⟨c1_0, c1_1, c1_2, c1_3, c1_4, c1_5, z1⟩ := S.out.six w.heap.size 25 (.int .i64 (-48)) (.int .i64 48) (.int .i64 (-12)) (.int .i64 0) (.int .i64 0) (.int .i64 0) (List.mem_cons_of_mem _ List.mem_cons_self)
  go_wp2_with fail
  refine (y2 _ S.out.lm).mono ?_
  rintro e w2 ⟨rfl, hb⟩
  replace S := Bx.mk (S.out.call hb)
  clear hb
  clear c1_0 c1_1 c1_2 c1_3 c1_4 c1_5 z1
  replace S := Bx.mk (S.out.push #[.int .i64 215062860, .int .i64 215062920] 23)
  obtain ⟨c2_0, c2_1, c2_2, c2_3, c2_4, c2_5, z2⟩ := S.out.six w.heap.size 25 (.int .i64 (-48)) (.int .i64 48) (.int .i64 (-12)) (.int .i64 0) (.int .i64 0) (.int .i64 0) (List.mem_cons_of_mem _ (List.mem_cons_of_mem _ List.mem_cons_self))
  go_wp2_with fail
  refine (y3 _ S.out.lm).mono ?_
  rintro e w3 ⟨rfl, hb⟩
  replace S := Bx.mk (S.out.call hb)
  clear hb
  clear c2_0 c2_1 c2_2 c2_3 c2_4 c2_5 z2
  obtain ⟨c2_0, c2_1, c2_2, c2_3, c2_4, c2_5, z2⟩ := S.out.six w.heap.size 25 (.int .i64 (-48)) (.int .i64 48) (.int .i64 (-12)) (.int .i64 0) (.int .i64 0) (.int .i64 0) (List.mem_cons_of_mem _ (List.mem_cons_of_mem _ List.mem_cons_self))
  go_wp2_with fail
  refine (y4 _ S.out.lm).mono ?_
  rintro e w4 ⟨rfl, hb⟩
  replace S := Bx.mk (S.out.call hb)
  clear hb
  clear c2_0 c2_1 c2_2 c2_3 c2_4 c2_5 z2
  obtain ⟨c1_0, c1_1, f1_0, f1_1, z1⟩ := S.out.two w1.heap.size 23 (.int .i64 7019550000) (.int .i64 7019550012) (List.mem_cons_of_mem _ List.mem_cons_self)
  go_wp2_with fail
  refine (y5 _).mono ?_
  rintro e w5 ⟨rfl, hb⟩
  replace S := Bx.mk (S.out.call hb)
  clear hb
  clear c1_0 c1_1 f1_0 f1_1 z1
  go_wp2_with fail
  refine (y6 _).mono ?_
  rintro e w6 ⟨rfl, hb⟩
  replace S := Bx.mk (S.out.call hb)
  clear hb
  replace S := Bx.mk (S.out.push #[.int .i64 (-6), .int .i64 (-2)] 23)
  go_wp2_with fail
  refine (y7 _).mono ?_
  rintro e w7 ⟨rfl, hb⟩
  replace S := Bx.mk (S.out.call hb)
  clear hb
  replace S := Bx.mk (S.out.push #[.int .i64 3, .int .i64 3] 23)
  go_wp2_with fail
  refine (y8 _).mono ?_
  rintro e w8 ⟨rfl, hb⟩
  replace S := Bx.mk (S.out.call hb)
  clear hb
  replace S := Bx.mk (S.out.push #[.int .i64 0, .int .i64 0] 23)
  go_wp2_with fail
  refine (y9 _).mono ?_
  rintro e w9 ⟨rfl, hb⟩
  replace S := Bx.mk (S.out.call hb)
  clear hb
  replace S := Bx.mk (S.out.push #[.int .i64 0, .int .i64 0] 23)
  obtain ⟨c2_0, c2_1, f2_0, f2_1, z2⟩ := S.out.two w7.heap.size 23 (.int .i64 3) (.int .i64 3) (List.mem_cons_of_mem _ (List.mem_cons_of_mem _ List.mem_cons_self))
  obtain ⟨c3_0, c3_1, f3_0, f3_1, z3⟩ := S.out.two w6.heap.size 23 (.int .i64 (-6)) (.int .i64 (-2)) (List.mem_cons_of_mem _ (List.mem_cons_of_mem _ (List.mem_cons_of_mem _ List.mem_cons_self)))
  obtain ⟨c4_0, c4_1, f4_0, f4_1, z4⟩ := S.out.two w2.heap.size 23 (.int .i64 215062860) (.int .i64 215062920) (List.mem_cons_of_mem _ (List.mem_cons_of_mem _ (List.mem_cons_of_mem _ (List.mem_cons_of_mem _ List.mem_cons_self))))
  obtain ⟨c5_0, c5_1, f5_0, f5_1, z5⟩ := S.out.two w1.heap.size 23 (.int .i64 7019550000) (.int .i64 7019550012) (List.mem_cons_of_mem _ (List.mem_cons_of_mem _ (List.mem_cons_of_mem _ (List.mem_cons_of_mem _ (List.mem_cons_of_mem _ List.mem_cons_self)))))
  go_wp2_with fail
  refine (y10 _).mono ?_
  rintro e w10 ⟨rfl, hb⟩
  replace S := Bx.mk (S.out.call hb)
  clear hb
  clear c2_0 c2_1 f2_0 f2_1 z2 c3_0 c3_1 f3_0 f3_1 z3 c4_0 c4_1 f4_0 f4_1 z4 c5_0 c5_1 f5_0 f5_1 z5
  go_wp2_with fail
  go_ret
  exact ⟨rfl, S.out.bl⟩
end Go.Proofs.YtdlfnonlalkjdaaDoor

/- the head of the laws of pitch: the examples of the chapter. -/
import Derived.Test.YtdlfnonlalkjdaaGreatDoorLS
namespace Go.Proofs.YtdlfnonlalkjdaaGreatDoor
open Go.RowKit M
set_option maxRecDepth 20000 in
set_option maxHeartbeats 4000000 in
theorem head_any (w : World) (hg : Gv w) : Calls Tryz.prog 4 #[] w fun e w' => e = .returned (.bool true) ∧ Below w.heap.size w w' := by
  have S : Bx (LS w w [] []) := ⟨LS.start w hg⟩
  go_enter Tryz.func4, Tryz.ntmps4
  go_wp2_with fail
  refine (x1 _ S.out.gv.pm).mono ?_
  rintro e w1 ⟨rfl, hb⟩
  replace S := Bx.mk (S.out.call hb)
  clear hb
  replace S := Bx.mk (S.out.push #[.int .i64 (-4), .int .i64 4, .int .i64 (-1), .int .i64 0, .int .i64 0, .int .i64 0] 24)
  go_wp2_with fail
  refine (x2 _ S.out.gv.pm).mono ?_
  rintro e w2 ⟨rfl, hb⟩
  replace S := Bx.mk (S.out.call hb)
  clear hb
  replace S := Bx.mk (S.out.push #[.int .i64 (-1), .int .i64 0, .int .i64 0, .int .i64 0, .int .i64 0, .int .i64 0] 24)
  go_wp2_with fail
  refine (x3 _ S.out.gv.pm).mono ?_
  rintro e w3 ⟨rfl, hb⟩
  replace S := Bx.mk (S.out.call hb)
  clear hb
  replace S := Bx.mk (S.out.push #[.int .i64 0, .int .i64 0, .int .i64 0, .int .i64 0, .int .i64 0, .int .i64 0] 24)
  go_wp2_with fail
  refine (x4 _ S.out.gv.pm).mono ?_
  rintro e w4 ⟨va, vb, rfl, na, nb, hb⟩
  replace S := Bx.mk (((S.out.call hb).num na).num nb)
  clear na nb hb
  have q1 : ∀ w, (Op.equalIn 10000 24 (A6 (-4) 4 (-1) 0 0 0) (A6 (-4) 4 (-1) 0 0 0)).run Tryz.prog w = .ok true w := eq6_same 24 (by kernel_rfl) (vec (-4) 4 (-1) 0 0 0)
  have q2 : ∀ w, (Op.equalIn 10000 24 (A6 (-1) 0 0 0 0 0) (A6 (-1) 0 0 0 0 0)).run Tryz.prog w = .ok true w := eq6_same 24 (by kernel_rfl) (vec (-1) 0 0 0 0 0)
  have q3 : ∀ w, (Op.equalIn 10000 23 (A6 0 0 12 0 0 0) (A6 0 0 12 0 0 0)).run Tryz.prog w = .ok true w := eq6_same 23 (by kernel_rfl) (vec 0 0 12 0 0 0)
  have q4 : ∀ w, (Op.equalIn 10000 23 (A6 (-12) 12 0 0 0 0) (A6 (-12) 12 0 0 0 0)).run Tryz.prog w = .ok true w := eq6_same 23 (by kernel_rfl) (vec (-12) 12 0 0 0 0)
  have q5 : ∀ w, (Op.equalIn 10000 23 (A6 0 0 3 0 0 0) (A6 0 0 3 0 0 0)).run Tryz.prog w = .ok true w := eq6_same 23 (by kernel_rfl) (vec 0 0 3 0 0 0)
  obtain ⟨c2_0, c2_1, c2_2, c2_3, c2_4, c2_5, z2⟩ := S.out.six w1.heap.size 24 (.int .i64 (-4)) (.int .i64 4) (.int .i64 (-1)) (.int .i64 0) (.int .i64 0) (.int .i64 0) (List.mem_cons_of_mem _ (List.mem_cons_of_mem _ List.mem_cons_self))
  obtain ⟨c1_0, c1_1, c1_2, c1_3, c1_4, c1_5, z1⟩ := S.out.six w2.heap.size 24 (.int .i64 (-1)) (.int .i64 0) (.int .i64 0) (.int .i64 0) (.int .i64 0) (.int .i64 0) (List.mem_cons_of_mem _ List.mem_cons_self)
  replace S := Bx.mk (S.out.lit [81] 81 (by intro x hx; simp at hx; omega) (by simp) (by simp [val]) (by simp))
  go_wp2_with fail
  refine (same_yes (va := va) (a := 81) (b := 81) S.out.nm (by simp) List.mem_cons_self rfl).mono ?_
  rintro e w5 ⟨rfl, hl, hb⟩
  replace S := Bx.mk (S.out.live hl hb)
  clear hl hb
  clear c2_0 c2_1 c2_2 c2_3 c2_4 c2_5 z2 c1_0 c1_1 c1_2 c1_3 c1_4 c1_5 z1
  replace S := Bx.mk (S.out.lit [80] 80 (by intro x hx; simp at hx; omega) (by simp) (by simp [val]) (by simp))
  go_wp2_with fail
  refine (same_yes (va := vb) (a := 80) (b := 80) S.out.nm (by simp) List.mem_cons_self rfl).mono ?_
  rintro e w6 ⟨rfl, hl, hb⟩
  replace S := Bx.mk (S.out.live hl hb)
  clear hl hb
  go_wp2_with fail
  refine (x5 _).mono ?_
  rintro e w7 ⟨rfl, hb⟩
  replace S := Bx.mk (S.out.call hb)
  clear hb
  replace S := Bx.mk (S.out.push #[.int .i64 0, .int .i64 0, .int .i64 12, .int .i64 0, .int .i64 0, .int .i64 0] 23)
  go_wp2_with fail
  refine (x6 _).mono ?_
  rintro e w8 ⟨rfl, hb⟩
  replace S := Bx.mk (S.out.call hb)
  clear hb
  replace S := Bx.mk (S.out.push #[.int .i64 (-12), .int .i64 12, .int .i64 0, .int .i64 0, .int .i64 0, .int .i64 0] 23)
  obtain ⟨c1_0, c1_1, c1_2, c1_3, c1_4, c1_5, z1⟩ := S.out.six w7.heap.size 23 (.int .i64 0) (.int .i64 0) (.int .i64 12) (.int .i64 0) (.int .i64 0) (.int .i64 0) (List.mem_cons_of_mem _ List.mem_cons_self)
  go_wp2_with fail
  refine (x7 _).mono ?_
  rintro e w9 ⟨rfl, hb⟩
  replace S := Bx.mk (S.out.call hb)
  clear hb
  clear c1_0 c1_1 c1_2 c1_3 c1_4 c1_5 z1
  replace S := Bx.mk (S.out.push #[.int .i64 0, .int .i64 0, .int .i64 3, .int .i64 0, .int .i64 0, .int .i64 0] 23)
  obtain ⟨c0_0, c0_1, c0_2, c0_3, c0_4, c0_5, z0⟩ := S.out.six w9.heap.size 23 (.int .i64 0) (.int .i64 0) (.int .i64 3) (.int .i64 0) (.int .i64 0) (.int .i64 0) List.mem_cons_self
  obtain ⟨c1_0, c1_1, c1_2, c1_3, c1_4, c1_5, z1⟩ := S.out.six w8.heap.size 23 (.int .i64 (-12)) (.int .i64 12) (.int .i64 0) (.int .i64 0) (.int .i64 0) (.int .i64 0) (List.mem_cons_of_mem _ List.mem_cons_self)
  obtain ⟨c2_0, c2_1, c2_2, c2_3, c2_4, c2_5, z2⟩ := S.out.six w7.heap.size 23 (.int .i64 0) (.int .i64 0) (.int .i64 12) (.int .i64 0) (.int .i64 0) (.int .i64 0) (List.mem_cons_of_mem _ (List.mem_cons_of_mem _ List.mem_cons_self))
  go_wp2_with fail
  refine (x8 _ S.out.gv).mono ?_
  rintro e w10 ⟨rfl, hb⟩
  replace S := Bx.mk (S.out.call hb)
  clear hb
  clear c0_0 c0_1 c0_2 c0_3 c0_4 c0_5 z0 c1_0 c1_1 c1_2 c1_3 c1_4 c1_5 z1 c2_0 c2_1 c2_2 c2_3 c2_4 c2_5 z2
  obtain ⟨c1_0, c1_1, c1_2, c1_3, c1_4, c1_5, z1⟩ := S.out.six w8.heap.size 23 (.int .i64 (-12)) (.int .i64 12) (.int .i64 0) (.int .i64 0) (.int .i64 0) (.int .i64 0) (List.mem_cons_of_mem _ List.mem_cons_self)
  go_wp2_with fail
  refine (x9 _ S.out.gv).mono ?_
  rintro e w11 ⟨rfl, hb⟩
  replace S := Bx.mk (S.out.call hb)
  clear hb
  clear c1_0 c1_1 c1_2 c1_3 c1_4 c1_5 z1
  obtain ⟨c0_0, c0_1, c0_2, c0_3, c0_4, c0_5, z0⟩ := S.out.six w9.heap.size 23 (.int .i64 0) (.int .i64 0) (.int .i64 3) (.int .i64 0) (.int .i64 0) (.int .i64 0) List.mem_cons_self
  go_wp2_with fail
  refine (x10 _).mono ?_
  rintro e w12 ⟨rfl, hb⟩
  replace S := Bx.mk (S.out.call hb)
  clear hb
  clear c0_0 c0_1 c0_2 c0_3 c0_4 c0_5 z0
  obtain ⟨c0_0, c0_1, c0_2, c0_3, c0_4, c0_5, z0⟩ := S.out.six w9.heap.size 23 (.int .i64 0) (.int .i64 0) (.int .i64 3) (.int .i64 0) (.int .i64 0) (.int .i64 0) List.mem_cons_self
  obtain ⟨c1_0, c1_1, c1_2, c1_3, c1_4, c1_5, z1⟩ := S.out.six w8.heap.size 23 (.int .i64 (-12)) (.int .i64 12) (.int .i64 0) (.int .i64 0) (.int .i64 0) (.int .i64 0) (List.mem_cons_of_mem _ List.mem_cons_self)
  go_wp2_with fail
  refine (x11 _ S.out.gv.pm).mono ?_
  rintro e w13 ⟨rfl, hb⟩
  replace S := Bx.mk (S.out.call hb)
  clear hb
  clear c0_0 c0_1 c0_2 c0_3 c0_4 c0_5 z0 c1_0 c1_1 c1_2 c1_3 c1_4 c1_5 z1
  go_wp2_with fail
  refine (x12 _ S.out.gv.pm).mono ?_
  rintro e w14 ⟨rfl, hb⟩
  replace S := Bx.mk (S.out.call hb)
  clear hb
  go_wp2_with fail
  refine (x13 _ S.out.gv).mono ?_
  rintro e w15 ⟨rfl, hb⟩
  replace S := Bx.mk (S.out.call hb)
  clear hb
  go_wp2_with fail
  refine (x14 _ S.out.gv).mono ?_
  rintro e w16 ⟨rfl, hb⟩
  replace S := Bx.mk (S.out.call hb)
  clear hb
  go_wp2_with fail
  refine (x15 _ S.out.gv).mono ?_
  rintro e w17 ⟨rfl, hb⟩
  replace S := Bx.mk (S.out.call hb)
  clear hb
  go_wp2_with fail
  refine (x16 _ S.out.gv).mono ?_
  rintro e w18 ⟨rfl, hb⟩
  replace S := Bx.mk (S.out.call hb)
  clear hb
  replace S := Bx.mk (S.out.push #[.int .i64 (-12), .int .i64 12, .int .i64 0, .int .i64 0, .int .i64 0, .int .i64 0] 23)
  obtain ⟨c0_0, c0_1, c0_2, c0_3, c0_4, c0_5, z0⟩ := S.out.six w18.heap.size 23 (.int .i64 (-12)) (.int .i64 12) (.int .i64 0) (.int .i64 0) (.int .i64 0) (.int .i64 0) List.mem_cons_self
  obtain ⟨c2_0, c2_1, c2_2, c2_3, c2_4, c2_5, z2⟩ := S.out.six w8.heap.size 23 (.int .i64 (-12)) (.int .i64 12) (.int .i64 0) (.int .i64 0) (.int .i64 0) (.int .i64 0) (List.mem_cons_of_mem _ (List.mem_cons_of_mem _ List.mem_cons_self))
  go_wp2_with fail
  go_ret
  exact ⟨rfl, S.out.bl⟩
end Go.Proofs.YtdlfnonlalkjdaaGreatDoor

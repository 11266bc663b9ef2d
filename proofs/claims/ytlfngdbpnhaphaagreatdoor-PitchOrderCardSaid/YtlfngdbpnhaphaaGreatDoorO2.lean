/- PitchOrder, walked. -/
import Derived.Test.YtlfngdbpnhaphaaGreatDoorO1
namespace Go.Proofs.YtlfngdbpnhaphaaGreatDoor
open Go.RowKit M
/-- What three comparisons have to do with each other. -/
structure Ord3 (a b c : Nat → Int) (x y z u : Int) : Prop where
  px : x = -1 ∨ x = 0 ∨ x = 1
  py : y = -x
  pz : z = -1 ∨ z = 0 ∨ z = 1
  pu : u = -1 ∨ u = 0 ∨ u = 1
  lo : x ≤ 0 → z ≤ 0 → u ≤ 0 ∧ (u = 0 ↔ x = 0 ∧ z = 0)
  hi : 0 ≤ x → 0 ≤ z → 0 ≤ u
theorem ord3 (a b c : Nat → Int) : Ord3 a b c (sg fun i => a i - b i) (sg fun i => b i - a i) (sg fun i => b i - c i) (sg fun i => a i - c i) := by
  refine ⟨sg_range _, sg_swap a b, sg_range _, sg_range _, fun h1 h2 => ⟨sg_pair a b c h1 h2, fun h => ?_, fun ⟨h3, h4⟩ => ?_⟩, fun h1 h2 => ?_⟩
  · have e := sg_zero.1 h
    have k : sg (fun i => b i - c i) = -sg (fun i => a i - b i) := by
      rw [← sg_swap]; exact sg_congr fun i hi => by have := e i hi; omega
    omega
  · have e1 := sg_zero.1 h3
    have e2 := sg_zero.1 h4
    exact sg_zero.2 fun i hi => by have := e1 i hi; have := e2 i hi; omega
  · have s1 := sg_swap a b
    have s2 := sg_swap b c
    have s3 := sg_swap a c
    have := sg_pair c b a (by omega) (by omega)
    omega
set_option maxHeartbeats 4000000 in
theorem order_ok (a b c : Nat → Int) (w : World) (hg : Gv w) (ha : bdB a 576 = true) (hb0 : bdB b 576 = true) (hc0 : bdB c 576 = true) :
    Calls Tryz.prog 5 #[PV a, PV b, PV c] w fun e w' => e = .returned (.bool true) ∧ Below w.heap.size w w' := by
  have h3 := ord3 a b c
  have q : ∀ w, (Op.equalIn 10000 23 (PV a) (PV b)).run Tryz.prog w = .ok (decide (sg (fun i => a i - b i) = 0)) w := eq6_is 23 (by kernel_rfl) a b _ (by
    rw [decide_eq_true_iff, sg_zero]
    exact ⟨fun k i hi => by have := k i hi; omega, fun k i hi => by have := k i hi; omega⟩)
  obtain ⟨x, ex⟩ : ∃ x, sg (fun i => a i - b i) = x := ⟨_, rfl⟩
  obtain ⟨y, ey⟩ : ∃ y, sg (fun i => b i - a i) = y := ⟨_, rfl⟩
  obtain ⟨z, ez⟩ : ∃ z, sg (fun i => b i - c i) = z := ⟨_, rfl⟩
  obtain ⟨u, eu⟩ : ∃ u, sg (fun i => a i - c i) = u := ⟨_, rfl⟩
  have O := Hx.mk (show Ord3 a b c x y z u by rw [← ex, ← ey, ← ez, ← eu]; exact h3)
  rw [ex] at q
  have Ha := Hx.mk (fun w => refValid_any a w true ha)
  have Hb := Hx.mk (fun w => refValid_any b w true hb0)
  have Hc := Hx.mk (fun w => refValid_any c w true hc0)
  have K1 : Hx (∀ w, Pm w → Calls Tryz.prog 25 #[PV a, PV b] w fun e w' => e = .returned (.tuple #[.int .i64 x, .int .i64 0]) ∧ Below w.heap.size w w') := ⟨fun w hP => by
    have := pcmp_ok a b w hP ha hb0
    rw [ex] at this; exact this⟩
  have K2 : Hx (∀ w, Pm w → Calls Tryz.prog 25 #[PV b, PV a] w fun e w' => e = .returned (.tuple #[.int .i64 y, .int .i64 0]) ∧ Below w.heap.size w w') := ⟨fun w hP => by
    have := pcmp_ok b a w hP hb0 ha
    rw [ey] at this; exact this⟩
  have K3 : Hx (∀ w, Pm w → Calls Tryz.prog 25 #[PV b, PV c] w fun e w' => e = .returned (.tuple #[.int .i64 z, .int .i64 0]) ∧ Below w.heap.size w w') := ⟨fun w hP => by
    have := pcmp_ok b c w hP hb0 hc0
    rw [ez] at this; exact this⟩
  have K4 : Hx (∀ w, Pm w → Calls Tryz.prog 25 #[PV a, PV c] w fun e w' => e = .returned (.tuple #[.int .i64 u, .int .i64 0]) ∧ Below w.heap.size w w') := ⟨fun w hP => by
    have := pcmp_ok a c w hP ha hc0
    rw [eu] at this; exact this⟩
  clear ha hb0 hc0 ex ey ez eu h3
  have S : Bx (LS w w [] []) := ⟨LS.start w hg⟩
  replace S := Bx.mk (S.out.push #[.int .i64 (a 0), .int .i64 (a 1), .int .i64 (a 2), .int .i64 (a 3), .int .i64 (a 4), .int .i64 (a 5)] 23)
  replace S := Bx.mk (S.out.push #[.int .i64 (b 0), .int .i64 (b 1), .int .i64 (b 2), .int .i64 (b 3), .int .i64 (b 4), .int .i64 (b 5)] 23)
  replace S := Bx.mk (S.out.push #[.int .i64 (c 0), .int .i64 (c 1), .int .i64 (c 2), .int .i64 (c 3), .int .i64 (c 4), .int .i64 (c 5)] 23)
  simp only [World.size_alloc] at S
  go_enter Tryz.func5, Tryz.ntmps5
  go_wp2_with fail
  refine (head_any _ S.out.gv).mono ?_
  rintro e w1 ⟨rfl, hb⟩
  replace S := Bx.mk (S.out.call hb)
  clear hb
  obtain ⟨c2_0, c2_1, c2_2, c2_3, c2_4, c2_5, z2⟩ := S.out.six w.heap.size 23 (.int .i64 (a 0)) (.int .i64 (a 1)) (.int .i64 (a 2)) (.int .i64 (a 3)) (.int .i64 (a 4)) (.int .i64 (a 5)) (List.mem_cons_of_mem _ (List.mem_cons_of_mem _ List.mem_cons_self))
  go_wp2_with fail
  refine (Ha.out _).mono ?_
  rintro e w2 ⟨rfl, hb⟩
  replace S := Bx.mk (S.out.call hb)
  clear hb
  clear c2_0 c2_1 c2_2 c2_3 c2_4 c2_5 z2
  obtain ⟨c1_0, c1_1, c1_2, c1_3, c1_4, c1_5, z1⟩ := S.out.six (w.heap.size + 1) 23 (.int .i64 (b 0)) (.int .i64 (b 1)) (.int .i64 (b 2)) (.int .i64 (b 3)) (.int .i64 (b 4)) (.int .i64 (b 5)) (List.mem_cons_of_mem _ List.mem_cons_self)
  go_wp2_with fail
  refine (Hb.out _).mono ?_
  rintro e w3 ⟨rfl, hb⟩
  replace S := Bx.mk (S.out.call hb)
  clear hb
  clear c1_0 c1_1 c1_2 c1_3 c1_4 c1_5 z1
  obtain ⟨c0_0, c0_1, c0_2, c0_3, c0_4, c0_5, z0⟩ := S.out.six (w.heap.size + 1 + 1) 23 (.int .i64 (c 0)) (.int .i64 (c 1)) (.int .i64 (c 2)) (.int .i64 (c 3)) (.int .i64 (c 4)) (.int .i64 (c 5)) List.mem_cons_self
  go_wp2_with fail
  refine (Hc.out _).mono ?_
  rintro e w4 ⟨rfl, hb⟩
  replace S := Bx.mk (S.out.call hb)
  clear hb
  clear c0_0 c0_1 c0_2 c0_3 c0_4 c0_5 z0
  obtain ⟨c2_0, c2_1, c2_2, c2_3, c2_4, c2_5, z2⟩ := S.out.six w.heap.size 23 (.int .i64 (a 0)) (.int .i64 (a 1)) (.int .i64 (a 2)) (.int .i64 (a 3)) (.int .i64 (a 4)) (.int .i64 (a 5)) (List.mem_cons_of_mem _ (List.mem_cons_of_mem _ List.mem_cons_self))
  obtain ⟨c1_0, c1_1, c1_2, c1_3, c1_4, c1_5, z1⟩ := S.out.six (w.heap.size + 1) 23 (.int .i64 (b 0)) (.int .i64 (b 1)) (.int .i64 (b 2)) (.int .i64 (b 3)) (.int .i64 (b 4)) (.int .i64 (b 5)) (List.mem_cons_of_mem _ List.mem_cons_self)
  go_wp2_with fail
  refine (K1.out _ S.out.gv.pm).mono ?_
  rintro e w5 ⟨rfl, hb⟩
  replace S := Bx.mk (S.out.call hb)
  clear hb
  clear c2_0 c2_1 c2_2 c2_3 c2_4 c2_5 z2 c1_0 c1_1 c1_2 c1_3 c1_4 c1_5 z1
  obtain ⟨c2_0, c2_1, c2_2, c2_3, c2_4, c2_5, z2⟩ := S.out.six w.heap.size 23 (.int .i64 (a 0)) (.int .i64 (a 1)) (.int .i64 (a 2)) (.int .i64 (a 3)) (.int .i64 (a 4)) (.int .i64 (a 5)) (List.mem_cons_of_mem _ (List.mem_cons_of_mem _ List.mem_cons_self))
  obtain ⟨c1_0, c1_1, c1_2, c1_3, c1_4, c1_5, z1⟩ := S.out.six (w.heap.size + 1) 23 (.int .i64 (b 0)) (.int .i64 (b 1)) (.int .i64 (b 2)) (.int .i64 (b 3)) (.int .i64 (b 4)) (.int .i64 (b 5)) (List.mem_cons_of_mem _ List.mem_cons_self)
  go_wp2_with fail
  refine (K2.out _ S.out.gv.pm).mono ?_
  rintro e w6 ⟨rfl, hb⟩
  replace S := Bx.mk (S.out.call hb)
  clear hb
  clear c2_0 c2_1 c2_2 c2_3 c2_4 c2_5 z2 c1_0 c1_1 c1_2 c1_3 c1_4 c1_5 z1
  obtain ⟨c1_0, c1_1, c1_2, c1_3, c1_4, c1_5, z1⟩ := S.out.six (w.heap.size + 1) 23 (.int .i64 (b 0)) (.int .i64 (b 1)) (.int .i64 (b 2)) (.int .i64 (b 3)) (.int .i64 (b 4)) (.int .i64 (b 5)) (List.mem_cons_of_mem _ List.mem_cons_self)
  obtain ⟨c0_0, c0_1, c0_2, c0_3, c0_4, c0_5, z0⟩ := S.out.six (w.heap.size + 1 + 1) 23 (.int .i64 (c 0)) (.int .i64 (c 1)) (.int .i64 (c 2)) (.int .i64 (c 3)) (.int .i64 (c 4)) (.int .i64 (c 5)) List.mem_cons_self
  go_wp2_with fail
  refine (K3.out _ S.out.gv.pm).mono ?_
  rintro e w7 ⟨rfl, hb⟩
  replace S := Bx.mk (S.out.call hb)
  clear hb
  clear c1_0 c1_1 c1_2 c1_3 c1_4 c1_5 z1 c0_0 c0_1 c0_2 c0_3 c0_4 c0_5 z0
  obtain ⟨c2_0, c2_1, c2_2, c2_3, c2_4, c2_5, z2⟩ := S.out.six w.heap.size 23 (.int .i64 (a 0)) (.int .i64 (a 1)) (.int .i64 (a 2)) (.int .i64 (a 3)) (.int .i64 (a 4)) (.int .i64 (a 5)) (List.mem_cons_of_mem _ (List.mem_cons_of_mem _ List.mem_cons_self))
  obtain ⟨c0_0, c0_1, c0_2, c0_3, c0_4, c0_5, z0⟩ := S.out.six (w.heap.size + 1 + 1) 23 (.int .i64 (c 0)) (.int .i64 (c 1)) (.int .i64 (c 2)) (.int .i64 (c 3)) (.int .i64 (c 4)) (.int .i64 (c 5)) List.mem_cons_self
  go_wp2_with fail
  refine (K4.out _ S.out.gv.pm).mono ?_
  rintro e w8 ⟨rfl, hb⟩
  replace S := Bx.mk (S.out.call hb)
  clear hb
  clear c2_0 c2_1 c2_2 c2_3 c2_4 c2_5 z2 c0_0 c0_1 c0_2 c0_3 c0_4 c0_5 z0
  obtain ⟨c2_0, c2_1, c2_2, c2_3, c2_4, c2_5, z2⟩ := S.out.six w.heap.size 23 (.int .i64 (a 0)) (.int .i64 (a 1)) (.int .i64 (a 2)) (.int .i64 (a 3)) (.int .i64 (a 4)) (.int .i64 (a 5)) (List.mem_cons_of_mem _ (List.mem_cons_of_mem _ List.mem_cons_self))
  obtain ⟨c1_0, c1_1, c1_2, c1_3, c1_4, c1_5, z1⟩ := S.out.six (w.heap.size + 1) 23 (.int .i64 (b 0)) (.int .i64 (b 1)) (.int .i64 (b 2)) (.int .i64 (b 3)) (.int .i64 (b 4)) (.int .i64 (b 5)) (List.mem_cons_of_mem _ List.mem_cons_self)
  obtain ⟨⟨ox, oy, oz, ou, lo, hi⟩⟩ := O
  subst oy
  rcases ox with rfl | rfl | rfl <;> rcases oz with rfl | rfl | rfl <;> rcases ou with rfl | rfl | rfl
  all_goals first
    | (exfalso; omega)
    | (clear lo hi
       simp only [Int.neg_neg, Int.neg_zero, Int.reduceNeg] at *
       go_wp2_with fail
       go_ret
       exact ⟨rfl, S.out.bl⟩)
theorem order_all (a b c : Nat → Int) (w : World) (hg : Gv w) :
    Calls Tryz.prog 5 #[PV a, PV b, PV c] w fun e w' => e = .returned (.bool true) ∧ Below w.heap.size w w' := by
  cases ha : bdB a 576 with
  | false => exact order_a a b c w hg ha
  | true =>
    cases hb : bdB b 576 with
    | false => exact order_b a b c w hg ha hb
    | true =>
      cases hc : bdB c 576 with
      | false => exact order_c a b c w hg ha hb hc
      | true => exact order_ok a b c w hg ha hb hc
end Go.Proofs.YtlfngdbpnhaphaaGreatDoor

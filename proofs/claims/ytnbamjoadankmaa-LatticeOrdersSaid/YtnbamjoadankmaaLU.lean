/- The law: LatticeOrders. -/
import Derived.Test.YtnbamjoadankmaaLZ
namespace Go.Proofs.Ytnbamjoadankmaa
open Go.RowKit D
/-- What Order answers. -/
def Ord (A : Nat → Nat → Int) (n : Nat) (v : Nat → Int) (x c : Int) : Prop :=
  (c = 0 ∧ 0 ≤ x ∧ x ≤ 1000000000 ∧ ∀ m : Int, m ≠ 0 → (Sp A n 6 (fun j => m * v j) ↔ 0 < x ∧ x ∣ m)) ∨ c = 3
theorem lorder_any (ao : Option Addr) (n c1 : Nat) (M : Nat → Nat → Int) (v : Nat → Int) (w : World) (hc1 : n ≤ c1) (hc2 : c1 ≤ maxLen) (hR : CV w ao n M) (hm : VM M n) (hv : Vv v) :
    Calls Try.prog 42 #[.slice ao n c1, PV v] w fun e w' => ∃ x c, e = .returned (.tuple #[.int .i64 x, .int .i64 c]) ∧ Bx (Ord M n v x c) ∧ Bx (Below w.heap.size w w') :=
  (lorder_ok ao n c1 M v w hc1 hc2 hR hm hv).mono fun e w' ⟨⟨q, O, p, hs, h⟩, hb⟩ => by
    have hp := hs.pv hm
    have ho := on_bound (v := v) hs.hf.pos q (Nat.le_refl _)
    have hp2 : pr (fun k => O k (p k)) q ≤ 1000000000 := hp.2.1
    rcases h with ⟨_, ⟨h0, he⟩ | ⟨h0, he⟩⟩ | ⟨_, he⟩
    · exact ⟨_, _, he, ⟨.inl ⟨rfl, by omega, by omega, fun m hm0 => by
        rw [hs.sp, order_mem hs.hf v m hm0]
        exact ⟨fun h => ⟨ho.1, h.2⟩, fun h => ⟨h0, h.2⟩⟩⟩⟩, ⟨hb⟩⟩
    · exact ⟨_, _, he, ⟨.inl ⟨rfl, Int.le_refl _, by omega, fun m hm0 => by
        rw [hs.sp, order_mem hs.hf v m hm0]
        exact ⟨fun h => absurd h.1 h0, fun h => absurd h.1 (Int.lt_irrefl _)⟩⟩⟩, ⟨hb⟩⟩
    · exact ⟨_, _, he, ⟨.inr rfl⟩, ⟨hb⟩⟩
theorem Ord.split {A : Nat → Nat → Int} {n : Nat} {v : Nat → Int} {x c : Int} (h : Ord A n v x c) : (c = 0 ∧ 0 ≤ x ∧ x ≤ 1000000000 ∧ Bx (∀ m : Int, m ≠ 0 → (Sp A n 6 (fun j => m * v j) ↔ 0 < x ∧ x ∣ m))) ∨ c = 3 :=
  h.imp (fun h => ⟨h.1, h.2.1, h.2.2.1, ⟨h.2.2.2⟩⟩) id
theorem vv_zero2 : Vv (fun _ => 0) := fun _ _ => by show (-1000000000 : Int) ≤ 0 ∧ (0 : Int) ≤ 1000000000; omega
theorem kk_one : kk 1 (fun _ => 1) 0 = 1 := by decide
/-- One row is added. -/
theorem lplus_one (v x y : Nat → Int) (W : World) (hv : Vv v) (hx : Vv x) (hy : ∀ j, y j = x j + v j) (b : Bool) (hb : b = true ↔ Vv y) :
    Calls Try.prog 44 #[(.agg #[.int .i64 (x 0), .int .i64 (x 1), .int .i64 (x 2), .int .i64 (x 3), .int .i64 (x 4), .int .i64 (x 5)]), .slice (some ⟨W.heap.size, 0, none⟩) 1 1, .slice (some ⟨W.heap.size + 1, 0, none⟩) 1 1] ((W.alloc (.cells #[.int .i64 (v 0), .int .i64 (v 1), .int .i64 (v 2), .int .i64 (v 3), .int .i64 (v 4), .int .i64 (v 5)] 36)).alloc (.cells #[.int .i16 1] 50)) fun e w' => e = .returned (.tuple #[(.agg #[.int .i64 (y 0), .int .i64 (y 1), .int .i64 (y 2), .int .i64 (y 3), .int .i64 (y 4), .int .i64 (y 5)]), .bool b]) ∧ Bx (Below W.heap.size W w') := by
  have e : ps (fun _ => v) (kk 1 (fun _ => 1)) x 1 = y := by
    funext j
    show x j + kk 1 (fun _ => 1) 0 * v j = y j
    rw [kk_one, Int.one_mul, hy j]
  have hR : CV ((W.alloc (.cells #[.int .i64 (v 0), .int .i64 (v 1), .int .i64 (v 2), .int .i64 (v 3), .int .i64 (v 4), .int .i64 (v 5)] 36)).alloc (.cells #[.int .i16 1] 50)) (some ⟨W.heap.size, 0, none⟩) 1 (fun _ => v) := fun _ => by
    have h := (VB.new W v).keep ((above_new (W.alloc (.cells #[.int .i64 (v 0), .int .i64 (v 1), .int .i64 (v 2), .int .i64 (v 3), .int .i64 (v 4), .int .i64 (v 5)] 36)) (.cells #[.int .i16 1] 50)).block W.heap.size (by simp))
    refine ⟨W.heap.size, 0, rfl, h.lt, fun i j hi hj => ?_⟩
    obtain rfl : i = 0 := by omega
    simp only [Nat.zero_mul, Nat.zero_add, Nat.add_zero]
    exact h.cellk hj
  have hF : CS ((W.alloc (.cells #[.int .i64 (v 0), .int .i64 (v 1), .int .i64 (v 2), .int .i64 (v 3), .int .i64 (v 4), .int .i64 (v 5)] 36)).alloc (.cells #[.int .i16 1] 50)) (some ⟨W.heap.size + 1, 0, none⟩) 1 (fun _ => 1) := fun _ => by
    have h := Boxed.new (W.alloc (.cells #[.int .i64 (v 0), .int .i64 (v 1), .int .i64 (v 2), .int .i64 (v 3), .int .i64 (v 4), .int .i64 (v 5)] 36)) 50 (.int .i16 1)
    rw [World.size_alloc] at h
    refine ⟨W.heap.size + 1, 0, rfl, h.lt, fun i hi => ?_⟩
    obtain rfl : i = 0 := by omega
    exact ⟨h.cell, by show (-32768 : Int) ≤ 1; omega, by show (1 : Int) ≤ 32767; omega⟩
  have h := lplus_any (some ⟨W.heap.size, 0, none⟩) (some ⟨W.heap.size + 1, 0, none⟩) 1 1 1 1 (fun _ => v) (fun _ => 1) x _ (by omega) (Nat.le_refl _) (Nat.le_refl _) (by decide) hR hF (fun i j _ hj => by have := hv j hj; show (v j).natAbs ≤ _; omega) hx b (by rw [e]; exact hb)
  rw [e] at h
  exact h.mono fun e w' k => ⟨k.1, ⟨((above_new W _).trans ((above_new (W.alloc (.cells #[.int .i64 (v 0), .int .i64 (v 1), .int .i64 (v 2), .int .i64 (v 3), .int .i64 (v 4), .int .i64 (v 5)] 36)) (.cells #[.int .i16 1] 50)).mono (by simp))).trans (k.2.mono (by simp; omega))⟩⟩
/-- A multiple is a member. -/
theorem is_eq {A : Nat → Nat → Int} {n : Nat} {v : Nat → Int} {x : Int} {k : Nat} {b : Bool} (h : ∀ m : Int, m ≠ 0 → (Sp A n 6 (fun j => m * v j) ↔ 0 < x ∧ x ∣ m)) (hk : 0 < k) (hb : b = true ↔ Sp A n 6 (fun j => (k : Int) * v j)) (hx : 0 < x) : (b == ((k : Int) % x == 0)) = true := by
  have e : ((k : Int) % x == 0) = b := by
    rw [Bool.eq_iff_iff, hb, h k (by omega), beq_iff_eq]
    exact ⟨fun e => ⟨hx, Int.dvd_of_emod_eq_zero e⟩, fun e => Int.emod_eq_zero_of_dvd e.2⟩
  rw [e]
  exact beq_self_eq_true b
theorem is_no {A : Nat → Nat → Int} {n : Nat} {v : Nat → Int} {x : Int} {k : Nat} {b : Bool} (h : ∀ m : Int, m ≠ 0 → (Sp A n 6 (fun j => m * v j) ↔ 0 < x ∧ x ∣ m)) (hk : 0 < k) (hb : b = true ↔ Sp A n 6 (fun j => (k : Int) * v j)) (hx : ¬ 0 < x) : b = false := by
  cases b with
  | false => rfl
  | true => exact absurd ((h k (by omega)).1 (hb.1 rfl)).1 hx
theorem mem_pos {A : Nat → Nat → Int} {n : Nat} {v y : Nat → Int} {x c : Int} {k : Nat} {b : Bool} (hm : Mem A n y b c) (va : VM A n) (hy : Vv y) (h : ∀ m : Int, m ≠ 0 → (Sp A n 6 (fun j => m * v j) ↔ 0 < x ∧ x ∣ m)) (hk : 1 ≤ k) (hs : Sp A n 6 y ↔ Sp A n 6 (fun j => (k : Int) * v j)) (hx : 0 < x) : (c = 0 ∧ (b == ((k : Int) % x == 0)) = true) ∨ (c = 3 ∧ b = false) :=
  (hm.split va hy).imp (fun k' => ⟨k'.1, is_eq h hk (k'.2.out.trans hs) hx⟩) id
theorem mem_neg {A : Nat → Nat → Int} {n : Nat} {v y : Nat → Int} {x c : Int} {k : Nat} {b : Bool} (hm : Mem A n y b c) (va : VM A n) (hy : Vv y) (h : ∀ m : Int, m ≠ 0 → (Sp A n 6 (fun j => m * v j) ↔ 0 < x ∧ x ∣ m)) (hk : 1 ≤ k) (hs : Sp A n 6 y ↔ Sp A n 6 (fun j => (k : Int) * v j)) (hx : ¬ 0 < x) : (c = 0 ∧ b = false) ∨ (c = 3 ∧ b = false) :=
  (hm.split va hy).imp (fun k' => ⟨k'.1, is_no h hk (k'.2.out.trans hs) hx⟩) id
set_option maxRecDepth 100000 in
set_option maxHeartbeats 32000000 in
theorem ord_law1 (ao : Option Addr) (n c1 : Nat) (A : Nat → Nat → Int) (v : Nat → Int) (w : World) (hc1 : n ≤ c1) (hc1m : c1 ≤ maxLen) (hA : CV w ao n A) (va : VM A n) (vv : Vv v) :
    Calls Try.prog 10 #[.slice ao n c1, PV v] w fun e w' => e = .returned (.bool true) ∧ Below w.heap.size w w' := by
  have H1 := Bx.mk (fun w' (hb : Below w.heap.size w w') => lorder_any ao n c1 A v w' hc1 hc1m (hA.keep hb) va vv)
  have HM := Bx.mk (fun u w' (hb : Below w.heap.size w w') => lmember_any ao n c1 A u w' hc1 hc1m (hA.keep hb))
  have HV3 := Bx.mk (fun u w' b (h : b = true ↔ Vv u) => rvector_any u w' b h)
  have VA := Bx.mk va
  have VV' := Bx.mk vv
  obtain ⟨hV0, hB0⟩ := vec_new w v
  have HV0 := Bx.mk hV0
  have M1 : Bx True := ⟨trivial⟩
  unfold PV at H1 HM HV3 ⊢
  clear hA va vv hV0 hB0
  go_enter Try.func10, Try.ntmps10
  go_wp2_with (first
    | (go_at_call 31; refine (lhead_any _).mono ?_; rintro e w1 ⟨rfl, b1⟩
       have B1 := Bx.mk (below_new b1)
       have V1 := HV0.out.keep (b1.block w.heap.size HV0.out.lt)
       have v0 := V1.c0
       have v1 := V1.c1
       have v2 := V1.c2
       have v3 := V1.c3
       have v4 := V1.c4
       have v5 := V1.c5
       have HV1 := Bx.mk V1
       clear b1 V1)
    | (go_at_call 42; refine (H1.out _ B1.out).mono ?_; clear H1; rintro e w2 ⟨x, c, rfl, HO, b2⟩
       have B2 := Bx.mk (B1.out.trans (b2.out.mono B1.out.size))
       have V2 := HV1.out.keep (b2.out.block w.heap.size HV1.out.lt)
       have u0 := V2.c0
       have u1 := V2.c1
       have u2 := V2.c2
       have u3 := V2.c3
       have u4 := V2.c4
       have u5 := V2.c5
       have HV2 := Bx.mk V2
       clear b2 V2
       rcases HO.out.split with ⟨rfl, hx0, hx1, HX⟩ | rfl)
    | (clear M1; go_at_call 44; refine (lplus_one v (fun _ => 0) v w2 VV'.out vv_zero2 (fun j => (Int.zero_add _).symm) true ⟨fun _ => VV'.out, fun _ => rfl⟩).mono ?_; rintro e w3 ⟨rfl, b3⟩
       have B3 := Bx.mk ((B2.out.trans (b3.out.mono B2.out.size)).trans ((above_new w3 (.cells #[.int .i64 (v 0), .int .i64 (v 1), .int .i64 (v 2), .int .i64 (v 3), .int .i64 (v 4), .int .i64 (v 5)] 36)).mono (Nat.le_trans B2.out.size b3.out.size)))
       have HV3b := Bx.mk ((HV2.out.keep (b3.out.block w.heap.size HV2.out.lt)).keep ((above_new w3 (.cells #[.int .i64 (v 0), .int .i64 (v 1), .int .i64 (v 2), .int .i64 (v 3), .int .i64 (v 4), .int .i64 (v 5)] 36)).block w.heap.size (Nat.lt_of_lt_of_le HV2.out.lt b3.out.size)))
       have HW3 := Bx.mk (VB.new w3 v)
       have hw3 : w.heap.size < w3.heap.size := Nat.lt_of_lt_of_le HV2.out.lt b3.out.size
       clear b3))
  · go_loopw [10, 9, 5] (fun ix ok u wr => ∃ (k : Nat) (b : Bool) (y : Nat → Int), 1 ≤ k ∧ k ≤ 31 ∧ ix = .int .i64 k ∧ ok = .bool b ∧ u = .bool true ∧ Bx (b = true → Vv y ∧ ∀ j, y j = (k : Int) * v j) ∧ Bx (VB wr w3.heap.size y) ∧ Bx (VB wr w.heap.size v) ∧ Bx (Below w.heap.size w wr)) (fun ix _ _ _ => 31 - (intOf ix).toNat)
    case atStart => exact ⟨1, true, v, by omega, by omega, rfl, rfl, rfl, ⟨fun _ => ⟨VV'.out, fun j => by simp⟩⟩, HW3, HV3b, B3⟩
    case round =>
      obtain ⟨k, b, y, hk0, hk1, rfl, rfl, rfl, HYB, HY, HVr, HBr⟩ := hrel
      by_cases hk : k ≤ 30
      · have hki : (k : Int) ≤ 30 := by omega
        cases b with
        | true =>
          have HVY : Bx (Vv y) := ⟨(HYB.out (by simp)).1⟩
          have HYK : Bx (∀ j, y j = (k : Int) * v j) := ⟨(HYB.out (by simp)).2⟩
          have HSY : Bx (Sp A n 6 y ↔ Sp A n 6 (fun j => (k : Int) * v j)) := ⟨⟨fun h => h.congr fun j _ => (HYK.out j).symm, fun h => h.congr fun j _ => HYK.out j⟩⟩
          have u0 := HY.out.c0
          have u1 := HY.out.c1
          have u2 := HY.out.c2
          have u3 := HY.out.c3
          have u4 := HY.out.c4
          have u5 := HY.out.c5
          obtain ⟨y', hy'⟩ : ∃ y' : Nat → Int, (fun j => y j + v j) = y' := ⟨_, rfl⟩
          have HYY : Bx (∀ j, y' j = y j + v j) := ⟨fun j => by rw [← hy']⟩
          obtain ⟨b2, hb2⟩ := bool_of (Vv y')
          have HB2 := Bx.mk hb2
          clear hy' hb2 HYB
          by_cases hx : 0 < x
          · skip
            have hxg : x > 0 := hx
            have hxn : ¬ x = 0 := by omega
            have hxm : max x 1 = x := by omega
            go_wp2_with (first
              | (go_at_call 32; refine (HM.out y wr HBr.out).mono ?_; rintro e w5 ⟨lo, nn, lc, b', c, rfl, hm, b5⟩
                 have B5 := Bx.mk (HBr.out.trans (b5.out.mono HBr.out.size))
                 have V5 := HVr.out.keep (b5.out.block w.heap.size HVr.out.lt)
                 have Y5 := HY.out.keep (b5.out.block w3.heap.size HY.out.lt)
                 have d0 := V5.c0
                 have d1 := V5.c1
                 have d2 := V5.c2
                 have d3 := V5.c3
                 have d4 := V5.c4
                 have d5 := V5.c5
                 have e0 := Y5.c0
                 have e1 := Y5.c1
                 have e2 := Y5.c2
                 have e3 := Y5.c3
                 have e4 := Y5.c4
                 have e5 := Y5.c5
                 have HV5 := Bx.mk V5
                 have HY5 := Bx.mk Y5
                 clear b5 V5 Y5
                 rcases mem_pos hm.out VA.out HVY.out HX.out hk0 HSY.out hx with ⟨rfl, hxe⟩ | ⟨rfl, rfl⟩)
              | (go_at_call 44; refine (lplus_one v y y' w5 VV'.out HVY.out HYY.out b2 HB2.out).mono ?_; rintro e w6 ⟨rfl, b6⟩
                 have B6 := Bx.mk (B5.out.trans (b6.out.mono B5.out.size))
                 have HV6 := Bx.mk (HV5.out.keep (b6.out.block w.heap.size HV5.out.lt))
                 have Y6 := HY5.out.keep (b6.out.block w3.heap.size HY5.out.lt)
                 have HY6 := Bx.mk Y6
                 have g0 := Y6.c0
                 have g1 := Y6.c1
                 have g2 := Y6.c2
                 have g3 := Y6.c3
                 have g4 := Y6.c4
                 have g5 := Y6.c5
                 have z0 := Y6.f 0
                 have z1 := Y6.f 1
                 have z2 := Y6.f 2
                 have z3 := Y6.f 3
                 have z4 := Y6.f 4
                 have z5 := Y6.f 5
                 clear b6 Y6))
            all_goals
              have K1 := HY6.out.lit y'
              have hb6 := but_lit w3.heap.size w6 y'
              have K2 := HV6.out.keep (hb6.block w.heap.size HV6.out.lt (by omega))
              exact ⟨⟨k + 1, b2, y', by omega, by omega, by go_num, rfl, by first | (simp; done) | (have e := hxe; simp at e; simp [e]; done) | (have e := hxe; simp at e; simp; exact e), ⟨fun h => ⟨HB2.out.1 h, fun j => by rw [HYY.out j, HYK.out j]; grind⟩⟩, ⟨K1⟩, ⟨K2⟩, ⟨B6.out.trans (but_below hb6 (n := w.heap.size) (Nat.le_of_lt hw3) B6.out.size)⟩⟩, by simp [intOf]; omega⟩
          · skip
            have hxg : ¬ x > 0 := hx
            go_wp2_with (first
              | (go_at_call 32; refine (HM.out y wr HBr.out).mono ?_; rintro e w5 ⟨lo, nn, lc, b', c, rfl, hm, b5⟩
                 have B5 := Bx.mk (HBr.out.trans (b5.out.mono HBr.out.size))
                 have V5 := HVr.out.keep (b5.out.block w.heap.size HVr.out.lt)
                 have Y5 := HY.out.keep (b5.out.block w3.heap.size HY.out.lt)
                 have d0 := V5.c0
                 have d1 := V5.c1
                 have d2 := V5.c2
                 have d3 := V5.c3
                 have d4 := V5.c4
                 have d5 := V5.c5
                 have e0 := Y5.c0
                 have e1 := Y5.c1
                 have e2 := Y5.c2
                 have e3 := Y5.c3
                 have e4 := Y5.c4
                 have e5 := Y5.c5
                 have HV5 := Bx.mk V5
                 have HY5 := Bx.mk Y5
                 clear b5 V5 Y5
                 rcases mem_neg hm.out VA.out HVY.out HX.out hk0 HSY.out hx with ⟨rfl, rfl⟩ | ⟨rfl, rfl⟩)
              | (go_at_call 44; refine (lplus_one v y y' w5 VV'.out HVY.out HYY.out b2 HB2.out).mono ?_; rintro e w6 ⟨rfl, b6⟩
                 have B6 := Bx.mk (B5.out.trans (b6.out.mono B5.out.size))
                 have HV6 := Bx.mk (HV5.out.keep (b6.out.block w.heap.size HV5.out.lt))
                 have Y6 := HY5.out.keep (b6.out.block w3.heap.size HY5.out.lt)
                 have HY6 := Bx.mk Y6
                 have g0 := Y6.c0
                 have g1 := Y6.c1
                 have g2 := Y6.c2
                 have g3 := Y6.c3
                 have g4 := Y6.c4
                 have g5 := Y6.c5
                 have z0 := Y6.f 0
                 have z1 := Y6.f 1
                 have z2 := Y6.f 2
                 have z3 := Y6.f 3
                 have z4 := Y6.f 4
                 have z5 := Y6.f 5
                 clear b6 Y6))
            all_goals
              have K1 := HY6.out.lit y'
              have hb6 := but_lit w3.heap.size w6 y'
              have K2 := HV6.out.keep (hb6.block w.heap.size HV6.out.lt (by omega))
              exact ⟨⟨k + 1, b2, y', by omega, by omega, by go_num, rfl, by first | (simp; done) | (have e := hxe; simp at e; simp [e]; done) | (have e := hxe; simp at e; simp; exact e), ⟨fun h => ⟨HB2.out.1 h, fun j => by rw [HYY.out j, HYK.out j]; grind⟩⟩, ⟨K1⟩, ⟨K2⟩, ⟨B6.out.trans (but_below hb6 (n := w.heap.size) (Nat.le_of_lt hw3) B6.out.size)⟩⟩, by simp [intOf]; omega⟩
        | false =>
          go_wp2_with fail
          go_loopw [105] (fun jx wz => ∃ l : Nat, l ≤ 6 ∧ jx = .int .i64 l ∧ Bx (VB wz w3.heap.size (fun j => if j < l then v j * x else y j)) ∧ Bx (VB wz w.heap.size v) ∧ Bx (Below w.heap.size w wz)) (fun jx _ => 6 - (intOf jx).toNat)
          case atStart => exact ⟨0, by omega, rfl, ⟨HY.out.congr fun j _ => by simp⟩, HVr, HBr⟩
          case round =>
            obtain ⟨l, hl, rfl, IO, IV, IB⟩ := hrel
            by_cases hl6 : l < 6
            · have q0 := IV.out.cellk hl6
              have q1 := IO.out.cellk hl6
              simp only [Nat.lt_irrefl, if_false] at q1
              have f0 := IO.out.f l
              have hl6' : (l : Int) < 6 := by omega
              have hb1 := VV'.out l hl6
              obtain ⟨P, hP⟩ : ∃ P, v l = P := ⟨_, rfl⟩
              rw [hP] at q0 hb1
              have hPx : (P * x).natAbs ≤ 1000000000 * 1000000000 := by rw [Int.natAbs_mul]; exact Nat.mul_le_mul (by omega) (by omega)
              have HPQ := Bx.mk (show v l * x = P * x by rw [hP])
              obtain ⟨Q, hQ⟩ : ∃ Q, P * x = Q := ⟨_, rfl⟩
              rw [hQ] at hPx HPQ
              have q3 : IntKind.i64.wrap Q = Q := by rw [IntWalk.i64_in] <;> omega
              have q4 : wrap64 Q = Q := by unfold wrap64; omega
              clear hP
              have K1 := Bx.mk ((IO.out.setk hl6 Q).congr (v := fun j => if j < l + 1 then v j * x else y j) (fun j hj => by
                by_cases e : j = l
                · subst e; simp [HPQ.out]
                · by_cases e2 : j < l
                  · simp [e, e2, show j < l + 1 by omega]
                  · simp [e, e2, show ¬ j < l + 1 by omega]))
              have K2 := Bx.mk (IV.out.keep (setCell_heap_ne (W := wr) (b := w3.heap.size) (k := l) (z := .int .i64 Q) (by omega)))
              have K4 := Bx.mk (IB.out.setCell (p := ⟨w3.heap.size, l, none⟩) (Nat.le_of_lt hw3) (.int .i64 Q))
              go_wp2_with fail
              all_goals first
                | exact ⟨⟨l + 1, by omega, by go_num, K1, K2, K4⟩, by simp [intOf]; omega⟩
                | exact ⟨⟨l + 1, by omega, by go_num, ⟨K1.out.drew⟩, ⟨K2.out.drew⟩, ⟨below_drew K4.out⟩⟩, by simp [intOf]; omega⟩
            · obtain rfl : l = 6 := by omega
              by_cases hx : 0 < x
              · obtain ⟨off, ho⟩ : ∃ off : Nat → Int, (fun j => v j * x) = off := ⟨_, rfl⟩
                have HO := Bx.mk (show VB wr w3.heap.size off from IO.out.congr fun j hj => by rw [← ho]; simp [hj])
                have HOS := Bx.mk (show Sp A n 6 off from ((HX.out x (by omega)).2 ⟨hx, Int.dvd_refl x⟩).congr fun j _ => by rw [← ho]; exact Int.mul_comm _ _)
                have hxg : x > 0 := hx
                clear ho IO
                have o0 := HO.out.c0
                have o1 := HO.out.c1
                have o2 := HO.out.c2
                have o3 := HO.out.c3
                have o4 := HO.out.c4
                have o5 := HO.out.c5
                obtain ⟨b7, hb7⟩ := bool_of (Vv off)
                have HB7 := Bx.mk hb7
                clear hb7
                go_wp2_with (first
                  | (go_at_call 45; refine (HV3.out off wr b7 HB7.out).mono ?_; rintro e w7 ⟨rfl, c7⟩
                     have B7 := Bx.mk (IB.out.trans (c7.mono IB.out.size))
                     have O7 := HO.out.keep (c7.block w3.heap.size HO.out.lt)
                     have d0 := O7.c0
                     have d1 := O7.c1
                     have d2 := O7.c2
                     have d3 := O7.c3
                     have d4 := O7.c4
                     have d5 := O7.c5
                     clear c7 O7
                     cases b7)
                  | (go_at_call 32; refine (HM.out off w7 B7.out).mono ?_; rintro e w8 ⟨lo, nn, lc, b', c, rfl, hm, c8⟩
                     have B8 := Bx.mk (B7.out.trans (c8.out.mono B7.out.size))
                     clear c8
                     rcases hm.out.yes VA.out (HB7.out.1 (by simp)) HOS.out with ⟨rfl, rfl⟩ | ⟨rfl, rfl⟩))
                all_goals go_ret
                all_goals first | exact ⟨rfl, B8.out⟩ | exact ⟨rfl, B7.out⟩
              · have hxg : ¬ x > 0 := hx
                go_wp2_with fail
                go_ret
                exact ⟨rfl, IB.out⟩
      · have hki : ¬ (k : Int) ≤ 30 := by omega
        go_wp2_with fail
        go_loopw [105] (fun jx wz => ∃ l : Nat, l ≤ 6 ∧ jx = .int .i64 l ∧ Bx (VB wz w3.heap.size (fun j => if j < l then v j * x else y j)) ∧ Bx (VB wz w.heap.size v) ∧ Bx (Below w.heap.size w wz)) (fun jx _ => 6 - (intOf jx).toNat)
        case atStart => exact ⟨0, by omega, rfl, ⟨HY.out.congr fun j _ => by simp⟩, HVr, HBr⟩
        case round =>
          obtain ⟨l, hl, rfl, IO, IV, IB⟩ := hrel
          by_cases hl6 : l < 6
          · have q0 := IV.out.cellk hl6
            have q1 := IO.out.cellk hl6
            simp only [Nat.lt_irrefl, if_false] at q1
            have f0 := IO.out.f l
            have hl6' : (l : Int) < 6 := by omega
            have hb1 := VV'.out l hl6
            obtain ⟨P, hP⟩ : ∃ P, v l = P := ⟨_, rfl⟩
            rw [hP] at q0 hb1
            have hPx : (P * x).natAbs ≤ 1000000000 * 1000000000 := by rw [Int.natAbs_mul]; exact Nat.mul_le_mul (by omega) (by omega)
            have HPQ := Bx.mk (show v l * x = P * x by rw [hP])
            obtain ⟨Q, hQ⟩ : ∃ Q, P * x = Q := ⟨_, rfl⟩
            rw [hQ] at hPx HPQ
            have q3 : IntKind.i64.wrap Q = Q := by rw [IntWalk.i64_in] <;> omega
            have q4 : wrap64 Q = Q := by unfold wrap64; omega
            clear hP
            have K1 := Bx.mk ((IO.out.setk hl6 Q).congr (v := fun j => if j < l + 1 then v j * x else y j) (fun j hj => by
              by_cases e : j = l
              · subst e; simp [HPQ.out]
              · by_cases e2 : j < l
                · simp [e, e2, show j < l + 1 by omega]
                · simp [e, e2, show ¬ j < l + 1 by omega]))
            have K2 := Bx.mk (IV.out.keep (setCell_heap_ne (W := wr) (b := w3.heap.size) (k := l) (z := .int .i64 Q) (by omega)))
            have K4 := Bx.mk (IB.out.setCell (p := ⟨w3.heap.size, l, none⟩) (Nat.le_of_lt hw3) (.int .i64 Q))
            go_wp2_with fail
            all_goals first
              | exact ⟨⟨l + 1, by omega, by go_num, K1, K2, K4⟩, by simp [intOf]; omega⟩
              | exact ⟨⟨l + 1, by omega, by go_num, ⟨K1.out.drew⟩, ⟨K2.out.drew⟩, ⟨below_drew K4.out⟩⟩, by simp [intOf]; omega⟩
          · obtain rfl : l = 6 := by omega
            by_cases hx : 0 < x
            · obtain ⟨off, ho⟩ : ∃ off : Nat → Int, (fun j => v j * x) = off := ⟨_, rfl⟩
              have HO := Bx.mk (show VB wr w3.heap.size off from IO.out.congr fun j hj => by rw [← ho]; simp [hj])
              have HOS := Bx.mk (show Sp A n 6 off from ((HX.out x (by omega)).2 ⟨hx, Int.dvd_refl x⟩).congr fun j _ => by rw [← ho]; exact Int.mul_comm _ _)
              have hxg : x > 0 := hx
              clear ho IO
              have o0 := HO.out.c0
              have o1 := HO.out.c1
              have o2 := HO.out.c2
              have o3 := HO.out.c3
              have o4 := HO.out.c4
              have o5 := HO.out.c5
              obtain ⟨b7, hb7⟩ := bool_of (Vv off)
              have HB7 := Bx.mk hb7
              clear hb7
              go_wp2_with (first
                | (go_at_call 45; refine (HV3.out off wr b7 HB7.out).mono ?_; rintro e w7 ⟨rfl, c7⟩
                   have B7 := Bx.mk (IB.out.trans (c7.mono IB.out.size))
                   have O7 := HO.out.keep (c7.block w3.heap.size HO.out.lt)
                   have d0 := O7.c0
                   have d1 := O7.c1
                   have d2 := O7.c2
                   have d3 := O7.c3
                   have d4 := O7.c4
                   have d5 := O7.c5
                   clear c7 O7
                   cases b7)
                | (go_at_call 32; refine (HM.out off w7 B7.out).mono ?_; rintro e w8 ⟨lo, nn, lc, b', c, rfl, hm, c8⟩
                   have B8 := Bx.mk (B7.out.trans (c8.out.mono B7.out.size))
                   clear c8
                   rcases hm.out.yes VA.out (HB7.out.1 (by simp)) HOS.out with ⟨rfl, rfl⟩ | ⟨rfl, rfl⟩))
              all_goals go_ret
              all_goals first | exact ⟨rfl, B8.out⟩ | exact ⟨rfl, B7.out⟩
            · have hxg : ¬ x > 0 := hx
              go_wp2_with fail
              go_ret
              exact ⟨rfl, IB.out⟩
  · go_ret
    exact ⟨rfl, B2.out⟩
set_option maxRecDepth 100000 in
set_option maxHeartbeats 32000000 in
theorem ord_law (ao : Option Addr) (n c1 : Nat) (A : Nat → Nat → Int) (v : Nat → Int) (w : World) (hc1 : n ≤ c1) (hc1m : c1 ≤ maxLen) (hA : CV w ao n A) :
    Calls Try.prog 10 #[.slice ao n c1, PV v] w fun e w' => e = .returned (.bool true) ∧ Below w.heap.size w w' := by
  by_cases h : VM A n ∧ Vv v
  · exact ord_law1 ao n c1 A v w hc1 hc1m hA h.1 h.2
  have H1 := Bx.mk (fun w' (hb : Below w.heap.size w w') => lorder_bad ao n c1 A v w' hc1 hc1m (hA.keep hb) h)
  obtain ⟨hV0, hB0⟩ := vec_new w v
  have HV0 := Bx.mk hV0
  unfold PV at H1 ⊢
  clear hV0 hB0
  by_cases va : VM A n
  · have HV3 := Bx.mk (fun w' => rvector_any v w' false ⟨fun e => Bool.noConfusion e, fun e => absurd ⟨va, e⟩ h⟩)
    unfold PV at HV3
    have H2 := Bx.mk (fun w' (hb : Below w.heap.size w w') => rvalid_any ao n c1 A w' hc1 hc1m (hA.keep hb) true ⟨fun _ => va, fun _ => rfl⟩)
    clear hA h
    go_enter Try.func10, Try.ntmps10
    go_wp2_with (first
      | (go_at_call 31; refine (lhead_any _).mono ?_; rintro e w1 ⟨rfl, b1⟩
         have B1 := Bx.mk (below_new b1)
         have V1 := HV0.out.keep (b1.block w.heap.size HV0.out.lt)
         have v0 := V1.c0
         have v1 := V1.c1
         have v2 := V1.c2
         have v3 := V1.c3
         have v4 := V1.c4
         have v5 := V1.c5
         have HV1 := Bx.mk V1
         clear b1 V1)
      | (go_at_call 42; refine (H1.out _ B1.out).mono ?_; clear H1; rintro e w2 ⟨rfl, b2⟩
         have B2 := Bx.mk (B1.out.trans (b2.mono B1.out.size))
         have HV2 := Bx.mk (HV1.out.keep (b2.block w.heap.size HV1.out.lt))
         clear b2)
      | (go_at_call 20; refine (H2.out _ B2.out).mono ?_; clear H2; rintro e w3 ⟨rfl, b3⟩
         have B3 := Bx.mk (B2.out.trans (b3.mono B2.out.size))
         have V3 := HV2.out.keep (b3.block w.heap.size HV2.out.lt)
         have u0 := V3.c0
         have u1 := V3.c1
         have u2 := V3.c2
         have u3 := V3.c3
         have u4 := V3.c4
         have u5 := V3.c5
         clear b3 V3)
      | (go_at_call 45; refine (HV3.out _).mono ?_; rintro e w4 ⟨rfl, b4⟩
         have B4 := Bx.mk (B3.out.trans (b4.mono B3.out.size))
         clear b4))
    go_ret
    exact ⟨rfl, B4.out⟩
  · skip
    have H2 := Bx.mk (fun w' (hb : Below w.heap.size w w') => rvalid_any ao n c1 A w' hc1 hc1m (hA.keep hb) false ⟨fun e => Bool.noConfusion e, fun e => absurd e va⟩)
    clear hA h
    go_enter Try.func10, Try.ntmps10
    go_wp2_with (first
      | (go_at_call 31; refine (lhead_any _).mono ?_; rintro e w1 ⟨rfl, b1⟩
         have B1 := Bx.mk (below_new b1)
         have V1 := HV0.out.keep (b1.block w.heap.size HV0.out.lt)
         have v0 := V1.c0
         have v1 := V1.c1
         have v2 := V1.c2
         have v3 := V1.c3
         have v4 := V1.c4
         have v5 := V1.c5
         have HV1 := Bx.mk V1
         clear b1 V1)
      | (go_at_call 42; refine (H1.out _ B1.out).mono ?_; clear H1; rintro e w2 ⟨rfl, b2⟩
         have B2 := Bx.mk (B1.out.trans (b2.mono B1.out.size))
         have HV2 := Bx.mk (HV1.out.keep (b2.block w.heap.size HV1.out.lt))
         clear b2)
      | (go_at_call 20; refine (H2.out _ B2.out).mono ?_; clear H2; rintro e w3 ⟨rfl, b3⟩
         have B3 := Bx.mk (B2.out.trans (b3.mono B2.out.size))
         have V3 := HV2.out.keep (b3.block w.heap.size HV2.out.lt)
         have u0 := V3.c0
         have u1 := V3.c1
         have u2 := V3.c2
         have u3 := V3.c3
         have u4 := V3.c4
         have u5 := V3.c5
         clear b3 V3))
    go_ret
    exact ⟨rfl, B3.out⟩
end Go.Proofs.Ytnbamjoadankmaa

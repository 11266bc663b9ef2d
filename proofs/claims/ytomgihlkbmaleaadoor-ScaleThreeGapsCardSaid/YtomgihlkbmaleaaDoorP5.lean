/- pitch.powers: the iterator over the primes whose exponent is not 0. -/
import Derived.RangeFuncNested
import Derived.RangeFuncBound
import Derived.RangeFuncCalls
import Derived.RangeFuncLeaves
import Derived.RangeFuncBox
import Derived.Shelf.Abstract
import Derived.Shelf.RegionOpen
import Derived.WalkKit
import Derived.OwnWalkIn
import Derived.TacticsInMore
import Derived.LoopNIn
import Derived.LoopIn
import Derived.Maps.AppendAt
import Derived.Test.YtomgihlkbmaleaaDoorP4
namespace Go.Proofs.YtomgihlkbmaleaaDoor
open Go.RowKit M
attribute [local go_sem] Oper.semAt_some
/-- An index of an exponent that is not 0. -/
structure Ix (v : Nat → Int) : Type where
  i : Nat
  lt : i < 6
  ne : v i ≠ 0
def ixs (v : Nat → Int) : Nat → List (Ix v)
  | 0 => []
  | n + 1 => if h : n < 6 ∧ v n ≠ 0 then ixs v n ++ [⟨n, h.1, h.2⟩] else ixs v n
theorem ixs_skip {v : Nat → Int} {n : Nat} (h : v n = 0) : ixs v (n + 1) = ixs v n := by
  unfold ixs; rw [dif_neg (fun k => k.2 h)]; cases n <;> rfl
theorem ixs_take {v : Nat → Int} {n : Nat} (h : n < 6 ∧ v n ≠ 0) : ixs v (n + 1) = ixs v n ++ [⟨n, h.1, h.2⟩] := by
  rw [ixs]; rw [dif_pos h]
theorem ixs_len (v : Nat → Int) (n : Nat) : (ixs v n).length ≤ n := by
  induction n with
  | zero => exact Nat.le_refl _
  | succ n ih =>
    by_cases h : n < 6 ∧ v n ≠ 0
    · rw [ixs_take h, List.length_append, List.length_singleton]; omega
    · rw [ixs, dif_neg h]; omega
def prI (i : Nat) : Int := if i = 0 then 2 else if i = 1 then 3 else if i = 2 then 5 else if i = 3 then 7 else if i = 4 then 11 else 13
def encP (v : Nat → Int) (x : Ix v) : Array Value := #[.agg #[.int .i64 (prI x.i), .int .i64 (v x.i)]]
/-- The cells of a list of exponents. -/
structure LC (W : World) (b : Nat) (v : Nat → Int) : Prop where
  c0 : W.cell? ⟨b, 0, none⟩ = some (.int .i64 (v 0))
  c1 : W.cell? ⟨b, 1, none⟩ = some (.int .i64 (v 1))
  c2 : W.cell? ⟨b, 2, none⟩ = some (.int .i64 (v 2))
  c3 : W.cell? ⟨b, 3, none⟩ = some (.int .i64 (v 3))
  c4 : W.cell? ⟨b, 4, none⟩ = some (.int .i64 (v 4))
  c5 : W.cell? ⟨b, 5, none⟩ = some (.int .i64 (v 5))
/-- What a round keeps. -/
def Kp (b : Nat) (A B : World) : Prop := ∀ o : Nat, B.cell? ⟨b, o, none⟩ = A.cell? ⟨b, o, none⟩
theorem LC.kp {A B : World} {b : Nat} {v : Nat → Int} (h : LC A b v) (k : Kp b A B) : LC B b v :=
  ⟨(k 0).trans h.c0, (k 1).trans h.c1, (k 2).trans h.c2, (k 3).trans h.c3, (k 4).trans h.c4, (k 5).trans h.c5⟩
theorem Kp.below {A B : World} {b : Nat} {n : Nat} (h : Below n A B) (hb : b < n) : Kp b A B := fun o => h.cell (p := ⟨b, o, none⟩) hb
theorem Kp.trans {b : Nat} {A B C : World} (h : Kp b A B) (k : Kp b B C) : Kp b A C := fun o => (k o).trans (h o)
theorem LC.alloc (W : World) (v : Nat → Int) (t : TypeId) : LC (W.alloc (.cells (PC v) t)) W.heap.size v := by
  constructor <;> simp [World.cell?_alloc_at]
set_option maxRecDepth 100000 in
set_option maxHeartbeats 4000000 in
theorem powers1_in (F : Fence) (n : Nat) (h92 : F.fn 57) (hro : F.round = none) (hn : 1 ≤ n) (l b : Nat) (v : Nat → Int) (J Jx : List (Ix v) → World → Prop)
    (hY : Hx (∀ pre x W, J pre W → pre.length < 6 → YieldAt F (n - 1) Tryd.prog l (encP v x) W fun e W' =>
      (e = .returned (.bool true) ∧ J (pre ++ [x]) W' ∧ Kp b W W') ∨ (e = .returned (.bool false) ∧ Jx (pre ++ [x]) W')))
    (W : World) (hP : Pm W) (hL : LC W b v) (h0 : J [] W) :
    CallsIn F n Tryd.prog 57 #[.func (.yield l) #[] #[], .pointer (some ⟨b, 0, none⟩)] W fun e W' => (∃ v, e = .returned v) ∧
      ((∃ ys, ys = ixs v 6 ∧ J ys W') ∨ (∃ pre, True ∧ Jx pre W')) := by
  have g0 := hP.c0
  have i0 : ∀ w, (Instr.index 22 primes (.int .i64 0)).run Tryd.prog w = .ok (.int .i64 2) w := fun _ => by kernel_rfl
  have g1 := hP.c1
  have i1 : ∀ w, (Instr.index 22 primes (.int .i64 1)).run Tryd.prog w = .ok (.int .i64 3) w := fun _ => by kernel_rfl
  have g2 := hP.c2
  have i2 : ∀ w, (Instr.index 22 primes (.int .i64 2)).run Tryd.prog w = .ok (.int .i64 5) w := fun _ => by kernel_rfl
  have g3 := hP.c3
  have i3 : ∀ w, (Instr.index 22 primes (.int .i64 3)).run Tryd.prog w = .ok (.int .i64 7) w := fun _ => by kernel_rfl
  have g4 := hP.c4
  have i4 : ∀ w, (Instr.index 22 primes (.int .i64 4)).run Tryd.prog w = .ok (.int .i64 11) w := fun _ => by kernel_rfl
  have g5 := hP.c5
  have i5 : ∀ w, (Instr.index 22 primes (.int .i64 5)).run Tryd.prog w = .ok (.int .i64 13) w := fun _ => by kernel_rfl
  have H0 := Hx.mk h0
  clear h0
  refine callsIn_of_wp Tryd.func57 rfl h92 ?_ hro
  simp only [Tryd.ntmps57, List.size_toArray, List.length_cons, List.length_nil, Nat.reduceAdd, Nat.reduceSub, Array.replicate_succ, Array.replicate_zero, List.push_toArray, List.append_toArray, List.nil_append, List.cons_append]
  gi_wp2
  clear g0 g1 g2 g3 g4 g5
  gi_loopw [6] (fun i wr => ∃ (k : Int) (m : Nat), k = m ∧ m ≤ 6 ∧ i = .int .i64 k ∧ Hx (J (ixs v m) wr) ∧ LC wr b v) (fun i _ => 6 - (intOf i).toNat)
  case atStart => exact ⟨0, 0, rfl, by omega, rfl, H0, hL⟩
  case round =>
    clear H0 hL hP
    obtain ⟨k, m, hkm, hm, rfl, HJ, HL⟩ := hrel
    have : m = 0 ∨ m = 1 ∨ m = 2 ∨ m = 3 ∨ m = 4 ∨ m = 5 ∨ m = 6 := by omega
    rcases this with rfl | rfl | rfl | rfl | rfl | rfl | rfl
    · obtain rfl : k = 0 := hkm
      have c0 := HL.c0
      by_cases hz : v 0 = 0
      · have HS := Hx.mk (ixs_skip (v := v) (n := 0) hz)
        have hz' : (v 0 != 0) = false := by rw [bne_eq_false_iff_eq]; exact hz
        clear hz
        gi_wp2
        refine ⟨fun _ h => (by cases h), ?_⟩
        gi_wp2
        go_roundw
        case rel => exact ⟨1, 1, rfl, by omega, rfl, ⟨by rw [HS.out]; exact HJ.out⟩, HL⟩
        case measure => simp [intOf]
      · obtain ⟨x, hx, HS⟩ : ∃ x : Ix v, x.i = 0 ∧ Hx (ixs v (0 + 1) = ixs v 0 ++ [x]) := ⟨⟨0, by omega, hz⟩, rfl, ⟨ixs_take ⟨by omega, hz⟩⟩⟩
        have hz' : (v 0 != 0) = true := by rw [bne_iff_ne]; exact hz
        have he : encP v x = #[.agg #[.int .i64 2, .int .i64 (v 0)]] := by unfold encP; rw [hx]; rfl
        have hy0 := hY.out (ixs v 0) x _ HJ.out (by have := ixs_len v 0; omega)
        rw [he] at hy0
        obtain ⟨fn, tmps, assign, body, hy, hR⟩ := hy0
        clear hz he hx
        gi_wp2
        refine hR.mono ?_
        rintro e W3 (⟨rfl, hJ3, hk3⟩ | ⟨rfl, hJx3⟩)
        · have HJ3 := Hx.mk hJ3
          have HL3 := HL.kp hk3
          clear hJ3 hk3 c0 HJ HL
          gi_wp2
          go_roundw
          case rel => exact ⟨1, 1, rfl, by omega, rfl, ⟨by rw [HS.out]; exact HJ3.out⟩, HL3⟩
          case measure => simp [intOf]
        · have HX := Hx.mk hJx3
          clear hJx3
          gi_wp2
          refine bodyPost_ret (results_none rfl _ _ _) rfl ?_
          exact ⟨⟨_, rfl⟩, .inr ⟨_, trivial, HX.out⟩⟩
    · obtain rfl : k = 1 := hkm
      have c1 := HL.c1
      by_cases hz : v 1 = 0
      · have HS := Hx.mk (ixs_skip (v := v) (n := 1) hz)
        have hz' : (v 1 != 0) = false := by rw [bne_eq_false_iff_eq]; exact hz
        clear hz
        gi_wp2
        refine ⟨fun _ h => (by cases h), ?_⟩
        gi_wp2
        go_roundw
        case rel => exact ⟨2, 2, rfl, by omega, rfl, ⟨by rw [HS.out]; exact HJ.out⟩, HL⟩
        case measure => simp [intOf]
      · obtain ⟨x, hx, HS⟩ : ∃ x : Ix v, x.i = 1 ∧ Hx (ixs v (1 + 1) = ixs v 1 ++ [x]) := ⟨⟨1, by omega, hz⟩, rfl, ⟨ixs_take ⟨by omega, hz⟩⟩⟩
        have hz' : (v 1 != 0) = true := by rw [bne_iff_ne]; exact hz
        have he : encP v x = #[.agg #[.int .i64 3, .int .i64 (v 1)]] := by unfold encP; rw [hx]; rfl
        have hy0 := hY.out (ixs v 1) x _ HJ.out (by have := ixs_len v 1; omega)
        rw [he] at hy0
        obtain ⟨fn, tmps, assign, body, hy, hR⟩ := hy0
        clear hz he hx
        gi_wp2
        refine hR.mono ?_
        rintro e W3 (⟨rfl, hJ3, hk3⟩ | ⟨rfl, hJx3⟩)
        · have HJ3 := Hx.mk hJ3
          have HL3 := HL.kp hk3
          clear hJ3 hk3 c1 HJ HL
          gi_wp2
          go_roundw
          case rel => exact ⟨2, 2, rfl, by omega, rfl, ⟨by rw [HS.out]; exact HJ3.out⟩, HL3⟩
          case measure => simp [intOf]
        · have HX := Hx.mk hJx3
          clear hJx3
          gi_wp2
          refine bodyPost_ret (results_none rfl _ _ _) rfl ?_
          exact ⟨⟨_, rfl⟩, .inr ⟨_, trivial, HX.out⟩⟩
    · obtain rfl : k = 2 := hkm
      have c2 := HL.c2
      by_cases hz : v 2 = 0
      · have HS := Hx.mk (ixs_skip (v := v) (n := 2) hz)
        have hz' : (v 2 != 0) = false := by rw [bne_eq_false_iff_eq]; exact hz
        clear hz
        gi_wp2
        refine ⟨fun _ h => (by cases h), ?_⟩
        gi_wp2
        go_roundw
        case rel => exact ⟨3, 3, rfl, by omega, rfl, ⟨by rw [HS.out]; exact HJ.out⟩, HL⟩
        case measure => simp [intOf]
      · obtain ⟨x, hx, HS⟩ : ∃ x : Ix v, x.i = 2 ∧ Hx (ixs v (2 + 1) = ixs v 2 ++ [x]) := ⟨⟨2, by omega, hz⟩, rfl, ⟨ixs_take ⟨by omega, hz⟩⟩⟩
        have hz' : (v 2 != 0) = true := by rw [bne_iff_ne]; exact hz
        have he : encP v x = #[.agg #[.int .i64 5, .int .i64 (v 2)]] := by unfold encP; rw [hx]; rfl
        have hy0 := hY.out (ixs v 2) x _ HJ.out (by have := ixs_len v 2; omega)
        rw [he] at hy0
        obtain ⟨fn, tmps, assign, body, hy, hR⟩ := hy0
        clear hz he hx
        gi_wp2
        refine hR.mono ?_
        rintro e W3 (⟨rfl, hJ3, hk3⟩ | ⟨rfl, hJx3⟩)
        · have HJ3 := Hx.mk hJ3
          have HL3 := HL.kp hk3
          clear hJ3 hk3 c2 HJ HL
          gi_wp2
          go_roundw
          case rel => exact ⟨3, 3, rfl, by omega, rfl, ⟨by rw [HS.out]; exact HJ3.out⟩, HL3⟩
          case measure => simp [intOf]
        · have HX := Hx.mk hJx3
          clear hJx3
          gi_wp2
          refine bodyPost_ret (results_none rfl _ _ _) rfl ?_
          exact ⟨⟨_, rfl⟩, .inr ⟨_, trivial, HX.out⟩⟩
    · obtain rfl : k = 3 := hkm
      have c3 := HL.c3
      by_cases hz : v 3 = 0
      · have HS := Hx.mk (ixs_skip (v := v) (n := 3) hz)
        have hz' : (v 3 != 0) = false := by rw [bne_eq_false_iff_eq]; exact hz
        clear hz
        gi_wp2
        refine ⟨fun _ h => (by cases h), ?_⟩
        gi_wp2
        go_roundw
        case rel => exact ⟨4, 4, rfl, by omega, rfl, ⟨by rw [HS.out]; exact HJ.out⟩, HL⟩
        case measure => simp [intOf]
      · obtain ⟨x, hx, HS⟩ : ∃ x : Ix v, x.i = 3 ∧ Hx (ixs v (3 + 1) = ixs v 3 ++ [x]) := ⟨⟨3, by omega, hz⟩, rfl, ⟨ixs_take ⟨by omega, hz⟩⟩⟩
        have hz' : (v 3 != 0) = true := by rw [bne_iff_ne]; exact hz
        have he : encP v x = #[.agg #[.int .i64 7, .int .i64 (v 3)]] := by unfold encP; rw [hx]; rfl
        have hy0 := hY.out (ixs v 3) x _ HJ.out (by have := ixs_len v 3; omega)
        rw [he] at hy0
        obtain ⟨fn, tmps, assign, body, hy, hR⟩ := hy0
        clear hz he hx
        gi_wp2
        refine hR.mono ?_
        rintro e W3 (⟨rfl, hJ3, hk3⟩ | ⟨rfl, hJx3⟩)
        · have HJ3 := Hx.mk hJ3
          have HL3 := HL.kp hk3
          clear hJ3 hk3 c3 HJ HL
          gi_wp2
          go_roundw
          case rel => exact ⟨4, 4, rfl, by omega, rfl, ⟨by rw [HS.out]; exact HJ3.out⟩, HL3⟩
          case measure => simp [intOf]
        · have HX := Hx.mk hJx3
          clear hJx3
          gi_wp2
          refine bodyPost_ret (results_none rfl _ _ _) rfl ?_
          exact ⟨⟨_, rfl⟩, .inr ⟨_, trivial, HX.out⟩⟩
    · obtain rfl : k = 4 := hkm
      have c4 := HL.c4
      by_cases hz : v 4 = 0
      · have HS := Hx.mk (ixs_skip (v := v) (n := 4) hz)
        have hz' : (v 4 != 0) = false := by rw [bne_eq_false_iff_eq]; exact hz
        clear hz
        gi_wp2
        refine ⟨fun _ h => (by cases h), ?_⟩
        gi_wp2
        go_roundw
        case rel => exact ⟨5, 5, rfl, by omega, rfl, ⟨by rw [HS.out]; exact HJ.out⟩, HL⟩
        case measure => simp [intOf]
      · obtain ⟨x, hx, HS⟩ : ∃ x : Ix v, x.i = 4 ∧ Hx (ixs v (4 + 1) = ixs v 4 ++ [x]) := ⟨⟨4, by omega, hz⟩, rfl, ⟨ixs_take ⟨by omega, hz⟩⟩⟩
        have hz' : (v 4 != 0) = true := by rw [bne_iff_ne]; exact hz
        have he : encP v x = #[.agg #[.int .i64 11, .int .i64 (v 4)]] := by unfold encP; rw [hx]; rfl
        have hy0 := hY.out (ixs v 4) x _ HJ.out (by have := ixs_len v 4; omega)
        rw [he] at hy0
        obtain ⟨fn, tmps, assign, body, hy, hR⟩ := hy0
        clear hz he hx
        gi_wp2
        refine hR.mono ?_
        rintro e W3 (⟨rfl, hJ3, hk3⟩ | ⟨rfl, hJx3⟩)
        · have HJ3 := Hx.mk hJ3
          have HL3 := HL.kp hk3
          clear hJ3 hk3 c4 HJ HL
          gi_wp2
          go_roundw
          case rel => exact ⟨5, 5, rfl, by omega, rfl, ⟨by rw [HS.out]; exact HJ3.out⟩, HL3⟩
          case measure => simp [intOf]
        · have HX := Hx.mk hJx3
          clear hJx3
          gi_wp2
          refine bodyPost_ret (results_none rfl _ _ _) rfl ?_
          exact ⟨⟨_, rfl⟩, .inr ⟨_, trivial, HX.out⟩⟩
    · obtain rfl : k = 5 := hkm
      have c5 := HL.c5
      by_cases hz : v 5 = 0
      · have HS := Hx.mk (ixs_skip (v := v) (n := 5) hz)
        have hz' : (v 5 != 0) = false := by rw [bne_eq_false_iff_eq]; exact hz
        clear hz
        gi_wp2
        refine ⟨fun _ h => (by cases h), ?_⟩
        gi_wp2
        go_roundw
        case rel => exact ⟨6, 6, rfl, by omega, rfl, ⟨by rw [HS.out]; exact HJ.out⟩, HL⟩
        case measure => simp [intOf]
      · obtain ⟨x, hx, HS⟩ : ∃ x : Ix v, x.i = 5 ∧ Hx (ixs v (5 + 1) = ixs v 5 ++ [x]) := ⟨⟨5, by omega, hz⟩, rfl, ⟨ixs_take ⟨by omega, hz⟩⟩⟩
        have hz' : (v 5 != 0) = true := by rw [bne_iff_ne]; exact hz
        have he : encP v x = #[.agg #[.int .i64 13, .int .i64 (v 5)]] := by unfold encP; rw [hx]; rfl
        have hy0 := hY.out (ixs v 5) x _ HJ.out (by have := ixs_len v 5; omega)
        rw [he] at hy0
        obtain ⟨fn, tmps, assign, body, hy, hR⟩ := hy0
        clear hz he hx
        gi_wp2
        refine hR.mono ?_
        rintro e W3 (⟨rfl, hJ3, hk3⟩ | ⟨rfl, hJx3⟩)
        · have HJ3 := Hx.mk hJ3
          have HL3 := HL.kp hk3
          clear hJ3 hk3 c5 HJ HL
          gi_wp2
          go_roundw
          case rel => exact ⟨6, 6, rfl, by omega, rfl, ⟨by rw [HS.out]; exact HJ3.out⟩, HL3⟩
          case measure => simp [intOf]
        · have HX := Hx.mk hJx3
          clear hJx3
          gi_wp2
          refine bodyPost_ret (results_none rfl _ _ _) rfl ?_
          exact ⟨⟨_, rfl⟩, .inr ⟨_, trivial, HX.out⟩⟩
    · obtain rfl : k = 6 := hkm
      gi_wp2
      go_end0
      exact ⟨⟨_, rfl⟩, .inl ⟨_, rfl, HJ.out⟩⟩
end Go.Proofs.YtomgihlkbmaleaaDoor

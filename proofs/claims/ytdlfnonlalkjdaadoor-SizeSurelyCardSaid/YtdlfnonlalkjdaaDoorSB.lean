/- size.multiplies, measure: the size of exponents. -/
import Derived.Test.YtdlfnonlalkjdaaDoorSA
import Derived.LoopN
namespace Go.Proofs.YtdlfnonlalkjdaaDoor
open Go.RowKit M
/-- The table of the logarithms. -/
structure Lm (w : World) : Prop where
  lt : 0 < w.heap.size
  c0 : w.cell? ⟨0, 0, none⟩ = some (.int .i64 1000000000)
  c1 : w.cell? ⟨0, 1, none⟩ = some (.int .i64 1000000000)
  c2 : w.cell? ⟨0, 2, none⟩ = some (.int .i64 1584962500)
  c3 : w.cell? ⟨0, 3, none⟩ = some (.int .i64 1584962501)
  c4 : w.cell? ⟨0, 4, none⟩ = some (.int .i64 2321928094)
  c5 : w.cell? ⟨0, 5, none⟩ = some (.int .i64 2321928095)
  c6 : w.cell? ⟨0, 6, none⟩ = some (.int .i64 2807354922)
  c7 : w.cell? ⟨0, 7, none⟩ = some (.int .i64 2807354923)
  c8 : w.cell? ⟨0, 8, none⟩ = some (.int .i64 3459431618)
  c9 : w.cell? ⟨0, 9, none⟩ = some (.int .i64 3459431619)
  c10 : w.cell? ⟨0, 10, none⟩ = some (.int .i64 3700439718)
  c11 : w.cell? ⟨0, 11, none⟩ = some (.int .i64 3700439719)
theorem Lm.keep {w w' : World} (h : Lm w) (hb : Below w.heap.size w w') : Lm w' :=
  ⟨Nat.lt_of_lt_of_le h.lt hb.size, (hb.cell (p := ⟨0, 0, none⟩) h.lt).trans h.c0, (hb.cell (p := ⟨0, 1, none⟩) h.lt).trans h.c1, (hb.cell (p := ⟨0, 2, none⟩) h.lt).trans h.c2, (hb.cell (p := ⟨0, 3, none⟩) h.lt).trans h.c3, (hb.cell (p := ⟨0, 4, none⟩) h.lt).trans h.c4, (hb.cell (p := ⟨0, 5, none⟩) h.lt).trans h.c5, (hb.cell (p := ⟨0, 6, none⟩) h.lt).trans h.c6, (hb.cell (p := ⟨0, 7, none⟩) h.lt).trans h.c7, (hb.cell (p := ⟨0, 8, none⟩) h.lt).trans h.c8, (hb.cell (p := ⟨0, 9, none⟩) h.lt).trans h.c9, (hb.cell (p := ⟨0, 10, none⟩) h.lt).trans h.c10, (hb.cell (p := ⟨0, 11, none⟩) h.lt).trans h.c11⟩
abbrev logs : Value := .agg #[.int .i64 1000000000, .int .i64 1000000000, .int .i64 1584962500, .int .i64 1584962501, .int .i64 2321928094, .int .i64 2321928095, .int .i64 2807354922, .int .i64 2807354923, .int .i64 3459431618, .int .i64 3459431619, .int .i64 3700439718, .int .i64 3700439719]
theorem lat0 : ∀ w, (Instr.index 65 logs (.int .i64 0)).run Tryd.prog w = .ok (SV 1000000000 1000000000) w := fun _ => by kernel_rfl
theorem lat1 : ∀ w, (Instr.index 65 logs (.int .i64 1)).run Tryd.prog w = .ok (SV 1584962500 1584962501) w := fun _ => by kernel_rfl
theorem lat2 : ∀ w, (Instr.index 65 logs (.int .i64 2)).run Tryd.prog w = .ok (SV 2321928094 2321928095) w := fun _ => by kernel_rfl
theorem lat3 : ∀ w, (Instr.index 65 logs (.int .i64 3)).run Tryd.prog w = .ok (SV 2807354922 2807354923) w := fun _ => by kernel_rfl
theorem lat4 : ∀ w, (Instr.index 65 logs (.int .i64 4)).run Tryd.prog w = .ok (SV 3459431618 3459431619) w := fun _ => by kernel_rfl
theorem lat5 : ∀ w, (Instr.index 65 logs (.int .i64 5)).run Tryd.prog w = .ok (SV 3700439718 3700439719) w := fun _ => by kernel_rfl
theorem tLo_bd {i : Nat} {x : Int} (hi : i < 6) (h1 : -1152 ≤ x) (h2 : x ≤ 1152) : -5000000000000 ≤ tLo i x ∧ tLo i x ≤ 5000000000000 := by
  have : i = 0 ∨ i = 1 ∨ i = 2 ∨ i = 3 ∨ i = 4 ∨ i = 5 := by omega
  rcases this with rfl | rfl | rfl | rfl | rfl | rfl <;> simp only [tLo, loN, hiN] <;> split <;> simp <;> omega
theorem tHi_bd {i : Nat} {x : Int} (hi : i < 6) (h1 : -1152 ≤ x) (h2 : x ≤ 1152) : -5000000000000 ≤ tHi i x ∧ tHi i x ≤ 5000000000000 := by
  have : i = 0 ∨ i = 1 ∨ i = 2 ∨ i = 3 ∨ i = 4 ∨ i = 5 := by omega
  rcases this with rfl | rfl | rfl | rfl | rfl | rfl <;> simp only [tHi, loN, hiN] <;> split <;> simp <;> omega
theorem term0 (n : Int) (w : World) (h1 : -1152 ≤ n) (h2 : n ≤ 1152) (x y : Int) (hx : tLo 0 n = x) (hy : tHi 0 n = y) : Calls Tryd.prog 48 #[SV 1000000000 1000000000, .int .i64 n] w fun e w' => e = .returned (SV x y) ∧ Below w.heap.size w w' := by
  refine times_any 1000000000 1000000000 n w (by omega) (by omega) (by omega) (by omega) x y ?_ ?_
  · rw [← hx]; simp only [tLo, loN, hiN]
    by_cases h : n < 0
    · rw [if_pos h, if_neg (by omega)]; simp
    · rw [if_neg h, if_pos (by omega)]; simp
  · rw [← hy]; simp only [tHi, loN, hiN]
    by_cases h : n < 0
    · rw [if_pos h, if_neg (by omega)]; simp
    · rw [if_neg h, if_pos (by omega)]; simp
theorem term1 (n : Int) (w : World) (h1 : -1152 ≤ n) (h2 : n ≤ 1152) (x y : Int) (hx : tLo 1 n = x) (hy : tHi 1 n = y) : Calls Tryd.prog 48 #[SV 1584962500 1584962501, .int .i64 n] w fun e w' => e = .returned (SV x y) ∧ Below w.heap.size w w' := by
  refine times_any 1584962500 1584962501 n w (by omega) (by omega) (by omega) (by omega) x y ?_ ?_
  · rw [← hx]; simp only [tLo, loN, hiN]
    by_cases h : n < 0
    · rw [if_pos h, if_neg (by omega)]; simp
    · rw [if_neg h, if_pos (by omega)]; simp
  · rw [← hy]; simp only [tHi, loN, hiN]
    by_cases h : n < 0
    · rw [if_pos h, if_neg (by omega)]; simp
    · rw [if_neg h, if_pos (by omega)]; simp
theorem term2 (n : Int) (w : World) (h1 : -1152 ≤ n) (h2 : n ≤ 1152) (x y : Int) (hx : tLo 2 n = x) (hy : tHi 2 n = y) : Calls Tryd.prog 48 #[SV 2321928094 2321928095, .int .i64 n] w fun e w' => e = .returned (SV x y) ∧ Below w.heap.size w w' := by
  refine times_any 2321928094 2321928095 n w (by omega) (by omega) (by omega) (by omega) x y ?_ ?_
  · rw [← hx]; simp only [tLo, loN, hiN]
    by_cases h : n < 0
    · rw [if_pos h, if_neg (by omega)]; simp
    · rw [if_neg h, if_pos (by omega)]; simp
  · rw [← hy]; simp only [tHi, loN, hiN]
    by_cases h : n < 0
    · rw [if_pos h, if_neg (by omega)]; simp
    · rw [if_neg h, if_pos (by omega)]; simp
theorem term3 (n : Int) (w : World) (h1 : -1152 ≤ n) (h2 : n ≤ 1152) (x y : Int) (hx : tLo 3 n = x) (hy : tHi 3 n = y) : Calls Tryd.prog 48 #[SV 2807354922 2807354923, .int .i64 n] w fun e w' => e = .returned (SV x y) ∧ Below w.heap.size w w' := by
  refine times_any 2807354922 2807354923 n w (by omega) (by omega) (by omega) (by omega) x y ?_ ?_
  · rw [← hx]; simp only [tLo, loN, hiN]
    by_cases h : n < 0
    · rw [if_pos h, if_neg (by omega)]; simp
    · rw [if_neg h, if_pos (by omega)]; simp
  · rw [← hy]; simp only [tHi, loN, hiN]
    by_cases h : n < 0
    · rw [if_pos h, if_neg (by omega)]; simp
    · rw [if_neg h, if_pos (by omega)]; simp
theorem term4 (n : Int) (w : World) (h1 : -1152 ≤ n) (h2 : n ≤ 1152) (x y : Int) (hx : tLo 4 n = x) (hy : tHi 4 n = y) : Calls Tryd.prog 48 #[SV 3459431618 3459431619, .int .i64 n] w fun e w' => e = .returned (SV x y) ∧ Below w.heap.size w w' := by
  refine times_any 3459431618 3459431619 n w (by omega) (by omega) (by omega) (by omega) x y ?_ ?_
  · rw [← hx]; simp only [tLo, loN, hiN]
    by_cases h : n < 0
    · rw [if_pos h, if_neg (by omega)]; simp
    · rw [if_neg h, if_pos (by omega)]; simp
  · rw [← hy]; simp only [tHi, loN, hiN]
    by_cases h : n < 0
    · rw [if_pos h, if_neg (by omega)]; simp
    · rw [if_neg h, if_pos (by omega)]; simp
theorem term5 (n : Int) (w : World) (h1 : -1152 ≤ n) (h2 : n ≤ 1152) (x y : Int) (hx : tLo 5 n = x) (hy : tHi 5 n = y) : Calls Tryd.prog 48 #[SV 3700439718 3700439719, .int .i64 n] w fun e w' => e = .returned (SV x y) ∧ Below w.heap.size w w' := by
  refine times_any 3700439718 3700439719 n w (by omega) (by omega) (by omega) (by omega) x y ?_ ?_
  · rw [← hx]; simp only [tLo, loN, hiN]
    by_cases h : n < 0
    · rw [if_pos h, if_neg (by omega)]; simp
    · rw [if_neg h, if_pos (by omega)]; simp
  · rw [← hy]; simp only [tHi, loN, hiN]
    by_cases h : n < 0
    · rw [if_pos h, if_neg (by omega)]; simp
    · rw [if_neg h, if_pos (by omega)]; simp
def sLo (v : Nat → Int) : Nat → Int
  | 0 => 0
  | n + 1 => sLo v n + tLo n (v n)
def sHi (v : Nat → Int) : Nat → Int
  | 0 => 0
  | n + 1 => sHi v n + tHi n (v n)
theorem sLo_bd {v : Nat → Int} (hv : ∀ i, i < 6 → -1152 ≤ v i ∧ v i ≤ 1152) : ∀ n : Nat, n ≤ 6 → -(5000000000000 * (n : Int)) ≤ sLo v n ∧ sLo v n ≤ 5000000000000 * (n : Int)
  | 0, _ => by simp [sLo]
  | n + 1, h => by
    have h1 := sLo_bd hv n (by omega)
    have h2 := tLo_bd (i := n) (x := v n) (by omega) (hv n (by omega)).1 (hv n (by omega)).2
    simp only [sLo]; omega
theorem sHi_bd {v : Nat → Int} (hv : ∀ i, i < 6 → -1152 ≤ v i ∧ v i ≤ 1152) : ∀ n : Nat, n ≤ 6 → -(5000000000000 * (n : Int)) ≤ sHi v n ∧ sHi v n ≤ 5000000000000 * (n : Int)
  | 0, _ => by simp [sHi]
  | n + 1, h => by
    have h1 := sHi_bd hv n (by omega)
    have h2 := tHi_bd (i := n) (x := v n) (by omega) (hv n (by omega)).1 (hv n (by omega)).2
    simp only [sHi]; omega
theorem sLo_six (v : Nat → Int) : sLo v 6 = mLo v := by rw [mLo_eq]; simp only [sLo]; omega
theorem sHi_six (v : Nat → Int) : sHi v 6 = mHi v := by rw [mHi_eq]; simp only [sHi]; omega
/-- What holds within measure: the sum's cells, the table, the older memory as it was. -/
structure Ms (w : World) (a b : Int) (W : World) : Prop where
  bl : Below w.heap.size w W
  l0 : Lm w
  sz : w.heap.size + 2 < W.heap.size
  c0 : W.cell? ⟨w.heap.size + 1 + 1, 0, none⟩ = some (.int .i64 a)
  c1 : W.cell? ⟨w.heap.size + 1 + 1, 1, none⟩ = some (.int .i64 b)
  f0 : W.frozen? ⟨w.heap.size + 1 + 1, 0, none⟩ = false
  f1 : W.frozen? ⟨w.heap.size + 1 + 1, 1, none⟩ = false
  d0 : W.cell? ⟨w.heap.size + 1, 0, none⟩ = some (.int .i64 0)
  d1 : W.cell? ⟨w.heap.size + 1, 1, none⟩ = some (.int .i64 0)
  e0 : W.frozen? ⟨w.heap.size + 1, 0, none⟩ = false
  e1 : W.frozen? ⟨w.heap.size + 1, 1, none⟩ = false
theorem Ms.keep {w W W' : World} {a b : Int} (h : Ms w a b W) (hb : Below W.heap.size W W') : Ms w a b W' :=
  ⟨h.bl.trans (hb.mono h.bl.size), h.l0, Nat.lt_of_lt_of_le h.sz hb.size, (hb.cell (p := ⟨w.heap.size + 1 + 1, 0, none⟩) h.sz).trans h.c0, (hb.cell (p := ⟨w.heap.size + 1 + 1, 1, none⟩) h.sz).trans h.c1, (hb.frozen (p := ⟨w.heap.size + 1 + 1, 0, none⟩) h.sz).trans h.f0, (hb.frozen (p := ⟨w.heap.size + 1 + 1, 1, none⟩) h.sz).trans h.f1,
   (hb.cell (p := ⟨w.heap.size + 1, 0, none⟩) (Nat.lt_of_succ_lt h.sz)).trans h.d0, (hb.cell (p := ⟨w.heap.size + 1, 1, none⟩) (Nat.lt_of_succ_lt h.sz)).trans h.d1, (hb.frozen (p := ⟨w.heap.size + 1, 0, none⟩) (Nat.lt_of_succ_lt h.sz)).trans h.e0, (hb.frozen (p := ⟨w.heap.size + 1, 1, none⟩) (Nat.lt_of_succ_lt h.sz)).trans h.e1⟩
theorem Ms.drew {w W : World} {a b : Int} (h : Ms w a b W) : Ms w a b W.drew := h.keep (Below.refl _ _).drew
theorem Ms.drewN {w W : World} {a b : Int} (h : Ms w a b W) (n : Nat) : Ms w a b (W.drewN n) := h.keep (below_drewN (Below.refl _ _) n)
theorem Ms.all0 {w W : World} {a b : Int} (h : Ms w a b W) : Ms w a b W ∧ W.cell? ⟨w.heap.size + 1 + 1, 0, none⟩ = some (.int .i64 a) ∧ W.cell? ⟨w.heap.size + 1 + 1, 1, none⟩ = some (.int .i64 b) ∧ W.cell? ⟨0, 0, none⟩ = some (.int .i64 1000000000) ∧ W.cell? ⟨0, 1, none⟩ = some (.int .i64 1000000000) := ⟨h, h.c0, h.c1, (h.l0.keep h.bl).c0, (h.l0.keep h.bl).c1⟩
theorem Ms.all1 {w W : World} {a b : Int} (h : Ms w a b W) : Ms w a b W ∧ W.cell? ⟨w.heap.size + 1 + 1, 0, none⟩ = some (.int .i64 a) ∧ W.cell? ⟨w.heap.size + 1 + 1, 1, none⟩ = some (.int .i64 b) ∧ W.cell? ⟨0, 2, none⟩ = some (.int .i64 1584962500) ∧ W.cell? ⟨0, 3, none⟩ = some (.int .i64 1584962501) := ⟨h, h.c0, h.c1, (h.l0.keep h.bl).c2, (h.l0.keep h.bl).c3⟩
theorem Ms.all2 {w W : World} {a b : Int} (h : Ms w a b W) : Ms w a b W ∧ W.cell? ⟨w.heap.size + 1 + 1, 0, none⟩ = some (.int .i64 a) ∧ W.cell? ⟨w.heap.size + 1 + 1, 1, none⟩ = some (.int .i64 b) ∧ W.cell? ⟨0, 4, none⟩ = some (.int .i64 2321928094) ∧ W.cell? ⟨0, 5, none⟩ = some (.int .i64 2321928095) := ⟨h, h.c0, h.c1, (h.l0.keep h.bl).c4, (h.l0.keep h.bl).c5⟩
theorem Ms.all3 {w W : World} {a b : Int} (h : Ms w a b W) : Ms w a b W ∧ W.cell? ⟨w.heap.size + 1 + 1, 0, none⟩ = some (.int .i64 a) ∧ W.cell? ⟨w.heap.size + 1 + 1, 1, none⟩ = some (.int .i64 b) ∧ W.cell? ⟨0, 6, none⟩ = some (.int .i64 2807354922) ∧ W.cell? ⟨0, 7, none⟩ = some (.int .i64 2807354923) := ⟨h, h.c0, h.c1, (h.l0.keep h.bl).c6, (h.l0.keep h.bl).c7⟩
theorem Ms.all4 {w W : World} {a b : Int} (h : Ms w a b W) : Ms w a b W ∧ W.cell? ⟨w.heap.size + 1 + 1, 0, none⟩ = some (.int .i64 a) ∧ W.cell? ⟨w.heap.size + 1 + 1, 1, none⟩ = some (.int .i64 b) ∧ W.cell? ⟨0, 8, none⟩ = some (.int .i64 3459431618) ∧ W.cell? ⟨0, 9, none⟩ = some (.int .i64 3459431619) := ⟨h, h.c0, h.c1, (h.l0.keep h.bl).c8, (h.l0.keep h.bl).c9⟩
theorem Ms.all5 {w W : World} {a b : Int} (h : Ms w a b W) : Ms w a b W ∧ W.cell? ⟨w.heap.size + 1 + 1, 0, none⟩ = some (.int .i64 a) ∧ W.cell? ⟨w.heap.size + 1 + 1, 1, none⟩ = some (.int .i64 b) ∧ W.cell? ⟨0, 10, none⟩ = some (.int .i64 3700439718) ∧ W.cell? ⟨0, 11, none⟩ = some (.int .i64 3700439719) := ⟨h, h.c0, h.c1, (h.l0.keep h.bl).c10, (h.l0.keep h.bl).c11⟩
theorem Ms.set {w W : World} {a b x y : Int} (h : Ms w a b W) : Ms w x y ((W.setCell ⟨w.heap.size + 1 + 1, 0, none⟩ (.int .i64 x)).setCell ⟨w.heap.size + 1 + 1, 1, none⟩ (.int .i64 y)) := by
  have hlt : w.heap.size + 1 + 1 < W.heap.size := h.sz
  have hb : Below (w.heap.size + 1 + 1) W ((W.setCell ⟨w.heap.size + 1 + 1, 0, none⟩ (.int .i64 x)).setCell ⟨w.heap.size + 1 + 1, 1, none⟩ (.int .i64 y)) := by
    refine Below.setCell (Below.setCell (Below.refl _ _) ?_ _) ?_ _ <;> simp
  have c0 := h.c0; have c1 := h.c1; have f0 := h.f0; have f1 := h.f1; have d0 := h.d0; have d1 := h.d1; have e0 := h.e0; have e1 := h.e1
  refine ⟨h.bl.trans (hb.mono (by omega)), h.l0, by simpa using h.sz, ?_, ?_, ?_, ?_, ?_, ?_, ?_, ?_⟩
  all_goals simp [go_sem, c0, c1, f0, f1, d0, d1, e0, e1]
set_option maxHeartbeats 8000000 in
theorem measure_any (v : Nat → Int) (w : World) (hv : Hx (Lim 1152 v)) (hL : Lm w) : Calls Tryd.prog 41 #[PV v] w fun e w' => e = .returned (SV (mLo v) (mHi v)) ∧ Below w.heap.size w w' := by
  have L0 := Hx.mk hL
  clear hL
  rw [← sLo_six, ← sHi_six]
  have T0 : Hx (∀ w, Calls Tryd.prog 48 #[SV 1000000000 1000000000, .int .i64 (v 0)] w fun e w' => e = .returned (SV (tLo 0 (v 0)) (tHi 0 (v 0))) ∧ Below w.heap.size w w') := ⟨fun w => term0 (v 0) w (hv.out 0 (by omega)).1 (hv.out 0 (by omega)).2 _ _ rfl rfl⟩
  have U0 : Hx (∀ w, Calls Tryd.prog 43 #[SV (sLo v 0) (sHi v 0), SV (tLo 0 (v 0)) (tHi 0 (v 0))] w fun e w' => e = .returned (SV (sLo v 1) (sHi v 1)) ∧ Below w.heap.size w w') := ⟨fun w => by
    have b1 := sLo_bd hv.out 0 (by omega); have b2 := sHi_bd hv.out 0 (by omega); have b3 := tLo_bd (i := 0) (by omega) (hv.out 0 (by omega)).1 (hv.out 0 (by omega)).2; have b4 := tHi_bd (i := 0) (by omega) (hv.out 0 (by omega)).1 (hv.out 0 (by omega)).2
    exact plus_any _ _ _ _ w (by omega) (by omega) (by omega) (by omega)⟩
  have T1 : Hx (∀ w, Calls Tryd.prog 48 #[SV 1584962500 1584962501, .int .i64 (v 1)] w fun e w' => e = .returned (SV (tLo 1 (v 1)) (tHi 1 (v 1))) ∧ Below w.heap.size w w') := ⟨fun w => term1 (v 1) w (hv.out 1 (by omega)).1 (hv.out 1 (by omega)).2 _ _ rfl rfl⟩
  have U1 : Hx (∀ w, Calls Tryd.prog 43 #[SV (sLo v 1) (sHi v 1), SV (tLo 1 (v 1)) (tHi 1 (v 1))] w fun e w' => e = .returned (SV (sLo v 2) (sHi v 2)) ∧ Below w.heap.size w w') := ⟨fun w => by
    have b1 := sLo_bd hv.out 1 (by omega); have b2 := sHi_bd hv.out 1 (by omega); have b3 := tLo_bd (i := 1) (by omega) (hv.out 1 (by omega)).1 (hv.out 1 (by omega)).2; have b4 := tHi_bd (i := 1) (by omega) (hv.out 1 (by omega)).1 (hv.out 1 (by omega)).2
    exact plus_any _ _ _ _ w (by omega) (by omega) (by omega) (by omega)⟩
  have T2 : Hx (∀ w, Calls Tryd.prog 48 #[SV 2321928094 2321928095, .int .i64 (v 2)] w fun e w' => e = .returned (SV (tLo 2 (v 2)) (tHi 2 (v 2))) ∧ Below w.heap.size w w') := ⟨fun w => term2 (v 2) w (hv.out 2 (by omega)).1 (hv.out 2 (by omega)).2 _ _ rfl rfl⟩
  have U2 : Hx (∀ w, Calls Tryd.prog 43 #[SV (sLo v 2) (sHi v 2), SV (tLo 2 (v 2)) (tHi 2 (v 2))] w fun e w' => e = .returned (SV (sLo v 3) (sHi v 3)) ∧ Below w.heap.size w w') := ⟨fun w => by
    have b1 := sLo_bd hv.out 2 (by omega); have b2 := sHi_bd hv.out 2 (by omega); have b3 := tLo_bd (i := 2) (by omega) (hv.out 2 (by omega)).1 (hv.out 2 (by omega)).2; have b4 := tHi_bd (i := 2) (by omega) (hv.out 2 (by omega)).1 (hv.out 2 (by omega)).2
    exact plus_any _ _ _ _ w (by omega) (by omega) (by omega) (by omega)⟩
  have T3 : Hx (∀ w, Calls Tryd.prog 48 #[SV 2807354922 2807354923, .int .i64 (v 3)] w fun e w' => e = .returned (SV (tLo 3 (v 3)) (tHi 3 (v 3))) ∧ Below w.heap.size w w') := ⟨fun w => term3 (v 3) w (hv.out 3 (by omega)).1 (hv.out 3 (by omega)).2 _ _ rfl rfl⟩
  have U3 : Hx (∀ w, Calls Tryd.prog 43 #[SV (sLo v 3) (sHi v 3), SV (tLo 3 (v 3)) (tHi 3 (v 3))] w fun e w' => e = .returned (SV (sLo v 4) (sHi v 4)) ∧ Below w.heap.size w w') := ⟨fun w => by
    have b1 := sLo_bd hv.out 3 (by omega); have b2 := sHi_bd hv.out 3 (by omega); have b3 := tLo_bd (i := 3) (by omega) (hv.out 3 (by omega)).1 (hv.out 3 (by omega)).2; have b4 := tHi_bd (i := 3) (by omega) (hv.out 3 (by omega)).1 (hv.out 3 (by omega)).2
    exact plus_any _ _ _ _ w (by omega) (by omega) (by omega) (by omega)⟩
  have T4 : Hx (∀ w, Calls Tryd.prog 48 #[SV 3459431618 3459431619, .int .i64 (v 4)] w fun e w' => e = .returned (SV (tLo 4 (v 4)) (tHi 4 (v 4))) ∧ Below w.heap.size w w') := ⟨fun w => term4 (v 4) w (hv.out 4 (by omega)).1 (hv.out 4 (by omega)).2 _ _ rfl rfl⟩
  have U4 : Hx (∀ w, Calls Tryd.prog 43 #[SV (sLo v 4) (sHi v 4), SV (tLo 4 (v 4)) (tHi 4 (v 4))] w fun e w' => e = .returned (SV (sLo v 5) (sHi v 5)) ∧ Below w.heap.size w w') := ⟨fun w => by
    have b1 := sLo_bd hv.out 4 (by omega); have b2 := sHi_bd hv.out 4 (by omega); have b3 := tLo_bd (i := 4) (by omega) (hv.out 4 (by omega)).1 (hv.out 4 (by omega)).2; have b4 := tHi_bd (i := 4) (by omega) (hv.out 4 (by omega)).1 (hv.out 4 (by omega)).2
    exact plus_any _ _ _ _ w (by omega) (by omega) (by omega) (by omega)⟩
  have T5 : Hx (∀ w, Calls Tryd.prog 48 #[SV 3700439718 3700439719, .int .i64 (v 5)] w fun e w' => e = .returned (SV (tLo 5 (v 5)) (tHi 5 (v 5))) ∧ Below w.heap.size w w') := ⟨fun w => term5 (v 5) w (hv.out 5 (by omega)).1 (hv.out 5 (by omega)).2 _ _ rfl rfl⟩
  have U5 : Hx (∀ w, Calls Tryd.prog 43 #[SV (sLo v 5) (sHi v 5), SV (tLo 5 (v 5)) (tHi 5 (v 5))] w fun e w' => e = .returned (SV (sLo v 6) (sHi v 6)) ∧ Below w.heap.size w w') := ⟨fun w => by
    have b1 := sLo_bd hv.out 5 (by omega); have b2 := sHi_bd hv.out 5 (by omega); have b3 := tLo_bd (i := 5) (by omega) (hv.out 5 (by omega)).1 (hv.out 5 (by omega)).2; have b4 := tHi_bd (i := 5) (by omega) (hv.out 5 (by omega)).1 (hv.out 5 (by omega)).2
    exact plus_any _ _ _ _ w (by omega) (by omega) (by omega) (by omega)⟩
  clear hv
  go_enter Tryd.func41, Tryd.ntmps41
  go_wp2_with fail
  go_loopw [7] (fun iv wr => ∃ k : Nat, k ≤ 6 ∧ iv = .int .i64 (k : Int) ∧ Hx (Ms w (sLo v k) (sHi v k) wr)) (fun iv _ => 6 - (intOf iv).toNat)
  case atStart => exact ⟨0, by omega, rfl, ⟨⟨by (repeat (first | with_reducible exact Below.refl _ _ | (with_reducible refine Below.alloc ?_ ?side _; case side => (first | omega | (simp <;> omega))))), L0.out, by simp, by simp [go_sem, sLo], by simp [go_sem, sHi], by simp [go_sem], by simp [go_sem], by simp [go_sem], by simp [go_sem], by simp [go_sem], by simp [go_sem]⟩⟩⟩
  case round =>
    obtain ⟨k, hk, rfl, HS⟩ := hrel
    have : k = 0 ∨ k = 1 ∨ k = 2 ∨ k = 3 ∨ k = 4 ∨ k = 5 ∨ k = 6 := by omega
    rcases this with rfl | rfl | rfl | rfl | rfl | rfl | rfl
    · have i0 := at0 v
      have j0 := lat0
      have HS0 := HS.out.all0
      go_wp2_with fail
      obtain ⟨_, h1, h2, h3, h4⟩ := HS0
      have h5 := HS.out.f0
      have h6 := HS.out.f1
      go_region_with (first
          | (go_at_call 48; refine (T0.out _).mono ?_; rintro e wa ⟨rfl, hb1⟩; have HM := HS.out.keep (Below.trans (by first | exact Below.refl _ _ | exact (Below.refl _ _).drew | exact below_drewN (Below.refl _ _) _) hb1); have q0 := HM.c0; have q1 := HM.c1; have q2 := HM.f0; have q3 := HM.f1)
          | (go_at_call 43; refine (U0.out _).mono ?_; rintro e wb ⟨rfl, hb2⟩; have HN := HM.keep hb2; have s0 := HN.c0; have s1 := HN.c1; have s2 := HN.f0; have s3 := HN.f1))
      all_goals
        have HZ := HN.set (x := sLo v 1) (y := sHi v 1)
        clear HN HM q0 q1 q2 q3 s0 s1 s2 s3 hb1 hb2
        go_wp2
        go_roundw
        case rel => exact ⟨1, by omega, rfl, ⟨HZ⟩⟩
        case measure => simp [intOf]
    · have i1 := at1 v
      have j1 := lat1
      have HS0 := HS.out.all1
      go_wp2_with fail
      obtain ⟨_, h1, h2, h3, h4⟩ := HS0
      have h5 := HS.out.f0
      have h6 := HS.out.f1
      go_region_with (first
          | (go_at_call 48; refine (T1.out _).mono ?_; rintro e wa ⟨rfl, hb1⟩; have HM := HS.out.keep (Below.trans (by first | exact Below.refl _ _ | exact (Below.refl _ _).drew | exact below_drewN (Below.refl _ _) _) hb1); have q0 := HM.c0; have q1 := HM.c1; have q2 := HM.f0; have q3 := HM.f1)
          | (go_at_call 43; refine (U1.out _).mono ?_; rintro e wb ⟨rfl, hb2⟩; have HN := HM.keep hb2; have s0 := HN.c0; have s1 := HN.c1; have s2 := HN.f0; have s3 := HN.f1))
      all_goals
        have HZ := HN.set (x := sLo v 2) (y := sHi v 2)
        clear HN HM q0 q1 q2 q3 s0 s1 s2 s3 hb1 hb2
        go_wp2
        go_roundw
        case rel => exact ⟨2, by omega, rfl, ⟨HZ⟩⟩
        case measure => simp [intOf]
    · have i2 := at2 v
      have j2 := lat2
      have HS0 := HS.out.all2
      go_wp2_with fail
      obtain ⟨_, h1, h2, h3, h4⟩ := HS0
      have h5 := HS.out.f0
      have h6 := HS.out.f1
      go_region_with (first
          | (go_at_call 48; refine (T2.out _).mono ?_; rintro e wa ⟨rfl, hb1⟩; have HM := HS.out.keep (Below.trans (by first | exact Below.refl _ _ | exact (Below.refl _ _).drew | exact below_drewN (Below.refl _ _) _) hb1); have q0 := HM.c0; have q1 := HM.c1; have q2 := HM.f0; have q3 := HM.f1)
          | (go_at_call 43; refine (U2.out _).mono ?_; rintro e wb ⟨rfl, hb2⟩; have HN := HM.keep hb2; have s0 := HN.c0; have s1 := HN.c1; have s2 := HN.f0; have s3 := HN.f1))
      all_goals
        have HZ := HN.set (x := sLo v 3) (y := sHi v 3)
        clear HN HM q0 q1 q2 q3 s0 s1 s2 s3 hb1 hb2
        go_wp2
        go_roundw
        case rel => exact ⟨3, by omega, rfl, ⟨HZ⟩⟩
        case measure => simp [intOf]
    · have i3 := at3 v
      have j3 := lat3
      have HS0 := HS.out.all3
      go_wp2_with fail
      obtain ⟨_, h1, h2, h3, h4⟩ := HS0
      have h5 := HS.out.f0
      have h6 := HS.out.f1
      go_region_with (first
          | (go_at_call 48; refine (T3.out _).mono ?_; rintro e wa ⟨rfl, hb1⟩; have HM := HS.out.keep (Below.trans (by first | exact Below.refl _ _ | exact (Below.refl _ _).drew | exact below_drewN (Below.refl _ _) _) hb1); have q0 := HM.c0; have q1 := HM.c1; have q2 := HM.f0; have q3 := HM.f1)
          | (go_at_call 43; refine (U3.out _).mono ?_; rintro e wb ⟨rfl, hb2⟩; have HN := HM.keep hb2; have s0 := HN.c0; have s1 := HN.c1; have s2 := HN.f0; have s3 := HN.f1))
      all_goals
        have HZ := HN.set (x := sLo v 4) (y := sHi v 4)
        clear HN HM q0 q1 q2 q3 s0 s1 s2 s3 hb1 hb2
        go_wp2
        go_roundw
        case rel => exact ⟨4, by omega, rfl, ⟨HZ⟩⟩
        case measure => simp [intOf]
    · have i4 := at4 v
      have j4 := lat4
      have HS0 := HS.out.all4
      go_wp2_with fail
      obtain ⟨_, h1, h2, h3, h4⟩ := HS0
      have h5 := HS.out.f0
      have h6 := HS.out.f1
      go_region_with (first
          | (go_at_call 48; refine (T4.out _).mono ?_; rintro e wa ⟨rfl, hb1⟩; have HM := HS.out.keep (Below.trans (by first | exact Below.refl _ _ | exact (Below.refl _ _).drew | exact below_drewN (Below.refl _ _) _) hb1); have q0 := HM.c0; have q1 := HM.c1; have q2 := HM.f0; have q3 := HM.f1)
          | (go_at_call 43; refine (U4.out _).mono ?_; rintro e wb ⟨rfl, hb2⟩; have HN := HM.keep hb2; have s0 := HN.c0; have s1 := HN.c1; have s2 := HN.f0; have s3 := HN.f1))
      all_goals
        have HZ := HN.set (x := sLo v 5) (y := sHi v 5)
        clear HN HM q0 q1 q2 q3 s0 s1 s2 s3 hb1 hb2
        go_wp2
        go_roundw
        case rel => exact ⟨5, by omega, rfl, ⟨HZ⟩⟩
        case measure => simp [intOf]
    · have i5 := at5 v
      have j5 := lat5
      have HS0 := HS.out.all5
      go_wp2_with fail
      obtain ⟨_, h1, h2, h3, h4⟩ := HS0
      have h5 := HS.out.f0
      have h6 := HS.out.f1
      go_region_with (first
          | (go_at_call 48; refine (T5.out _).mono ?_; rintro e wa ⟨rfl, hb1⟩; have HM := HS.out.keep (Below.trans (by first | exact Below.refl _ _ | exact (Below.refl _ _).drew | exact below_drewN (Below.refl _ _) _) hb1); have q0 := HM.c0; have q1 := HM.c1; have q2 := HM.f0; have q3 := HM.f1)
          | (go_at_call 43; refine (U5.out _).mono ?_; rintro e wb ⟨rfl, hb2⟩; have HN := HM.keep hb2; have s0 := HN.c0; have s1 := HN.c1; have s2 := HN.f0; have s3 := HN.f1))
      all_goals
        have HZ := HN.set (x := sLo v 6) (y := sHi v 6)
        clear HN HM q0 q1 q2 q3 s0 s1 s2 s3 hb1 hb2
        go_wp2
        go_roundw
        case rel => exact ⟨6, by omega, rfl, ⟨HZ⟩⟩
        case measure => simp [intOf]
    · have c0 := HS.out.c0
      have c1 := HS.out.c1
      have f0 := HS.out.f0
      have f1 := HS.out.f1
      have d0 := HS.out.d0
      have d1 := HS.out.d1
      have e0 := HS.out.e0
      have e1 := HS.out.e1
      go_wp2
      refine bodyPost_ret_by (v := SV (sLo v 6) (sHi v 6)) (by simp [results, Tryd.results41, go_sem, d0, d1]) rfl ?_
      refine ⟨rfl, HS.out.bl.trans (Below.setCell (Below.setCell (Below.refl _ _) ?_ _) ?_ _)⟩ <;> simp
end Go.Proofs.YtdlfnonlalkjdaaDoor

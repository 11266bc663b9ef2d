/- natural: quotients, deferred calls. -/
import Derived.Test.YtdlfnonlalkjdaaGreatDoorNA
import Derived.Test.YtdlfnonlalkjdaaGreatDoorMath
namespace Go.Proofs.YtdlfnonlalkjdaaGreatDoor
open Go.RowKit M
theorem u64_or_join (hi lo : Int) (h0 : 0 ≤ hi) (h1 : hi < 4294967296) (hl0 : 0 ≤ lo) (hl1 : lo < 4294967296) : bits .or .u64 (hi * 4294967296) lo = hi * 4294967296 + lo := by
  rw [u64_or _ _ (by omega) (by omega) (by omega) (by omega), nat_join 32 _ _ (by omega) (by omega)]
  omega
/-- A row of the call's own, of which the first limbs are known. -/
structure OwnB (base : Nat) (w0 wr : World) (g : Nat) (L : List Int) : Prop where
  ok : Ok L
  ge : base ≤ g
  blk : ∃ cur : Array Value, wr.heap[g]? = some (.cells cur 47 (0, 0)) ∧ L.length ≤ cur.size ∧ ∀ i, i < L.length → cur[i]? = some (.int .u32 (L.getD i 0))
  below : Below base w0 wr
theorem OwnB.lt {base : Nat} {w0 wr : World} {g : Nat} {L : List Int} (h : OwnB base w0 wr g L) : g < wr.heap.size := by
  obtain ⟨cur, hg, _⟩ := h.blk; exact (Array.getElem?_eq_some_iff.1 hg).1
theorem OwnB.cell {base : Nat} {w0 wr : World} {g : Nat} {L : List Int} (h : OwnB base w0 wr g L) (i : Nat) (hi : i < L.length) : wr.cell? ⟨g, i, none⟩ = some (.int .u32 (L.getD i 0)) := by
  obtain ⟨cur, hg, _, hc⟩ := h.blk
  rw [cell_of_row wr g i cur 47 (0, 0) hg]; exact hc i hi
theorem OwnB.free {base : Nat} {w0 wr : World} {g : Nat} {L : List Int} (h : OwnB base w0 wr g L) (i : Nat) : wr.frozen? ⟨g, i, none⟩ = false := by
  obtain ⟨cur, hg, _⟩ := h.blk; exact frozen_of_row wr g i cur 47 hg
theorem OwnB.store {base : Nat} {w0 wr : World} {g : Nat} {L : List Int} (h : OwnB base w0 wr g L) (j : Nat) {x : Int} (h0 : 0 ≤ x) (h1 : x < 4294967296) : OwnB base w0 (wr.setCell ⟨g, j, none⟩ (.int .u32 x)) g (L.set j x) := by
  obtain ⟨cur, hg, hs, hc⟩ := h.blk
  refine ⟨h.ok.set j h0 h1, h.ge, ⟨cur.setIfInBounds j (.int .u32 x), heap_setCell_same wr g j cur 47 _ hg, by simpa using hs, fun i hi => ?_⟩, h.below.setCell h.ge _⟩
  simp only [List.length_set] at hi
  have hci := hc i hi
  by_cases e : i = j
  · subst e
    rw [Array.getElem?_setIfInBounds_self_of_lt (by omega)]
    simp [List.getD, hi]
  · rw [Array.getElem?_setIfInBounds_ne (by omega), hci]
    simp [List.getD, show ¬ j = i from by omega]
theorem OwnB.drew {base : Nat} {w0 wr : World} {g : Nat} {L : List Int} (h : OwnB base w0 wr g L) (n : Nat) : OwnB base w0 (wr.drewN n) g L := ⟨h.ok, h.ge, h.blk, below_drewN h.below n⟩
theorem OwnB.cells {base : Nat} {w0 wr : World} {g : Nat} {L : List Int} (h : OwnB base w0 wr g L) : CellsK .u32 wr (some ⟨g, 0, none⟩) L := by
  intro _
  refine ⟨_, rfl, h.lt, fun i hi => ?_⟩
  have e : (⟨g, 0, none⟩ : Addr).add i = ⟨g, i, none⟩ := by unfold Addr.add; split <;> simp_all
  rw [e]; exact h.cell i hi
theorem OwnB.take {base : Nat} {w0 wr : World} {g : Nat} {L : List Int} (h : OwnB base w0 wr g L) (k : Nat) : OwnB base w0 wr g (L.take k) := by
  obtain ⟨cur, hg, hs, hc⟩ := h.blk
  refine ⟨h.ok.take k, h.ge, ⟨cur, hg, by rw [List.length_take]; omega, fun i hi => ?_⟩, h.below⟩
  rw [List.length_take] at hi
  rw [hc i (by omega)]; simp [List.getD, show i < k from by omega]
theorem OwnB.of_owns {base g n cap : Nat} {w0 w : World} {l : List Int} (h : w.ownsRow base 47 1 (.slice (some ⟨g, 0, none⟩) n cap) n (l.map (Value.int .u32))) (hl : Ok l) (hb : Below base w0 w) : OwnB base w0 w g l := by
  have hn : l.length = n := by have := h.1; simpa using this
  have hcell := fun i => h.cellAt i
  rcases h.2 with ⟨h', _⟩ | ⟨g', cap', cur, h', hg, hh, hnc, hm, hs, ht⟩
  · simp at h'
  · simp only [Value.slice.injEq, Option.some.injEq, Addr.mk.injEq, and_true, true_and] at h'
    obtain ⟨rfl, rfl⟩ := h'
    refine ⟨hl, hg, ⟨cur, hh, by omega, fun i hi => ?_⟩, hb⟩
    rw [← cell_of_row w g i cur 47 (0, 0) hh, hcell i (by omega)]
    simp [List.getElem?_eq_getElem hi, List.getD]
/-- divideBy with the limbs from k on divided. -/
def DivRel (L : List Int) (d : Int) (k : Nat) (r : Int) (L' : List Int) : Prop :=
  0 ≤ r ∧ r < d ∧ ∃ Q : List Int, L' = L.take k ++ Q ∧ Q.length = L.length - k ∧ val (L.drop k) = d * val Q + r
theorem divRel_step {L : List Int} {d : Int} {k : Nat} {r : Int} {L' : List Int} (hL : Ok L) (hd : d < 4294967296) (h : DivRel L d (k + 1) r L') (hk : k < L.length) :
    L'.getD k 0 = L.getD k 0 ∧ DivRel L d k ((r * 4294967296 + L.getD k 0) % d) (L'.set k ((r * 4294967296 + L.getD k 0) / d)) := by
  obtain ⟨h0, h1, Q, rfl, hQ, hv⟩ := h
  have hx := hL.getD k
  have ht : (L.take k).length = k := by rw [List.length_take]; omega
  refine ⟨by rw [take_snoc L k hk, List.append_assoc, List.getD_eq_getElem?_getD, List.getElem?_append_right (by omega), ht, Nat.sub_self]; rfl, Int.emod_nonneg _ (by omega), Int.emod_lt_of_pos _ (by omega), (r * 4294967296 + L.getD k 0) / d :: Q, ?_, by simp [hQ]; omega, ?_⟩
  · rw [take_snoc L k hk, List.append_assoc, List.set_append_right _ _ (by omega), ht, Nat.sub_self]; rfl
  · rw [drop_step L k hk]
    simp only [val]
    rw [hv]
    have e := Int.mul_ediv_add_emod (r * 4294967296 + L.getD k 0) d
    have e2 : d * ((r * 4294967296 + L.getD k 0) / d + 4294967296 * val Q) = d * ((r * 4294967296 + L.getD k 0) / d) + 4294967296 * (d * val Q) := by
      rw [Int.mul_add, Int.mul_left_comm]
    rw [e2]; omega
end Go.Proofs.YtdlfnonlalkjdaaGreatDoor
namespace Go.Proofs.YtdlfnonlalkjdaaGreatDoor.M
/-- The list R with k limbs from d on replaced by C. -/
def Win (R : List Int) (d k : Nat) (C R' : List Int) : Prop := C.length = k ∧ R' = R.take d ++ C ++ R.drop (d + k)
theorem Win.nil (R : List Int) (d : Nat) : Win R d 0 [] R := ⟨rfl, by simp⟩
theorem Win.len {R : List Int} {d k : Nat} {C R' : List Int} (h : Win R d k C R') (hd : d + k ≤ R.length) : R'.length = R.length := by
  obtain ⟨hC, rfl⟩ := h; simp [hC]; omega
theorem Win.get {R : List Int} {d k : Nat} {C R' : List Int} (h : Win R d k C R') (hd : d + k < R.length) : R'.getD (d + k) 0 = R.getD (d + k) 0 := by
  obtain ⟨hC, rfl⟩ := h
  have hX : (R.take d).length = d := by rw [List.length_take]; omega
  rw [List.getD_eq_getElem?_getD, List.getElem?_append_right (by simp [hC]; omega)]
  simp [hC, Nat.min_eq_left (show d ≤ R.length by omega), List.getD]
theorem Win.set {R : List Int} {d k : Nat} {C R' : List Int} (h : Win R d k C R') (hd : d + k < R.length) (x : Int) : Win R d (k + 1) (C ++ [x]) (R'.set (d + k) x) := by
  obtain ⟨hC, rfl⟩ := h
  have hX : (R.take d).length = d := by rw [List.length_take]; omega
  refine ⟨by simp [hC], ?_⟩
  rw [drop_step R (d + k) (by omega), List.set_append_right _ _ (by simp [hC]; omega)]
  have e : d + k - (R.take d ++ C).length = 0 := by simp [hC, hX]
  rw [e, List.set_cons_zero, Nat.add_assoc]; simp
/-- A window of a window. -/
theorem Win.again {R R1 R2 : List Int} {d k : Nat} {C C' : List Int} (h : Win R d k C R1) (h' : Win R1 d k C' R2) (hd : d + k ≤ R.length) : Win R d k C' R2 ∧ (R1.drop d).take k = C := by
  obtain ⟨hC, rfl⟩ := h
  obtain ⟨hC', rfl⟩ := h'
  have hX : (R.take d).length = d := by rw [List.length_take]; omega
  have e1 : (R.take d ++ C ++ R.drop (d + k)).take d = R.take d := by
    rw [List.append_assoc, List.take_append_of_le_length (by omega), List.take_of_length_le (by omega)]
  have e2 : (R.take d ++ C ++ R.drop (d + k)).drop (d + k) = R.drop (d + k) := by
    rw [List.drop_append_of_le_length (by simp [hC]; omega), List.drop_eq_nil_of_le (by simp [hC]; omega)]; rfl
  have e3 : (R.take d ++ C ++ R.drop (d + k)).drop d = C ++ R.drop (d + k) := by
    rw [List.append_assoc, List.drop_append_of_le_length (by omega), List.drop_eq_nil_of_le (by omega)]; rfl
  refine ⟨⟨hC', by rw [e1, e2]⟩, ?_⟩
  rw [e3, List.take_append_of_le_length (by omega), List.take_of_length_le (by omega)]
theorem Win.val {R R1 : List Int} {d k : Nat} {C : List Int} (h : Win R d k C R1) (hd : d + k ≤ R.length) : val R1 = val (R.take d) + pw d * val C + pw (d + k) * val (R.drop (d + k)) := by
  obtain ⟨hC, rfl⟩ := h
  have hX : (R.take d).length = d := by rw [List.length_take]; omega
  rw [val_append, val_append, List.length_append, hX, hC]
theorem val_win (R : List Int) (d k : Nat) (hd : d + k ≤ R.length) : val R = val (R.take d) + pw d * val ((R.drop d).take k) + pw (d + k) * val (R.drop (d + k)) := by
  have h : Win R d k ((R.drop d).take k) R := ⟨by rw [List.length_take, List.length_drop]; omega, by
    have e : R.drop d = (R.drop d).take k ++ R.drop (d + k) := by rw [← List.drop_drop, List.take_append_drop]
    conv => lhs; rw [← List.take_append_drop d R, e]
    simp⟩
  exact h.val hd
theorem win_get (R : List Int) (d k : Nat) : (R.drop d).getD k 0 = R.getD (d + k) 0 := by simp [List.getD, List.getElem?_drop]
theorem sub2_step (P l x y c b s t : Int) (h : s = t + P * (c + b)) :
    s + P * ((l - (c + x * y) % 4294967296 - b) % 4294967296) = t + P * l - x * (P * y) + 4294967296 * P * ((c + x * y) / 4294967296 + -((l - (c + x * y) % 4294967296 - b) / 4294967296)) := by
  have e1 : (c + x * y) % 4294967296 + 4294967296 * ((c + x * y) / 4294967296) = c + x * y := Int.emod_add_mul_ediv _ _
  generalize (c + x * y) / 4294967296 = u at *
  generalize hm : (c + x * y) % 4294967296 = m at *
  have e2 : (l - m - b) % 4294967296 + 4294967296 * ((l - m - b) / 4294967296) = l - m - b := Int.emod_add_mul_ediv _ _
  generalize (l - m - b) / 4294967296 = v at *
  generalize (l - m - b) % 4294967296 = z at *
  have hz : z = l - m - b - 4294967296 * v := by omega
  have hmm : m = c + x * y - 4294967296 * u := by omega
  have e3 : P * z = P * l - P * c - x * (P * y) - P * b + 4294967296 * P * u - 4294967296 * P * v := by
    rw [hz, hmm]
    simp only [Int.mul_sub, Int.mul_add]
    rw [Int.mul_left_comm P x y, Int.mul_left_comm P 4294967296 u, Int.mul_left_comm P 4294967296 v, ← Int.mul_assoc 4294967296 P u, ← Int.mul_assoc 4294967296 P v]
    omega
  rw [h, e3, Int.mul_add, Int.mul_add, Int.mul_neg]
  omega
theorem addBack_step {R A C : List Int} {d k : Nat} {cy l y : Int} (hC : C.length = k) (hl : R.getD (d + k) 0 = l) (hy : A.getD k 0 = y) (h : val C + pw k * cy = val ((R.drop d).take k) + val (A.take k)) :
    val (C ++ [(l + y + cy) % 4294967296]) + pw (k + 1) * ((l + y + cy) / 4294967296) = val ((R.drop d).take (k + 1)) + val (A.take (k + 1)) := by
  have e := sum_step (pw k) l y cy _ _ h
  rw [val_snoc, hC, val_take_succ', val_take_succ', win_get, hl, hy, pw_succ]
  omega
theorem subTimes_step {R A C : List Int} {d k : Nat} {c b x l y : Int} (hC : C.length = k) (hl : R.getD (d + k) 0 = l) (hy : A.getD k 0 = y) (h : val C = val ((R.drop d).take k) - x * val (A.take k) + pw k * (c + b)) :
    val (C ++ [(l - (c + x * y) % 4294967296 - b) % 4294967296]) = val ((R.drop d).take (k + 1)) - x * val (A.take (k + 1)) + pw (k + 1) * ((c + x * y) / 4294967296 + -((l - (c + x * y) % 4294967296 - b) / 4294967296)) := by
  have e := sub2_step (pw k) l x y c b _ _ h
  rw [val_snoc, hC, val_take_succ', val_take_succ', win_get, hl, hy, pw_succ, Int.mul_add x]
  omega
/-- The guess of a quotient's limb. -/
def gv (high low d : Int) : Int := if high ≥ d then 4294967295 else (high * 4294967296 + low) / d
theorem gv_bounds {h l d : Int} (h0 : 0 ≤ h) (l0 : 0 ≤ l) (l1 : l < 4294967296) (d0 : 0 < d) : 0 ≤ gv h l d ∧ gv h l d < 4294967296 := by
  unfold gv
  split
  · omega
  · refine ⟨Int.ediv_nonneg (by omega) (by omega), Int.ediv_lt_of_lt_mul d0 ?_⟩
    have : (h + 1) * 4294967296 ≤ 4294967296 * d := by omega
    omega
theorem guess_ge {X A : List Int} {n : Nat} (hX : Ok X) (hA : Ok A) (hn : n ≠ 0) (hXn : X.length = n + 1) (hAn : A.length = n) (hd : 0 < A.getD (n - 1) 0) (hV : val X < 4294967296 * val A) :
    val X / val A ≤ gv (X.getD n 0) (X.getD (n - 1) 0) (A.getD (n - 1) 0) := by
  obtain ⟨m, rfl⟩ : ∃ m, n = m + 1 := ⟨n - 1, by omega⟩
  simp only [Nat.add_sub_cancel] at *
  have hX2 : val X = val (X.take m) + pw m * X.getD m 0 + pw (m + 1) * X.getD (m + 1) 0 := by
    have e := val_take_succ X (m + 1) (by omega)
    rw [List.take_of_length_le (by omega), val_take_succ X m (by omega)] at e; exact e
  have hA2 : val A = val (A.take m) + pw m * A.getD m 0 := by
    have e := val_take_succ A m (by omega)
    rw [List.take_of_length_le (by omega)] at e; exact e
  have hp := pw_pos m
  have hx := hX.getD m
  have hh := hX.getD (m + 1)
  have hxl := val_lt (hX.take m)
  rw [List.length_take, Nat.min_eq_left (by omega)] at hxl
  have hal := val_nonneg (hA.take m)
  have hDpos : 0 < val A := by
    have : 0 < pw m * A.getD m 0 := Int.mul_pos hp hd
    omega
  have hVn := val_nonneg hX
  unfold gv
  split
  · have : val X / val A < 4294967296 := Int.ediv_lt_of_lt_mul hDpos (by omega)
    omega
  · refine Int.le_ediv_of_mul_le hd ?_
    have h1 : val X / val A * val A ≤ val X := Int.ediv_mul_le _ (by omega)
    have hq : 0 ≤ val X / val A := Int.ediv_nonneg hVn (by omega)
    generalize val X / val A = q at *
    have h2 : q * (pw m * A.getD m 0) ≤ q * val A := Int.mul_le_mul_of_nonneg_left (by omega) hq
    have h3 : pw m * (q * A.getD m 0) < pw m * (X.getD (m + 1) 0 * 4294967296 + X.getD m 0 + 1) := by
      have e1 : pw m * (q * A.getD m 0) = q * (pw m * A.getD m 0) := Int.mul_left_comm _ _ _
      have e2 : pw m * (X.getD (m + 1) 0 * 4294967296 + X.getD m 0 + 1) = pw (m + 1) * X.getD (m + 1) 0 + pw m * X.getD m 0 + pw m := by
        rw [Int.mul_add, Int.mul_add, pw_succ, Int.mul_one, Int.mul_comm (X.getD (m + 1) 0) 4294967296, Int.mul_left_comm, Int.mul_assoc]
      omega
    have h4 := Int.lt_of_mul_lt_mul_left h3 (by omega)
    omega
end Go.Proofs.YtdlfnonlalkjdaaGreatDoor.M
namespace Go.Proofs.YtdlfnonlalkjdaaGreatDoor
open Go.RowKit M
theorem make_any (x : Nat) (w : World) (hx : x < 18446744073709551616) : Calls Tryz.prog 71 #[.int .u64 x] w (RetNat w x) := by
  have hb0 : (0 : Int) ≤ (x : Int) % 4294967296 ∧ (x : Int) % 4294967296 < 4294967296 := by omega
  have hb1 : (0 : Int) ≤ (x : Int) / 4294967296 ∧ (x : Int) / 4294967296 < 4294967296 := by omega
  have hv : val [(x : Int) % 4294967296, (x : Int) / 4294967296] = x := by simp only [val]; omega
  have hok : Ok [(x : Int) % 4294967296, (x : Int) / 4294967296] := Ok.cons hb0.1 hb0.2 (Ok.cons hb1.1 hb1.2 Ok.nil)
  have hown := World.ownsRow_lit (e := 47) (size := 1) (base := w.heap.size) w #[.int .u32 ((x : Int) % 4294967296), .int .u32 ((x : Int) / 4294967296)] 2 (Nat.le_refl _) (by unfold maxLen; omega) rfl
  have hcells : CellsK .u32 (w.alloc (.cells #[.int .u32 ((x : Int) % 4294967296), .int .u32 ((x : Int) / 4294967296)] 47)) (some ⟨w.heap.size, 0, none⟩) [(x : Int) % 4294967296, (x : Int) / 4294967296] := cells_of_owns hown
  have htrim := trim_any _ _ 2 2 _ rfl (Nat.le_refl _) (by unfold maxLen; omega) hok hcells
  have hrd := Rd.trimmed (s := x) hcells hok (cap := 2) (by simp) (by unfold maxLen; omega) hv
  have hbel : Below w.heap.size w (w.alloc (.cells #[.int .u32 ((x : Int) % 4294967296), .int .u32 ((x : Int) / 4294967296)] 47)) := (Below.refl _ _).alloc (Nat.le_refl _) _
  have HT := Bx.mk htrim
  have HR := Bx.mk hrd
  have hx' : (x : Int) < 18446744073709551616 := by omega
  clear htrim hrd hown hcells hok hv hx
  go_enter Tryz.func71, Tryz.ntmps71
  go_wp2_with fail
  refine HT.out.mono ?_
  rintro e w2 ⟨rfl, rfl⟩
  go_wp2
  go_ret
  exact ⟨_, rfl, HR.out, hbel⟩
theorem OwnB.but {base : Nat} {w0 wr w' : World} {g g' : Nat} {L : List Int} (h : OwnB base w0 wr g L) (hb : But g' wr w') (hg : g ≠ g') (hbel : Below base w0 w') : OwnB base w0 w' g L := by
  obtain ⟨cur, hh, hs, hc⟩ := h.blk
  exact ⟨h.ok, h.ge, ⟨cur, by rw [hb.2 g hg]; exact hh, hs, hc⟩, hbel⟩
end Go.Proofs.YtdlfnonlalkjdaaGreatDoor
namespace Go.Proofs.YtdlfnonlalkjdaaGreatDoor
open Go.RowKit M
/-- takeOut within its loop: t times the divisor have been taken out, b says that it was too often. -/
def OutRel (R A : List Int) (d n : Nat) (t b : Int) (R' : List Int) : Prop :=
  0 ≤ t ∧ t < 4294967296 ∧ 0 ≤ b ∧ b ≤ 1 ∧ val ((R.drop d).take (n + 1)) / val A ≤ t ∧ ∃ C : List Int, Win R d (n + 1) C R' ∧ val C = val ((R.drop d).take (n + 1)) - t * val A + pw (n + 1) * b
theorem ok_of_win {R R' C : List Int} {d k : Nat} (h : Win R d k C R') (hR : Ok R') : Ok C := by
  obtain ⟨_, rfl⟩ := h; exact hR.left.right
theorem outRel_done {R A R' : List Int} {d n : Nat} {t : Int} (hR' : Ok R') (hA : 0 < val A) (h : OutRel R A d n t 0 R') :
    t = val ((R.drop d).take (n + 1)) / val A ∧ ∃ C : List Int, Win R d (n + 1) C R' ∧ val C = val ((R.drop d).take (n + 1)) % val A := by
  obtain ⟨_, _, _, _, hq, C, hw, hv⟩ := h
  have hc := val_nonneg (ok_of_win hw hR')
  rw [Int.mul_zero, Int.add_zero] at hv
  generalize val ((R.drop d).take (n + 1)) = V at *
  have h1 : t ≤ V / val A := Int.le_ediv_of_mul_le hA (by omega)
  have ht : t = V / val A := by omega
  have he := Int.emod_add_mul_ediv V (val A)
  refine ⟨ht, C, hw, ?_⟩
  rw [hv, ht, Int.mul_comm]; omega
theorem outRel_pos {R A R' : List Int} {d n : Nat} {t : Int} (hR' : Ok R') (hR : Ok R) (hA : 0 < val A) (h : OutRel R A d n t 1 R') : val ((R.drop d).take (n + 1)) / val A ≤ t - 1 ∧ 1 ≤ t := by
  obtain ⟨h0, _, _, _, hq, C, hw, hv⟩ := h
  have hc := val_lt (ok_of_win hw hR')
  rw [hw.1] at hc
  have hV := val_nonneg ((hR.drop d).take (n + 1))
  generalize val ((R.drop d).take (n + 1)) = V at *
  have hneg : V - t * val A < 0 := by omega
  have h1 : V / val A < t := Int.ediv_lt_of_lt_mul hA (by omega)
  have h2 : 0 ≤ V / val A := Int.ediv_nonneg hV (by omega)
  omega
theorem outRel_back {R A R1 R2 C2 : List Int} {d n : Nat} {t cy : Int} (hd : d + n + 1 ≤ R.length) (hR : Ok R) (hR1 : Ok R1) (hA : 0 < val A) (h : OutRel R A d n t 1 R1) (c0 : 0 ≤ cy) (c1 : cy ≤ 1) (hw2 : Win R1 d (n + 1) C2 R2) (hv2 : val C2 + pw (n + 1) * cy = val ((R1.drop d).take (n + 1)) + val A) :
    OutRel R A d n (t - 1) (1 - cy) R2 := by
  have hp := outRel_pos hR1 hR hA h
  obtain ⟨h0, h1, _, _, hq, C, hw, hv⟩ := h
  have ha := hw.again hw2 (by omega)
  rw [ha.2] at hv2
  refine ⟨by omega, by omega, by omega, by omega, hp.1, C2, ha.1, ?_⟩
  rw [Int.sub_mul, Int.mul_sub, Int.mul_one, Int.one_mul]
  rw [Int.mul_one] at hv
  omega
theorem But.trans {g : Nat} {w w1 w2 : World} (h : But g w w1) (k : But g w1 w2) : But g w w2 := ⟨Nat.le_trans h.1 k.1, fun i hi => (k.2 i hi).trans (h.2 i hi)⟩
end Go.Proofs.YtdlfnonlalkjdaaGreatDoor
namespace Go.Proofs.YtdlfnonlalkjdaaGreatDoor
open Go.RowKit M
theorem shl_low (x : Int) (s : Nat) (hs : s < 32) : x * 2 ^ s % 4294967296 = 2 ^ s * (x % 2 ^ (32 - s)) := by
  have e32 : (4294967296 : Int) = 2 ^ s * 2 ^ (32 - s) := by rw [← Int.pow_add, show s + (32 - s) = 32 from by omega]; rfl
  have hp : (0 : Int) < 2 ^ s := Int.pow_pos (by omega)
  rw [e32, Int.mul_comm x, Int.mul_emod_mul_of_pos _ _ hp]
theorem two_pow_lt (s : Nat) (hs : s < 32) : (2 : Int) ^ s ≤ 2147483648 := by
  have : 2 ^ s ≤ 2 ^ 31 := Nat.pow_le_pow_right (by omega) (by omega)
  have h2 : ((2 ^ s : Nat) : Int) ≤ ((2 ^ 31 : Nat) : Int) := by omega
  simpa using h2
theorem shl_or (h x : Int) (s : Nat) (hs : s < 32) (h0 : 0 ≤ h) (h1 : h < 2 ^ s) : bits .or .u32 h (x * 2 ^ s % 4294967296) = h + x * 2 ^ s % 4294967296 := by
  have hlt := two_pow_lt s hs
  obtain ⟨H, rfl⟩ := Int.eq_ofNat_of_zero_le h0
  obtain ⟨Y, hY⟩ := Int.eq_ofNat_of_zero_le (Int.emod_nonneg (x * 2 ^ s) (by omega : (4294967296 : Int) ≠ 0))
  have hY1 : (Y : Int) < 4294967296 := by rw [← hY]; exact Int.emod_lt_of_pos _ (by omega)
  have hz : (Y : Int) % 2 ^ s = 0 := by rw [← hY, shl_low x s hs]; exact Int.mul_emod_right _ _
  have hz2 : Y % 2 ^ s = 0 := by
    have e : ((Y % 2 ^ s : Nat) : Int) = 0 := by push_cast; exact hz
    exact Int.ofNat_eq_zero.1 e
  have hH : H < 2 ^ s := by
    have e : (H : Int) < ((2 ^ s : Nat) : Int) := by push_cast; exact h1
    exact Int.ofNat_lt.1 e
  rw [hY, u32_or_nat H Y (by omega) (by omega), Nat.or_comm, nat_join s Y H hz2 hH, Int.natCast_add, Int.add_comm]
theorem shl_bounds (x : Int) (s : Nat) (hs : s < 32) (x0 : 0 ≤ x) (x1 : x < 4294967296) : 0 ≤ x * 2 ^ s ∧ x * 2 ^ s ≤ 9223372034707292160 ∧ x * 2 ^ s / 4294967296 < 2 ^ s := by
  have hlt := two_pow_lt s hs
  have hp : (0 : Int) < 2 ^ s := Int.pow_pos (by omega)
  have h1 : x * 2 ^ s ≤ 4294967295 * 2 ^ s := Int.mul_le_mul_of_nonneg_right (by omega) (by omega)
  exact ⟨Int.mul_nonneg x0 (by omega), by omega, by omega⟩
theorem shl_step (P x c h t : Int) (s : Nat) (hv : c + P * h = t) : c + P * (h + x * 2 ^ s % 4294967296) + 4294967296 * P * (x * 2 ^ s / 4294967296) = t + P * (x * 2 ^ s) := by
  have e : x * 2 ^ s % 4294967296 + 4294967296 * (x * 2 ^ s / 4294967296) = x * 2 ^ s := Int.emod_add_mul_ediv _ _
  have e2 : P * (x * 2 ^ s % 4294967296) + 4294967296 * P * (x * 2 ^ s / 4294967296) = P * (x * 2 ^ s) := by
    rw [← e, Int.mul_add, e, Int.mul_comm 4294967296 P, Int.mul_assoc]
  rw [Int.mul_add]; omega
theorem shl_add_lt (h x : Int) (s : Nat) (hs : s < 32) (h0 : 0 ≤ h) (h1 : h < 2 ^ s) : 0 ≤ h + x * 2 ^ s % 4294967296 ∧ h + x * 2 ^ s % 4294967296 < 4294967296 := by
  have e32 : (4294967296 : Int) = 2 ^ s * 2 ^ (32 - s) := by rw [← Int.pow_add, show s + (32 - s) = 32 from by omega]; rfl
  have hp : (0 : Int) < 2 ^ s := Int.pow_pos (by omega)
  have hp2 : (0 : Int) < 2 ^ (32 - s) := Int.pow_pos (by omega)
  have hl := shl_low x s hs
  have h2 := Int.emod_nonneg x (show (2 : Int) ^ (32 - s) ≠ 0 by omega)
  have h3 := Int.emod_lt_of_pos x hp2
  have h4 : 2 ^ s * (x % 2 ^ (32 - s) + 1) ≤ 2 ^ s * 2 ^ (32 - s) := Int.mul_le_mul_of_nonneg_left (by omega) (by omega)
  rw [Int.mul_add, Int.mul_one, ← e32] at h4
  have h5 : 0 ≤ 2 ^ s * (x % 2 ^ (32 - s)) := Int.mul_nonneg (by omega) h2
  omega
theorem sb_step (v x high : Int) (s : Nat) (x0 : 0 ≤ x) (x1 : x < 4294967296) (hm : v % 2 ^ s = high % 2 ^ s) : (x + 4294967296 * v) / 2 ^ s = (high * 4294967296 + x) / 2 ^ s % 4294967296 + 4294967296 * (v / 2 ^ s) := by
  have hp : (0 : Int) < 2 ^ s := Int.pow_pos (by omega)
  generalize (2 : Int) ^ s = T at *
  have e1 := Int.emod_add_mul_ediv v T
  have e2 := Int.emod_add_mul_ediv high T
  have b0 := Int.emod_nonneg high (show T ≠ 0 by omega)
  have b1 := Int.emod_lt_of_pos high hp
  rw [hm] at e1
  generalize high % T = b at *
  generalize v / T = vq at *
  generalize high / T = a at *
  have f1 : x + 4294967296 * v = x + 4294967296 * b + T * (4294967296 * vq) := by rw [← e1, Int.mul_add, Int.mul_left_comm T]; omega
  have f2 : high * 4294967296 + x = x + 4294967296 * b + T * (4294967296 * a) := by rw [← e2, Int.mul_left_comm T]; omega
  rw [f1, f2, Int.add_mul_ediv_left _ _ (by omega), Int.add_mul_ediv_left _ _ (by omega)]
  have g0 : 0 ≤ (x + 4294967296 * b) / T := Int.ediv_nonneg (by omega) (by omega)
  have g1 : (x + 4294967296 * b) / T < 4294967296 := by
    refine Int.ediv_lt_of_lt_mul hp ?_
    have h4 : 4294967296 * (b + 1) ≤ 4294967296 * T := by omega
    omega
  omega
theorem sb_mod (h v : Int) (s : Nat) (hs : s < 32) : (h + 4294967296 * v) % 2 ^ s = h % 2 ^ s := by
  have e32 : (4294967296 : Int) = 2 ^ s * 2 ^ (32 - s) := by rw [← Int.pow_add, show s + (32 - s) = 32 from by omega]; rfl
  rw [e32, Int.mul_assoc, Int.add_mul_emod_self_left]
theorem set_low (Q : List Int) (k : Nat) (x : Int) : (List.replicate (k + 1) 0 ++ Q).set k x = List.replicate k 0 ++ x :: Q := by
  rw [List.replicate_succ', List.append_assoc, List.set_append_right _ _ (by simp)]; simp
end Go.Proofs.YtdlfnonlalkjdaaGreatDoor
namespace Go.Proofs.YtdlfnonlalkjdaaGreatDoor.M
/-- A part of a list whose value is small has the value of the list. -/
theorem val_take_of_lt {L : List Int} {n : Nat} (hL : Ok L) (h : val L < pw n) : val (L.take n) = val L ∧ ∀ m, n ≤ m → val (L.drop m) = 0 := by
  have key : ∀ m, n ≤ m → val (L.drop m) = 0 := by
    intro m hm
    have h0 := val_nonneg (hL.drop m)
    by_cases e : val (L.drop m) = 0
    · exact e
    · exfalso
      have h1 : val L = val (L.take m) + pw (L.take m).length * val (L.drop m) := by
        conv => lhs; rw [← List.take_append_drop m L]
        rw [val_append]
      by_cases hl : L.length ≤ m
      · rw [List.drop_eq_nil_of_le hl] at e; exact e rfl
      · rw [List.length_take, Nat.min_eq_left (by omega)] at h1
        have h2 := val_nonneg (hL.take m)
        have h3 := pw_le hm
        have h4 := pw_pos m
        have h5 : pw m * 1 ≤ pw m * val (L.drop m) := Int.mul_le_mul_of_nonneg_left (by omega) (by omega)
        omega
  refine ⟨?_, key⟩
  have h1 : val L = val (L.take n) + pw (L.take n).length * val (L.drop n) := by
    conv => lhs; rw [← List.take_append_drop n L]
    rw [val_append]
  rw [key n (Nat.le_refl _), Int.mul_zero, Int.add_zero] at h1
  exact h1.symm
/-- The divisor, shifted so that its highest bit is set: its highest limb but one is above 0, the one above is 0. -/
theorem shifted_top {B RB : List Int} {n s t : Nat} {top : Int} (hB : Ok B) (hRB : Ok RB) (hn : B.length = n + 1) (hRn : RB.length = n + 2) (htop : B.getD n 0 = top) (h1 : 1 ≤ top) (hbl : top < 2 ^ t) (hst : s + t = 32)
    (hv : val RB = val B * 2 ^ s) : val RB < pw (n + 1) ∧ 0 < (RB.take (n + 1)).getD n 0 := by
  have hp : (0 : Int) < 2 ^ s := Int.pow_pos (by omega)
  have e32 : (2 : Int) ^ t * 2 ^ s = 4294967296 := by rw [← Int.pow_add, show t + s = 32 from by omega]; rfl
  have hB2 : val B = val (B.take n) + pw n * top := by
    have e := val_take_succ B n (by omega)
    rw [List.take_of_length_le (by omega), htop] at e; exact e
  have hl := val_lt (hB.take n)
  rw [List.length_take, Nat.min_eq_left (by omega)] at hl
  have hl0 := val_nonneg (hB.take n)
  have hpn := pw_pos n
  have hlt : val RB < pw (n + 1) := by
    have a1 : pw n * (top + 1) ≤ pw n * 2 ^ t := Int.mul_le_mul_of_nonneg_left (by omega) (by omega)
    rw [Int.mul_add, Int.mul_one] at a1
    have a2 : val B < pw n * 2 ^ t := by omega
    have a3 : val B * 2 ^ s < pw n * 2 ^ t * 2 ^ s := Int.mul_lt_mul_of_pos_right a2 hp
    rw [Int.mul_assoc, e32] at a3
    rw [hv, pw_succ, Int.mul_comm 4294967296]; exact a3
  refine ⟨hlt, ?_⟩
  have hD := (val_take_of_lt hRB hlt).1
  have hDok := hRB.take (n + 1)
  have hDlen : (RB.take (n + 1)).length = n + 1 := by rw [List.length_take]; omega
  have hD2 : val (RB.take (n + 1)) = val ((RB.take (n + 1)).take n) + pw n * (RB.take (n + 1)).getD n 0 := by
    have e := val_take_succ (RB.take (n + 1)) n (by omega)
    rw [List.take_of_length_le (show (RB.take (n + 1)).length ≤ n + 1 by omega)] at e; exact e
  have hlo := val_lt (hDok.take n)
  rw [List.length_take, hDlen, Nat.min_eq_left (by omega)] at hlo
  have h0 := (hDok.getD n).1
  by_cases e : (RB.take (n + 1)).getD n 0 = 0
  · exfalso
    rw [e, Int.mul_zero, Int.add_zero] at hD2
    have a1 : pw n * 1 ≤ pw n * top := Int.mul_le_mul_of_nonneg_left h1 (by omega)
    have a2 : val B * 1 ≤ val B * 2 ^ s := Int.mul_le_mul_of_nonneg_left (by omega) (by omega)
    omega
  · omega
/-- The long division with k limbs of the quotient still to come. -/
def LdRel (RA D : List Int) (k : Nat) (R Q : List Int) : Prop := R.length = RA.length ∧ val R + val D * (pw k * val Q) = val RA ∧ val R < pw k * val D
theorem ldRel_step {RA D R Q R' C : List Int} {k n : Nat} {t : Int} (hR : Ok R) (hR' : Ok R') (hD : Ok D) (hDn : D.length = n) (hDpos : 0 < val D) (h : LdRel RA D (k + 1) R Q) (hkn : k + n + 1 ≤ R.length)
    (ht : t = val ((R.drop k).take (n + 1)) / val D) (hw : Win R k (n + 1) C R') (hC : val C = val ((R.drop k).take (n + 1)) % val D) : LdRel RA D k R' (t :: Q) := by
  obtain ⟨h1, h2, h3⟩ := h
  have hlen := hw.len (by omega)
  have hz : val (R.drop (k + (n + 1))) = 0 := by
    refine (val_take_of_lt (n := k + 1 + n) hR ?_).2 _ (by omega)
    have a1 := val_lt hD
    rw [hDn] at a1
    have a2 : pw (k + 1) * val D ≤ pw (k + 1) * pw n := Int.mul_le_mul_of_nonneg_left (by omega) (by have := pw_pos (k + 1); omega)
    rw [← pw_add] at a2
    omega
  have hvR := val_win R k (n + 1) (by omega)
  have hvR' := hw.val (by omega)
  rw [hz, Int.mul_zero, Int.add_zero] at hvR hvR'
  have he := Int.emod_add_mul_ediv (val ((R.drop k).take (n + 1))) (val D)
  rw [← ht, ← hC] at he
  have hclt := Int.emod_lt_of_pos (val ((R.drop k).take (n + 1))) hDpos
  rw [← hC] at hclt
  generalize val ((R.drop k).take (n + 1)) = V at *
  refine ⟨hlen.trans h1, ?_, ?_⟩
  · have e1 : val D * (pw k * val (t :: Q)) = pw k * (val D * t) + val D * (pw (k + 1) * val Q) := by
      simp only [val]
      rw [Int.mul_add (pw k), Int.mul_add (val D), Int.mul_left_comm (val D) (pw k) t, pw_succ, Int.mul_left_comm (pw k) 4294967296, Int.mul_assoc 4294967296]
    have e2 : pw k * V = pw k * val C + pw k * (val D * t) := by rw [← he, Int.mul_add]
    rw [e1, hvR']; rw [hvR] at h2; omega
  · rw [hvR']
    have a1 := val_lt (hR.take k)
    rw [List.length_take, Nat.min_eq_left (by omega)] at a1
    have a2 : pw k * (val C + 1) ≤ pw k * val D := Int.mul_le_mul_of_nonneg_left (by omega) (by have := pw_pos k; omega)
    rw [Int.mul_add, Int.mul_one] at a2
    omega
theorem ldRel_small {RA D R Q : List Int} {k n : Nat} (hR : Ok R) (hD : Ok D) (h : LdRel RA D (k + 1) R Q) (hkn : k + n + 1 ≤ R.length) : val ((R.drop k).take (n + 1)) < 4294967296 * val D := by
  obtain ⟨_, _, h3⟩ := h
  have hvR := val_win R k (n + 1) (by omega)
  have a1 := val_nonneg (hR.take k)
  have a2 := val_nonneg (hR.drop (k + (n + 1)))
  have a3 : 0 ≤ pw (k + (n + 1)) * val (R.drop (k + (n + 1))) := Int.mul_nonneg (by have := pw_pos (k + (n + 1)); omega) a2
  have a4 : pw k * val ((R.drop k).take (n + 1)) < pw k * (4294967296 * val D) := by
    rw [pw_succ, Int.mul_comm 4294967296, Int.mul_assoc] at h3
    omega
  exact Int.lt_of_mul_lt_mul_left a4 (by have := pw_pos k; omega)
theorem ldRel_start {A B RA D : List Int} {n m s : Nat} (hA : Ok A) (hB : Ok B) (lB : B.getLast? ≠ some 0) (hn : B.length = n) (hm : A.length = m) (hn0 : n ≠ 0) (hnm : n ≤ m) (hRA : val RA = val A * 2 ^ s) (hD : val D = val B * 2 ^ s) : LdRel RA D (m - n + 1) RA [] := by
  refine ⟨rfl, by simp [val], ?_⟩
  have hp : (0 : Int) < 2 ^ s := Int.pow_pos (by omega)
  have h1 := val_ge hB lB (by intro e; subst e; simp at hn; omega)
  rw [hn] at h1
  have h2 := val_lt hA
  rw [hm] at h2
  have h3 : pw (m - n + 1) * pw (n - 1) ≤ pw (m - n + 1) * val B := Int.mul_le_mul_of_nonneg_left h1 (by have := pw_pos (m - n + 1); omega)
  rw [← pw_add, show m - n + 1 + (n - 1) = m from by omega] at h3
  rw [hRA, hD, ← Int.mul_assoc]
  exact Int.mul_lt_mul_of_pos_right (by omega) hp
theorem ldRel_end {A B RA D R Q : List Int} {s : Nat} (hA : Ok A) (hR : Ok R) (hB : 0 < val B) (hRA : val RA = val A * 2 ^ s) (hD : val D = val B * 2 ^ s) (h : LdRel RA D 0 R Q) :
    val Q = val A / val B ∧ val R / 2 ^ s = val A % val B := by
  obtain ⟨_, h2, h3⟩ := h
  have hp : (0 : Int) < 2 ^ s := Int.pow_pos (by omega)
  rw [pw_zero, Int.one_mul] at h2 h3
  rw [hRA, hD] at h2
  rw [hD] at h3
  have h0 := val_nonneg hR
  generalize (2 : Int) ^ s = T at *
  have e : val R = (val A - val B * val Q) * T := by
    rw [Int.sub_mul, Int.mul_assoc, Int.mul_comm (val Q) T, ← Int.mul_assoc]
    omega
  rw [e] at h0 h3
  have r0 : 0 ≤ val A - val B * val Q := by
    by_cases hneg : val A - val B * val Q < 0
    · have : (val A - val B * val Q) * T < 0 := Int.mul_neg_of_neg_of_pos hneg hp
      omega
    · omega
  have r1 : val A - val B * val Q < val B := Int.lt_of_mul_lt_mul_right h3 (by omega)
  have key := Int.ediv_emod_unique (a := val A) (b := val B) (r := val A - val B * val Q) (q := val Q) hB
  have hk := key.2 ⟨by omega, r0, r1⟩
  refine ⟨hk.1.symm, ?_⟩
  rw [e, Int.mul_ediv_cancel _ (by omega)]; exact hk.2.symm
end Go.Proofs.YtdlfnonlalkjdaaGreatDoor.M
namespace Go.Proofs.YtdlfnonlalkjdaaGreatDoor
open Go.RowKit M
/-- A quotient and a remainder come back. -/
def RetPair (w : World) (q r : Nat) (e : Ending) (w' : World) : Prop := ∃ v1 v2, e = .returned (.tuple #[v1, v2]) ∧ Rd w' v1 (limbs q) ∧ Rd w' v2 (limbs r) ∧ Below w.heap.size w w'
theorem OwnB.of_wrote {w wr : World} {M : Nat} {L : List Int} (h : Wrote w wr M L) : OwnB w.heap.size w wr w.heap.size L := OwnB.of_owns (n := M) (cap := M) h.own h.ok h.below
theorem OwnB.later {base : Nat} {w0 wr w' : World} {g : Nat} {L : List Int} (h : OwnB base w0 wr g L) (hb : Below wr.heap.size wr w') (hbb : base ≤ wr.heap.size) : OwnB base w0 w' g L := by
  obtain ⟨cur, hg, hs, hc⟩ := h.blk
  exact ⟨h.ok, h.ge, ⟨cur, by rw [hb.block g h.lt]; exact hg, hs, hc⟩, h.below.trans (hb.mono hbb)⟩
/-- The state of the long division. -/
structure LdSt (w wr : World) (g2 g3 : Nat) (RA D : List Int) (M k : Nat) (R Q : List Int) : Prop where
  rest : OwnB w.heap.size w wr w.heap.size R
  quo : OwnB w.heap.size w wr g3 (List.replicate k 0 ++ Q)
  div : CellsK .u32 wr (some ⟨g2, 0, none⟩) D
  len : Q.length + k = M
  rel : LdRel RA D k R Q
end Go.Proofs.YtdlfnonlalkjdaaGreatDoor
namespace Go.Proofs.YtdlfnonlalkjdaaGreatDoor
open Go.RowKit M
theorem RetPair.after {w w1 : World} {q r : Nat} {e : Ending} {w' : World} (hb : Below w.heap.size w w1) (h : RetPair w1 q r e w') : RetPair w q r e w' :=
  let ⟨v1, v2, he, h1, h2, hb'⟩ := h; ⟨v1, v2, he, h1, h2, hb.trans (hb'.mono hb.size)⟩
end Go.Proofs.YtdlfnonlalkjdaaGreatDoor
namespace Go.Proofs.YtdlfnonlalkjdaaGreatDoor.M
/-- All decimal digits as letters, the least one first. -/
def dig (n : Nat) : List Int := if h : n = 0 then [] else ((48 + n % 10 : Nat) : Int) :: dig (n / 10)
termination_by n
decreasing_by omega
end Go.Proofs.YtdlfnonlalkjdaaGreatDoor.M
namespace Go.Proofs.YtdlfnonlalkjdaaGreatDoor
open Go.RowKit M
/-- A row of bytes of the call's own, of which the first ones are known. -/
structure OwnY (base : Nat) (w0 wr : World) (g : Nat) (T : List Int) : Prop where
  ge : base ≤ g
  blk : ∃ cur : Array Value, wr.heap[g]? = some (.cells cur 5 (0, 0)) ∧ T.length ≤ cur.size ∧ ∀ i, i < T.length → cur[i]? = some (.int .u8 (T.getD i 0))
  below : Below base w0 wr
theorem OwnY.lt {base : Nat} {w0 wr : World} {g : Nat} {T : List Int} (h : OwnY base w0 wr g T) : g < wr.heap.size := by
  obtain ⟨cur, hg, _⟩ := h.blk; exact (Array.getElem?_eq_some_iff.1 hg).1
theorem OwnY.cell {base : Nat} {w0 wr : World} {g : Nat} {T : List Int} (h : OwnY base w0 wr g T) (i : Nat) (hi : i < T.length) : wr.cell? ⟨g, i, none⟩ = some (.int .u8 (T.getD i 0)) := by
  obtain ⟨cur, hg, _, hc⟩ := h.blk
  rw [cell_of_row wr g i cur 5 (0, 0) hg]; exact hc i hi
theorem OwnY.free {base : Nat} {w0 wr : World} {g : Nat} {T : List Int} (h : OwnY base w0 wr g T) (i : Nat) : wr.frozen? ⟨g, i, none⟩ = false := by
  obtain ⟨cur, hg, _⟩ := h.blk; exact frozen_of_row wr g i cur 5 hg
theorem OwnY.store {base : Nat} {w0 wr : World} {g : Nat} {T : List Int} (h : OwnY base w0 wr g T) (j : Nat) (x : Int) : OwnY base w0 (wr.setCell ⟨g, j, none⟩ (.int .u8 x)) g (T.set j x) := by
  obtain ⟨cur, hg, hs, hc⟩ := h.blk
  refine ⟨h.ge, ⟨cur.setIfInBounds j (.int .u8 x), heap_setCell_same wr g j cur 5 _ hg, by simpa using hs, fun i hi => ?_⟩, h.below.setCell h.ge _⟩
  simp only [List.length_set] at hi
  have hci := hc i hi
  by_cases e : i = j
  · subst e
    rw [Array.getElem?_setIfInBounds_self_of_lt (by omega)]
    simp [List.getD, hi]
  · rw [Array.getElem?_setIfInBounds_ne (by omega), hci]
    simp [List.getD, show ¬ j = i from by omega]
theorem OwnY.drew {base : Nat} {w0 wr : World} {g : Nat} {T : List Int} (h : OwnY base w0 wr g T) : OwnY base w0 wr.drew g T := ⟨h.ge, h.blk, h.below.drew⟩
theorem OwnY.take {base : Nat} {w0 wr : World} {g : Nat} {T : List Int} (h : OwnY base w0 wr g T) (k : Nat) : OwnY base w0 wr g (T.take k) := by
  obtain ⟨cur, hg, hs, hc⟩ := h.blk
  refine ⟨h.ge, ⟨cur, hg, by rw [List.length_take]; omega, fun i hi => ?_⟩, h.below⟩
  rw [List.length_take] at hi
  rw [hc i (by omega)]; simp [List.getD, show i < k from by omega]
theorem OwnY.of_owns {base g n cap : Nat} {w0 w : World} {l : List Int} (h : w.ownsRow base 5 1 (.slice (some ⟨g, 0, none⟩) n cap) n (l.map (Value.int .u8))) (hb : Below base w0 w) : OwnY base w0 w g l := by
  have hn : l.length = n := by have := h.1; simpa using this
  have hcell := fun i => h.cellAt i
  rcases h.2 with ⟨h', _⟩ | ⟨g', cap', cur, h', hg, hh, hnc, hm, hs, ht⟩
  · simp at h'
  · simp only [Value.slice.injEq, Option.some.injEq, Addr.mk.injEq, and_true, true_and] at h'
    obtain ⟨rfl, rfl⟩ := h'
    refine ⟨hg, ⟨cur, hh, by omega, fun i hi => ?_⟩, hb⟩
    rw [← cell_of_row w g i cur 5 (0, 0) hh, hcell i (by omega)]
    simp [List.getElem?_eq_getElem hi, List.getD]
end Go.Proofs.YtdlfnonlalkjdaaGreatDoor
namespace Go.Proofs.YtdlfnonlalkjdaaGreatDoor
open Go.RowKit M
theorem OwnB.grown {b : Nat} {w0 w w1 : World} {g : Nat} {L : List Int} {o : Obj} {row : Option Nat} (hO : OwnB b w0 w g L) (hg : (w.alloc o).grownBy w1 row) (hne : row ≠ some g) (hb : b ≤ w.heap.size) (hrow : ∀ k, row = some k → b ≤ k) : OwnB b w0 w1 g L := by
  obtain ⟨cur, hh, hs, hc⟩ := hO.blk
  have hlt := hO.lt
  refine ⟨hO.ok, hO.ge, ⟨cur, ?_, hs, hc⟩, (hO.below.alloc hb o).grown hg (by simp; omega) hrow⟩
  rw [hg.block g (by simp; omega) (by intro e; exact hne e.symm), Below.heap_alloc w o g hlt]; exact hh
theorem OwnB.trimmed {base : Nat} {w0 wr : World} {g : Nat} {L : List Int} {s : Nat} (h : OwnB base w0 wr g L) (hv : val L = s) : OwnB base w0 wr g (limbs s) ∧ (limbs s).length ≤ L.length ∧ (trimL L).length = (limbs s).length := by
  obtain ⟨k, hk, e⟩ := trimL_prefix h.ok _ rfl
  rw [trimL_eq hv] at e
  exact ⟨by rw [e]; exact h.take k, by rw [e, List.length_take]; omega, by rw [trimL_eq hv]⟩
end Go.Proofs.YtdlfnonlalkjdaaGreatDoor
namespace Go.Proofs.YtdlfnonlalkjdaaGreatDoor
open Go.RowKit M
theorem require2_ok (b : Nat) (ao bo : Option Addr) (A B : List Int) (n m ca cb : Nat) (w : World) (hn : A.length = n) (hm : B.length = m) (hca : CellsK .u32 w ao A) (hcb : CellsK .u32 w bo B) (hA : isNat A = true) (hB : isNat B = true)
    (c0 : w.cell? ⟨b, 0, none⟩ = some (.slice ao n ca)) (c1 : w.cell? ⟨b, 1, none⟩ = some (.slice bo m cb)) :
    Calls Tryz.prog 65 #[.slice (some ⟨b, 0, none⟩) 2 2] w fun e w' => e = .returned (.tuple #[]) ∧ w = w' := by
  have hvA := valid_any ao A n ca w hn hca
  have hvB := valid_any bo B m cb w hm hcb
  rw [hA] at hvA
  rw [hB] at hvB
  have HA := Bx.mk hvA
  have HB := Bx.mk hvB
  clear hvA hvB hA hB hn hm hca hcb
  go_enter Tryz.func65, Tryz.ntmps65
  go_wp2
  refine wp_loop_rounds 3 ?_
  rw [rounds_succ]
  go_wp2_with fail
  refine HA.out.mono ?_
  rintro e w' ⟨rfl, rfl⟩
  go_wp2
  rw [rounds_succ]
  go_wp2_with fail
  refine HB.out.mono ?_
  rintro e w' ⟨rfl, rfl⟩
  go_wp2
  rw [rounds_succ]
  go_wp2
  go_end0
  exact ⟨rfl, rfl⟩
theorem require1_ok (b : Nat) (ao : Option Addr) (A : List Int) (n ca : Nat) (w : World) (hn : A.length = n) (hca : CellsK .u32 w ao A) (hA : isNat A = true)
    (c0 : w.cell? ⟨b, 0, none⟩ = some (.slice ao n ca)) :
    Calls Tryz.prog 65 #[.slice (some ⟨b, 0, none⟩) 1 1] w fun e w' => e = .returned (.tuple #[]) ∧ w = w' := by
  have hvA := valid_any ao A n ca w hn hca
  rw [hA] at hvA
  have HA := Bx.mk hvA
  clear hvA hA hn hca
  go_enter Tryz.func65, Tryz.ntmps65
  go_wp2
  refine wp_loop_rounds 2 ?_
  rw [rounds_succ]
  go_wp2_with fail
  refine HA.out.mono ?_
  rintro e w' ⟨rfl, rfl⟩
  go_wp2
  rw [rounds_succ]
  go_wp2
  go_end0
  exact ⟨rfl, rfl⟩
/-- The deferred call where nothing was raised. -/
theorem catch_idle65 (p : Addr) (w : World) :
    CallsD Tryz.prog 100 #[.pointer (some p)] .returning w fun e u' w' => e = .returned (.tuple #[]) ∧ u' = .returning ∧ w' = w := by
  refine callsD_of_wpS Tryz.func100 rfl fun c₀ cs hu => ?_
  simp only [Tryz.ntmps100, List.size_toArray, List.length_cons, List.length_nil, Nat.reduceAdd, Nat.reduceSub, Array.replicate_succ, Array.replicate_zero, List.push_toArray, List.append_toArray, List.nil_append, List.cons_append]
  apply wpS_seq
  apply wpS_region
  simp [wpOpsS, go_sem, recoverD, hu, Exit.thenS]
  refine wpS_of_wp ?_
  go_wp2
  simp [bodyPostS, results, Tryz.results100]
  cases c₀; simp_all
/-- The deferred call where nothing was raised. -/
theorem catch_idle77 (p : Addr) (w : World) :
    CallsD Tryz.prog 84 #[.pointer (some p)] .returning w fun e u' w' => e = .returned (.tuple #[]) ∧ u' = .returning ∧ w' = w := by
  refine callsD_of_wpS Tryz.func84 rfl fun c₀ cs hu => ?_
  simp only [Tryz.ntmps84, List.size_toArray, List.length_cons, List.length_nil, Nat.reduceAdd, Nat.reduceSub, Array.replicate_succ, Array.replicate_zero, List.push_toArray, List.append_toArray, List.nil_append, List.cons_append]
  apply wpS_seq
  apply wpS_region
  simp [wpOpsS, go_sem, recoverD, hu, Exit.thenS]
  refine wpS_of_wp ?_
  go_wp2
  simp [bodyPostS, results, Tryz.results84]
  cases c₀; simp_all
end Go.Proofs.YtdlfnonlalkjdaaGreatDoor
namespace Go.Proofs.YtdlfnonlalkjdaaGreatDoor
open Go.RowKit M
theorem setCell_self (w : World) (b : Nat) (v : Value) (h : w.cell? ⟨b, 0, none⟩ = some v) : w.setCell ⟨b, 0, none⟩ v = w := by
  have e : w.heap.modify b (fun o => match o with
      | .cells c elem frozen => .cells (if (none : Option Nat).isSome then c else c.setIfInBounds 0 v) elem frozen
      | o => o) = w.heap := by
    apply Array.ext_getElem?
    intro i
    rw [Array.getElem?_modify]
    split
    · rename_i hib
      subst hib
      simp only [World.cell?] at h
      cases hh : w.heap[b]? with
      | none => rfl
      | some o =>
        cases o with
        | cells c elem fr =>
          rw [hh] at h
          simp at h
          have hc : c.setIfInBounds 0 v = c := by
            apply Array.ext_getElem?
            intro j
            rw [Array.getElem?_setIfInBounds]
            split
            · rename_i hj; subst hj; split
              · exact h.symm
              · rename_i hns; rw [Array.getElem?_eq_none (by omega)]
            · rfl
          simp [hc]
        | _ => rfl
    · rfl
  exact congrArg (fun h => ({ w with heap := h } : World)) e
/-- natural.attempt over this closure: its result. -/
theorem attemptMul_ok (a1 a2 : Addr) (s : Nat) (w : World) (h : Calls Tryz.prog 91 #[.pointer (some a1), .pointer (some a2)] (w.alloc (.cells #[.int .i64 0] 28)) (RetNat (w.alloc (.cells #[.int .i64 0] 28)) s)) :
    Calls Tryz.prog 88 #[.func (Fn.func 91) #[] #[.pointer (some a1), .pointer (some a2)]] w fun e w' => ∃ v, e = .returned (.tuple #[v, .int .i64 0]) ∧ Rd w' v (limbs s) ∧ Below w.heap.size w w' := by
  have hmf : ∀ (fn : Fn) (first cap : Array Value) (w : World), (Instr.makeFunc fn first cap).run Tryz.prog w = .ok (.func fn first cap) w := fun _ _ _ _ => rfl
  have hb0 : Below w.heap.size w (w.alloc (.cells #[.int .i64 0] 28)) := (Below.refl _ _).alloc (Nat.le_refl _) _
  have H := Bx.mk h
  clear h
  go_enter_defers Tryz.func88, Tryz.ntmps88
  go_wp2_with fail
  refine H.out.mono ?_
  rintro e w2 ⟨v, rfl, hrd, hb⟩
  have hc0 : w2.cell? ⟨w.heap.size, 0, none⟩ = some (.int .i64 0) := by rw [hb.cell (p := ⟨w.heap.size, 0, none⟩) (by simp)]; simp [go_sem]
  have hz0 : w2.frozen? ⟨w.heap.size, 0, none⟩ = false := by rw [hb.frozen (p := ⟨w.heap.size, 0, none⟩) (by simp)]; simp [go_sem]
  have HBB := Bx.mk (hb0.trans (hb.mono hb0.size))
  have HRD := Bx.mk hrd
  clear hrd
  have hself := setCell_self w2 w.heap.size _ hc0
  clear hb hb0 H
  go_wp2
  refine leaves_cons (f := 100) (args := #[.pointer (some ⟨w.heap.size, 0, none⟩)]) (by simp) (by simp [go_sem]) ?_
  refine (catch_idle65 ⟨w.heap.size, 0, none⟩ _).mono ?_
  rintro e u' w'' ⟨rfl, rfl, rfl⟩
  simp only
  refine ⟨_, by simp [results, Tryz.results88, go_sem, hc0]; rfl, ?_⟩
  exact ⟨v, rfl, HRD.out, HBB.out⟩
/-- natural.attempt over this closure: its result. -/
theorem attemptPow_ok (a1 a2 : Addr) (s : Nat) (w : World) (h : Calls Tryz.prog 89 #[.pointer (some a1), .pointer (some a2)] (w.alloc (.cells #[.int .i64 0] 28)) (RetNat (w.alloc (.cells #[.int .i64 0] 28)) s)) :
    Calls Tryz.prog 88 #[.func (Fn.func 89) #[] #[.pointer (some a1), .pointer (some a2)]] w fun e w' => ∃ v, e = .returned (.tuple #[v, .int .i64 0]) ∧ Rd w' v (limbs s) ∧ Below w.heap.size w w' := by
  have hmf : ∀ (fn : Fn) (first cap : Array Value) (w : World), (Instr.makeFunc fn first cap).run Tryz.prog w = .ok (.func fn first cap) w := fun _ _ _ _ => rfl
  have hb0 : Below w.heap.size w (w.alloc (.cells #[.int .i64 0] 28)) := (Below.refl _ _).alloc (Nat.le_refl _) _
  have H := Bx.mk h
  clear h
  go_enter_defers Tryz.func88, Tryz.ntmps88
  go_wp2_with fail
  refine H.out.mono ?_
  rintro e w2 ⟨v, rfl, hrd, hb⟩
  have hc0 : w2.cell? ⟨w.heap.size, 0, none⟩ = some (.int .i64 0) := by rw [hb.cell (p := ⟨w.heap.size, 0, none⟩) (by simp)]; simp [go_sem]
  have hz0 : w2.frozen? ⟨w.heap.size, 0, none⟩ = false := by rw [hb.frozen (p := ⟨w.heap.size, 0, none⟩) (by simp)]; simp [go_sem]
  have HBB := Bx.mk (hb0.trans (hb.mono hb0.size))
  have HRD := Bx.mk hrd
  clear hrd
  have hself := setCell_self w2 w.heap.size _ hc0
  clear hb hb0 H
  go_wp2
  refine leaves_cons (f := 100) (args := #[.pointer (some ⟨w.heap.size, 0, none⟩)]) (by simp) (by simp [go_sem]) ?_
  refine (catch_idle65 ⟨w.heap.size, 0, none⟩ _).mono ?_
  rintro e u' w'' ⟨rfl, rfl, rfl⟩
  simp only
  refine ⟨_, by simp [results, Tryz.results88, go_sem, hc0]; rfl, ?_⟩
  exact ⟨v, rfl, HRD.out, HBB.out⟩
/-- natural.attempt over this closure: its result. -/
theorem attemptCmp_ok (a1 a2 : Addr) (n : Int) (w : World) (h : Calls Tryz.prog 64 #[.pointer (some a1), .pointer (some a2)] (w.alloc (.cells #[.int .i64 0] 28)) (fun e w' => e = .returned (.int .i64 n) ∧ Below (w.heap.size + 1) (w.alloc (.cells #[.int .i64 0] 28)) w')) :
    Calls Tryz.prog 63 #[.func (Fn.func 64) #[] #[.pointer (some a1), .pointer (some a2)]] w fun e w' => e = .returned (.tuple #[.int .i64 n, .int .i64 0]) ∧ Below w.heap.size w w' := by
  have hmf : ∀ (fn : Fn) (first cap : Array Value) (w : World), (Instr.makeFunc fn first cap).run Tryz.prog w = .ok (.func fn first cap) w := fun _ _ _ _ => rfl
  have hb0 : Below w.heap.size w (w.alloc (.cells #[.int .i64 0] 28)) := (Below.refl _ _).alloc (Nat.le_refl _) _
  have H := Bx.mk h
  clear h
  go_enter_defers Tryz.func63, Tryz.ntmps63
  go_wp2_with fail
  refine H.out.mono ?_
  rintro e w2 ⟨rfl, hb⟩
  have hb : Below (w.alloc (.cells #[.int .i64 0] 28)).heap.size (w.alloc (.cells #[.int .i64 0] 28)) w2 := hb.mono (by simp)
  have hc0 : w2.cell? ⟨w.heap.size, 0, none⟩ = some (.int .i64 0) := by rw [hb.cell (p := ⟨w.heap.size, 0, none⟩) (by simp)]; simp [go_sem]
  have hz0 : w2.frozen? ⟨w.heap.size, 0, none⟩ = false := by rw [hb.frozen (p := ⟨w.heap.size, 0, none⟩) (by simp)]; simp [go_sem]
  have HBB := Bx.mk (hb0.trans (hb.mono hb0.size))
  have hself := setCell_self w2 w.heap.size _ hc0
  clear hb hb0 H
  go_wp2
  refine leaves_cons (f := 84) (args := #[.pointer (some ⟨w.heap.size, 0, none⟩)]) (by simp) (by simp [go_sem]) ?_
  refine (catch_idle77 ⟨w.heap.size, 0, none⟩ _).mono ?_
  rintro e u' w'' ⟨rfl, rfl, rfl⟩
  simp only
  refine ⟨_, by simp [results, Tryz.results63, go_sem, hc0]; rfl, ?_⟩
  exact ⟨rfl, HBB.out⟩
end Go.Proofs.YtdlfnonlalkjdaaGreatDoor

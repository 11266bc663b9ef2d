/- math/bits.Div32, natural.divideBy, slices.Clone. -/
import Derived.Test.YtegjhkjmejckdaaDoorN7
namespace Go.Proofs.YtegjhkjmejckdaaDoor
open Go.RowKit M
theorem u64_or_join (hi lo : Int) (h0 : 0 ≤ hi) (h1 : hi < 4294967296) (hl0 : 0 ≤ lo) (hl1 : lo < 4294967296) : bits .or .u64 (hi * 4294967296) lo = hi * 4294967296 + lo := by
  rw [u64_or _ _ (by omega) (by omega) (by omega) (by omega), nat_join 32 _ _ (by omega) (by omega)]
  omega
theorem div32 (hi lo y : Int) (w : World) (h0 : 0 ≤ hi) (hl0 : 0 ≤ lo) (hl1 : lo < 4294967296) (hy1 : y < 4294967296) (hlt : hi < y) :
    Calls Tryd.prog 83 #[.int .u32 hi, .int .u32 lo, .int .u32 y] w fun e w' => e = .returned (.tuple #[.int .u32 ((hi * 4294967296 + lo) / y), .int .u32 ((hi * 4294967296 + lo) % y)]) ∧ Quiet w w' := by
  have hor := u64_or_join hi lo h0 (by omega) hl0 hl1
  have hz0 : 0 ≤ hi * 4294967296 + lo := by omega
  have hz1 : hi * 4294967296 + lo < 18446744073709551616 := by omega
  have hd : decide (y ≤ hi) = false := by simp; omega
  have hq0 : 0 ≤ (hi * 4294967296 + lo) / y := Int.ediv_nonneg hz0 (by omega)
  have hq1 : (hi * 4294967296 + lo) / y < 4294967296 := by
    refine Int.ediv_lt_of_lt_mul (by omega) ?_
    have : (hi + 1) * 4294967296 ≤ 4294967296 * y := by omega
    omega
  have hr0 : 0 ≤ (hi * 4294967296 + lo) % y := Int.emod_nonneg _ (by omega)
  have hr1 : (hi * 4294967296 + lo) % y < y := Int.emod_lt_of_pos _ (by omega)
  have hy0 : (y != 0) = true := by rw [bne_iff_ne]; omega
  go_enter Tryd.func83, Tryd.ntmps83
  go_wp2
  go_quiet (fail)
  go_wp2
  go_ret2
  exact ⟨rfl, ⟨_, rfl⟩⟩
theorem clone_nil (n c : Nat) (w : World) : Calls Tryd.prog 73 #[.slice none n c] w fun e w' => e = .returned (.slice none 0 0) ∧ w = w' := by
  have hnil := fun w a n c => Lib.run_eql_slice_nil (P := Tryd.prog) w 23 42 a n c 0 0 Tryd.underlying23
  go_enter Tryd.func73, Tryd.ntmps73
  go_wp2
  go_ret
  exact ⟨rfl, rfl⟩
/-- A row of the call's own, of which the first limbs are known. -/
structure OwnB (base : Nat) (w0 wr : World) (g : Nat) (L : List Int) : Prop where
  ok : Ok L
  ge : base ≤ g
  blk : ∃ cur : Array Value, wr.heap[g]? = some (.cells cur 42 (0, 0)) ∧ L.length ≤ cur.size ∧ ∀ i, i < L.length → cur[i]? = some (.int .u32 (L.getD i 0))
  below : Below base w0 wr
theorem OwnB.lt {base : Nat} {w0 wr : World} {g : Nat} {L : List Int} (h : OwnB base w0 wr g L) : g < wr.heap.size := by
  obtain ⟨cur, hg, _⟩ := h.blk; exact (Array.getElem?_eq_some_iff.1 hg).1
theorem OwnB.cell {base : Nat} {w0 wr : World} {g : Nat} {L : List Int} (h : OwnB base w0 wr g L) (i : Nat) (hi : i < L.length) : wr.cell? ⟨g, i, none⟩ = some (.int .u32 (L.getD i 0)) := by
  obtain ⟨cur, hg, _, hc⟩ := h.blk
  rw [cell_of_row wr g i cur 42 (0, 0) hg]; exact hc i hi
theorem OwnB.free {base : Nat} {w0 wr : World} {g : Nat} {L : List Int} (h : OwnB base w0 wr g L) (i : Nat) : wr.frozen? ⟨g, i, none⟩ = false := by
  obtain ⟨cur, hg, _⟩ := h.blk; exact frozen_of_row wr g i cur 42 hg
theorem OwnB.store {base : Nat} {w0 wr : World} {g : Nat} {L : List Int} (h : OwnB base w0 wr g L) (j : Nat) {x : Int} (h0 : 0 ≤ x) (h1 : x < 4294967296) : OwnB base w0 (wr.setCell ⟨g, j, none⟩ (.int .u32 x)) g (L.set j x) := by
  obtain ⟨cur, hg, hs, hc⟩ := h.blk
  refine ⟨h.ok.set j h0 h1, h.ge, ⟨cur.setIfInBounds j (.int .u32 x), heap_setCell_same wr g j cur 42 _ hg, by simpa using hs, fun i hi => ?_⟩, h.below.setCell h.ge _⟩
  simp only [List.length_set] at hi
  have hci := hc i hi
  by_cases e : i = j
  · subst e
    rw [Array.getElem?_setIfInBounds_self_of_lt (by omega)]
    simp [List.getD, List.getElem?_set, hi]
  · rw [Array.getElem?_setIfInBounds_ne (by omega), hci]
    simp [List.getD, List.getElem?_set, show ¬ j = i from by omega]
theorem OwnB.drew {base : Nat} {w0 wr : World} {g : Nat} {L : List Int} (h : OwnB base w0 wr g L) (n : Nat) : OwnB base w0 (wr.drewN n) g L := ⟨h.ok, h.ge, h.blk, below_drewN h.below n⟩
theorem OwnB.cells {base : Nat} {w0 wr : World} {g : Nat} {L : List Int} (h : OwnB base w0 wr g L) : CellsK .u32 wr (some ⟨g, 0, none⟩) L := by
  intro _
  refine ⟨_, rfl, h.lt, fun i hi => ?_⟩
  have e : (⟨g, 0, none⟩ : Addr).add i = ⟨g, i, none⟩ := by unfold Addr.add; split <;> simp_all
  rw [e]; exact h.cell i hi
theorem OwnB.take {base : Nat} {w0 wr : World} {g : Nat} {L : List Int} (h : OwnB base w0 wr g L) (k : Nat) : OwnB base w0 wr g (L.take k) := by
  obtain ⟨cur, hg, hs, hc⟩ := h.blk
  refine ⟨h.ok.take k, h.ge, ⟨cur, hg, by rw [List.length_take]; omega, fun i hi => ?_⟩, h.below⟩
  rw [List.length_take] at hi
  rw [hc i (by omega)]; simp [List.getD, List.getElem?_take, show i < k from by omega]
theorem OwnB.of_owns {base g n cap : Nat} {w0 w : World} {l : List Int} (h : w.ownsRow base 42 1 (.slice (some ⟨g, 0, none⟩) n cap) n (l.map (Value.int .u32))) (hl : Ok l) (hb : Below base w0 w) : OwnB base w0 w g l := by
  have hn : l.length = n := by have := h.1; simpa using this
  have hcell := fun i => h.cellAt i
  rcases h.2 with ⟨h', _⟩ | ⟨g', cap', cur, h', hg, hh, hnc, hm, hs, ht⟩
  · simp at h'
  · simp only [Value.slice.injEq, Option.some.injEq, Addr.mk.injEq, and_true, true_and] at h'
    obtain ⟨rfl, rfl⟩ := h'
    refine ⟨hl, hg, ⟨cur, hh, by omega, fun i hi => ?_⟩, hb⟩
    rw [← cell_of_row w g i cur 42 (0, 0) hh, hcell i (by omega)]
    simp [List.getElem?_eq_getElem hi, List.getD]
/-- slices.Clone of limbs: a row of the call's own. -/
theorem clone_any (a : Addr) (A : List Int) (n ca : Nat) (w : World) (hn : A.length = n) (hn6 : n ≤ 700) (hA : Ok A) (hca : CellsK .u32 w (some a) A) :
    Calls Tryd.prog 73 #[.slice (some a) n ca] w fun e w' => ∃ (g cap : Nat), e = .returned (.slice (some ⟨g, 0, none⟩) n cap) ∧ n ≤ cap ∧ cap ≤ maxLen ∧ OwnB w.heap.size w w' g A := by
  have hnil := fun w a n c => Lib.run_eql_slice_nil (P := Tryd.prog) w 23 42 a n c 0 0 Tryd.underlying23
  obtain ⟨i0, hi, hz0, hz1, hz2⟩ := info_parts Tryd.info42
  have hnews : ∀ j u, (A.map (Value.int .u32))[j]? = some u → (w.alloc (.cells #[] 42)).cell? (a.add j) = some u := by
    intro j u hj
    simp only [List.getElem?_map, Option.map_eq_some_iff] at hj
    obtain ⟨x, hx, rfl⟩ := hj
    have hjl : j < A.length := (List.getElem?_eq_some_iff.1 hx).1
    obtain ⟨a', ha', hlt, hc⟩ := hca (by intro e; subst e; simp at hjl)
    obtain rfl := Option.some.inj ha'
    have hb : (a.add j).block = a.block := by unfold Addr.add; split <;> rfl
    have hk := ((Below.refl w.heap.size w).alloc (Nat.le_refl _) (.cells #[] 42)).cell (p := a.add j) (by rw [hb]; exact hlt)
    rw [hk, hc j hjl]; simp [List.getD, hx]
  have hown0 : (w.alloc (.cells #[] 42)).ownsRow w.heap.size 42 1 (.slice (some ⟨w.heap.size, 0, none⟩) 0 0) 0 [] := World.ownsRow_lit w #[] 0 (Nat.le_refl _) (by unfold maxLen; omega) rfl
  have HN := Bx.mk hnews
  clear hnews
  go_enter Tryd.func73, Tryd.ntmps73
  go_wp2_with (at_builtin; refine wpList_append_own _ rfl _ _ 23 rfl w.heap.size 42 i0 (.int .u32 0) 1 4 Tryd.underlying23 hi hz0 hz1 hz2 rfl (by decide) _ 0 [] rfl hown0 a n ca (A.map (Value.int .u32)) rfl (by simp [hn]) HN.out (ints_oneCell _ _) (by unfold maxLen; omega) (by omega) (by simp) ?_; intro v' w1 hown' hgrow' hnn)
  go_ret
  rw [Nat.zero_add, List.nil_append] at hown'
  have hb : Below w.heap.size w w1 := ((Below.refl w.heap.size w).alloc (Nat.le_refl _) (.cells #[] 42)).grown hgrow' (by simp) (by intro k hk; have e := Option.some.inj (show some w.heap.size = some k from hk); omega)
  rcases hown'.2 with ⟨h', _⟩ | ⟨g, cap, cur, rfl, hg, hh, hnc, hm, _⟩
  · exact absurd (hnn.1 h').1 (by intro e; cases e)
  · exact ⟨g, cap, rfl, hnc, hm, OwnB.of_owns hown' hA hb⟩
/-- divideBy with the limbs from k on divided. -/
def DivRel (L : List Int) (d : Int) (k : Nat) (r : Int) (L' : List Int) : Prop :=
  0 ≤ r ∧ r < d ∧ ∃ Q : List Int, L' = L.take k ++ Q ∧ Q.length = L.length - k ∧ val (L.drop k) = d * val Q + r
theorem divRel_step {L : List Int} {d : Int} {k : Nat} {r : Int} {L' : List Int} (hL : Ok L) (hd : d < 4294967296) (h : DivRel L d (k + 1) r L') (hk : k < L.length) :
    L'.getD k 0 = L.getD k 0 ∧ DivRel L d k ((r * 4294967296 + L.getD k 0) % d) (L'.set k ((r * 4294967296 + L.getD k 0) / d)) := by
  obtain ⟨h0, h1, Q, rfl, hQ, hv⟩ := h
  have hx := hL.getD k
  have ht : (L.take k).length = k := by rw [List.length_take]; omega
  refine ⟨by rw [take_snoc L k hk, List.append_assoc, List.getD_eq_getElem?_getD, List.getElem?_append_right (by omega), ht, Nat.sub_self]; rfl, Int.emod_nonneg _ (by omega), Int.emod_lt_of_pos _ (by omega), (r * 4294967296 + L.getD k 0) / d :: Q, ?_, by simp [hQ]; omega, ?_⟩
  · rw [take_snoc L k hk, List.append_assoc, List.set_append_right _ _ (by omega), ht, Nat.sub_self]; rfl
  · rw [drop_step L k hk]
    simp only [val]
    rw [hv]
    have e := Int.mul_ediv_add_emod (r * 4294967296 + L.getD k 0) d
    have e2 : d * ((r * 4294967296 + L.getD k 0) / d + 4294967296 * val Q) = d * ((r * 4294967296 + L.getD k 0) / d) + 4294967296 * (d * val Q) := by
      rw [Int.mul_add, Int.mul_left_comm]
    rw [e2]; omega
theorem divideBy_any (base : Nat) (w0 wr0 : World) (g n cap : Nat) (L : List Int) (d : Int) (hn : L.length = n) (hn6 : n ≤ 100000) (hd0 : 0 < d) (hd1 : d < 4294967296) (hO : OwnB base w0 wr0 g L) :
    Calls Tryd.prog 74 #[.slice (some ⟨g, 0, none⟩) n cap, .int .u32 d] wr0 fun e w' => ∃ (r : Int) (L' : List Int), e = .returned (.int .u32 r) ∧ 0 ≤ r ∧ r < d ∧ L'.length = n ∧ val L = d * val L' + r ∧ OwnB base w0 w' g L' ∧ But g wr0 w' := by
  have hLok := hO.ok
  go_enter Tryd.func74, Tryd.ntmps74
  go_wp2
  go_loopw [5, 6] (fun c i wr => ∃ (k : Nat) (r : Int) (L' : List Int), k ≤ n ∧ i = .int .i64 ((k : Int) - 1) ∧ c = .int .u32 r ∧ L'.length = n ∧ DivRel L d k r L' ∧ OwnB base w0 wr g L' ∧ But g wr0 wr) (fun _ i _ => (intOf i + 1).toNat)
  case atStart => exact ⟨n, 0, L, Nat.le_refl _, by go_num, rfl, hn, ⟨Int.le_refl _, hd0, [], by simp [List.take_of_length_le (Nat.le_of_eq hn)], by simp; omega, by rw [List.drop_eq_nil_of_le (by omega)]; simp [val]⟩, hO, But.refl _ _⟩
  case round =>
    obtain ⟨k, r, L', hk, rfl, rfl, hL', hrel, hown, hbut⟩ := hrel
    have h0 := hrel.1
    have h1 := hrel.2.1
    by_cases hk0 : k = 0
    · subst hk0
      obtain ⟨_, _, Q, hQ1, hQ2, hv⟩ := hrel
      rw [List.take_zero, List.nil_append] at hQ1
      rw [List.drop_zero] at hv
      have HV := Bx.mk hv
      clear hv
      go_wp2
      go_ret
      exact ⟨r, L', rfl, h0, h1, hL', by rw [hQ1]; exact HV.out, hown, hbut⟩
    · have hcell := hown.cell (k - 1) (by omega)
      have hfree := hown.free (k - 1)
      have hst := divRel_step hLok hd1 (k := k - 1) (by rw [show k - 1 + 1 = k from by omega]; exact hrel) (by omega)
      rw [hst.1] at hcell
      have hx := hLok.getD (k - 1)
      generalize L.getD (k - 1) 0 = x at *
      have hdiv := fun w => div32 r x d w h0 hx.1 hx.2 hd1 h1
      have hq0 : 0 ≤ (r * 4294967296 + x) / d := Int.ediv_nonneg (by omega) (by omega)
      have hq1 : (r * 4294967296 + x) / d < 4294967296 := by
        refine Int.ediv_lt_of_lt_mul (by omega) ?_
        have : (r + 1) * 4294967296 ≤ 4294967296 * d := by omega
        omega
      generalize (r * 4294967296 + x) / d = q at *
      generalize (r * 4294967296 + x) % d = r2 at *
      have hs2 := hown.store (k - 1) hq0 hq1
      have HR := Bx.mk hst.2
      have HS := Bx.mk hs2
      have HBB := Bx.mk (hbut.setCell (k - 1) (.int .u32 q))
      have HD := Bx.mk hdiv
      have HO := Bx.mk hown
      clear hst hs2 hdiv hrel hO hown
      have hb1 : (0 : Int) ≤ (k : Int) - 1 := by omega
      go_wp2_with fail
      refine (HD.out _).mono ?_
      rintro e w2 ⟨rfl, dd, rfl⟩
      go_wp2
      go_roundw
      case rel => exact ⟨k - 1, r2, _, by omega, by go_num, rfl, by simp [hL'], HR.out, by first | exact HS.out.drew dd | exact HS.out, ⟨HBB.out.1, HBB.out.2⟩⟩
      case measure => simp [intOf]; omega
end Go.Proofs.YtegjhkjmejckdaaDoor

/- natural: quotients, deferred calls. -/
import Derived.Test.YtlfngdbpnhaphaaGreatDoorNA
import Derived.Test.YtlfngdbpnhaphaaGreatDoorMath
namespace Go.Proofs.YtlfngdbpnhaphaaGreatDoor
open Go.RowKit M
theorem u64_or_join (hi lo : Int) (h0 : 0 ≤ hi) (h1 : hi < 4294967296) (hl0 : 0 ≤ lo) (hl1 : lo < 4294967296) : bits .or .u64 (hi * 4294967296) lo = hi * 4294967296 + lo := by
  rw [u64_or _ _ (by omega) (by omega) (by omega) (by omega), nat_join 32 _ _ (by omega) (by omega)]
  omega
theorem div32 (hi lo y : Int) (w : World) (h0 : 0 ≤ hi) (hl0 : 0 ≤ lo) (hl1 : lo < 4294967296) (hy1 : y < 4294967296) (hlt : hi < y) :
    Calls Tryz.prog 108 #[.int .u32 hi, .int .u32 lo, .int .u32 y] w fun e w' => e = .returned (.tuple #[.int .u32 ((hi * 4294967296 + lo) / y), .int .u32 ((hi * 4294967296 + lo) % y)]) ∧ Quiet w w' := by
  have hor := u64_or_join hi lo h0 (by omega) hl0 hl1
  have hz0 : 0 ≤ hi * 4294967296 + lo := by omega
  have hz1 : hi * 4294967296 + lo < 18446744073709551616 := by omega
  have hd : decide (y ≤ hi) = false := by simp; omega
  have hq0 : 0 ≤ (hi * 4294967296 + lo) / y := Int.ediv_nonneg hz0 (by omega)
  have hq1 : (hi * 4294967296 + lo) / y < 4294967296 := by
    refine Int.ediv_lt_of_lt_mul (by omega) ?_
    have : (hi + 1) * 4294967296 ≤ 4294967296 * y := by omega
    omega
  have hr0 : 0 ≤ (hi * 4294967296 + lo) % y := Int.emod_nonneg _ (by omega)
  have hr1 : (hi * 4294967296 + lo) % y < y := Int.emod_lt_of_pos _ (by omega)
  have hy0 : (y != 0) = true := by rw [bne_iff_ne]; omega
  go_enter Tryz.func108, Tryz.ntmps108
  go_wp2
  go_quiet (fail)
  go_wp2
  go_ret2
  exact ⟨rfl, ⟨_, rfl⟩⟩
theorem clone_nil (n c : Nat) (w : World) : Calls Tryz.prog 87 #[.slice none n c] w fun e w' => e = .returned (.slice none 0 0) ∧ w = w' := by
  have hnil := fun w a n c => Lib.run_eql_slice_nil (P := Tryz.prog) w 39 57 a n c 0 0 Tryz.underlying39
  go_enter Tryz.func87, Tryz.ntmps87
  go_wp2
  go_ret
  exact ⟨rfl, rfl⟩
/-- A row of the call's own, of which the first limbs are known. -/
structure OwnB (base : Nat) (w0 wr : World) (g : Nat) (L : List Int) : Prop where
  ok : Ok L
  ge : base ≤ g
  blk : ∃ cur : Array Value, wr.heap[g]? = some (.cells cur 57 (0, 0)) ∧ L.length ≤ cur.size ∧ ∀ i, i < L.length → cur[i]? = some (.int .u32 (L.getD i 0))
  below : Below base w0 wr
theorem OwnB.lt {base : Nat} {w0 wr : World} {g : Nat} {L : List Int} (h : OwnB base w0 wr g L) : g < wr.heap.size := by
  obtain ⟨cur, hg, _⟩ := h.blk; exact (Array.getElem?_eq_some_iff.1 hg).1
theorem OwnB.cell {base : Nat} {w0 wr : World} {g : Nat} {L : List Int} (h : OwnB base w0 wr g L) (i : Nat) (hi : i < L.length) : wr.cell? ⟨g, i, none⟩ = some (.int .u32 (L.getD i 0)) := by
  obtain ⟨cur, hg, _, hc⟩ := h.blk
  rw [cell_of_row wr g i cur 57 (0, 0) hg]; exact hc i hi
theorem OwnB.free {base : Nat} {w0 wr : World} {g : Nat} {L : List Int} (h : OwnB base w0 wr g L) (i : Nat) : wr.frozen? ⟨g, i, none⟩ = false := by
  obtain ⟨cur, hg, _⟩ := h.blk; exact frozen_of_row wr g i cur 57 hg
theorem OwnB.store {base : Nat} {w0 wr : World} {g : Nat} {L : List Int} (h : OwnB base w0 wr g L) (j : Nat) {x : Int} (h0 : 0 ≤ x) (h1 : x < 4294967296) : OwnB base w0 (wr.setCell ⟨g, j, none⟩ (.int .u32 x)) g (L.set j x) := by
  obtain ⟨cur, hg, hs, hc⟩ := h.blk
  refine ⟨h.ok.set j h0 h1, h.ge, ⟨cur.setIfInBounds j (.int .u32 x), heap_setCell_same wr g j cur 57 _ hg, by simpa using hs, fun i hi => ?_⟩, h.below.setCell h.ge _⟩
  simp only [List.length_set] at hi
  have hci := hc i hi
  by_cases e : i = j
  · subst e
    rw [Array.getElem?_setIfInBounds_self_of_lt (by omega)]
    simp [List.getD, hi]
  · rw [Array.getElem?_setIfInBounds_ne (by omega), hci]
    simp [List.getD, show ¬ j = i from by omega]
theorem OwnB.drew {base : Nat} {w0 wr : World} {g : Nat} {L : List Int} (h : OwnB base w0 wr g L) (n : Nat) : OwnB base w0 (wr.drewN n) g L := ⟨h.ok, h.ge, h.blk, below_drewN h.below n⟩
theorem OwnB.cells {base : Nat} {w0 wr : World} {g : Nat} {L : List Int} (h : OwnB base w0 wr g L) : CellsK .u32 wr (some ⟨g, 0, none⟩) L := by
  intro _
  refine ⟨_, rfl, h.lt, fun i hi => ?_⟩
  have e : (⟨g, 0, none⟩ : Addr).add i = ⟨g, i, none⟩ := by unfold Addr.add; split <;> simp_all
  rw [e]; exact h.cell i hi
theorem OwnB.take {base : Nat} {w0 wr : World} {g : Nat} {L : List Int} (h : OwnB base w0 wr g L) (k : Nat) : OwnB base w0 wr g (L.take k) := by
  obtain ⟨cur, hg, hs, hc⟩ := h.blk
  refine ⟨h.ok.take k, h.ge, ⟨cur, hg, by rw [List.length_take]; omega, fun i hi => ?_⟩, h.below⟩
  rw [List.length_take] at hi
  rw [hc i (by omega)]; simp [List.getD, show i < k from by omega]
theorem OwnB.of_owns {base g n cap : Nat} {w0 w : World} {l : List Int} (h : w.ownsRow base 57 1 (.slice (some ⟨g, 0, none⟩) n cap) n (l.map (Value.int .u32))) (hl : Ok l) (hb : Below base w0 w) : OwnB base w0 w g l := by
  have hn : l.length = n := by have := h.1; simpa using this
  have hcell := fun i => h.cellAt i
  rcases h.2 with ⟨h', _⟩ | ⟨g', cap', cur, h', hg, hh, hnc, hm, hs, ht⟩
  · simp at h'
  · simp only [Value.slice.injEq, Option.some.injEq, Addr.mk.injEq, and_true, true_and] at h'
    obtain ⟨rfl, rfl⟩ := h'
    refine ⟨hl, hg, ⟨cur, hh, by omega, fun i hi => ?_⟩, hb⟩
    rw [← cell_of_row w g i cur 57 (0, 0) hh, hcell i (by omega)]
    simp [List.getElem?_eq_getElem hi, List.getD]
/-- slices.Clone of limbs: a row of the call's own. -/
theorem clone_any (a : Addr) (A : List Int) (n ca : Nat) (w : World) (hn : A.length = n) (hn6 : n ≤ 700) (hA : Ok A) (hca : CellsK .u32 w (some a) A) :
    Calls Tryz.prog 87 #[.slice (some a) n ca] w fun e w' => ∃ (g cap : Nat), e = .returned (.slice (some ⟨g, 0, none⟩) n cap) ∧ n ≤ cap ∧ cap ≤ maxLen ∧ OwnB w.heap.size w w' g A := by
  have hnil := fun w a n c => Lib.run_eql_slice_nil (P := Tryz.prog) w 39 57 a n c 0 0 Tryz.underlying39
  obtain ⟨i0, hi, hz0, hz1, hz2⟩ := info_parts Tryz.info57
  have hnews : ∀ j u, (A.map (Value.int .u32))[j]? = some u → (w.alloc (.cells #[] 57)).cell? (a.add j) = some u := by
    intro j u hj
    simp only [List.getElem?_map, Option.map_eq_some_iff] at hj
    obtain ⟨x, hx, rfl⟩ := hj
    have hjl : j < A.length := (List.getElem?_eq_some_iff.1 hx).1
    obtain ⟨a', ha', hlt, hc⟩ := hca (by intro e; subst e; simp at hjl)
    obtain rfl := Option.some.inj ha'
    have hb : (a.add j).block = a.block := by unfold Addr.add; split <;> rfl
    have hk := ((Below.refl w.heap.size w).alloc (Nat.le_refl _) (.cells #[] 57)).cell (p := a.add j) (by rw [hb]; exact hlt)
    rw [hk, hc j hjl]; simp [List.getD, hx]
  have hown0 : (w.alloc (.cells #[] 57)).ownsRow w.heap.size 57 1 (.slice (some ⟨w.heap.size, 0, none⟩) 0 0) 0 [] := World.ownsRow_lit w #[] 0 (Nat.le_refl _) (by unfold maxLen; omega) rfl
  have HN := Bx.mk hnews
  clear hnews
  go_enter Tryz.func87, Tryz.ntmps87
  go_wp2_with (at_builtin; refine wpList_append_own _ rfl _ _ 39 rfl w.heap.size 57 i0 (.int .u32 0) 1 4 Tryz.underlying39 hi hz0 hz1 hz2 rfl (by decide) _ 0 [] rfl hown0 a n ca (A.map (Value.int .u32)) rfl (by simp [hn]) HN.out (ints_oneCell _ _) (by unfold maxLen; omega) (by omega) (by simp) ?_; intro v' w1 hown' hgrow' hnn)
  go_ret
  rw [Nat.zero_add, List.nil_append] at hown'
  have hb : Below w.heap.size w w1 := ((Below.refl w.heap.size w).alloc (Nat.le_refl _) (.cells #[] 57)).grown hgrow' (by simp) (by intro k hk; have e := Option.some.inj (show some w.heap.size = some k from hk); omega)
  rcases hown'.2 with ⟨h', _⟩ | ⟨g, cap, cur, rfl, hg, hh, hnc, hm, _⟩
  · exact absurd (hnn.1 h').1 (by intro e; cases e)
  · exact ⟨g, cap, rfl, hnc, hm, OwnB.of_owns hown' hA hb⟩
/-- divideBy with the limbs from k on divided. -/
def DivRel (L : List Int) (d : Int) (k : Nat) (r : Int) (L' : List Int) : Prop :=
  0 ≤ r ∧ r < d ∧ ∃ Q : List Int, L' = L.take k ++ Q ∧ Q.length = L.length - k ∧ val (L.drop k) = d * val Q + r
theorem divRel_step {L : List Int} {d : Int} {k : Nat} {r : Int} {L' : List Int} (hL : Ok L) (hd : d < 4294967296) (h : DivRel L d (k + 1) r L') (hk : k < L.length) :
    L'.getD k 0 = L.getD k 0 ∧ DivRel L d k ((r * 4294967296 + L.getD k 0) % d) (L'.set k ((r * 4294967296 + L.getD k 0) / d)) := by
  obtain ⟨h0, h1, Q, rfl, hQ, hv⟩ := h
  have hx := hL.getD k
  have ht : (L.take k).length = k := by rw [List.length_take]; omega
  refine ⟨by rw [take_snoc L k hk, List.append_assoc, List.getD_eq_getElem?_getD, List.getElem?_append_right (by omega), ht, Nat.sub_self]; rfl, Int.emod_nonneg _ (by omega), Int.emod_lt_of_pos _ (by omega), (r * 4294967296 + L.getD k 0) / d :: Q, ?_, by simp [hQ]; omega, ?_⟩
  · rw [take_snoc L k hk, List.append_assoc, List.set_append_right _ _ (by omega), ht, Nat.sub_self]; rfl
  · rw [drop_step L k hk]
    simp only [val]
    rw [hv]
    have e := Int.mul_ediv_add_emod (r * 4294967296 + L.getD k 0) d
    have e2 : d * ((r * 4294967296 + L.getD k 0) / d + 4294967296 * val Q) = d * ((r * 4294967296 + L.getD k 0) / d) + 4294967296 * (d * val Q) := by
      rw [Int.mul_add, Int.mul_left_comm]
    rw [e2]; omega
theorem divideBy_any (base : Nat) (w0 wr0 : World) (g n cap : Nat) (L : List Int) (d : Int) (hn : L.length = n) (hn6 : n ≤ 100000) (hd0 : 0 < d) (hd1 : d < 4294967296) (hO : OwnB base w0 wr0 g L) :
    Calls Tryz.prog 88 #[.slice (some ⟨g, 0, none⟩) n cap, .int .u32 d] wr0 fun e w' => ∃ (r : Int) (L' : List Int), e = .returned (.int .u32 r) ∧ 0 ≤ r ∧ r < d ∧ L'.length = n ∧ val L = d * val L' + r ∧ OwnB base w0 w' g L' ∧ But g wr0 w' := by
  have hLok := hO.ok
  go_enter Tryz.func88, Tryz.ntmps88
  go_wp2
  go_loopw [5, 6] (fun c i wr => ∃ (k : Nat) (r : Int) (L' : List Int), k ≤ n ∧ i = .int .i64 ((k : Int) - 1) ∧ c = .int .u32 r ∧ L'.length = n ∧ DivRel L d k r L' ∧ OwnB base w0 wr g L' ∧ But g wr0 wr) (fun _ i _ => (intOf i + 1).toNat)
  case atStart => exact ⟨n, 0, L, Nat.le_refl _, by go_num, rfl, hn, ⟨Int.le_refl _, hd0, [], by simp [List.take_of_length_le (Nat.le_of_eq hn)], by simp; omega, by rw [List.drop_eq_nil_of_le (by omega)]; simp [val]⟩, hO, But.refl _ _⟩
  case round =>
    obtain ⟨k, r, L', hk, rfl, rfl, hL', hrel, hown, hbut⟩ := hrel
    have h0 := hrel.1
    have h1 := hrel.2.1
    by_cases hk0 : k = 0
    · subst hk0
      obtain ⟨_, _, Q, hQ1, hQ2, hv⟩ := hrel
      rw [List.take_zero, List.nil_append] at hQ1
      rw [List.drop_zero] at hv
      have HV := Bx.mk hv
      clear hv
      go_wp2
      go_ret
      exact ⟨r, L', rfl, h0, h1, hL', by rw [hQ1]; exact HV.out, hown, hbut⟩
    · have hcell := hown.cell (k - 1) (by omega)
      have hfree := hown.free (k - 1)
      have hst := divRel_step hLok hd1 (k := k - 1) (by rw [show k - 1 + 1 = k from by omega]; exact hrel) (by omega)
      rw [hst.1] at hcell
      have hx := hLok.getD (k - 1)
      generalize L.getD (k - 1) 0 = x at *
      have hdiv := fun w => div32 r x d w h0 hx.1 hx.2 hd1 h1
      have hq0 : 0 ≤ (r * 4294967296 + x) / d := Int.ediv_nonneg (by omega) (by omega)
      have hq1 : (r * 4294967296 + x) / d < 4294967296 := by
        refine Int.ediv_lt_of_lt_mul (by omega) ?_
        have : (r + 1) * 4294967296 ≤ 4294967296 * d := by omega
        omega
      generalize (r * 4294967296 + x) / d = q at *
      generalize (r * 4294967296 + x) % d = r2 at *
      have hs2 := hown.store (k - 1) hq0 hq1
      have HR := Bx.mk hst.2
      have HS := Bx.mk hs2
      have HBB := Bx.mk (hbut.setCell (k - 1) (.int .u32 q))
      have HD := Bx.mk hdiv
      have HO := Bx.mk hown
      clear hst hs2 hdiv hrel hO hown
      have hb1 : (0 : Int) ≤ (k : Int) - 1 := by omega
      go_wp2_with fail
      refine (HD.out _).mono ?_
      rintro e w2 ⟨rfl, dd, rfl⟩
      go_wp2
      go_roundw
      case rel => exact ⟨k - 1, r2, _, by omega, by go_num, rfl, by simp [hL'], HR.out, by first | exact HS.out.drew dd | exact HS.out, ⟨HBB.out.1, HBB.out.2⟩⟩
      case measure => simp [intOf]; omega
end Go.Proofs.YtlfngdbpnhaphaaGreatDoor
namespace Go.Proofs.YtlfngdbpnhaphaaGreatDoor.M
/-- The list R with k limbs from d on replaced by C. -/
def Win (R : List Int) (d k : Nat) (C R' : List Int) : Prop := C.length = k ∧ R' = R.take d ++ C ++ R.drop (d + k)
theorem Win.nil (R : List Int) (d : Nat) : Win R d 0 [] R := ⟨rfl, by simp⟩
theorem Win.len {R : List Int} {d k : Nat} {C R' : List Int} (h : Win R d k C R') (hd : d + k ≤ R.length) : R'.length = R.length := by
  obtain ⟨hC, rfl⟩ := h; simp [hC]; omega
theorem Win.get {R : List Int} {d k : Nat} {C R' : List Int} (h : Win R d k C R') (hd : d + k < R.length) : R'.getD (d + k) 0 = R.getD (d + k) 0 := by
  obtain ⟨hC, rfl⟩ := h
  have hX : (R.take d).length = d := by rw [List.length_take]; omega
  rw [List.getD_eq_getElem?_getD, List.getElem?_append_right (by simp [hC]; omega)]
  simp [hC, Nat.min_eq_left (show d ≤ R.length by omega), List.getD]
theorem Win.set {R : List Int} {d k : Nat} {C R' : List Int} (h : Win R d k C R') (hd : d + k < R.length) (x : Int) : Win R d (k + 1) (C ++ [x]) (R'.set (d + k) x) := by
  obtain ⟨hC, rfl⟩ := h
  have hX : (R.take d).length = d := by rw [List.length_take]; omega
  refine ⟨by simp [hC], ?_⟩
  rw [drop_step R (d + k) (by omega), List.set_append_right _ _ (by simp [hC]; omega)]
  have e : d + k - (R.take d ++ C).length = 0 := by simp [hC, hX]
  rw [e, List.set_cons_zero, Nat.add_assoc]; simp
/-- A window of a window. -/
theorem Win.again {R R1 R2 : List Int} {d k : Nat} {C C' : List Int} (h : Win R d k C R1) (h' : Win R1 d k C' R2) (hd : d + k ≤ R.length) : Win R d k C' R2 ∧ (R1.drop d).take k = C := by
  obtain ⟨hC, rfl⟩ := h
  obtain ⟨hC', rfl⟩ := h'
  have hX : (R.take d).length = d := by rw [List.length_take]; omega
  have e1 : (R.take d ++ C ++ R.drop (d + k)).take d = R.take d := by
    rw [List.append_assoc, List.take_append_of_le_length (by omega), List.take_of_length_le (by omega)]
  have e2 : (R.take d ++ C ++ R.drop (d + k)).drop (d + k) = R.drop (d + k) := by
    rw [List.drop_append_of_le_length (by simp [hC]; omega), List.drop_eq_nil_of_le (by simp [hC]; omega)]; rfl
  have e3 : (R.take d ++ C ++ R.drop (d + k)).drop d = C ++ R.drop (d + k) := by
    rw [List.append_assoc, List.drop_append_of_le_length (by omega), List.drop_eq_nil_of_le (by omega)]; rfl
  refine ⟨⟨hC', by rw [e1, e2]⟩, ?_⟩
  rw [e3, List.take_append_of_le_length (by omega), List.take_of_length_le (by omega)]
theorem Win.val {R R1 : List Int} {d k : Nat} {C : List Int} (h : Win R d k C R1) (hd : d + k ≤ R.length) : val R1 = val (R.take d) + pw d * val C + pw (d + k) * val (R.drop (d + k)) := by
  obtain ⟨hC, rfl⟩ := h
  have hX : (R.take d).length = d := by rw [List.length_take]; omega
  rw [val_append, val_append, List.length_append, hX, hC]
theorem val_win (R : List Int) (d k : Nat) (hd : d + k ≤ R.length) : val R = val (R.take d) + pw d * val ((R.drop d).take k) + pw (d + k) * val (R.drop (d + k)) := by
  have h : Win R d k ((R.drop d).take k) R := ⟨by rw [List.length_take, List.length_drop]; omega, by
    have e : R.drop d = (R.drop d).take k ++ R.drop (d + k) := by rw [← List.drop_drop, List.take_append_drop]
    conv => lhs; rw [← List.take_append_drop d R, e]
    simp⟩
  exact h.val hd
theorem win_get (R : List Int) (d k : Nat) : (R.drop d).getD k 0 = R.getD (d + k) 0 := by simp [List.getD, List.getElem?_drop]
theorem sub2_step (P l x y c b s t : Int) (h : s = t + P * (c + b)) :
    s + P * ((l - (c + x * y) % 4294967296 - b) % 4294967296) = t + P * l - x * (P * y) + 4294967296 * P * ((c + x * y) / 4294967296 + -((l - (c + x * y) % 4294967296 - b) / 4294967296)) := by
  have e1 : (c + x * y) % 4294967296 + 4294967296 * ((c + x * y) / 4294967296) = c + x * y := Int.emod_add_mul_ediv _ _
  generalize (c + x * y) / 4294967296 = u at *
  generalize hm : (c + x * y) % 4294967296 = m at *
  have e2 : (l - m - b) % 4294967296 + 4294967296 * ((l - m - b) / 4294967296) = l - m - b := Int.emod_add_mul_ediv _ _
  generalize (l - m - b) / 4294967296 = v at *
  generalize (l - m - b) % 4294967296 = z at *
  have hz : z = l - m - b - 4294967296 * v := by omega
  have hmm : m = c + x * y - 4294967296 * u := by omega
  have e3 : P * z = P * l - P * c - x * (P * y) - P * b + 4294967296 * P * u - 4294967296 * P * v := by
    rw [hz, hmm]
    simp only [Int.mul_sub, Int.mul_add]
    rw [Int.mul_left_comm P x y, Int.mul_left_comm P 4294967296 u, Int.mul_left_comm P 4294967296 v, ← Int.mul_assoc 4294967296 P u, ← Int.mul_assoc 4294967296 P v]
    omega
  rw [h, e3, Int.mul_add, Int.mul_add, Int.mul_neg]
  omega
theorem addBack_step {R A C : List Int} {d k : Nat} {cy l y : Int} (hC : C.length = k) (hl : R.getD (d + k) 0 = l) (hy : A.getD k 0 = y) (h : val C + pw k * cy = val ((R.drop d).take k) + val (A.take k)) :
    val (C ++ [(l + y + cy) % 4294967296]) + pw (k + 1) * ((l + y + cy) / 4294967296) = val ((R.drop d).take (k + 1)) + val (A.take (k + 1)) := by
  have e := sum_step (pw k) l y cy _ _ h
  rw [val_snoc, hC, val_take_succ', val_take_succ', win_get, hl, hy, pw_succ]
  omega
theorem subTimes_step {R A C : List Int} {d k : Nat} {c b x l y : Int} (hC : C.length = k) (hl : R.getD (d + k) 0 = l) (hy : A.getD k 0 = y) (h : val C = val ((R.drop d).take k) - x * val (A.take k) + pw k * (c + b)) :
    val (C ++ [(l - (c + x * y) % 4294967296 - b) % 4294967296]) = val ((R.drop d).take (k + 1)) - x * val (A.take (k + 1)) + pw (k + 1) * ((c + x * y) / 4294967296 + -((l - (c + x * y) % 4294967296 - b) / 4294967296)) := by
  have e := sub2_step (pw k) l x y c b _ _ h
  rw [val_snoc, hC, val_take_succ', val_take_succ', win_get, hl, hy, pw_succ, Int.mul_add x]
  omega
/-- The guess of a quotient's limb. -/
def gv (high low d : Int) : Int := if high ≥ d then 4294967295 else (high * 4294967296 + low) / d
theorem gv_bounds {h l d : Int} (h0 : 0 ≤ h) (l0 : 0 ≤ l) (l1 : l < 4294967296) (d0 : 0 < d) : 0 ≤ gv h l d ∧ gv h l d < 4294967296 := by
  unfold gv
  split
  · omega
  · refine ⟨Int.ediv_nonneg (by omega) (by omega), Int.ediv_lt_of_lt_mul d0 ?_⟩
    have : (h + 1) * 4294967296 ≤ 4294967296 * d := by omega
    omega
theorem guess_ge {X A : List Int} {n : Nat} (hX : Ok X) (hA : Ok A) (hn : n ≠ 0) (hXn : X.length = n + 1) (hAn : A.length = n) (hd : 0 < A.getD (n - 1) 0) (hV : val X < 4294967296 * val A) :
    val X / val A ≤ gv (X.getD n 0) (X.getD (n - 1) 0) (A.getD (n - 1) 0) := by
  obtain ⟨m, rfl⟩ : ∃ m, n = m + 1 := ⟨n - 1, by omega⟩
  simp only [Nat.add_sub_cancel] at *
  have hX2 : val X = val (X.take m) + pw m * X.getD m 0 + pw (m + 1) * X.getD (m + 1) 0 := by
    have e := val_take_succ X (m + 1) (by omega)
    rw [List.take_of_length_le (by omega), val_take_succ X m (by omega)] at e; exact e
  have hA2 : val A = val (A.take m) + pw m * A.getD m 0 := by
    have e := val_take_succ A m (by omega)
    rw [List.take_of_length_le (by omega)] at e; exact e
  have hp := pw_pos m
  have hx := hX.getD m
  have hh := hX.getD (m + 1)
  have hxl := val_lt (hX.take m)
  rw [List.length_take, Nat.min_eq_left (by omega)] at hxl
  have hal := val_nonneg (hA.take m)
  have hDpos : 0 < val A := by
    have : 0 < pw m * A.getD m 0 := Int.mul_pos hp hd
    omega
  have hVn := val_nonneg hX
  unfold gv
  split
  · have : val X / val A < 4294967296 := Int.ediv_lt_of_lt_mul hDpos (by omega)
    omega
  · refine Int.le_ediv_of_mul_le hd ?_
    have h1 : val X / val A * val A ≤ val X := Int.ediv_mul_le _ (by omega)
    have hq : 0 ≤ val X / val A := Int.ediv_nonneg hVn (by omega)
    generalize val X / val A = q at *
    have h2 : q * (pw m * A.getD m 0) ≤ q * val A := Int.mul_le_mul_of_nonneg_left (by omega) hq
    have h3 : pw m * (q * A.getD m 0) < pw m * (X.getD (m + 1) 0 * 4294967296 + X.getD m 0 + 1) := by
      have e1 : pw m * (q * A.getD m 0) = q * (pw m * A.getD m 0) := Int.mul_left_comm _ _ _
      have e2 : pw m * (X.getD (m + 1) 0 * 4294967296 + X.getD m 0 + 1) = pw (m + 1) * X.getD (m + 1) 0 + pw m * X.getD m 0 + pw m := by
        rw [Int.mul_add, Int.mul_add, pw_succ, Int.mul_one, Int.mul_comm (X.getD (m + 1) 0) 4294967296, Int.mul_left_comm, Int.mul_assoc]
      omega
    have h4 := Int.lt_of_mul_lt_mul_left h3 (by omega)
    omega
end Go.Proofs.YtlfngdbpnhaphaaGreatDoor.M
namespace Go.Proofs.YtlfngdbpnhaphaaGreatDoor
open Go.RowKit M
theorem make_any (x : Nat) (w : World) (hx : x < 18446744073709551616) : Calls Tryz.prog 37 #[.int .u64 x] w (RetNat w x) := by
  have hb0 : (0 : Int) ≤ (x : Int) % 4294967296 ∧ (x : Int) % 4294967296 < 4294967296 := by omega
  have hb1 : (0 : Int) ≤ (x : Int) / 4294967296 ∧ (x : Int) / 4294967296 < 4294967296 := by omega
  have hv : val [(x : Int) % 4294967296, (x : Int) / 4294967296] = x := by simp only [val]; omega
  have hok : Ok [(x : Int) % 4294967296, (x : Int) / 4294967296] := Ok.cons hb0.1 hb0.2 (Ok.cons hb1.1 hb1.2 Ok.nil)
  have hown := World.ownsRow_lit (e := 57) (size := 1) (base := w.heap.size) w #[.int .u32 ((x : Int) % 4294967296), .int .u32 ((x : Int) / 4294967296)] 2 (Nat.le_refl _) (by unfold maxLen; omega) rfl
  have hcells : CellsK .u32 (w.alloc (.cells #[.int .u32 ((x : Int) % 4294967296), .int .u32 ((x : Int) / 4294967296)] 57)) (some ⟨w.heap.size, 0, none⟩) [(x : Int) % 4294967296, (x : Int) / 4294967296] := cells_of_owns hown
  have htrim := trim_any _ _ 2 2 _ rfl (Nat.le_refl _) (by unfold maxLen; omega) hok hcells
  have hrd := Rd.trimmed (s := x) hcells hok (cap := 2) (by simp) (by unfold maxLen; omega) hv
  have hbel : Below w.heap.size w (w.alloc (.cells #[.int .u32 ((x : Int) % 4294967296), .int .u32 ((x : Int) / 4294967296)] 57)) := (Below.refl _ _).alloc (Nat.le_refl _) _
  have HT := Bx.mk htrim
  have HR := Bx.mk hrd
  have hx' : (x : Int) < 18446744073709551616 := by omega
  clear htrim hrd hown hcells hok hv hx
  go_enter Tryz.func37, Tryz.ntmps37
  go_wp2_with fail
  refine HT.out.mono ?_
  rintro e w2 ⟨rfl, rfl⟩
  go_wp2
  go_ret
  exact ⟨_, rfl, HR.out, hbel⟩
theorem guess_any (h l d : Int) (w : World) (h0 : 0 ≤ h) (h1 : h < 4294967296) (l0 : 0 ≤ l) (l1 : l < 4294967296) (d1 : d < 4294967296) :
    Calls Tryz.prog 123 #[.int .u32 h, .int .u32 l, .int .u32 d] w fun e w' => e = .returned (.int .u32 (gv h l d)) ∧ Quiet w w' := by
  by_cases hd : h ≥ d
  · have e : gv h l d = 4294967295 := by unfold gv; rw [if_pos hd]
    have HE := Bx.mk e
    clear e
    go_enter Tryz.func123, Tryz.ntmps123
    go_wp2
    go_ret
    exact ⟨by rw [HE.out]; rfl, Quiet.refl w⟩
  · have e : gv h l d = (h * 4294967296 + l) / d := by unfold gv; rw [if_neg hd]
    have hdiv := div32 h l d w h0 l0 l1 d1 (by omega)
    have hdd : decide (d ≤ h) = false := by simp; omega
    generalize (h * 4294967296 + l) / d = q at *
    generalize (h * 4294967296 + l) % d = r at *
    have HE := Bx.mk e
    clear e
    go_enter Tryz.func123, Tryz.ntmps123
    go_wp2_with fail
    refine hdiv.mono ?_
    rintro e w2 ⟨rfl, hq⟩
    go_wp2
    go_ret
    exact ⟨by rw [HE.out]; rfl, hq⟩
theorem OwnB.but {base : Nat} {w0 wr w' : World} {g g' : Nat} {L : List Int} (h : OwnB base w0 wr g L) (hb : But g' wr w') (hg : g ≠ g') (hbel : Below base w0 w') : OwnB base w0 w' g L := by
  obtain ⟨cur, hh, hs, hc⟩ := h.blk
  exact ⟨h.ok, h.ge, ⟨cur, by rw [hb.2 g hg]; exact hh, hs, hc⟩, hbel⟩
theorem addBack_any (base : Nat) (w0 wr0 : World) (g d n cc ca : Nat) (ao : Option Addr) (R A : List Int) (hAn : A.length = n) (hd : d + n + 1 ≤ R.length) (hR6 : R.length ≤ 100000) (hA : Ok A) (hO : OwnB base w0 wr0 g R)
    (hca : CellsK .u32 wr0 ao A) (hsep : A ≠ [] → ∀ a, ao = some a → a.block ≠ g) :
    Calls Tryz.prog 125 #[.slice (some ⟨g, d, none⟩) (n + 1 : Nat) cc, .slice ao n ca] wr0 fun e w' =>
      ∃ (cy : Int) (C R' : List Int), e = .returned (.int .u32 cy) ∧ 0 ≤ cy ∧ cy ≤ 1 ∧ Win R d (n + 1) C R' ∧ val C + pw (n + 1) * cy = val ((R.drop d).take (n + 1)) + val A ∧ OwnB base w0 w' g R' ∧ But g wr0 w' := by
  have HS := Bx.mk hsep
  have hRok := hO.ok
  clear hsep
  go_enter Tryz.func125, Tryz.ntmps125
  go_wp2
  go_loopw [5, 11] (fun c i wr => ∃ (k : Nat) (cy : Int) (C R' : List Int), k ≤ n ∧ i = .int .i64 k ∧ c = .int .u32 cy ∧ 0 ≤ cy ∧ cy ≤ 1 ∧ Win R d k C R' ∧ Bx (val C + pw k * cy = val ((R.drop d).take k) + val (A.take k)) ∧ OwnB base w0 wr g R' ∧ But g wr0 wr) (fun _ i _ => n - (intOf i).toNat)
  case atStart => exact ⟨0, 0, [], R, Nat.zero_le _, rfl, rfl, Int.le_refl _, by omega, Win.nil R d, ⟨by simp [val]⟩, hO, But.refl _ _⟩
  case round =>
    obtain ⟨k, cy, C, R', hk, rfl, rfl, h0, h1, hwin, HV, hown, hbut⟩ := hrel
    have hlen := hwin.len (by omega)
    have hget := hwin.get (by omega)
    have hcell := hown.cell (d + k) (by omega)
    have hfree := hown.free (d + k)
    rw [hget] at hcell
    have hl := hRok.getD (d + k)
    by_cases hlt : k < n
    · have hne : A ≠ [] := by intro e; subst e; simp at hAn; omega
      obtain ⟨a, rfl, _, hac⟩ := (hbut.cells hca HS.out) hne
      have hcA := hac k (by omega)
      have ha := hA.getD k
      have hstep := addBack_step hwin.1 rfl rfl HV.out
      have hwin2 := hwin.set (by omega) ((R.getD (d + k) 0 + A.getD k 0 + cy) % 4294967296)
      have hs2 := hown.store (d + k) (x := (R.getD (d + k) 0 + A.getD k 0 + cy) % 4294967296) (by omega) (by omega)
      have hb2 := hbut.setCell (d + k) (.int .u32 ((R.getD (d + k) 0 + A.getD k 0 + cy) % 4294967296))
      have hadd := add32 (R.getD (d + k) 0) (A.getD k 0) cy wr hl.1 hl.2 ha.1 ha.2 h0 h1
      have hz0 : 0 ≤ (R.getD (d + k) 0 + A.getD k 0 + cy) / 4294967296 := by omega
      have hz1 : (R.getD (d + k) 0 + A.getD k 0 + cy) / 4294967296 ≤ 1 := by omega
      generalize (R.getD (d + k) 0 + A.getD k 0 + cy) / 4294967296 = z at *
      generalize (R.getD (d + k) 0 + A.getD k 0 + cy) % 4294967296 = u at *
      generalize R.getD (d + k) 0 = l at *
      generalize A.getD k 0 = y at *
      have HST := Bx.mk hstep
      have HW := Bx.mk hwin2
      have HS2 := Bx.mk hs2
      have HB2 := Bx.mk hb2
      have HADD := Bx.mk hadd
      clear hstep hwin2 hs2 hb2 hadd hwin hown hbut hget hlen hac
      go_wp2_with fail
      refine HADD.out.mono ?_
      rintro e w2 ⟨rfl, rfl⟩
      go_wp2
      go_roundw
      case rel => exact ⟨k + 1, z, _, _, by omega, by go_num, rfl, hz0, hz1, HW.out, HST, HS2.out, HB2.out⟩
      case measure => simp [intOf]; omega
    · have hkn : k = n := by omega
      subst hkn
      have hA0 : A.getD k 0 = 0 := by rw [List.getD_eq_getElem?_getD, List.getElem?_eq_none (by omega)]; rfl
      have hstep := addBack_step hwin.1 rfl hA0 HV.out
      rw [List.take_of_length_le (show A.length ≤ k + 1 by omega)] at hstep
      have hwin2 := hwin.set (by omega) ((R.getD (d + k) 0 + 0 + cy) % 4294967296)
      have hs2 := hown.store (d + k) (x := (R.getD (d + k) 0 + 0 + cy) % 4294967296) (by omega) (by omega)
      have hb2 := hbut.setCell (d + k) (.int .u32 ((R.getD (d + k) 0 + 0 + cy) % 4294967296))
      have hadd := add32 (R.getD (d + k) 0) 0 cy wr hl.1 hl.2 (by omega) (by omega) h0 h1
      have hz0 : 0 ≤ (R.getD (d + k) 0 + 0 + cy) / 4294967296 := by omega
      have hz1 : (R.getD (d + k) 0 + 0 + cy) / 4294967296 ≤ 1 := by omega
      generalize (R.getD (d + k) 0 + 0 + cy) / 4294967296 = z at *
      generalize (R.getD (d + k) 0 + 0 + cy) % 4294967296 = u at *
      generalize R.getD (d + k) 0 = l at *
      have HST := Bx.mk hstep
      have HW := Bx.mk hwin2
      have HS2 := Bx.mk hs2
      have HB2 := Bx.mk hb2
      have HADD := Bx.mk hadd
      clear hstep hwin2 hs2 hb2 hadd hwin hown hbut hget hlen hA0
      go_wp2_with fail
      refine HADD.out.mono ?_
      rintro e w2 ⟨rfl, rfl⟩
      go_wp2
      go_ret
      exact ⟨z, _, _, rfl, hz0, hz1, HW.out, HST.out, HS2.out, HB2.out⟩
theorem subTimes_any (base : Nat) (w0 wr0 : World) (g d n cc ca : Nat) (ao : Option Addr) (R A : List Int) (x : Int) (hAn : A.length = n) (hd : d + n + 1 ≤ R.length) (hR6 : R.length ≤ 100000) (hA : Ok A) (hO : OwnB base w0 wr0 g R)
    (hx0 : 0 ≤ x) (hx1 : x < 4294967296) (hca : CellsK .u32 wr0 ao A) (hsep : A ≠ [] → ∀ a, ao = some a → a.block ≠ g) :
    Calls Tryz.prog 124 #[.slice (some ⟨g, d, none⟩) (n + 1 : Nat) cc, .slice ao n ca, .int .u32 x] wr0 fun e w' =>
      ∃ (b : Int) (C R' : List Int), e = .returned (.int .u32 b) ∧ 0 ≤ b ∧ b ≤ 1 ∧ Win R d (n + 1) C R' ∧ val C = val ((R.drop d).take (n + 1)) - x * val A + pw (n + 1) * b ∧ OwnB base w0 w' g R' ∧ But g wr0 w' := by
  have HS := Bx.mk hsep
  have hRok := hO.ok
  clear hsep
  go_enter Tryz.func124, Tryz.ntmps124
  go_wp2
  go_loopw [7, 8, 14] (fun cv bv i wr => ∃ (k : Nat) (c b : Int) (C R' : List Int), k ≤ n ∧ i = .int .i64 k ∧ cv = .int .u64 c ∧ bv = .int .u32 b ∧ 0 ≤ c ∧ c < 4294967296 ∧ 0 ≤ b ∧ b ≤ 1 ∧ Win R d k C R' ∧ Bx (val C = val ((R.drop d).take k) - x * val (A.take k) + pw k * (c + b)) ∧ OwnB base w0 wr g R' ∧ But g wr0 wr) (fun _ _ i _ => n - (intOf i).toNat)
  case atStart => exact ⟨0, 0, 0, [], R, Nat.zero_le _, rfl, rfl, rfl, Int.le_refl _, by omega, Int.le_refl _, by omega, Win.nil R d, ⟨by simp [val]⟩, hO, But.refl _ _⟩
  case round =>
    obtain ⟨k, c, b, C, R', hk, rfl, rfl, rfl, c0, c1, b0, b1, hwin, HV, hown, hbut⟩ := hrel
    have hlen := hwin.len (by omega)
    have hget := hwin.get (by omega)
    have hcell := hown.cell (d + k) (by omega)
    have hfree := hown.free (d + k)
    rw [hget] at hcell
    have hl := hRok.getD (d + k)
    by_cases hlt : k < n
    · have hne : A ≠ [] := by intro e; subst e; simp at hAn; omega
      obtain ⟨a, rfl, _, hac⟩ := (hbut.cells hca HS.out) hne
      have hcA := hac k (by omega)
      have ha := hA.getD k
      have hm := mul_small x (A.getD k 0) hx0 ha.1 hx1 ha.2
      have hstep := subTimes_step hwin.1 rfl rfl HV.out
      generalize A.getD k 0 = y at *
      have hs0 : 0 ≤ c + x * y := by omega
      have hs1 : c + x * y ≤ 18446744073709551615 := by omega
      generalize R.getD (d + k) 0 = l at *
      have hwin2 := hwin.set (by omega) ((l - (c + x * y) % 4294967296 - b) % 4294967296)
      have hs2 := hown.store (d + k) (x := (l - (c + x * y) % 4294967296 - b) % 4294967296) (by omega) (by omega)
      have hb2 := hbut.setCell (d + k) (.int .u32 ((l - (c + x * y) % 4294967296 - b) % 4294967296))
      have hsub := sub32 l ((c + x * y) % 4294967296) b wr hl.1 hl.2 (by omega) (by omega) b0 b1
      have hz0 : 0 ≤ -((l - (c + x * y) % 4294967296 - b) / 4294967296) := by omega
      have hz1 : -((l - (c + x * y) % 4294967296 - b) / 4294967296) ≤ 1 := by omega
      generalize -((l - (c + x * y) % 4294967296 - b) / 4294967296) = z at *
      generalize (l - (c + x * y) % 4294967296 - b) % 4294967296 = u at *
      have hc0 : 0 ≤ (c + x * y) / 4294967296 := by omega
      have hc1 : (c + x * y) / 4294967296 < 4294967296 := by omega
      have HST := Bx.mk hstep
      have HW := Bx.mk hwin2
      have HS2 := Bx.mk hs2
      have HB2 := Bx.mk hb2
      have HSUB := Bx.mk hsub
      clear hstep hwin2 hs2 hb2 hsub hwin hown hbut hget hlen hac
      go_wp2_with fail
      refine HSUB.out.mono ?_
      rintro e w2 ⟨rfl, rfl⟩
      go_wp2
      go_roundw
      case rel => exact ⟨k + 1, _, z, _, _, by omega, by go_num, rfl, rfl, hc0, hc1, hz0, hz1, HW.out, HST, HS2.out, HB2.out⟩
      case measure => simp [intOf]; omega
    · have hkn : k = n := by omega
      subst hkn
      have hA0 : A.getD k 0 = 0 := by rw [List.getD_eq_getElem?_getD, List.getElem?_eq_none (by omega)]; rfl
      have hstep := subTimes_step hwin.1 rfl hA0 HV.out
      have e1 : c % 4294967296 = c := by omega
      have e2 : c / 4294967296 = 0 := by omega
      rw [List.take_of_length_le (show A.length ≤ k + 1 by omega), Int.mul_zero, Int.add_zero, e1, e2, Int.zero_add] at hstep
      generalize R.getD (d + k) 0 = l at *
      have hwin2 := hwin.set (by omega) ((l - c - b) % 4294967296)
      have hs2 := hown.store (d + k) (x := (l - c - b) % 4294967296) (by omega) (by omega)
      have hb2 := hbut.setCell (d + k) (.int .u32 ((l - c - b) % 4294967296))
      have hsub := sub32 l c b wr hl.1 hl.2 c0 c1 b0 b1
      have hz0 : 0 ≤ -((l - c - b) / 4294967296) := by omega
      have hz1 : -((l - c - b) / 4294967296) ≤ 1 := by omega
      generalize -((l - c - b) / 4294967296) = z at *
      generalize (l - c - b) % 4294967296 = u at *
      have HST := Bx.mk hstep
      have HW := Bx.mk hwin2
      have HS2 := Bx.mk hs2
      have HB2 := Bx.mk hb2
      have HSUB := Bx.mk hsub
      clear hstep hwin2 hs2 hb2 hsub hwin hown hbut hget hlen hA0 e1 e2
      go_wp2_with fail
      refine HSUB.out.mono ?_
      rintro e w2 ⟨rfl, rfl⟩
      go_wp2
      go_ret
      exact ⟨z, _, _, rfl, hz0, hz1, HW.out, HST.out, HS2.out, HB2.out⟩
end Go.Proofs.YtlfngdbpnhaphaaGreatDoor
namespace Go.Proofs.YtlfngdbpnhaphaaGreatDoor
open Go.RowKit M
/-- takeOut within its loop: t times the divisor have been taken out, b says that it was too often. -/
def OutRel (R A : List Int) (d n : Nat) (t b : Int) (R' : List Int) : Prop :=
  0 ≤ t ∧ t < 4294967296 ∧ 0 ≤ b ∧ b ≤ 1 ∧ val ((R.drop d).take (n + 1)) / val A ≤ t ∧ ∃ C : List Int, Win R d (n + 1) C R' ∧ val C = val ((R.drop d).take (n + 1)) - t * val A + pw (n + 1) * b
theorem ok_of_win {R R' C : List Int} {d k : Nat} (h : Win R d k C R') (hR : Ok R') : Ok C := by
  obtain ⟨_, rfl⟩ := h; exact hR.left.right
theorem outRel_done {R A R' : List Int} {d n : Nat} {t : Int} (hR' : Ok R') (hA : 0 < val A) (h : OutRel R A d n t 0 R') :
    t = val ((R.drop d).take (n + 1)) / val A ∧ ∃ C : List Int, Win R d (n + 1) C R' ∧ val C = val ((R.drop d).take (n + 1)) % val A := by
  obtain ⟨_, _, _, _, hq, C, hw, hv⟩ := h
  have hc := val_nonneg (ok_of_win hw hR')
  rw [Int.mul_zero, Int.add_zero] at hv
  generalize val ((R.drop d).take (n + 1)) = V at *
  have h1 : t ≤ V / val A := Int.le_ediv_of_mul_le hA (by omega)
  have ht : t = V / val A := by omega
  have he := Int.emod_add_mul_ediv V (val A)
  refine ⟨ht, C, hw, ?_⟩
  rw [hv, ht, Int.mul_comm]; omega
theorem outRel_pos {R A R' : List Int} {d n : Nat} {t : Int} (hR' : Ok R') (hR : Ok R) (hA : 0 < val A) (h : OutRel R A d n t 1 R') : val ((R.drop d).take (n + 1)) / val A ≤ t - 1 ∧ 1 ≤ t := by
  obtain ⟨h0, _, _, _, hq, C, hw, hv⟩ := h
  have hc := val_lt (ok_of_win hw hR')
  rw [hw.1] at hc
  have hV := val_nonneg ((hR.drop d).take (n + 1))
  generalize val ((R.drop d).take (n + 1)) = V at *
  have hneg : V - t * val A < 0 := by omega
  have h1 : V / val A < t := Int.ediv_lt_of_lt_mul hA (by omega)
  have h2 : 0 ≤ V / val A := Int.ediv_nonneg hV (by omega)
  omega
theorem outRel_back {R A R1 R2 C2 : List Int} {d n : Nat} {t cy : Int} (hd : d + n + 1 ≤ R.length) (hR : Ok R) (hR1 : Ok R1) (hA : 0 < val A) (h : OutRel R A d n t 1 R1) (c0 : 0 ≤ cy) (c1 : cy ≤ 1) (hw2 : Win R1 d (n + 1) C2 R2) (hv2 : val C2 + pw (n + 1) * cy = val ((R1.drop d).take (n + 1)) + val A) :
    OutRel R A d n (t - 1) (1 - cy) R2 := by
  have hp := outRel_pos hR1 hR hA h
  obtain ⟨h0, h1, _, _, hq, C, hw, hv⟩ := h
  have ha := hw.again hw2 (by omega)
  rw [ha.2] at hv2
  refine ⟨by omega, by omega, by omega, by omega, hp.1, C2, ha.1, ?_⟩
  rw [Int.sub_mul, Int.mul_sub, Int.mul_one, Int.one_mul]
  rw [Int.mul_one] at hv
  omega
theorem But.trans {g : Nat} {w w1 w2 : World} (h : But g w w1) (k : But g w1 w2) : But g w w2 := ⟨Nat.le_trans h.1 k.1, fun i hi => (k.2 i hi).trans (h.2 i hi)⟩
theorem takeOut_any (base : Nat) (w0 wr0 : World) (g d n cc ca : Nat) (ao : Option Addr) (R A : List Int) (hAn : A.length = n) (hn0 : n ≠ 0) (hd : d + n + 1 ≤ R.length) (hR6 : R.length ≤ 100000) (hA : Ok A) (hO : OwnB base w0 wr0 g R)
    (htop : 0 < A.getD (n - 1) 0) (hV : val ((R.drop d).take (n + 1)) < 4294967296 * val A) (hca : CellsK .u32 wr0 ao A) (hsep : A ≠ [] → ∀ a, ao = some a → a.block ≠ g) :
    Calls Tryz.prog 111 #[.slice (some ⟨g, d, none⟩) (n + 1 : Nat) cc, .slice ao n ca] wr0 fun e w' =>
      ∃ (t : Int) (C R' : List Int), e = .returned (.int .u32 t) ∧ t = val ((R.drop d).take (n + 1)) / val A ∧ Win R d (n + 1) C R' ∧ val C = val ((R.drop d).take (n + 1)) % val A ∧ OwnB base w0 w' g R' ∧ But g wr0 w' := by
  have hRok := hO.ok
  have hne : A ≠ [] := by intro e; subst e; simp at hAn; omega
  have hApos : 0 < val A := by
    obtain ⟨m, rfl⟩ : ∃ m, n = m + 1 := ⟨n - 1, by omega⟩
    have e := val_take_succ A m (by omega)
    rw [List.take_of_length_le (by omega)] at e
    have h1 := val_nonneg (hA.take m)
    have h2 : 0 < pw m * A.getD m 0 := Int.mul_pos (pw_pos m) (by simpa using htop)
    omega
  have hXok : Ok ((R.drop d).take (n + 1)) := (hRok.drop d).take (n + 1)
  have hXn : ((R.drop d).take (n + 1)).length = n + 1 := by rw [List.length_take, List.length_drop]; omega
  have hgv := guess_ge hXok hA hn0 hXn hAn htop hV
  have e1 : ((R.drop d).take (n + 1)).getD n 0 = R.getD (d + n) 0 := by simp [List.getD, List.getElem?_drop]
  have e2 : ((R.drop d).take (n + 1)).getD (n - 1) 0 = R.getD (d + (n - 1)) 0 := by simp [List.getD, List.getElem?_drop, show n - 1 < n + 1 from by omega]
  rw [e1, e2] at hgv
  have hh := hRok.getD (d + n)
  have hl := hRok.getD (d + (n - 1))
  have hdd := hA.getD (n - 1)
  have hch := hO.cell (d + n) (by omega)
  have hcl := hO.cell (d + (n - 1)) (by omega)
  obtain ⟨a, rfl, _, hac⟩ := hca hne
  have hcd := hac (n - 1) (by omega)
  have hg0 := gv_bounds hh.1 hl.1 hl.2 htop
  have hguess := fun w => guess_any (R.getD (d + n) 0) (R.getD (d + (n - 1)) 0) (A.getD (n - 1) 0) w hh.1 hh.2 hl.1 hl.2 hdd.2
  generalize gv (R.getD (d + n) 0) (R.getD (d + (n - 1)) 0) (A.getD (n - 1) 0) = t0 at *
  generalize R.getD (d + n) 0 = hi at *
  generalize R.getD (d + (n - 1)) 0 = lo at *
  generalize A.getD (n - 1) 0 = dt at *
  have hsub := fun q => subTimes_any base w0 (wr0.drewN q) g d n cc ca (some a) R A t0 hAn hd hR6 hA (hO.drew q) hg0.1 hg0.2 (hca.keep (below_drewN (Below.refl _ _) q)) hsep
  have hbq : ∀ q w', But g (wr0.drewN q) w' → But g wr0 w' := fun q w' h => ⟨h.1, h.2⟩
  have HSUB := Bx.mk hsub
  have HBQ := Bx.mk hbq
  clear hsub hbq
  have HS := Bx.mk hsep
  have HG := Bx.mk hguess
  have HGV := Bx.mk hgv
  have HAP := Bx.mk hApos
  have HCA := Bx.mk hca
  have hb1 : (n : Int) < ((n + 1 : Nat) : Int) := by omega
  have hb2 : (n : Int) - 1 < ((n + 1 : Nat) : Int) := by omega
  have hb3 : (0 : Int) ≤ (n : Int) - 1 := by omega
  have hb4 : (n : Int) - 1 < (n : Int) := by omega
  clear hsep hguess hgv hApos hca hXok hXn e1 e2 hac hV htop
  go_enter Tryz.func111, Tryz.ntmps111
  go_wp2_with fail
  go_quiet ((go_at_call 123; exact Calls.quiet_of ((HG.out _).mono fun _ _ h => ⟨h.1, h.2⟩)))
  go_wp2_with fail
  refine (HSUB.out _).mono ?_
  rintro e w1 ⟨b, C, R1, rfl, b0, b1, hwin, hv, hown, hbut⟩
  have hrel : OutRel R A d n t0 b R1 := ⟨hg0.1, hg0.2, b0, b1, HGV.out, C, hwin, hv⟩
  have hbut := HBQ.out _ _ hbut
  clear hwin hv hh hl hch hcl hcd hdd hb1 hb2 hb3 hb4 HSUB
  go_wp2_with fail
  go_loopw [6, 7] (fun tv bv wr => ∃ (t b : Int) (R' : List Int), tv = .int .u32 t ∧ bv = .int .u32 b ∧ OutRel R A d n t b R' ∧ R'.length = R.length ∧ OwnB base w0 wr g R' ∧ But g wr0 wr) (fun tv _ _ => (intOf tv).toNat)
  case atStart => exact ⟨t0, b, R1, rfl, rfl, hrel, by obtain ⟨_, _, _, _, _, C', hw', _⟩ := hrel; exact hw'.len (by omega), hown, hbut⟩
  case round =>
    obtain ⟨t, b, R', rfl, rfl, hrel, hlen, hown, hbut⟩ := hrel
    have t0' := hrel.1
    have t1' := hrel.2.1
    by_cases hb : b = 0
    · subst hb
      have hdone := outRel_done hown.ok HAP.out hrel
      have HD := Bx.mk hdone
      clear hdone hrel
      go_wp2
      go_ret
      obtain ⟨ht, C', hw', hv'⟩ := HD.out
      exact ⟨t, C', R', rfl, ht, hw', hv', hown, hbut⟩
    · have hb1 : b = 1 := by have := hrel.2.2.1; have := hrel.2.2.2.1; omega
      subst hb1
      have hp := outRel_pos hown.ok hRok HAP.out hrel
      have hp1 := hp.2
      have hback := addBack_any base w0 wr g d n cc ca (some a) R' A hAn (by omega) (by omega) hA hown (hbut.cells HCA.out HS.out) HS.out
      have HBK := Bx.mk hback
      have HR := Bx.mk hrel
      have HO := Bx.mk hown
      have HBT := Bx.mk hbut
      clear hback hrel hown hbut hp hb
      go_wp2_with fail
      refine HBK.out.mono ?_
      rintro e w2 ⟨cy, C2, R2, rfl, c0, c1, hw2, hv2, hown2, hbut2⟩
      have hnew := outRel_back hd hRok HO.out.ok HAP.out HR.out c0 c1 hw2 hv2
      have hlen2 := (hw2.len (by omega)).trans hlen
      have hbt := HBT.out.trans hbut2
      have HN := Bx.mk hnew
      have HT2 := Bx.mk hbt
      clear hnew hbt hw2 hv2 hbut2
      go_wp2
      go_roundw
      case rel => exact ⟨t - 1, 1 - cy, R2, rfl, rfl, HN.out, hlen2, hown2, HT2.out⟩
      case measure => simp [intOf]; omega
end Go.Proofs.YtlfngdbpnhaphaaGreatDoor
namespace Go.Proofs.YtlfngdbpnhaphaaGreatDoor
open Go.RowKit M
theorem shl_low (x : Int) (s : Nat) (hs : s < 32) : x * 2 ^ s % 4294967296 = 2 ^ s * (x % 2 ^ (32 - s)) := by
  have e32 : (4294967296 : Int) = 2 ^ s * 2 ^ (32 - s) := by rw [← Int.pow_add, show s + (32 - s) = 32 from by omega]; rfl
  have hp : (0 : Int) < 2 ^ s := Int.pow_pos (by omega)
  rw [e32, Int.mul_comm x, Int.mul_emod_mul_of_pos _ _ hp]
theorem two_pow_lt (s : Nat) (hs : s < 32) : (2 : Int) ^ s ≤ 2147483648 := by
  have : 2 ^ s ≤ 2 ^ 31 := Nat.pow_le_pow_right (by omega) (by omega)
  have h2 : ((2 ^ s : Nat) : Int) ≤ ((2 ^ 31 : Nat) : Int) := by omega
  simpa using h2
theorem shl_or (h x : Int) (s : Nat) (hs : s < 32) (h0 : 0 ≤ h) (h1 : h < 2 ^ s) : bits .or .u32 h (x * 2 ^ s % 4294967296) = h + x * 2 ^ s % 4294967296 := by
  have hlt := two_pow_lt s hs
  obtain ⟨H, rfl⟩ := Int.eq_ofNat_of_zero_le h0
  obtain ⟨Y, hY⟩ := Int.eq_ofNat_of_zero_le (Int.emod_nonneg (x * 2 ^ s) (by omega : (4294967296 : Int) ≠ 0))
  have hY1 : (Y : Int) < 4294967296 := by rw [← hY]; exact Int.emod_lt_of_pos _ (by omega)
  have hz : (Y : Int) % 2 ^ s = 0 := by rw [← hY, shl_low x s hs]; exact Int.mul_emod_right _ _
  have hz2 : Y % 2 ^ s = 0 := by
    have e : ((Y % 2 ^ s : Nat) : Int) = 0 := by push_cast; exact hz
    exact Int.ofNat_eq_zero.1 e
  have hH : H < 2 ^ s := by
    have e : (H : Int) < ((2 ^ s : Nat) : Int) := by push_cast; exact h1
    exact Int.ofNat_lt.1 e
  rw [hY, u32_or_nat H Y (by omega) (by omega), Nat.or_comm, nat_join s Y H hz2 hH, Int.natCast_add, Int.add_comm]
theorem shl_bounds (x : Int) (s : Nat) (hs : s < 32) (x0 : 0 ≤ x) (x1 : x < 4294967296) : 0 ≤ x * 2 ^ s ∧ x * 2 ^ s ≤ 9223372034707292160 ∧ x * 2 ^ s / 4294967296 < 2 ^ s := by
  have hlt := two_pow_lt s hs
  have hp : (0 : Int) < 2 ^ s := Int.pow_pos (by omega)
  have h1 : x * 2 ^ s ≤ 4294967295 * 2 ^ s := Int.mul_le_mul_of_nonneg_right (by omega) (by omega)
  exact ⟨Int.mul_nonneg x0 (by omega), by omega, by omega⟩
theorem shl_step (P x c h t : Int) (s : Nat) (hv : c + P * h = t) : c + P * (h + x * 2 ^ s % 4294967296) + 4294967296 * P * (x * 2 ^ s / 4294967296) = t + P * (x * 2 ^ s) := by
  have e : x * 2 ^ s % 4294967296 + 4294967296 * (x * 2 ^ s / 4294967296) = x * 2 ^ s := Int.emod_add_mul_ediv _ _
  have e2 : P * (x * 2 ^ s % 4294967296) + 4294967296 * P * (x * 2 ^ s / 4294967296) = P * (x * 2 ^ s) := by
    rw [← e, Int.mul_add, e, Int.mul_comm 4294967296 P, Int.mul_assoc]
  rw [Int.mul_add]; omega
theorem shl_add_lt (h x : Int) (s : Nat) (hs : s < 32) (h0 : 0 ≤ h) (h1 : h < 2 ^ s) : 0 ≤ h + x * 2 ^ s % 4294967296 ∧ h + x * 2 ^ s % 4294967296 < 4294967296 := by
  have e32 : (4294967296 : Int) = 2 ^ s * 2 ^ (32 - s) := by rw [← Int.pow_add, show s + (32 - s) = 32 from by omega]; rfl
  have hp : (0 : Int) < 2 ^ s := Int.pow_pos (by omega)
  have hp2 : (0 : Int) < 2 ^ (32 - s) := Int.pow_pos (by omega)
  have hl := shl_low x s hs
  have h2 := Int.emod_nonneg x (show (2 : Int) ^ (32 - s) ≠ 0 by omega)
  have h3 := Int.emod_lt_of_pos x hp2
  have h4 : 2 ^ s * (x % 2 ^ (32 - s) + 1) ≤ 2 ^ s * 2 ^ (32 - s) := Int.mul_le_mul_of_nonneg_left (by omega) (by omega)
  rw [Int.mul_add, Int.mul_one, ← e32] at h4
  have h5 : 0 ≤ 2 ^ s * (x % 2 ^ (32 - s)) := Int.mul_nonneg (by omega) h2
  omega
theorem shifted_any (ao : Option Addr) (A : List Int) (n ca s : Nat) (w : World) (hn : A.length = n) (hn6 : n ≤ 700) (hs : s < 32) (hA : Ok A) (hca : CellsK .u32 w ao A) :
    Calls Tryz.prog 110 #[.slice ao n ca, .int .i64 s] w fun e w' => ∃ L : List Int, e = .returned (.slice (some ⟨w.heap.size, 0, none⟩) (n + 1) (n + 1)) ∧ val L = val A * 2 ^ s ∧ Wrote w w' (n + 1) L := by
  obtain ⟨i0, hi, hz0, hz1, hz2⟩ := info_parts Tryz.info57
  have hs' : (s : Int) < 32 := by omega
  go_enter Tryz.func110, Tryz.ntmps110
  go_wp2_with (at_make; refine wpList_make_full _ rfl _ _ 38 rfl w.heap.size 57 i0 (.int .u32 0) 1 Tryz.underlying38 hi hz0 hz1 .i64 .i64 _ _ (n + 1) rfl rfl (by push_cast; rfl) (by push_cast; rfl) (by rw [hz2]; omega) (by unfold maxLen; omega) (Nat.le_refl _) ?_; intro w1 hown hgrow)
  have hW := Wrote.made hown hgrow
  clear hown hgrow hi hz0 hz1 hz2
  go_loopw [15] (fun i wr => ∃ (k : Nat) (C : List Int) (h : Int), k ≤ n ∧ i = .int .i64 k ∧ C.length = k ∧ 0 ≤ h ∧ Bx (h < 2 ^ s) ∧ Bx (val C + pw k * h = val (A.take k) * 2 ^ s) ∧ Wrote w wr (n + 1) (C ++ h :: List.replicate (n - k) 0)) (fun i _ => n - (intOf i).toNat)
  case atStart => exact ⟨0, [], 0, Nat.zero_le _, rfl, rfl, Int.le_refl _, ⟨Int.pow_pos (by omega)⟩, ⟨by simp [val]⟩, by simpa [List.replicate_succ] using hW⟩
  case round =>
    obtain ⟨k, C, h, hk, rfl, hC, h0, HH, HV, hw⟩ := hrel
    by_cases hlt : k < n
    · have hne : A ≠ [] := by intro e; subst e; simp at hn; omega
      obtain ⟨a, rfl, _, hac⟩ := (hca.keep hw.below) hne
      have hcA := hac k (by omega)
      have hx := hA.getD k
      have hcell := hw.cell k (by omega)
      have hg : (C ++ h :: List.replicate (n - k) 0).getD k 0 = h := by rw [List.getD_eq_getElem?_getD, List.getElem?_append_right (by omega), hC, Nat.sub_self]; rfl
      rw [hg] at hcell
      have hfree := hw.free k
      obtain ⟨x, hxx⟩ : ∃ x, A.getD k 0 = x := ⟨_, rfl⟩
      rw [hxx] at hcA hx
      have hor := shl_or h x s hs h0 HH.out
      have hcell1 := hw.cell (k + 1) (by omega)
      have hfree1 := hw.free (k + 1)
      have hxb := shl_bounds x s hs hx.1 hx.2
      have hcb := shl_add_lt h x s hs h0 HH.out
      have hstep := shl_step (pw k) x _ h _ s HV.out
      have hst := (hw.store k hcb.1 hcb.2).store (k + 1) (x := x * 2 ^ s / 4294967296) (by omega) (by omega)
      have hlist : ((C ++ h :: List.replicate (n - k) 0).set k (h + x * 2 ^ s % 4294967296)).set (k + 1) (x * 2 ^ s / 4294967296) = (C ++ [h + x * 2 ^ s % 4294967296]) ++ (x * 2 ^ s / 4294967296) :: List.replicate (n - (k + 1)) 0 := by
        subst hC
        rw [List.set_append_right _ _ (Nat.le_refl _), Nat.sub_self, List.set_cons_zero, show n - C.length = (n - (C.length + 1)) + 1 from by omega, List.replicate_succ, List.set_append_right _ _ (by omega)]
        simp
      rw [hlist] at hst
      have hval : val (C ++ [h + x * 2 ^ s % 4294967296]) + pw (k + 1) * (x * 2 ^ s / 4294967296) = val (A.take (k + 1)) * 2 ^ s := by
        rw [val_snoc, hC, val_take_succ' A k, hxx, Int.add_mul, pw_succ, hstep, Int.mul_assoc]
      have HV2 := Bx.mk hval
      have HST := Bx.mk hst
      have HH2 := Bx.mk hxb.2.2
      have hz0 : 0 ≤ x * 2 ^ s / 4294967296 := by omega
      have hb1 := hxb.1
      have hb2 := hxb.2.1
      have hc1 := hcb.1
      have hc2 := hcb.2
      clear hlist hst hval hstep hw hxb hcb hac hxx hg
      have hlc : (C ++ [h + x * 2 ^ s % 4294967296]).length = k + 1 := by simp [hC]
      have HLC := Bx.mk hlc
      clear hlc hC
      go_wp2
      go_roundw
      case rel => exact ⟨k + 1, _, _, by omega, by go_num, HLC.out, hz0, HH2, HV2, HST.out⟩
      case measure => simp [intOf]; omega
    · have hkn : k = n := by omega
      subst hkn
      rw [Nat.sub_self, List.replicate_zero] at hw
      rw [List.take_of_length_le (by omega)] at HV
      go_wp2
      go_ret
      exact ⟨C ++ [h], rfl, by rw [val_snoc, hC]; exact HV.out, hw⟩
theorem sb_step (v x high : Int) (s : Nat) (x0 : 0 ≤ x) (x1 : x < 4294967296) (hm : v % 2 ^ s = high % 2 ^ s) : (x + 4294967296 * v) / 2 ^ s = (high * 4294967296 + x) / 2 ^ s % 4294967296 + 4294967296 * (v / 2 ^ s) := by
  have hp : (0 : Int) < 2 ^ s := Int.pow_pos (by omega)
  generalize (2 : Int) ^ s = T at *
  have e1 := Int.emod_add_mul_ediv v T
  have e2 := Int.emod_add_mul_ediv high T
  have b0 := Int.emod_nonneg high (show T ≠ 0 by omega)
  have b1 := Int.emod_lt_of_pos high hp
  rw [hm] at e1
  generalize high % T = b at *
  generalize v / T = vq at *
  generalize high / T = a at *
  have f1 : x + 4294967296 * v = x + 4294967296 * b + T * (4294967296 * vq) := by rw [← e1, Int.mul_add, Int.mul_left_comm T]; omega
  have f2 : high * 4294967296 + x = x + 4294967296 * b + T * (4294967296 * a) := by rw [← e2, Int.mul_left_comm T]; omega
  rw [f1, f2, Int.add_mul_ediv_left _ _ (by omega), Int.add_mul_ediv_left _ _ (by omega)]
  have g0 : 0 ≤ (x + 4294967296 * b) / T := Int.ediv_nonneg (by omega) (by omega)
  have g1 : (x + 4294967296 * b) / T < 4294967296 := by
    refine Int.ediv_lt_of_lt_mul hp ?_
    have h4 : 4294967296 * (b + 1) ≤ 4294967296 * T := by omega
    omega
  omega
theorem sb_mod (h v : Int) (s : Nat) (hs : s < 32) : (h + 4294967296 * v) % 2 ^ s = h % 2 ^ s := by
  have e32 : (4294967296 : Int) = 2 ^ s * 2 ^ (32 - s) := by rw [← Int.pow_add, show s + (32 - s) = 32 from by omega]; rfl
  rw [e32, Int.mul_assoc, Int.add_mul_emod_self_left]
theorem set_low (Q : List Int) (k : Nat) (x : Int) : (List.replicate (k + 1) 0 ++ Q).set k x = List.replicate k 0 ++ x :: Q := by
  rw [List.replicate_succ', List.append_assoc, List.set_append_right _ _ (by simp)]; simp
theorem shiftedBack_any (ao : Option Addr) (A : List Int) (n ca s : Nat) (w : World) (hn : A.length = n) (hn6 : n ≤ 700) (hs : s < 32) (hA : Ok A) (hca : CellsK .u32 w ao A) :
    Calls Tryz.prog 112 #[.slice ao n ca, .int .i64 s] w fun e w' => ∃ L : List Int, e = .returned (.slice (some ⟨w.heap.size, 0, none⟩) n n) ∧ val L = val A / 2 ^ s ∧ Wrote w w' n L := by
  obtain ⟨i0, hi, hz0, hz1, hz2⟩ := info_parts Tryz.info57
  have hs' : (s : Int) < 32 := by omega
  go_enter Tryz.func112, Tryz.ntmps112
  go_wp2_with (at_make; refine wpList_make_full _ rfl _ _ 38 rfl w.heap.size 57 i0 (.int .u32 0) 1 Tryz.underlying38 hi hz0 hz1 .i64 .i64 _ _ n rfl rfl rfl rfl (by rw [hz2]; omega) (by unfold maxLen; omega) (Nat.le_refl _) ?_; intro w1 hown hgrow)
  have hW := Wrote.made hown hgrow
  clear hown hgrow hi hz0 hz1 hz2
  go_loopw [6, 7] (fun hv i wr => ∃ (k : Nat) (Q : List Int) (h : Int), k ≤ n ∧ i = .int .i64 ((k : Int) - 1) ∧ hv = .int .u32 h ∧ 0 ≤ h ∧ h < 4294967296 ∧ Bx (val (A.drop k) % 2 ^ s = h % 2 ^ s) ∧ Bx (val Q = val (A.drop k) / 2 ^ s) ∧ Wrote w wr n (List.replicate k 0 ++ Q)) (fun _ i _ => (intOf i + 1).toNat)
  case atStart => exact ⟨n, [], 0, Nat.le_refl _, by go_num, rfl, Int.le_refl _, by omega, ⟨by rw [List.drop_eq_nil_of_le (by omega)]; simp [val]⟩, ⟨by rw [List.drop_eq_nil_of_le (by omega)]; simp [val]⟩, by simpa using hW⟩
  case round =>
    obtain ⟨k, Q, h, hk, rfl, rfl, h0, h1, HM, HV, hw⟩ := hrel
    by_cases hk0 : k = 0
    · subst hk0
      rw [List.replicate_zero, List.nil_append] at hw
      rw [List.drop_zero] at HV
      go_wp2
      go_ret
      exact ⟨Q, rfl, HV.out, hw⟩
    · have hne : A ≠ [] := by intro e; subst e; simp at hn; omega
      obtain ⟨a, rfl, _, hac⟩ := (hca.keep hw.below) hne
      have hcA := hac (k - 1) (by omega)
      have hx := hA.getD (k - 1)
      obtain ⟨x, hxx⟩ : ∃ x, A.getD (k - 1) 0 = x := ⟨_, rfl⟩
      rw [hxx] at hcA hx
      have hcell := hw.cell (k - 1) (by omega)
      have hfree := hw.free (k - 1)
      have hor := u64_or_join h x h0 h1 hx.1 hx.2
      have hdr := drop_step A (k - 1) (by omega)
      rw [hxx, show k - 1 + 1 = k from by omega] at hdr
      have hval : val ((h * 4294967296 + x) / 2 ^ s % 4294967296 :: Q) = val (A.drop (k - 1)) / 2 ^ s := by
        rw [hdr]
        simp only [val]
        rw [sb_step _ x h s hx.1 hx.2 HM.out, HV.out]
      have hmod : val (A.drop (k - 1)) % 2 ^ s = x % 2 ^ s := by rw [hdr]; simp only [val]; exact sb_mod x _ s hs
      have hu0 : 0 ≤ (h * 4294967296 + x) / 2 ^ s % 4294967296 := by omega
      have hu1 : (h * 4294967296 + x) / 2 ^ s % 4294967296 < 4294967296 := by omega
      have hst := hw.store (k - 1) hu0 hu1
      rw [show List.replicate k (0 : Int) = List.replicate (k - 1 + 1) 0 from by rw [show k - 1 + 1 = k from by omega], set_low] at hst
      obtain ⟨a2, ha2, _, hac2⟩ := (hca.keep hst.below) hne
      obtain rfl := Option.some.inj ha2
      have hcA2 := hac2 (k - 1) (by omega)
      rw [hxx] at hcA2
      clear hac2
      have HVAL := Bx.mk hval
      have HMOD := Bx.mk hmod
      have HST := Bx.mk hst
      have hb1 : (0 : Int) ≤ (k : Int) - 1 := by omega
      have hz0 : 0 ≤ h * 4294967296 + x := by omega
      have hz1 : h * 4294967296 + x ≤ 18446744073709551615 := by omega
      clear hval hmod hst hdr hxx hac hw
      go_wp2
      go_roundw
      case rel => exact ⟨k - 1, _, x, by omega, by go_num, rfl, hx.1, hx.2, HMOD, HVAL, HST.out⟩
      case measure => simp [intOf]; omega
end Go.Proofs.YtlfngdbpnhaphaaGreatDoor
namespace Go.Proofs.YtlfngdbpnhaphaaGreatDoor.M
/-- A part of a list whose value is small has the value of the list. -/
theorem val_take_of_lt {L : List Int} {n : Nat} (hL : Ok L) (h : val L < pw n) : val (L.take n) = val L ∧ ∀ m, n ≤ m → val (L.drop m) = 0 := by
  have key : ∀ m, n ≤ m → val (L.drop m) = 0 := by
    intro m hm
    have h0 := val_nonneg (hL.drop m)
    by_cases e : val (L.drop m) = 0
    · exact e
    · exfalso
      have h1 : val L = val (L.take m) + pw (L.take m).length * val (L.drop m) := by
        conv => lhs; rw [← List.take_append_drop m L]
        rw [val_append]
      by_cases hl : L.length ≤ m
      · rw [List.drop_eq_nil_of_le hl] at e; exact e rfl
      · rw [List.length_take, Nat.min_eq_left (by omega)] at h1
        have h2 := val_nonneg (hL.take m)
        have h3 := pw_le hm
        have h4 := pw_pos m
        have h5 : pw m * 1 ≤ pw m * val (L.drop m) := Int.mul_le_mul_of_nonneg_left (by omega) (by omega)
        omega
  refine ⟨?_, key⟩
  have h1 : val L = val (L.take n) + pw (L.take n).length * val (L.drop n) := by
    conv => lhs; rw [← List.take_append_drop n L]
    rw [val_append]
  rw [key n (Nat.le_refl _), Int.mul_zero, Int.add_zero] at h1
  exact h1.symm
/-- The divisor, shifted so that its highest bit is set: its highest limb but one is above 0, the one above is 0. -/
theorem shifted_top {B RB : List Int} {n s t : Nat} {top : Int} (hB : Ok B) (hRB : Ok RB) (hn : B.length = n + 1) (hRn : RB.length = n + 2) (htop : B.getD n 0 = top) (h1 : 1 ≤ top) (hbl : top < 2 ^ t) (hst : s + t = 32)
    (hv : val RB = val B * 2 ^ s) : val RB < pw (n + 1) ∧ 0 < (RB.take (n + 1)).getD n 0 := by
  have hp : (0 : Int) < 2 ^ s := Int.pow_pos (by omega)
  have e32 : (2 : Int) ^ t * 2 ^ s = 4294967296 := by rw [← Int.pow_add, show t + s = 32 from by omega]; rfl
  have hB2 : val B = val (B.take n) + pw n * top := by
    have e := val_take_succ B n (by omega)
    rw [List.take_of_length_le (by omega), htop] at e; exact e
  have hl := val_lt (hB.take n)
  rw [List.length_take, Nat.min_eq_left (by omega)] at hl
  have hl0 := val_nonneg (hB.take n)
  have hpn := pw_pos n
  have hlt : val RB < pw (n + 1) := by
    have a1 : pw n * (top + 1) ≤ pw n * 2 ^ t := Int.mul_le_mul_of_nonneg_left (by omega) (by omega)
    rw [Int.mul_add, Int.mul_one] at a1
    have a2 : val B < pw n * 2 ^ t := by omega
    have a3 : val B * 2 ^ s < pw n * 2 ^ t * 2 ^ s := Int.mul_lt_mul_of_pos_right a2 hp
    rw [Int.mul_assoc, e32] at a3
    rw [hv, pw_succ, Int.mul_comm 4294967296]; exact a3
  refine ⟨hlt, ?_⟩
  have hD := (val_take_of_lt hRB hlt).1
  have hDok := hRB.take (n + 1)
  have hDlen : (RB.take (n + 1)).length = n + 1 := by rw [List.length_take]; omega
  have hD2 : val (RB.take (n + 1)) = val ((RB.take (n + 1)).take n) + pw n * (RB.take (n + 1)).getD n 0 := by
    have e := val_take_succ (RB.take (n + 1)) n (by omega)
    rw [List.take_of_length_le (show (RB.take (n + 1)).length ≤ n + 1 by omega)] at e; exact e
  have hlo := val_lt (hDok.take n)
  rw [List.length_take, hDlen, Nat.min_eq_left (by omega)] at hlo
  have h0 := (hDok.getD n).1
  by_cases e : (RB.take (n + 1)).getD n 0 = 0
  · exfalso
    rw [e, Int.mul_zero, Int.add_zero] at hD2
    have a1 : pw n * 1 ≤ pw n * top := Int.mul_le_mul_of_nonneg_left h1 (by omega)
    have a2 : val B * 1 ≤ val B * 2 ^ s := Int.mul_le_mul_of_nonneg_left (by omega) (by omega)
    omega
  · omega
/-- The long division with k limbs of the quotient still to come. -/
def LdRel (RA D : List Int) (k : Nat) (R Q : List Int) : Prop := R.length = RA.length ∧ val R + val D * (pw k * val Q) = val RA ∧ val R < pw k * val D
theorem ldRel_step {RA D R Q R' C : List Int} {k n : Nat} {t : Int} (hR : Ok R) (hR' : Ok R') (hD : Ok D) (hDn : D.length = n) (hDpos : 0 < val D) (h : LdRel RA D (k + 1) R Q) (hkn : k + n + 1 ≤ R.length)
    (ht : t = val ((R.drop k).take (n + 1)) / val D) (hw : Win R k (n + 1) C R') (hC : val C = val ((R.drop k).take (n + 1)) % val D) : LdRel RA D k R' (t :: Q) := by
  obtain ⟨h1, h2, h3⟩ := h
  have hlen := hw.len (by omega)
  have hz : val (R.drop (k + (n + 1))) = 0 := by
    refine (val_take_of_lt (n := k + 1 + n) hR ?_).2 _ (by omega)
    have a1 := val_lt hD
    rw [hDn] at a1
    have a2 : pw (k + 1) * val D ≤ pw (k + 1) * pw n := Int.mul_le_mul_of_nonneg_left (by omega) (by have := pw_pos (k + 1); omega)
    rw [← pw_add] at a2
    omega
  have hvR := val_win R k (n + 1) (by omega)
  have hvR' := hw.val (by omega)
  rw [hz, Int.mul_zero, Int.add_zero] at hvR hvR'
  have he := Int.emod_add_mul_ediv (val ((R.drop k).take (n + 1))) (val D)
  rw [← ht, ← hC] at he
  have hclt := Int.emod_lt_of_pos (val ((R.drop k).take (n + 1))) hDpos
  rw [← hC] at hclt
  generalize val ((R.drop k).take (n + 1)) = V at *
  refine ⟨hlen.trans h1, ?_, ?_⟩
  · have e1 : val D * (pw k * val (t :: Q)) = pw k * (val D * t) + val D * (pw (k + 1) * val Q) := by
      simp only [val]
      rw [Int.mul_add (pw k), Int.mul_add (val D), Int.mul_left_comm (val D) (pw k) t, pw_succ, Int.mul_left_comm (pw k) 4294967296, Int.mul_assoc 4294967296]
    have e2 : pw k * V = pw k * val C + pw k * (val D * t) := by rw [← he, Int.mul_add]
    rw [e1, hvR']; rw [hvR] at h2; omega
  · rw [hvR']
    have a1 := val_lt (hR.take k)
    rw [List.length_take, Nat.min_eq_left (by omega)] at a1
    have a2 : pw k * (val C + 1) ≤ pw k * val D := Int.mul_le_mul_of_nonneg_left (by omega) (by have := pw_pos k; omega)
    rw [Int.mul_add, Int.mul_one] at a2
    omega
theorem ldRel_small {RA D R Q : List Int} {k n : Nat} (hR : Ok R) (hD : Ok D) (h : LdRel RA D (k + 1) R Q) (hkn : k + n + 1 ≤ R.length) : val ((R.drop k).take (n + 1)) < 4294967296 * val D := by
  obtain ⟨_, _, h3⟩ := h
  have hvR := val_win R k (n + 1) (by omega)
  have a1 := val_nonneg (hR.take k)
  have a2 := val_nonneg (hR.drop (k + (n + 1)))
  have a3 : 0 ≤ pw (k + (n + 1)) * val (R.drop (k + (n + 1))) := Int.mul_nonneg (by have := pw_pos (k + (n + 1)); omega) a2
  have a4 : pw k * val ((R.drop k).take (n + 1)) < pw k * (4294967296 * val D) := by
    rw [pw_succ, Int.mul_comm 4294967296, Int.mul_assoc] at h3
    omega
  exact Int.lt_of_mul_lt_mul_left a4 (by have := pw_pos k; omega)
theorem ldRel_start {A B RA D : List Int} {n m s : Nat} (hA : Ok A) (hB : Ok B) (lB : B.getLast? ≠ some 0) (hn : B.length = n) (hm : A.length = m) (hn0 : n ≠ 0) (hnm : n ≤ m) (hRA : val RA = val A * 2 ^ s) (hD : val D = val B * 2 ^ s) : LdRel RA D (m - n + 1) RA [] := by
  refine ⟨rfl, by simp [val], ?_⟩
  have hp : (0 : Int) < 2 ^ s := Int.pow_pos (by omega)
  have h1 := val_ge hB lB (by intro e; subst e; simp at hn; omega)
  rw [hn] at h1
  have h2 := val_lt hA
  rw [hm] at h2
  have h3 : pw (m - n + 1) * pw (n - 1) ≤ pw (m - n + 1) * val B := Int.mul_le_mul_of_nonneg_left h1 (by have := pw_pos (m - n + 1); omega)
  rw [← pw_add, show m - n + 1 + (n - 1) = m from by omega] at h3
  rw [hRA, hD, ← Int.mul_assoc]
  exact Int.mul_lt_mul_of_pos_right (by omega) hp
theorem ldRel_end {A B RA D R Q : List Int} {s : Nat} (hA : Ok A) (hR : Ok R) (hB : 0 < val B) (hRA : val RA = val A * 2 ^ s) (hD : val D = val B * 2 ^ s) (h : LdRel RA D 0 R Q) :
    val Q = val A / val B ∧ val R / 2 ^ s = val A % val B := by
  obtain ⟨_, h2, h3⟩ := h
  have hp : (0 : Int) < 2 ^ s := Int.pow_pos (by omega)
  rw [pw_zero, Int.one_mul] at h2 h3
  rw [hRA, hD] at h2
  rw [hD] at h3
  have h0 := val_nonneg hR
  generalize (2 : Int) ^ s = T at *
  have e : val R = (val A - val B * val Q) * T := by
    rw [Int.sub_mul, Int.mul_assoc, Int.mul_comm (val Q) T, ← Int.mul_assoc]
    omega
  rw [e] at h0 h3
  have r0 : 0 ≤ val A - val B * val Q := by
    by_cases hneg : val A - val B * val Q < 0
    · have : (val A - val B * val Q) * T < 0 := Int.mul_neg_of_neg_of_pos hneg hp
      omega
    · omega
  have r1 : val A - val B * val Q < val B := Int.lt_of_mul_lt_mul_right h3 (by omega)
  have key := Int.ediv_emod_unique (a := val A) (b := val B) (r := val A - val B * val Q) (q := val Q) hB
  have hk := key.2 ⟨by omega, r0, r1⟩
  refine ⟨hk.1.symm, ?_⟩
  rw [e, Int.mul_ediv_cancel _ (by omega)]; exact hk.2.symm
end Go.Proofs.YtlfngdbpnhaphaaGreatDoor.M
namespace Go.Proofs.YtlfngdbpnhaphaaGreatDoor
open Go.RowKit M
/-- A quotient and a remainder come back. -/
def RetPair (w : World) (q r : Nat) (e : Ending) (w' : World) : Prop := ∃ v1 v2, e = .returned (.tuple #[v1, v2]) ∧ Rd w' v1 (limbs q) ∧ Rd w' v2 (limbs r) ∧ Below w.heap.size w w'
theorem OwnB.of_wrote {w wr : World} {M : Nat} {L : List Int} (h : Wrote w wr M L) : OwnB w.heap.size w wr w.heap.size L := OwnB.of_owns (n := M) (cap := M) h.own h.ok h.below
theorem OwnB.later {base : Nat} {w0 wr w' : World} {g : Nat} {L : List Int} (h : OwnB base w0 wr g L) (hb : Below wr.heap.size wr w') (hbb : base ≤ wr.heap.size) : OwnB base w0 w' g L := by
  obtain ⟨cur, hg, hs, hc⟩ := h.blk
  exact ⟨h.ok, h.ge, ⟨cur, by rw [hb.block g h.lt]; exact hg, hs, hc⟩, h.below.trans (hb.mono hbb)⟩
/-- The state of the long division. -/
structure LdSt (w wr : World) (g2 g3 : Nat) (RA D : List Int) (M k : Nat) (R Q : List Int) : Prop where
  rest : OwnB w.heap.size w wr w.heap.size R
  quo : OwnB w.heap.size w wr g3 (List.replicate k 0 ++ Q)
  div : CellsK .u32 wr (some ⟨g2, 0, none⟩) D
  len : Q.length + k = M
  rel : LdRel RA D k R Q
set_option maxHeartbeats 3200000 in
theorem longDivision_any (ao bo : Option Addr) (A B : List Int) (m n ca cb : Nat) (w : World) (hm : A.length = m) (hn : B.length = n + 1) (hm6 : m ≤ 640) (hn0 : n ≠ 0) (hA : Ok A) (hB : Ok B) (lB : B.getLast? ≠ some 0) (hnm : n + 1 ≤ m)
    (hca : CellsK .u32 w ao A) (hcb : CellsK .u32 w bo B) :
    Calls Tryz.prog 89 #[.slice ao m ca, .slice bo (n + 1 : Nat) cb] w (RetPair w (val A / val B).toNat (val A % val B).toNat) := by
  have hBne : B ≠ [] := by intro e; subst e; simp at hn
  obtain ⟨b, rfl, hbb, hbc⟩ := hcb hBne
  have hctop := hbc n (by omega)
  have htop := hB.getD n
  have htop1 : 1 ≤ B.getD n 0 := by
    have e : B.getLast? = some (B.getD n 0) := by rw [List.getLast?_eq_getElem?, List.getD_eq_getElem?_getD, hn, Nat.add_sub_cancel, List.getElem?_eq_getElem (by omega)]; rfl
    rw [e] at lB
    have : B.getD n 0 ≠ 0 := by simpa using lB
    omega
  obtain ⟨top, htt⟩ : ∃ top, B.getD n 0 = top := ⟨_, rfl⟩
  rw [htt] at hctop htop htop1
  have hlz := fun w => Tryz.bits_LeadingZeros32 top w (by omega) (by omega)
  have hbl := bitLen_bounds top.toNat (by omega)
  have hble : Lib.bitLen top.toNat ≤ 32 := Lib.bitLen_le top.toNat 32 (by omega) (by omega)
  have hbl1 : Lib.bitLen top.toNat ≠ 0 := by intro e; rw [e] at hbl; simp at hbl; omega
  obtain ⟨t, htl⟩ : ∃ t, Lib.bitLen top.toNat = t := ⟨_, rfl⟩
  rw [htl] at hbl hble hbl1
  obtain ⟨s, hs⟩ : ∃ s, s = 32 - t := ⟨_, rfl⟩
  have hlz2 : ∀ w, Calls Tryz.prog 109 #[.int .u32 top] w fun e w' => e = .returned (.int .i64 (s : Int)) ∧ w' = w := by
    intro w; have := hlz w; rw [htl, show (32 : Int) - (t : Int) = (s : Int) from by omega] at this; exact this
  have hbl2 : top < 2 ^ t := by
    have e : ((top.toNat : Nat) : Int) < ((2 ^ t : Nat) : Int) := by omega
    have e2 : ((2 ^ t : Nat) : Int) = (2 : Int) ^ t := by push_cast; rfl
    omega
  have hsh1 := shifted_any ao A m ca s w hm (by omega) (by omega) hA hca
  have HLZ := Bx.mk hlz2
  have HBL := Bx.mk hbl2
  have HS1 := Bx.mk hsh1
  have HST := Bx.mk (show s + t = 32 by omega)
  have HTT := Bx.mk htt
  have hs32 : s < 32 := by omega
  clear hlz hbl hble hbl1 htl hs hlz2 hbl2 hsh1 hbc htt
  go_enter Tryz.func89, Tryz.ntmps89
  go_wp2_with fail
  refine (HLZ.out _).mono ?_
  rintro e w' ⟨rfl, he⟩
  obtain rfl : w = w' := he.symm
  go_wp2_with fail
  refine HS1.out.mono ?_
  rintro e w1 ⟨RA, rfl, hvA, hWA⟩
  have hcb1 := (hcb.keep hWA.below)
  have hsh2 := shifted_any (some b) B (n + 1) cb s w1 hn (by omega) hs32 hB hcb1
  clear hcb1 HLZ HS1
  go_wp2_with fail
  refine hsh2.mono ?_
  rintro e w2 ⟨RB, rfl, hvB, hWB⟩
  have hst := shifted_top hB hWB.ok hn hWB.len HTT.out htop1 HBL.out HST.out hvB
  have hvD := (val_take_of_lt hWB.ok hst.1).1
  have hDlen : (RB.take (n + 1)).length = n + 1 := by rw [List.length_take, hWB.len]; omega
  have hDok := hWB.ok.take (n + 1)
  have hDc : CellsK .u32 w2 (some ⟨w1.heap.size, 0, none⟩) (RB.take (n + 1)) := ((OwnB.of_wrote hWB).take (n + 1)).cells
  rw [hvB] at hvD
  obtain ⟨D, hDD⟩ : ∃ D, RB.take (n + 1) = D := ⟨_, rfl⟩
  rw [hDD] at hst hvD hDlen hDok hDc
  have hrel0 := ldRel_start hA hB lB hn hm (by omega) hnm hvA hvD
  have hOA := (OwnB.of_wrote hWA).later hWB.below hWA.below.size
  have hRAlen := hWA.len
  have hlt12 : w.heap.size < w1.heap.size := (OwnB.of_wrote hWA).lt
  have hbel2 := hWA.below.trans (hWB.below.mono hWA.below.size)
  have hsz12 := hWB.below.size
  have hlt2 : w1.heap.size < w2.heap.size := (OwnB.of_wrote hWB).lt
  have hlt3 : w.heap.size < w2.heap.size := by omega
  obtain ⟨i0, hi, hz0, hz1, hz2⟩ := info_parts Tryz.info57
  have HREL := Bx.mk hrel0
  have HVA := Bx.mk hvA
  have HVD := Bx.mk hvD
  have HTOP := Bx.mk hst.2
  have HOA := Bx.mk hOA
  have HDC := Bx.mk hDc
  have HBEL := Bx.mk hbel2
  clear hrel0 hvA hvD hst hOA hWA hWB hbel2 hDD hvB hsh2 hDc
  go_wp2_with (at_make; refine wpList_make_full _ rfl _ _ 38 rfl w2.heap.size 57 i0 (.int .u32 0) 1 Tryz.underlying38 hi hz0 hz1 .i64 .i64 _ _ (m - n) rfl rfl (by omega) (by omega) (by rw [hz2]; omega) (by unfold maxLen; omega) (Nat.le_refl _) ?_; intro w3 hown hgrow)
  have hW := Wrote.made hown hgrow
  clear hown hgrow hi hz0 hz1 hz2
  have hO3 := OwnB.of_wrote hW
  have hb3 := hW.below
  have hbel3 := HBEL.out.trans (hb3.mono (by omega))
  have hst0 : LdSt w w3 w1.heap.size w2.heap.size RA D (m - n) (m - n) RA [] := by
    refine ⟨HOA.out.later hb3 (by omega), ⟨by simpa using hO3.ok, by omega, by simpa using hO3.blk, hbel3⟩, HDC.out.keep hb3, by simp, ?_⟩
    have := HREL.out
    rw [show m - (n + 1) + 1 = m - n from by omega] at this; exact this
  have HST0 := Bx.mk hst0
  have hApos : 0 < val B := by
    have := val_ge hB (by assumption) hBne
    have := pw_pos (B.length - 1)
    omega
  clear hst0 hO3 hb3 hbel3 hW HOA HDC HREL HBEL
  go_loopw [11] (fun v wr => ∃ (k : Nat) (R Q : List Int), k ≤ m - n ∧ v = .int .i64 ((k : Int) - 1) ∧ LdSt w wr w1.heap.size w2.heap.size RA D (m - n) k R Q) (fun v _ => (intOf v + 1).toNat)
  case atStart => exact ⟨m - n, RA, [], Nat.le_refl _, by go_num, HST0.out⟩
  case round =>
    obtain ⟨k, R, Q, hk, rfl, hst⟩ := hrel
    by_cases hk0 : k = 0
    · subst hk0
      have hqok := hst.quo.ok
      have hend := ldRel_end hA hst.rest.ok hApos HVA.out HVD.out hst.rel
      have hlenQ := hst.len
      have hRl : R.length = m + 1 := by have := hst.rel.1; omega
      have hqrow := hst.quo
      rw [List.replicate_zero, List.nil_append] at hqrow
      have hRrow := hst.rest.take (n + 1)
      have hRlen : (R.take (n + 1)).length = n + 1 := by rw [List.length_take]; omega
      have hRv : val (R.take (n + 1)) = val R := by
        refine (val_take_of_lt hst.rest.ok ?_).1
        have h3 := hst.rel.2.2
        rw [pw_zero, Int.one_mul] at h3
        have h4 := val_lt hDok
        rw [hDlen] at h4; omega
      have htq := fun w' (hb : Below wr.heap.size wr w') => trim_any (some ⟨w2.heap.size, 0, none⟩) Q (m - n) (m - n) w' (by omega) (Nat.le_refl _) (by unfold maxLen; omega) hqrow.ok (hqrow.cells.keep hb)
      have hsb := fun w' cc (hb : Below wr.heap.size wr w') => shiftedBack_any (some ⟨w.heap.size, 0, none⟩) (R.take (n + 1)) (n + 1) cc s w' hRlen (by omega) hs32 hRrow.ok (hRrow.cells.keep hb)
      have hfin : ∀ (w5 : World) (LR : List Int), Wrote wr.drew w5 (n + 1) LR → val LR = val (R.take (n + 1)) / 2 ^ s →
          RetPair w (val A / val B).toNat (val A % val B).toNat (.returned (.tuple #[.slice (some ⟨w2.heap.size, 0, none⟩) (trimL Q).length (trimL Q).length, .slice (some ⟨wr.heap.size, 0, none⟩) (trimL LR).length (trimL LR).length])) w5 := by
        intro w5 LR hWR hvR
        have hb5 : Below wr.heap.size wr w5 := (Below.refl _ _).drew.trans hWR.below
        have hA0 := val_nonneg hA
        have q0 : 0 ≤ val A / val B := Int.ediv_nonneg hA0 (by omega)
        have r0 : 0 ≤ val A % val B := Int.emod_nonneg _ (by omega)
        refine ⟨_, _, rfl, Rd.trimmed (hqrow.cells.keep hb5) hqrow.ok (cap := m - n) (by omega) (by unfold maxLen; omega) (by rw [hend.1]; omega),
          Rd.trimmed (ao := some ⟨wr.heap.size, 0, none⟩) hWR.cells hWR.ok (cap := n + 1) (by have := hWR.len; omega) (by unfold maxLen; omega) (by rw [hvR, hRv, hend.2]; omega), hqrow.below.trans (hb5.mono hqrow.below.size)⟩
      have HFIN := Bx.mk hfin
      have HTQ := Bx.mk htq
      have HSB := Bx.mk hsb
      have HEND := Bx.mk hend
      have HRV := Bx.mk hRv
      have HQROW := Bx.mk hqrow
      clear htq hsb hend hRv hRrow hqok hst hqrow hfin
      go_wp2
      have htq1 := HTQ.out wr.drew (Below.refl _ _).drew
      have hsb1 := HSB.out wr.drew (m + 1) (Below.refl _ _).drew
      go_region_with (first | (go_at_call 112; ((with_reducible refine hsb1.mono ?_); rintro e w5 ⟨LR, rfl, hvR, hWR⟩; have ht2 := trim_any (some ⟨wr.heap.size, 0, none⟩) LR (n + 1) (n + 1) w5 hWR.len (Nat.le_refl _) (by unfold maxLen; omega) hWR.ok hWR.cells)) | (go_at_call 60; ((with_reducible refine htq1.mono ?_); rintro e w6 ⟨rfl, rfl⟩)) | (go_at_call 60; ((with_reducible refine (HTQ.out _ ((Below.refl _ _).drew.trans hWR.below)).mono ?_); rintro e w6 ⟨rfl, rfl⟩)) | (go_at_call 60; ((with_reducible refine ht2.mono ?_); rintro e w6 ⟨rfl, rfl⟩)))
      all_goals
        have HF := Bx.mk (HFIN.out _ _ hWR hvR)
        clear hWR hvR ht2 htq1 hsb1
        go_wp2
        first | go_ret2 | skip
        exact HF.out
    · have hlenR := hst.rel.1
      have hRl : R.length = m + 1 := by omega
      have hrel1 : LdRel RA D (k - 1 + 1) R Q := by rw [show k - 1 + 1 = k from by omega]; exact hst.rel
      have hDpos : 0 < val D := by rw [HVD.out]; exact Int.mul_pos hApos (Int.pow_pos (by omega))
      have hsmall := ldRel_small hst.rest.ok hDok (n := n + 1) hrel1 (by omega)
      have htake := fun cc cx => takeOut_any w.heap.size w wr w.heap.size (k - 1) (n + 1) cc cx (some ⟨w1.heap.size, 0, none⟩) R D hDlen (by omega) (by omega) (by omega) hDok hst.rest HTOP.out hsmall hst.div (by intro _ a ha; obtain rfl := Option.some.inj ha; show w1.heap.size ≠ w.heap.size; omega)
      have HTK := Bx.mk htake
      have HSTT := Bx.mk hst
      have HR1 := Bx.mk hrel1
      have HDP := Bx.mk hDpos
      have hb1 : (0 : Int) ≤ (k : Int) - 1 := by omega
      clear htake hst hrel1 hsmall hDpos hlenR
      go_wp2_with fail
      rw [show k - 1 + (n + 1) + 1 - (k - 1) = n + 1 + 1 from by omega]
      refine (HTK.out _ _).mono ?_
      rintro e w4 ⟨tq, C, R', rfl, ht, hw, hC, hown, hbut⟩
      have hnew := ldRel_step HSTT.out.rest.ok hown.ok hDok hDlen HDP.out HR1.out (by have := HR1.out.1; omega) ht hw hC
      have hV0 := val_nonneg ((HSTT.out.rest.ok.drop (k - 1)).take (n + 1 + 1))
      have ht0 : 0 ≤ tq := by rw [ht]; exact Int.ediv_nonneg hV0 (by have := HDP.out; omega)
      have ht1 : tq < 4294967296 := by rw [ht]; exact Int.ediv_lt_of_lt_mul HDP.out (ldRel_small HSTT.out.rest.ok hDok HR1.out (by have := HR1.out.1; omega))
      have hq := HSTT.out.quo.but hbut (show w2.heap.size ≠ w.heap.size by omega) hown.below
      have hql := HSTT.out.len
      have hcell := hq.cell (k - 1) (by simp; omega)
      have hfree := hq.free (k - 1)
      have hqs := hq.store (k - 1) ht0 ht1
      rw [show List.replicate k (0 : Int) = List.replicate (k - 1 + 1) 0 from by rw [show k - 1 + 1 = k from by omega], set_low] at hqs
      have hbs := (But.refl w2.heap.size w4).setCell (k - 1) (.int .u32 tq)
      have hnext : LdSt w (w4.setCell ⟨w2.heap.size, k - 1, none⟩ (.int .u32 tq)) w1.heap.size w2.heap.size RA D (m - n) (k - 1) R' (tq :: Q) := by
        refine ⟨hown.but hbs (by omega) hqs.below, hqs, hbs.cells (hbut.cells HSTT.out.div ?_) ?_, by simp; omega, hnew⟩
        · intro _ a ha; obtain rfl := Option.some.inj ha; show w1.heap.size ≠ w.heap.size; omega
        · intro _ a ha; obtain rfl := Option.some.inj ha; show w1.heap.size ≠ w2.heap.size; omega
      have HNX := Bx.mk hnext
      clear hnew hV0 hq hql hqs hbs hnext ht hw hC hown hbut
      go_wp2
      go_roundw
      case rel => exact ⟨k - 1, R', _, by omega, by go_num, HNX.out⟩
      case measure => simp [intOf]; omega
end Go.Proofs.YtlfngdbpnhaphaaGreatDoor
namespace Go.Proofs.YtlfngdbpnhaphaaGreatDoor
open Go.RowKit M
theorem RetPair.after {w w1 : World} {q r : Nat} {e : Ending} {w' : World} (hb : Below w.heap.size w w1) (h : RetPair w1 q r e w') : RetPair w q r e w' :=
  let ⟨v1, v2, he, h1, h2, hb'⟩ := h; ⟨v1, v2, he, h1, h2, hb.trans (hb'.mono hb.size)⟩
theorem quotient_any (ao bo : Option Addr) (a b : Nat) (m n ca cb : Nat) (w : World) (hm : (limbs a).length = m) (hn : (limbs b).length = n) (ha : (a : Int) < pw 640) (hb : (b : Int) < pw 640) (hb0 : b ≠ 0)
    (hca : CellsK .u32 w ao (limbs a)) (hcb : CellsK .u32 w bo (limbs b)) : Calls Tryz.prog 63 #[.slice ao m ca, .slice bo n cb] w (RetPair w (a / b) (a % b)) := by
  have hm6 : m ≤ 640 := by rw [← hm]; exact limbs_length_le.2 ha
  have hn6 : n ≤ 640 := by rw [← hn]; exact limbs_length_le.2 hb
  have hn0 : n ≠ 0 := by intro e; subst e; exact hb0 (limbs_nil.1 (by simpa using hn))
  have hnb : ((n : Int) == 0) = false := beq_eq_false_iff_ne.2 (by omega)
  have hcmp := compare_any ao bo (limbs a) (limbs b) m n ca cb w hm hn (by omega) (by omega) (ok_limbs a) (ok_limbs b) (limbs_last a) (limbs_last b) hca hcb
  rw [val_limbs, val_limbs] at hcmp
  by_cases hlt : (a : Int) < b
  · rw [cmpI_lt hlt] at hcmp
    have hq : a / b = 0 := Nat.div_eq_of_lt (by omega)
    have hr : a % b = a := Nat.mod_eq_of_lt (by omega)
    have HQ := Bx.mk hq
    have HR := Bx.mk hr
    have HC := Bx.mk hcmp
    clear hcmp hlt ha hb hq hr
    by_cases hao : ao = none
    · subst hao
      have ha0 : limbs a = [] := by
        by_cases e : limbs a = []
        · exact e
        · obtain ⟨x, hx, _⟩ := hca e; cases hx
      have hm0 : m = 0 := by rw [← hm, ha0]; rfl
      subst hm0
      go_enter Tryz.func63, Tryz.ntmps63
      go_wp2_with fail
      refine HC.out.mono ?_
      rintro e w1 ⟨rfl, hq⟩
      have HB := Bx.mk (hq.below w.heap.size)
      have htrim := trim_any none [] 0 0 w1 rfl (Nat.le_refl _) (by unfold maxLen; omega) Ok.nil CellsK.nil
      have HT := Bx.mk htrim
      clear htrim
      go_wp2_with fail
      refine (clone_nil _ _ _).mono ?_
      rintro e w2 ⟨rfl, rfl⟩
      go_wp2_with fail
      refine HT.out.mono ?_
      rintro e w2 ⟨rfl, rfl⟩
      go_wp2
      go_ret2
      refine ⟨_, _, rfl, ?_, ?_, HB.out⟩
      · rw [HQ.out, limbs_zero]; exact Rd.nil _
      · rw [HR.out, ha0]; simp only [trimL_nil]; exact Rd.nil _
    · obtain ⟨x, rfl⟩ := Option.ne_none_iff_exists'.1 hao
      go_enter Tryz.func63, Tryz.ntmps63
      go_wp2_with fail
      refine HC.out.mono ?_
      rintro e w1 ⟨rfl, hq⟩
      have hb1 := hq.below w.heap.size
      have hclone := clone_any x (limbs a) m ca w1 hm (by omega) (ok_limbs a) (hca.keep hb1)
      have HB := Bx.mk hb1
      have HCL := Bx.mk hclone
      clear hclone hb1 hq
      go_wp2_with fail
      refine HCL.out.mono ?_
      rintro e w2 ⟨g, cap, rfl, hc1, hc2, hown⟩
      have htrim := trim_any (some ⟨g, 0, none⟩) (limbs a) m cap w2 hm hc1 hc2 (ok_limbs a) hown.cells
      have HT := Bx.mk htrim
      clear htrim
      go_wp2_with fail
      refine HT.out.mono ?_
      rintro e w3 ⟨rfl, rfl⟩
      go_wp2
      go_ret2
      refine ⟨_, _, rfl, ?_, ?_, HB.out.trans (hown.below.mono HB.out.size)⟩
      · rw [HQ.out, limbs_zero]; exact Rd.nil _
      · rw [HR.out]; exact Rd.trimmed hown.cells (ok_limbs a) (cap := cap) (by omega) hc2 (val_limbs a)
  · obtain ⟨sg, hsg⟩ : ∃ sg, sg = cmpI (a : Int) b := ⟨_, rfl⟩
    rw [← hsg] at hcmp
    have hs0 : decide (sg < 0) = false := by rw [hsg, decide_eq_false_iff_not]; unfold cmpI; split <;> (try split) <;> omega
    have hnm : n ≤ m := by
      by_cases h : n ≤ m
      · exact h
      · have := val_lt_of_len (ok_limbs a) (ok_limbs b) (limbs_last b) (by omega)
        rw [val_limbs, val_limbs] at this; omega
    have HC := Bx.mk hcmp
    clear hsg hcmp hlt
    by_cases h1 : n = 1
    · subst h1
      obtain ⟨d, hd⟩ : ∃ d, limbs b = [d] := by
        match h : limbs b, hn with
        | [d], _ => exact ⟨d, rfl⟩
      have hbd : (b : Int) = d := by have := val_limbs b; rw [hd] at this; simpa [val] using this.symm
      have hdb := (ok_limbs b) d (by rw [hd]; simp)
      obtain ⟨bb, rfl, _, hbc⟩ := hcb (by rw [hd]; simp)
      have hcd := hbc 0 (by omega)
      rw [hd, add_zero_addr] at hcd
      have hcd : w.cell? bb = some (.int .u32 d) := hcd
      obtain ⟨x, rfl, _⟩ := hca (by intro e; rw [e] at hm; simp at hm; omega)
      have hd0 : 0 < d := by omega
      go_enter Tryz.func63, Tryz.ntmps63
      go_wp2_with fail
      refine HC.out.mono ?_
      rintro e w1 ⟨rfl, hq⟩
      have hb1 := hq.below w.heap.size
      have hclone := clone_any x (limbs a) m ca w1 hm (by omega) (ok_limbs a) (hca.keep hb1)
      have HB := Bx.mk hb1
      have HCL := Bx.mk hclone
      have hcb1 := hcb.keep hb1
      clear hclone hb1 hq
      go_wp2_with fail
      refine HCL.out.mono ?_
      rintro e w2 ⟨g, cap, rfl, hc1, hc2, hown⟩
      obtain ⟨b2, hb2, _, hbc2⟩ := (hcb1.keep hown.below) (by rw [hd]; simp)
      obtain rfl := Option.some.inj hb2
      have hcd2 := hbc2 0 (by omega)
      rw [hd, add_zero_addr] at hcd2
      have hcd2 : w2.cell? bb = some (.int .u32 d) := hcd2
      have hdiv := divideBy_any w1.heap.size w1 w2 g m cap (limbs a) d hm (by omega) hd0 hdb.2 hown
      have HD := Bx.mk hdiv
      clear hdiv hbc hbc2 hcb1 hcb hown
      go_wp2_with fail
      refine HD.out.mono ?_
      rintro e w3 ⟨r, L', rfl, r0, r1, hL', hv, hown, _⟩
      have htrim := trim_any (some ⟨g, 0, none⟩) L' m cap w3 hL' hc1 hc2 hown.ok hown.cells
      have HT := Bx.mk htrim
      obtain ⟨rn, rfl⟩ := Int.eq_ofNat_of_zero_le r0
      have hmake := make_any rn w3 (by omega)
      have HM := Bx.mk hmake
      have HV := Bx.mk hv
      clear htrim hmake hv
      go_wp2_with fail
      refine HT.out.mono ?_
      rintro e w4 ⟨rfl, rfl⟩
      go_wp2_with fail
      refine HM.out.mono ?_
      rintro e w5 hret
      obtain ⟨v, rfl, hrd, hb5⟩ := hret
      go_wp2
      go_ret2
      have hv := HV.out
      rw [val_limbs] at hv
      have hLn := val_nonneg hown.ok
      obtain ⟨q, hq⟩ := Int.eq_ofNat_of_zero_le hLn
      have hqr : a / b = q ∧ a % b = rn := by
        rw [hq, ← hbd] at hv
        have e : a = b * q + rn := by have : ((b * q + rn : Nat) : Int) = (b : Int) * q + rn := by push_cast; rfl
                                      omega
        have hrb : rn < b := by omega
        rw [e]
        exact ⟨by rw [Nat.mul_add_div (by omega), Nat.div_eq_of_lt hrb, Nat.add_zero], by rw [Nat.mul_add_mod, Nat.mod_eq_of_lt hrb]⟩
      refine ⟨_, _, rfl, ?_, ?_, HB.out.trans ((hown.below.mono HB.out.size).trans (hb5.mono ?_))⟩
      · rw [hqr.1]; exact (Rd.trimmed hown.cells hown.ok (cap := cap) (by omega) hc2 hq).keep hb5
      · rw [hqr.2]; exact hrd
      · exact Nat.le_trans HB.out.size hown.below.size
    · obtain ⟨n', rfl⟩ : ∃ n', n = n' + 1 := ⟨n - 1, by omega⟩
      have hnb1 : (((n' + 1 : Nat) : Int) == 1) = false := beq_eq_false_iff_ne.2 (by omega)
      have e1 : (val (limbs a) / val (limbs b)).toNat = a / b := by rw [val_limbs, val_limbs, ← Int.natCast_ediv, Int.toNat_natCast]
      have e2 : (val (limbs a) % val (limbs b)).toNat = a % b := by rw [val_limbs, val_limbs, ← Int.natCast_emod, Int.toNat_natCast]
      have E1 := Bx.mk e1
      have E2 := Bx.mk e2
      clear ha hb e1 e2
      go_enter Tryz.func63, Tryz.ntmps63
      go_wp2_with fail
      refine HC.out.mono ?_
      rintro e w1 ⟨rfl, hq⟩
      have hb1 := hq.below w.heap.size
      have hld := longDivision_any ao bo (limbs a) (limbs b) m n' ca cb w1 hm hn hm6 (by omega) (ok_limbs a) (ok_limbs b) (limbs_last b) hnm (hca.keep hb1) (hcb.keep hb1)
      rw [E1.out, E2.out] at hld
      have HB := Bx.mk hb1
      have HLD := Bx.mk hld
      clear hld hb1 hq
      go_wp2_with fail
      refine HLD.out.mono ?_
      rintro e w2 hret
      obtain ⟨v1, v2, rfl, h1, h2, hb2⟩ := RetPair.after HB.out hret
      clear hret
      go_wp2
      go_ret2
      exact ⟨v1, v2, rfl, h1, h2, hb2⟩
end Go.Proofs.YtlfngdbpnhaphaaGreatDoor
namespace Go.Proofs.YtlfngdbpnhaphaaGreatDoor.M
/-- All decimal digits as letters, the least one first. -/
def dig (n : Nat) : List Int := if h : n = 0 then [] else ((48 + n % 10 : Nat) : Int) :: dig (n / 10)
termination_by n
decreasing_by omega
end Go.Proofs.YtlfngdbpnhaphaaGreatDoor.M
namespace Go.Proofs.YtlfngdbpnhaphaaGreatDoor
open Go.RowKit M
/-- A row of bytes of the call's own, of which the first ones are known. -/
structure OwnY (base : Nat) (w0 wr : World) (g : Nat) (T : List Int) : Prop where
  ge : base ≤ g
  blk : ∃ cur : Array Value, wr.heap[g]? = some (.cells cur 5 (0, 0)) ∧ T.length ≤ cur.size ∧ ∀ i, i < T.length → cur[i]? = some (.int .u8 (T.getD i 0))
  below : Below base w0 wr
theorem OwnY.lt {base : Nat} {w0 wr : World} {g : Nat} {T : List Int} (h : OwnY base w0 wr g T) : g < wr.heap.size := by
  obtain ⟨cur, hg, _⟩ := h.blk; exact (Array.getElem?_eq_some_iff.1 hg).1
theorem OwnY.cell {base : Nat} {w0 wr : World} {g : Nat} {T : List Int} (h : OwnY base w0 wr g T) (i : Nat) (hi : i < T.length) : wr.cell? ⟨g, i, none⟩ = some (.int .u8 (T.getD i 0)) := by
  obtain ⟨cur, hg, _, hc⟩ := h.blk
  rw [cell_of_row wr g i cur 5 (0, 0) hg]; exact hc i hi
theorem OwnY.free {base : Nat} {w0 wr : World} {g : Nat} {T : List Int} (h : OwnY base w0 wr g T) (i : Nat) : wr.frozen? ⟨g, i, none⟩ = false := by
  obtain ⟨cur, hg, _⟩ := h.blk; exact frozen_of_row wr g i cur 5 hg
theorem OwnY.store {base : Nat} {w0 wr : World} {g : Nat} {T : List Int} (h : OwnY base w0 wr g T) (j : Nat) (x : Int) : OwnY base w0 (wr.setCell ⟨g, j, none⟩ (.int .u8 x)) g (T.set j x) := by
  obtain ⟨cur, hg, hs, hc⟩ := h.blk
  refine ⟨h.ge, ⟨cur.setIfInBounds j (.int .u8 x), heap_setCell_same wr g j cur 5 _ hg, by simpa using hs, fun i hi => ?_⟩, h.below.setCell h.ge _⟩
  simp only [List.length_set] at hi
  have hci := hc i hi
  by_cases e : i = j
  · subst e
    rw [Array.getElem?_setIfInBounds_self_of_lt (by omega)]
    simp [List.getD, hi]
  · rw [Array.getElem?_setIfInBounds_ne (by omega), hci]
    simp [List.getD, show ¬ j = i from by omega]
theorem OwnY.drew {base : Nat} {w0 wr : World} {g : Nat} {T : List Int} (h : OwnY base w0 wr g T) : OwnY base w0 wr.drew g T := ⟨h.ge, h.blk, h.below.drew⟩
theorem OwnY.take {base : Nat} {w0 wr : World} {g : Nat} {T : List Int} (h : OwnY base w0 wr g T) (k : Nat) : OwnY base w0 wr g (T.take k) := by
  obtain ⟨cur, hg, hs, hc⟩ := h.blk
  refine ⟨h.ge, ⟨cur, hg, by rw [List.length_take]; omega, fun i hi => ?_⟩, h.below⟩
  rw [List.length_take] at hi
  rw [hc i (by omega)]; simp [List.getD, show i < k from by omega]
theorem OwnY.of_owns {base g n cap : Nat} {w0 w : World} {l : List Int} (h : w.ownsRow base 5 1 (.slice (some ⟨g, 0, none⟩) n cap) n (l.map (Value.int .u8))) (hb : Below base w0 w) : OwnY base w0 w g l := by
  have hn : l.length = n := by have := h.1; simpa using this
  have hcell := fun i => h.cellAt i
  rcases h.2 with ⟨h', _⟩ | ⟨g', cap', cur, h', hg, hh, hnc, hm, hs, ht⟩
  · simp at h'
  · simp only [Value.slice.injEq, Option.some.injEq, Addr.mk.injEq, and_true, true_and] at h'
    obtain ⟨rfl, rfl⟩ := h'
    refine ⟨hg, ⟨cur, hh, by omega, fun i hi => ?_⟩, hb⟩
    rw [← cell_of_row w g i cur 5 (0, 0) hh, hcell i (by omega)]
    simp [List.getElem?_eq_getElem hi, List.getD]
end Go.Proofs.YtlfngdbpnhaphaaGreatDoor
namespace Go.Proofs.YtlfngdbpnhaphaaGreatDoor
open Go.RowKit M
theorem OwnB.grown {b : Nat} {w0 w w1 : World} {g : Nat} {L : List Int} {o : Obj} {row : Option Nat} (hO : OwnB b w0 w g L) (hg : (w.alloc o).grownBy w1 row) (hne : row ≠ some g) (hb : b ≤ w.heap.size) (hrow : ∀ k, row = some k → b ≤ k) : OwnB b w0 w1 g L := by
  obtain ⟨cur, hh, hs, hc⟩ := hO.blk
  have hlt := hO.lt
  refine ⟨hO.ok, hO.ge, ⟨cur, ?_, hs, hc⟩, (hO.below.alloc hb o).grown hg (by simp; omega) hrow⟩
  rw [hg.block g (by simp; omega) (by intro e; exact hne e.symm), Below.heap_alloc w o g hlt]; exact hh
theorem OwnB.trimmed {base : Nat} {w0 wr : World} {g : Nat} {L : List Int} {s : Nat} (h : OwnB base w0 wr g L) (hv : val L = s) : OwnB base w0 wr g (limbs s) ∧ (limbs s).length ≤ L.length ∧ (trimL L).length = (limbs s).length := by
  obtain ⟨k, hk, e⟩ := trimL_prefix h.ok _ rfl
  rw [trimL_eq hv] at e
  exact ⟨by rw [e]; exact h.take k, by rw [e, List.length_take]; omega, by rw [trimL_eq hv]⟩
end Go.Proofs.YtlfngdbpnhaphaaGreatDoor
namespace Go.Proofs.YtlfngdbpnhaphaaGreatDoor
open Go.RowKit M
theorem require2_ok (b : Nat) (ao bo : Option Addr) (A B : List Int) (n m ca cb : Nat) (w : World) (hn : A.length = n) (hm : B.length = m) (hca : CellsK .u32 w ao A) (hcb : CellsK .u32 w bo B) (hA : isNat A = true) (hB : isNat B = true)
    (c0 : w.cell? ⟨b, 0, none⟩ = some (.slice ao n ca)) (c1 : w.cell? ⟨b, 1, none⟩ = some (.slice bo m cb)) :
    Calls Tryz.prog 58 #[.slice (some ⟨b, 0, none⟩) 2 2] w fun e w' => e = .returned (.tuple #[]) ∧ w = w' := by
  have hvA := valid_any ao A n ca w hn hca
  have hvB := valid_any bo B m cb w hm hcb
  rw [hA] at hvA
  rw [hB] at hvB
  have HA := Bx.mk hvA
  have HB := Bx.mk hvB
  clear hvA hvB hA hB hn hm hca hcb
  go_enter Tryz.func58, Tryz.ntmps58
  go_wp2
  refine wp_loop_rounds 3 ?_
  rw [rounds_succ]
  go_wp2_with fail
  refine HA.out.mono ?_
  rintro e w' ⟨rfl, rfl⟩
  go_wp2
  rw [rounds_succ]
  go_wp2_with fail
  refine HB.out.mono ?_
  rintro e w' ⟨rfl, rfl⟩
  go_wp2
  rw [rounds_succ]
  go_wp2
  go_end0
  exact ⟨rfl, rfl⟩
theorem require1_ok (b : Nat) (ao : Option Addr) (A : List Int) (n ca : Nat) (w : World) (hn : A.length = n) (hca : CellsK .u32 w ao A) (hA : isNat A = true)
    (c0 : w.cell? ⟨b, 0, none⟩ = some (.slice ao n ca)) :
    Calls Tryz.prog 58 #[.slice (some ⟨b, 0, none⟩) 1 1] w fun e w' => e = .returned (.tuple #[]) ∧ w = w' := by
  have hvA := valid_any ao A n ca w hn hca
  rw [hA] at hvA
  have HA := Bx.mk hvA
  clear hvA hA hn hca
  go_enter Tryz.func58, Tryz.ntmps58
  go_wp2
  refine wp_loop_rounds 2 ?_
  rw [rounds_succ]
  go_wp2_with fail
  refine HA.out.mono ?_
  rintro e w' ⟨rfl, rfl⟩
  go_wp2
  rw [rounds_succ]
  go_wp2
  go_end0
  exact ⟨rfl, rfl⟩
/-- The deferred call where nothing was raised. -/
theorem catch_idle65 (p : Addr) (w : World) :
    CallsD Tryz.prog 82 #[.pointer (some p)] .returning w fun e u' w' => e = .returned (.tuple #[]) ∧ u' = .returning ∧ w' = w := by
  refine callsD_of_wpS Tryz.func82 rfl fun c₀ cs hu => ?_
  simp only [Tryz.ntmps82, List.size_toArray, List.length_cons, List.length_nil, Nat.reduceAdd, Nat.reduceSub, Array.replicate_succ, Array.replicate_zero, List.push_toArray, List.append_toArray, List.nil_append, List.cons_append]
  apply wpS_seq
  apply wpS_region
  simp [wpOpsS, go_sem, recoverD, hu, Exit.thenS]
  refine wpS_of_wp ?_
  go_wp2
  simp [bodyPostS, results, Tryz.results82]
  cases c₀; simp_all
/-- The deferred call where nothing was raised. -/
theorem catch_idle72 (p : Addr) (w : World) :
    CallsD Tryz.prog 86 #[.pointer (some p)] .returning w fun e u' w' => e = .returned (.tuple #[]) ∧ u' = .returning ∧ w' = w := by
  refine callsD_of_wpS Tryz.func86 rfl fun c₀ cs hu => ?_
  simp only [Tryz.ntmps86, List.size_toArray, List.length_cons, List.length_nil, Nat.reduceAdd, Nat.reduceSub, Array.replicate_succ, Array.replicate_zero, List.push_toArray, List.append_toArray, List.nil_append, List.cons_append]
  apply wpS_seq
  apply wpS_region
  simp [wpOpsS, go_sem, recoverD, hu, Exit.thenS]
  refine wpS_of_wp ?_
  go_wp2
  simp [bodyPostS, results, Tryz.results86]
  cases c₀; simp_all
/-- The deferred call where nothing was raised. -/
theorem catch_idle77 (p : Addr) (w : World) :
    CallsD Tryz.prog 90 #[.pointer (some p)] .returning w fun e u' w' => e = .returned (.tuple #[]) ∧ u' = .returning ∧ w' = w := by
  refine callsD_of_wpS Tryz.func90 rfl fun c₀ cs hu => ?_
  simp only [Tryz.ntmps90, List.size_toArray, List.length_cons, List.length_nil, Nat.reduceAdd, Nat.reduceSub, Array.replicate_succ, Array.replicate_zero, List.push_toArray, List.append_toArray, List.nil_append, List.cons_append]
  apply wpS_seq
  apply wpS_region
  simp [wpOpsS, go_sem, recoverD, hu, Exit.thenS]
  refine wpS_of_wp ?_
  go_wp2
  simp [bodyPostS, results, Tryz.results90]
  cases c₀; simp_all
end Go.Proofs.YtlfngdbpnhaphaaGreatDoor
namespace Go.Proofs.YtlfngdbpnhaphaaGreatDoor
open Go.RowKit M
theorem setCell_self (w : World) (b : Nat) (v : Value) (h : w.cell? ⟨b, 0, none⟩ = some v) : w.setCell ⟨b, 0, none⟩ v = w := by
  have e : w.heap.modify b (fun o => match o with
      | .cells c elem frozen => .cells (if (none : Option Nat).isSome then c else c.setIfInBounds 0 v) elem frozen
      | o => o) = w.heap := by
    apply Array.ext_getElem?
    intro i
    rw [Array.getElem?_modify]
    split
    · rename_i hib
      subst hib
      simp only [World.cell?] at h
      cases hh : w.heap[b]? with
      | none => rfl
      | some o =>
        cases o with
        | cells c elem fr =>
          rw [hh] at h
          simp at h
          have hc : c.setIfInBounds 0 v = c := by
            apply Array.ext_getElem?
            intro j
            rw [Array.getElem?_setIfInBounds]
            split
            · rename_i hj; subst hj; split
              · exact h.symm
              · rename_i hns; rw [Array.getElem?_eq_none (by omega)]
            · rfl
          simp [hc]
        | _ => rfl
    · rfl
  exact congrArg (fun h => ({ w with heap := h } : World)) e
/-- natural.attempt over this closure: its result. -/
theorem attemptMul_ok (a1 a2 : Addr) (s : Nat) (w : World) (h : Calls Tryz.prog 57 #[.pointer (some a1), .pointer (some a2)] (w.alloc (.cells #[.int .i64 0] 28)) (RetNat (w.alloc (.cells #[.int .i64 0] 28)) s)) :
    Calls Tryz.prog 56 #[.func (Fn.func 57) #[] #[.pointer (some a1), .pointer (some a2)]] w fun e w' => ∃ v, e = .returned (.tuple #[v, .int .i64 0]) ∧ Rd w' v (limbs s) ∧ Below w.heap.size w w' := by
  have hmf : ∀ (fn : Fn) (first cap : Array Value) (w : World), (Instr.makeFunc fn first cap).run Tryz.prog w = .ok (.func fn first cap) w := fun _ _ _ _ => rfl
  have hb0 : Below w.heap.size w (w.alloc (.cells #[.int .i64 0] 28)) := (Below.refl _ _).alloc (Nat.le_refl _) _
  have H := Bx.mk h
  clear h
  go_enter_defers Tryz.func56, Tryz.ntmps56
  go_wp2_with fail
  refine H.out.mono ?_
  rintro e w2 ⟨v, rfl, hrd, hb⟩
  have hc0 : w2.cell? ⟨w.heap.size, 0, none⟩ = some (.int .i64 0) := by rw [hb.cell (p := ⟨w.heap.size, 0, none⟩) (by simp)]; simp [go_sem]
  have hz0 : w2.frozen? ⟨w.heap.size, 0, none⟩ = false := by rw [hb.frozen (p := ⟨w.heap.size, 0, none⟩) (by simp)]; simp [go_sem]
  have HBB := Bx.mk (hb0.trans (hb.mono hb0.size))
  have HRD := Bx.mk hrd
  clear hrd
  have hself := setCell_self w2 w.heap.size _ hc0
  clear hb hb0 H
  go_wp2
  refine leaves_cons (f := 82) (args := #[.pointer (some ⟨w.heap.size, 0, none⟩)]) (by simp) (by simp [go_sem]) ?_
  refine (catch_idle65 ⟨w.heap.size, 0, none⟩ _).mono ?_
  rintro e u' w'' ⟨rfl, rfl, rfl⟩
  simp only
  refine ⟨_, by simp [results, Tryz.results56, go_sem, hc0]; rfl, ?_⟩
  exact ⟨v, rfl, HRD.out, HBB.out⟩
/-- natural.attempt over this closure: its result. -/
theorem attemptPow_ok (a1 a2 : Addr) (s : Nat) (w : World) (h : Calls Tryz.prog 113 #[.pointer (some a1), .pointer (some a2)] (w.alloc (.cells #[.int .i64 0] 28)) (RetNat (w.alloc (.cells #[.int .i64 0] 28)) s)) :
    Calls Tryz.prog 56 #[.func (Fn.func 113) #[] #[.pointer (some a1), .pointer (some a2)]] w fun e w' => ∃ v, e = .returned (.tuple #[v, .int .i64 0]) ∧ Rd w' v (limbs s) ∧ Below w.heap.size w w' := by
  have hmf : ∀ (fn : Fn) (first cap : Array Value) (w : World), (Instr.makeFunc fn first cap).run Tryz.prog w = .ok (.func fn first cap) w := fun _ _ _ _ => rfl
  have hb0 : Below w.heap.size w (w.alloc (.cells #[.int .i64 0] 28)) := (Below.refl _ _).alloc (Nat.le_refl _) _
  have H := Bx.mk h
  clear h
  go_enter_defers Tryz.func56, Tryz.ntmps56
  go_wp2_with fail
  refine H.out.mono ?_
  rintro e w2 ⟨v, rfl, hrd, hb⟩
  have hc0 : w2.cell? ⟨w.heap.size, 0, none⟩ = some (.int .i64 0) := by rw [hb.cell (p := ⟨w.heap.size, 0, none⟩) (by simp)]; simp [go_sem]
  have hz0 : w2.frozen? ⟨w.heap.size, 0, none⟩ = false := by rw [hb.frozen (p := ⟨w.heap.size, 0, none⟩) (by simp)]; simp [go_sem]
  have HBB := Bx.mk (hb0.trans (hb.mono hb0.size))
  have HRD := Bx.mk hrd
  clear hrd
  have hself := setCell_self w2 w.heap.size _ hc0
  clear hb hb0 H
  go_wp2
  refine leaves_cons (f := 82) (args := #[.pointer (some ⟨w.heap.size, 0, none⟩)]) (by simp) (by simp [go_sem]) ?_
  refine (catch_idle65 ⟨w.heap.size, 0, none⟩ _).mono ?_
  rintro e u' w'' ⟨rfl, rfl, rfl⟩
  simp only
  refine ⟨_, by simp [results, Tryz.results56, go_sem, hc0]; rfl, ?_⟩
  exact ⟨v, rfl, HRD.out, HBB.out⟩
/-- natural.attempt over this closure: its result. -/
theorem attemptCmp_ok (a1 a2 : Addr) (n : Int) (w : World) (h : Calls Tryz.prog 65 #[.pointer (some a1), .pointer (some a2)] (w.alloc (.cells #[.int .i64 0] 28)) (fun e w' => e = .returned (.int .i64 n) ∧ Below (w.heap.size + 1) (w.alloc (.cells #[.int .i64 0] 28)) w')) :
    Calls Tryz.prog 64 #[.func (Fn.func 65) #[] #[.pointer (some a1), .pointer (some a2)]] w fun e w' => e = .returned (.tuple #[.int .i64 n, .int .i64 0]) ∧ Below w.heap.size w w' := by
  have hmf : ∀ (fn : Fn) (first cap : Array Value) (w : World), (Instr.makeFunc fn first cap).run Tryz.prog w = .ok (.func fn first cap) w := fun _ _ _ _ => rfl
  have hb0 : Below w.heap.size w (w.alloc (.cells #[.int .i64 0] 28)) := (Below.refl _ _).alloc (Nat.le_refl _) _
  have H := Bx.mk h
  clear h
  go_enter_defers Tryz.func64, Tryz.ntmps64
  go_wp2_with fail
  refine H.out.mono ?_
  rintro e w2 ⟨rfl, hb⟩
  have hb : Below (w.alloc (.cells #[.int .i64 0] 28)).heap.size (w.alloc (.cells #[.int .i64 0] 28)) w2 := hb.mono (by simp)
  have hc0 : w2.cell? ⟨w.heap.size, 0, none⟩ = some (.int .i64 0) := by rw [hb.cell (p := ⟨w.heap.size, 0, none⟩) (by simp)]; simp [go_sem]
  have hz0 : w2.frozen? ⟨w.heap.size, 0, none⟩ = false := by rw [hb.frozen (p := ⟨w.heap.size, 0, none⟩) (by simp)]; simp [go_sem]
  have HBB := Bx.mk (hb0.trans (hb.mono hb0.size))
  have hself := setCell_self w2 w.heap.size _ hc0
  clear hb hb0 H
  go_wp2
  refine leaves_cons (f := 90) (args := #[.pointer (some ⟨w.heap.size, 0, none⟩)]) (by simp) (by simp [go_sem]) ?_
  refine (catch_idle77 ⟨w.heap.size, 0, none⟩ _).mono ?_
  rintro e u' w'' ⟨rfl, rfl, rfl⟩
  simp only
  refine ⟨_, by simp [results, Tryz.results64, go_sem, hc0]; rfl, ?_⟩
  exact ⟨rfl, HBB.out⟩
end Go.Proofs.YtlfngdbpnhaphaaGreatDoor

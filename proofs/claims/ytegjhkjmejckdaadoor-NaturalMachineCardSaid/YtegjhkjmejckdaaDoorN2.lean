/- natural.sum returns the sum, or raises ErrLimit. -/
import Derived.Test.YtegjhkjmejckdaaDoorN1
namespace Go.Proofs.YtegjhkjmejckdaaDoor
open Go.RowKit M
theorem maps_rep (C : List Int) (m : Nat) : (C ++ List.replicate m 0).map (Value.int .u32) = C.map (Value.int .u32) ++ List.replicate m (.int .u32 0) := by simp
/-- A natural number comes back, in memory that can be read; nothing old has turned. -/
def RetNat (w : World) (s : Nat) (e : Ending) (w' : World) : Prop := ∃ v, e = .returned v ∧ Rd w' v (limbs s) ∧ Below w.heap.size w w'
/-- An error code is raised. -/
def Raised (w : World) (n : Int) (e : Ending) (w' : World) : Prop := e = .panicked [{ v := .iface 29 (.int .i64 n), recovered := false }] ∧ Below w.heap.size w w'
theorem Rd.trimmed {w : World} {ao : Option Addr} {l : List Int} {cap : Nat} {s : Nat} (h : CellsK .u32 w ao l) (hok : Ok l) (hcap : l.length ≤ cap) (hmax : cap ≤ maxLen) (hv : val l = s) : Rd w (.slice ao (trimL l).length (trimL l).length) (limbs s) := by
  obtain ⟨k, hk, e⟩ := trimL_prefix hok _ rfl
  rw [← trimL_eq hv]
  refine ⟨by rw [e]; exact hok.take k, ao, _, rfl, Nat.le_refl _, by rw [e, List.length_take]; omega, fun hne => ?_⟩
  obtain ⟨a, rfl, ha, hc⟩ := h (by intro e'; subst e'; simp [trimL_nil] at hne)
  refine ⟨a, rfl, ha, fun i hi => ?_⟩
  rw [e, List.length_take] at hi
  rw [hc i (by omega), e]
  simp [List.getD, List.getElem?_take, show i < k from by omega]
/-- What is owned, as cells. -/
theorem cells_of_owns {w : World} {base g n cap : Nat} {l : List Int} (h : w.ownsRow base 42 1 (.slice (some ⟨g, 0, none⟩) n cap) n (l.map (Value.int .u32))) : CellsK .u32 w (some ⟨g, 0, none⟩) l := by
  have hn : l.length = n := by have := h.1; simpa using this
  intro _
  refine ⟨_, rfl, (h.lt g rfl).2, fun i hi => ?_⟩
  have e : (⟨g, 0, none⟩ : Addr).add i = ⟨g, i, none⟩ := by unfold Addr.add; split <;> simp_all
  rw [e, h.cellAt i (by omega)]
  simp [List.getElem?_eq_getElem hi, List.getD]

theorem run_max2 (w : World) (ts : Array TypeId) (t : TypeId) (n m N : Nat) (h : N = max n m) : (Builtin.max_ ts t #[.int .i64 (n : Int), .int .i64 (m : Int)]).run Tryd.prog w = .ok (.int .i64 (N : Int)) w := by
  simp [Builtin.max_, Builtin.max2]
  split <;> omega
/-- What a call has written so far into a row of its own: the limbs L, then zeros. -/
structure Wrote (w wr : World) (M : Nat) (L : List Int) : Prop where
  ok : Ok L
  own : wr.ownsRow w.heap.size 42 1 (.slice (some ⟨w.heap.size, 0, none⟩) M M) M (L.map (Value.int .u32))
  below : Below w.heap.size w wr
theorem Wrote.len {w wr : World} {M : Nat} {L : List Int} (h : Wrote w wr M L) : L.length = M := by have := h.own.1; simpa using this
theorem Wrote.made {w w1 : World} {M : Nat} (hown : w1.ownsRow w.heap.size 42 1 (.slice (some ⟨w.heap.size, 0, none⟩) M M) M (madeCells (Value.int .u32 0).cells (M * 1)).toList) (hg : w.grownBy w1 none) : Wrote w w1 M (List.replicate M 0) := by
  refine ⟨Ok.replicate M, ?_, (Below.refl _ _).grown hg (Nat.le_refl _) (by intro k hk; cases hk)⟩
  rw [Nat.mul_one] at hown
  have e : (madeCells (Value.int .u32 0).cells M).toList = (List.replicate M (0 : Int)).map (Value.int .u32) := by
    rw [show (Value.int .u32 0).cells = #[.int .u32 0] from rfl, toList_madeCells_one]; simp
  rw [e] at hown; exact hown
theorem Wrote.cell {w wr : World} {M : Nat} {L : List Int} (h : Wrote w wr M L) (j : Nat) (hj : j < M) : wr.cell? ⟨w.heap.size, j, none⟩ = some (.int .u32 (L.getD j 0)) := by
  rw [h.own.cellAt j (by omega)]; have := h.len; simp [List.getElem?_eq_getElem (show j < L.length from by omega), List.getD]
theorem Wrote.free {w wr : World} {M : Nat} {L : List Int} (h : Wrote w wr M L) (j : Nat) : wr.frozen? ⟨w.heap.size, j, none⟩ = false := h.own.frozenAt j
theorem Wrote.store {w wr : World} {M : Nat} {L : List Int} (h : Wrote w wr M L) (j : Nat) {x : Int} (h0 : 0 ≤ x) (h1 : x < 4294967296) : Wrote w (wr.setCell ⟨w.heap.size, j, none⟩ (.int .u32 x)) M (L.set j x) :=
  ⟨h.ok.set j h0 h1, by rw [List.map_set]; exact (h.own.stored j _).1, h.below.setCell (Nat.le_refl _) _⟩
theorem Wrote.cells {w wr : World} {M : Nat} {L : List Int} (h : Wrote w wr M L) : CellsK .u32 wr (some ⟨w.heap.size, 0, none⟩) L := cells_of_owns h.own
/-- The sum after k rounds. -/
def SumRel (w : World) (A B : List Int) (N k : Nat) (cy : Int) (wr : World) : Prop :=
  0 ≤ cy ∧ cy ≤ 1 ∧ ∃ C : List Int, C.length = k ∧ val C + pw k * cy = val (A.take k) + val (B.take k) ∧ Wrote w wr (N + 1) (C ++ List.replicate (N + 1 - k) 0)
theorem sumRel_step {w wr : World} {A B : List Int} {N k : Nat} {cy : Int} (hA : Ok A) (hB : Ok B) (h : SumRel w A B N k cy wr) (hk : k < N) :
    SumRel w A B N (k + 1) ((A.getD k 0 + B.getD k 0 + cy) / 4294967296) (wr.setCell ⟨w.heap.size, k, none⟩ (.int .u32 ((A.getD k 0 + B.getD k 0 + cy) % 4294967296))) := by
  obtain ⟨h0, h1, C, hC, hv, hw⟩ := h
  have ha := hA.getD k
  have hb := hB.getD k
  refine ⟨by omega, by omega, C ++ [(A.getD k 0 + B.getD k 0 + cy) % 4294967296], by simp [hC], ?_, ?_⟩
  · rw [val_snoc, hC, pw_succ, val_take_succ', val_take_succ', sum_step _ _ _ _ _ _ hv]; omega
  · have := hw.store k (x := (A.getD k 0 + B.getD k 0 + cy) % 4294967296) (by omega) (by omega)
    rw [show N + 1 - k = (N - k) + 1 from by omega, set_mid C k hC] at this
    rw [show N + 1 - (k + 1) = N - k from by omega]; exact this
theorem sum_any (ao bo : Option Addr) (A B : List Int) (n m ca cb : Nat) (w : World) (N : Nat) (hn : A.length = n) (hm : B.length = m) (hn6 : n ≤ 700) (hm6 : m ≤ 700) (hN : N = max n m)
    (hA : Ok A) (hB : Ok B) (hca : CellsK .u32 w ao A) (hcb : CellsK .u32 w bo B) (R : Ending → World → Prop)
    (hok : val A + val B < pw 640 → ∀ e w', RetNat w (val A + val B).toNat e w' → R e w') (hov : pw 640 ≤ val A + val B → ∀ e w', Raised w 2 e w' → R e w') :
    Calls Tryd.prog 40 #[.slice ao n ca, .slice bo m cb] w R := by
  obtain ⟨i0, hi, hz0, hz1, hz2⟩ := info_parts Tryd.info42
  have hnN : n ≤ N := by omega
  have hmN : m ≤ N := by omega
  have hN6 : N ≤ 700 := by omega
  have hmax := fun w ts t => run_max2 w ts t n m N hN
  clear hN
  have HOK := Lib.hid hok
  have HOV := Lib.hid hov
  clear hok hov
  go_enter Tryd.func40, Tryd.ntmps40
  go_wp2_with (at_make; refine wpList_make_full _ rfl _ _ 22 rfl w.heap.size 42 i0 (.int .u32 0) 1 Tryd.underlying22 hi hz0 hz1 .i64 .i64 _ _ (N + 1) rfl rfl (by push_cast; rfl) (by push_cast; rfl) (by rw [hz2]; omega) (by unfold maxLen; omega) (Nat.le_refl _) ?_; intro w1 hown hgrow)
  have hW := Wrote.made hown hgrow
  clear hown hgrow hmax hi hz0 hz1 hz2
  go_loopw [7, 18] (fun c i wr => ∃ (k : Nat) (cy : Int), k ≤ N ∧ i = .int .i64 k ∧ c = .int .u32 cy ∧ SumRel w A B N k cy wr) (fun _ i _ => N - (intOf i).toNat)
  case atStart => exact ⟨0, 0, Nat.zero_le _, rfl, rfl, Int.le_refl _, by omega, [], rfl, by simp [val], by simpa using hW⟩
  case round =>
    obtain ⟨k, cy, hk, rfl, rfl, hrel⟩ := hrel
    by_cases hlt : k < N
    · have h0 := hrel.1
      have h1 := hrel.2.1
      obtain ⟨C, hC, hv, hw⟩ := hrel.2.2
      have hbw := hw.below
      have hcell := hw.cell k (by omega)
      have hfree := hw.free k
      have hstep := sumRel_step hA hB hrel hlt
      have ha := hA.getD k
      have hb := hB.getD k
      have hlA := limb_any ao A n ca k wr hn (hca.keep hbw)
      have hlB := limb_any bo B m cb k wr hm (hcb.keep hbw)
      obtain ⟨x, hx⟩ : ∃ x, x = A.getD k 0 := ⟨_, rfl⟩
      obtain ⟨y, hy⟩ : ∃ y, y = B.getD k 0 := ⟨_, rfl⟩
      rw [← hx] at ha hlA hstep
      rw [← hy] at hb hlB hstep
      clear hx hy hC hv hw hW hrel hbw
      have hadd := add32 x y cy wr ha.1 ha.2 hb.1 hb.2 h0 h1
      have hsum : (x + y + cy) / 4294967296 ≤ 1 := by omega
      go_wp2_with fail
      refine hlA.mono ?_
      rintro e w2 ⟨rfl, rfl⟩
      go_wp2_with fail
      refine hlB.mono ?_
      rintro e w2 ⟨rfl, rfl⟩
      go_wp2_with fail
      refine hadd.mono ?_
      rintro e w2 ⟨rfl, rfl⟩
      clear hlA hlB hadd
      go_wp2
      go_roundw
      case rel => exact ⟨k + 1, _, by omega, by go_num, rfl, hstep⟩
      case measure => simp [intOf]; omega
    · have hkN : k = N := by omega
      subst hkN
      have h0 := hrel.1
      have h1 := hrel.2.1
      obtain ⟨C, hC, hv, hw⟩ := hrel.2.2
      have hcell := hw.cell k (by omega)
      have hfree := hw.free k
      have hst := hw.store k (x := cy) h0 (by omega)
      rw [show k + 1 - k = 0 + 1 from by omega, set_mid C k hC] at hst
      simp only [List.replicate_zero, List.append_nil] at hst
      have hval : val (C ++ [cy]) = val A + val B := by
        rw [val_snoc, hC, hv, List.take_of_length_le (by omega), List.take_of_length_le (by omega)]
      have hlen : (C ++ [cy]).length = k + 1 := by simp [hC]
      generalize C ++ [cy] = D at hst hval hlen
      have HV := Lib.hid hval
      clear hv hw hW hrel hval
      have hnn := val_nonneg hst.ok
      by_cases hlim : val A + val B < pw 640
      · have hfit := fit_ok _ D (k + 1) (k + 1) _ hlen (Nat.le_refl _) (by unfold maxLen; omega) hst.ok hst.cells (by rw [HV.out]; exact hlim)
        have HL := Lib.hid hlim
        clear hlim
        go_wp2_with fail
        refine hfit.mono ?_
        rintro e w2 ⟨rfl, rfl⟩
        go_wp2
        refine HOK.out HL.out _ _ ⟨_, rfl, ?_, hst.below⟩
        exact Rd.trimmed hst.cells hst.ok (cap := k + 1) (by omega) (by unfold maxLen; omega) (by rw [← HV.out]; omega)
      · have hfit := fit_over _ D (k + 1) (k + 1) _ hlen (Nat.le_refl _) (by unfold maxLen; omega) hst.ok hst.cells (by rw [HV.out]; omega)
        have HL := Lib.hid (show pw 640 ≤ val A + val B by omega)
        clear hlim
        go_wp2_with fail
        refine hfit.mono ?_
        rintro e w2 ⟨rfl, rfl⟩
        exact ⟨rfl, HOV.out HL.out _ _ ⟨rfl, hst.below⟩⟩
end Go.Proofs.YtegjhkjmejckdaaDoor

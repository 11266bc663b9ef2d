/- natural: memory, limbs, sums, products, powers. -/
import Derived.Test.YtomgihlkbmaleaaDoorProg
import Derived.Test.YtomgihlkbmaleaaDoorMath
import Derived.WalkKit
import Derived.Handy
import Derived.Lib.Hide
import Derived.Deep.QuietTactic
import Derived.BigQuiet
import Derived.StillTailTactics
import Derived.Deep.RegionHeld3
import Derived.Deep.RegionWith
import Derived.WalkLawsBesides
import Derived.WalkSpells
import Derived.Recover
import Derived.Deep.DeepFit
import Derived.Test.YtomgihlkbmaleaaDoorShelf
import Derived.Lib.ItoaNum
namespace Go.Proofs.YtomgihlkbmaleaaDoor
open Go.RowKit M
/-- The cells of a list of numbers of one kind from an address on. -/
def CellsK (k : IntKind) (w : World) (ao : Option Addr) (l : List Int) : Prop :=
  l ≠ [] → ∃ a, ao = some a ∧ a.block < w.heap.size ∧ ∀ i, i < l.length → w.cell? (a.add i) = some (.int k (l.getD i 0))
theorem CellsK.keep {k : IntKind} {w w' : World} {ao : Option Addr} {l : List Int} (h : CellsK k w ao l) (hb : Below w.heap.size w w') : CellsK k w' ao l := by
  intro hl
  obtain ⟨a, rfl, ha, hc⟩ := h hl
  have hblk : ∀ i, (a.add i).block = a.block := fun i => by unfold Addr.add; split <;> rfl
  exact ⟨a, rfl, Nat.lt_of_lt_of_le ha hb.size, fun i hi => by rw [hb.cell (p := a.add i) (by rw [hblk]; exact ha)]; exact hc i hi⟩
theorem CellsK.nil {k : IntKind} {w : World} {ao : Option Addr} : CellsK k w ao [] := fun h => absurd rfl h
theorem add_zero_addr (a : Addr) : a.add 0 = a := by simp [Addr.add]
/-- A slice of limbs that can be read. -/
structure Rd (w : World) (v : Value) (l : List Int) : Prop where
  ok : Ok l
  shape : ∃ (ao : Option Addr) (cap : Nat), v = .slice ao l.length cap ∧ l.length ≤ cap ∧ cap ≤ maxLen ∧ CellsK .u32 w ao l
theorem Rd.keep {w w' : World} {v : Value} {l : List Int} (h : Rd w v l) (hb : Below w.heap.size w w') : Rd w' v l :=
  let ⟨ao, cap, e, h1, h2, h3⟩ := h.shape; ⟨h.ok, ao, cap, e, h1, h2, h3.keep hb⟩
theorem Rd.nil (w : World) : Rd w (.slice none 0 0) [] := ⟨Ok.nil, none, 0, rfl, Nat.le_refl _, by unfold maxLen; omega, CellsK.nil⟩
/-- What a call owns reads as a slice of limbs. -/
theorem rd_of_owns {w : World} {base g n cap : Nat} {l : List Int} (h : w.ownsRow base 96 1 (.slice (some ⟨g, 0, none⟩) n cap) n (l.map (Value.int .u32))) (hl : Ok l) : Rd w (.slice (some ⟨g, 0, none⟩) n cap) l := by
  have hn : l.length = n := by have := h.1; simpa using this
  rcases h.2 with ⟨h', _⟩ | ⟨g', cap', cur, h', hb, hg, hnc, hm, hs, ht⟩
  · simp at h'
  · simp only [Value.slice.injEq, Option.some.injEq, Addr.mk.injEq, and_true, true_and] at h'
    obtain ⟨rfl, rfl⟩ := h'
    refine ⟨hl, some ⟨g, 0, none⟩, cap, by rw [hn], by omega, hm, fun hne => ⟨_, rfl, (Array.getElem?_eq_some_iff.1 hg).1, fun i hi => ?_⟩⟩
    have e : (⟨g, 0, none⟩ : Addr).add i = ⟨g, i, none⟩ := by unfold Addr.add; split <;> simp_all
    rw [e, h.cellAt i (by omega)]
    simp [List.getElem?_eq_getElem hi, List.getD]
theorem bcell {W w1 : World} (hb : Below W.heap.size W w1) : (∀ b o, b < W.heap.size → w1.cell? ⟨b, o, none⟩ = W.cell? ⟨b, o, none⟩) ∧ (∀ b o, b < W.heap.size → w1.frozen? ⟨b, o, none⟩ = W.frozen? ⟨b, o, none⟩) :=
  ⟨fun b o h => hb.cell (p := ⟨b, o, none⟩) h, fun b o h => hb.frozen (p := ⟨b, o, none⟩) h⟩
theorem below_drewN {B : Nat} {a w : World} (h : Below B a w) (n : Nat) : Below B a (w.drewN n) := ⟨h.os, h.tape, h.output, h.size, h.block⟩
theorem Tryd.info96 : (Tryd.prog.info? 96).map (fun i => (i.zero, i.size, i.bytes)) = some (some (.int .u32 0), 1, 4) := by kernel_rfl
/-- A quiet call behind draws. -/
theorem quiet_add_left {P : Program} {f : FuncId} {args : Array Value} {w : World} {a n : Nat} {v : Value}
    (h : Calls P f args (w.drewN (a + n)) fun e w' => e = .returned v ∧ w.drewN (a + n) = w') :
    Calls P f args (w.drewN (a + n)) fun e w'' => e = .returned v ∧ ∃ m, w'' = w.drewN (a + m) :=
  h.mono fun _ _ ⟨he, hm⟩ => ⟨he, n, hm.symm⟩
end Go.Proofs.YtomgihlkbmaleaaDoor
namespace Go.Proofs.YtomgihlkbmaleaaDoor
open Go.RowKit M
/-- natural.trim: what is left has the canonical list. -/
theorem trim_any (ao : Option Addr) (l : List Int) (n cap : Nat) (w : World) (hn : l.length = n) (hcap : n ≤ cap) (hmax : cap ≤ maxLen) (hok : Ok l) (h : CellsK .u32 w ao l) :
    Calls Tryd.prog 93 #[.slice ao n cap] w fun e w' => e = .returned (.slice ao (trimL l).length (trimL l).length) ∧ w = w' := by
  unfold maxLen at hmax
  subst hn
  go_enter Tryd.func93, Tryd.ntmps93
  go_wp2
  go_loop [3] (fun v => ∃ k : Nat, k ≤ l.length ∧ v = .int .i64 k ∧ Hid (trimL (l.take k) = trimL l)) (fun v => (intOf v).toNat)
  case atStart => exact ⟨l.length, Nat.le_refl _, rfl, by show _ = _; rw [List.take_length]⟩
  case round =>
    obtain ⟨k, hk, rfl, HT⟩ := hrel
    by_cases h0 : k = 0
    · subst h0
      have e : trimL l = [] := by rw [← HT.out]; simp [trimL_nil]
      have e2 : (trimL l).length = 0 := by rw [e]; rfl
      have HE := Lib.hid e2
      clear e e2 HT
      go_wp2
      go_ret
      exact ⟨by rw [HE.out]; rfl, rfl⟩
    · obtain ⟨a, rfl, ha, hc⟩ := h (by intro e; subst e; simp at hk; omega)
      have hcell := hc (k - 1) (by omega)
      obtain ⟨x, hx⟩ : ∃ x, x = l.getD (k - 1) 0 := ⟨_, rfl⟩
      rw [← hx] at hcell
      have HX := Lib.hid hx
      clear hc h hx
      by_cases hz : x = 0
      · subst hz
        go_wp2
        go_round
        case rel => exact ⟨k - 1, by omega, by go_num, by
          show _ = _
          have := trimL_step (l := l) (k := k - 1) (by omega) HX.out.symm
          rw [show k - 1 + 1 = k from by omega] at this
          exact this.symm.trans HT.out⟩
        case measure => simp [intOf]; omega
      · have hz' : (x == 0) = false := by simpa using hz
        have e : (trimL l).length = k := by
          have := trimL_stop hok (k := k - 1) (by omega) (by rw [← HX.out]; exact hz)
          rw [show k - 1 + 1 = k from by omega] at this
          rw [← HT.out, this, List.length_take]; omega
        have HE := Lib.hid e
        clear e hz HX HT
        go_wp2
        go_ret
        exact ⟨by rw [HE.out]; rfl, rfl⟩
theorem fit_ok (ao : Option Addr) (l : List Int) (n cap : Nat) (w : World) (hn : l.length = n) (hcap : n ≤ cap) (hmax : cap ≤ maxLen) (hok : Ok l) (h : CellsK .u32 w ao l) (hb : val l < pw 640) :
    Calls Tryd.prog 106 #[.slice ao n cap] w fun e w' => e = .returned (.slice ao (trimL l).length (trimL l).length) ∧ w = w' := by
  have hle : (trimL l).length ≤ 640 := limbs_length_le.2 (by have := val_nonneg hok; omega)
  obtain ⟨m, hm⟩ : ∃ m, m = (trimL l).length := ⟨_, rfl⟩
  rw [← hm] at hle ⊢
  have HM := Lib.hid hm
  clear hm
  go_enter Tryd.func106, Tryd.ntmps106
  go_wp2_with (go_at_call 93; refine (trim_any ao l n cap _ hn hcap hmax hok h).mono ?_; rintro e w' ⟨rfl, rfl⟩; rw [← HM.out])
  go_ret
  exact ⟨rfl, rfl⟩
theorem fit_over (ao : Option Addr) (l : List Int) (n cap : Nat) (w : World) (hn : l.length = n) (hcap : n ≤ cap) (hmax : cap ≤ maxLen) (hok : Ok l) (h : CellsK .u32 w ao l) (hb : pw 640 ≤ val l) :
    Calls Tryd.prog 106 #[.slice ao n cap] w fun e w' => e = .panicked [{ v := .iface 25 (.int .i64 2), recovered := false }] ∧ w = w' := by
  have hle : 640 < (trimL l).length := by
    by_cases hx : (trimL l).length ≤ 640
    · have := limbs_length_le.1 hx; omega
    · omega
  obtain ⟨m, hm⟩ : ∃ m, m = (trimL l).length := ⟨_, rfl⟩
  rw [← hm] at hle
  have HM := Lib.hid hm
  clear hm
  go_enter Tryd.func106, Tryd.ntmps106
  go_wp2_with (go_at_call 93; refine (trim_any ao l n cap _ hn hcap hmax hok h).mono ?_; rintro e w' ⟨rfl, rfl⟩; rw [← HM.out])
  exact ⟨rfl, rfl, rfl⟩
theorem valid_core (a : Addr) (n cap : Nat) (x : Int) (w : World) (h0 : 0 < n) (h1 : n ≤ 640) (hcell : w.cell? (a.add (n - 1)) = some (.int .u32 x)) :
    Calls Tryd.prog 77 #[.slice (some a) n cap] w fun e w' => e = .returned (.bool (!(x == 0))) ∧ w = w' := by
  have hz : ((n : Int) == 0) = false := beq_eq_false_iff_ne.2 (by omega)
  go_enter Tryd.func77, Tryd.ntmps77
  go_wp2
  go_ret
  exact ⟨rfl, rfl⟩
/-- natural.Valid -/
theorem valid_any (ao : Option Addr) (l : List Int) (n cap : Nat) (w : World) (hn : l.length = n) (h : CellsK .u32 w ao l) :
    Calls Tryd.prog 77 #[.slice ao n cap] w fun e w' => e = .returned (.bool (isNat l)) ∧ w = w' := by
  by_cases h1 : 640 < n
  · have e : isNat l = false := by simp [isNat]; omega
    rw [e]; clear e h hn
    go_enter Tryd.func77, Tryd.ntmps77
    go_wp2
    go_ret
    exact ⟨rfl, rfl⟩
  · by_cases h0 : n = 0
    · subst h0
      have e : isNat l = true := by have : l = [] := by simpa using hn
                                    subst this; rfl
      rw [e]; clear e h hn
      go_enter Tryd.func77, Tryd.ntmps77
      go_wp2
      go_ret
      exact ⟨rfl, rfl⟩
    · obtain ⟨a, rfl, ha, hc⟩ := h (by intro e; subst e; simp at hn; omega)
      have hcell := hc (n - 1) (by omega)
      have hg : l.getLast? = some (l.getD (n - 1) 0) := by rw [List.getLast?_eq_getElem?, List.getD_eq_getElem?_getD, hn, List.getElem?_eq_getElem (by omega)]; rfl
      have e : isNat l = !(l.getD (n - 1) 0 == 0) := by simp [isNat, hg, hn, show n ≤ 640 from by omega]; rfl
      rw [e]
      exact valid_core a n cap _ w (by omega) (by omega) hcell
end Go.Proofs.YtomgihlkbmaleaaDoor
namespace Go.Proofs.YtomgihlkbmaleaaDoor
open Go.RowKit M
/-- A natural number comes back, in memory that can be read; nothing old has turned. -/
def RetNat (w : World) (s : Nat) (e : Ending) (w' : World) : Prop := ∃ v, e = .returned v ∧ Rd w' v (limbs s) ∧ Below w.heap.size w w'
/-- An error code is raised. -/
def Raised (w : World) (n : Int) (e : Ending) (w' : World) : Prop := e = .panicked [{ v := .iface 25 (.int .i64 n), recovered := false }] ∧ Below w.heap.size w w'
theorem Rd.trimmed {w : World} {ao : Option Addr} {l : List Int} {cap : Nat} {s : Nat} (h : CellsK .u32 w ao l) (hok : Ok l) (hcap : l.length ≤ cap) (hmax : cap ≤ maxLen) (hv : val l = s) : Rd w (.slice ao (trimL l).length (trimL l).length) (limbs s) := by
  obtain ⟨k, hk, e⟩ := trimL_prefix hok _ rfl
  rw [← trimL_eq hv]
  refine ⟨by rw [e]; exact hok.take k, ao, _, rfl, Nat.le_refl _, by rw [e, List.length_take]; omega, fun hne => ?_⟩
  obtain ⟨a, rfl, ha, hc⟩ := h (by intro e'; subst e'; simp [trimL_nil] at hne)
  refine ⟨a, rfl, ha, fun i hi => ?_⟩
  rw [e, List.length_take] at hi
  rw [hc i (by omega), e]
  simp [List.getD, List.getElem?_take, show i < k from by omega]
/-- What is owned, as cells. -/
theorem cells_of_owns {w : World} {base g n cap : Nat} {l : List Int} (h : w.ownsRow base 96 1 (.slice (some ⟨g, 0, none⟩) n cap) n (l.map (Value.int .u32))) : CellsK .u32 w (some ⟨g, 0, none⟩) l := by
  have hn : l.length = n := by have := h.1; simpa using this
  intro _
  refine ⟨_, rfl, (h.lt g rfl).2, fun i hi => ?_⟩
  have e : (⟨g, 0, none⟩ : Addr).add i = ⟨g, i, none⟩ := by unfold Addr.add; split <;> simp_all
  rw [e, h.cellAt i (by omega)]
  simp [List.getElem?_eq_getElem hi, List.getD]

/-- What a call has written so far into a row of its own: the limbs L, then zeros. -/
structure Wrote (w wr : World) (M : Nat) (L : List Int) : Prop where
  ok : Ok L
  own : wr.ownsRow w.heap.size 96 1 (.slice (some ⟨w.heap.size, 0, none⟩) M M) M (L.map (Value.int .u32))
  below : Below w.heap.size w wr
theorem Wrote.len {w wr : World} {M : Nat} {L : List Int} (h : Wrote w wr M L) : L.length = M := by have := h.own.1; simpa using this
theorem Wrote.made {w w1 : World} {M : Nat} (hown : w1.ownsRow w.heap.size 96 1 (.slice (some ⟨w.heap.size, 0, none⟩) M M) M (madeCells (Value.int .u32 0).cells (M * 1)).toList) (hg : w.grownBy w1 none) : Wrote w w1 M (List.replicate M 0) := by
  refine ⟨Ok.replicate M, ?_, (Below.refl _ _).grown hg (Nat.le_refl _) (by intro k hk; cases hk)⟩
  rw [Nat.mul_one] at hown
  have e : (madeCells (Value.int .u32 0).cells M).toList = (List.replicate M (0 : Int)).map (Value.int .u32) := by
    rw [show (Value.int .u32 0).cells = #[.int .u32 0] from rfl, toList_madeCells_one]; simp
  rw [e] at hown; exact hown
theorem Wrote.cell {w wr : World} {M : Nat} {L : List Int} (h : Wrote w wr M L) (j : Nat) (hj : j < M) : wr.cell? ⟨w.heap.size, j, none⟩ = some (.int .u32 (L.getD j 0)) := by
  rw [h.own.cellAt j (by omega)]; have := h.len; simp [List.getElem?_eq_getElem (show j < L.length from by omega), List.getD]
theorem Wrote.free {w wr : World} {M : Nat} {L : List Int} (h : Wrote w wr M L) (j : Nat) : wr.frozen? ⟨w.heap.size, j, none⟩ = false := h.own.frozenAt j
theorem Wrote.store {w wr : World} {M : Nat} {L : List Int} (h : Wrote w wr M L) (j : Nat) {x : Int} (h0 : 0 ≤ x) (h1 : x < 4294967296) : Wrote w (wr.setCell ⟨w.heap.size, j, none⟩ (.int .u32 x)) M (L.set j x) :=
  ⟨h.ok.set j h0 h1, by rw [List.map_set]; exact (h.own.stored j _).1, h.below.setCell (Nat.le_refl _) _⟩
theorem Wrote.cells {w wr : World} {M : Nat} {L : List Int} (h : Wrote w wr M L) : CellsK .u32 wr (some ⟨w.heap.size, 0, none⟩) L := cells_of_owns h.own
end Go.Proofs.YtomgihlkbmaleaaDoor
namespace Go.Proofs.YtomgihlkbmaleaaDoor
open Go.RowKit M
theorem sign_any (b : Bool) (w : World) : Calls Tryd.prog 78 #[.bool b] w fun e w' => e = .returned (.int .i64 (if b then -1 else 1)) ∧ w = w' := by
  cases b
  · go_enter Tryd.func78, Tryd.ntmps78
    go_wp2
    go_ret
    exact ⟨rfl, rfl⟩
  · go_enter Tryd.func78, Tryd.ntmps78
    go_wp2
    go_ret
    exact ⟨rfl, rfl⟩
/-- Nothing but draws. -/
def Quiet (w w' : World) : Prop := ∃ d, w' = w.drewN d
theorem Quiet.below {w w' : World} (h : Quiet w w') (B : Nat) : Below B w w' := by obtain ⟨d, rfl⟩ := h; exact below_drewN (Below.refl _ _) d
theorem Quiet.refl (w : World) : Quiet w w := ⟨0, rfl⟩
theorem Quiet.drewN {w w' : World} (h : Quiet w w') (n : Nat) : Quiet w (w'.drewN n) := by obtain ⟨d, rfl⟩ := h; exact ⟨d + n, by simp [World.drewN, Nat.add_assoc]⟩
theorem compare_any (ao bo : Option Addr) (A B : List Int) (n m ca cb : Nat) (w : World) (hn : A.length = n) (hm : B.length = m) (hn6 : n ≤ 700) (hm6 : m ≤ 700)
    (hA : Ok A) (hB : Ok B) (lA : A.getLast? ≠ some 0) (lB : B.getLast? ≠ some 0) (hca : CellsK .u32 w ao A) (hcb : CellsK .u32 w bo B) :
    Calls Tryd.prog 61 #[.slice ao n ca, .slice bo m cb] w fun e w' => e = .returned (.int .i64 (cmpI (val A) (val B))) ∧ Quiet w w' := by
  by_cases hnm : n = m
  · subst hnm
    go_enter Tryd.func61, Tryd.ntmps61
    go_wp2
    go_loopw [5] (fun v wr => ∃ k : Nat, k ≤ n ∧ v = .int .i64 ((k : Int) - 1) ∧ Hid (A.drop k = B.drop k) ∧ Quiet w wr) (fun v _ => (intOf v + 1).toNat)
    case atStart => exact ⟨n, Nat.le_refl _, by go_num, by show _ = _; rw [List.drop_eq_nil_of_le (by omega), List.drop_eq_nil_of_le (by omega)], Quiet.refl w⟩
    case round =>
      obtain ⟨k, hk, rfl, HD, hq⟩ := hrel
      by_cases h0 : k = 0
      · subst h0
        have e : cmpI (val A) (val B) = 0 := by
          have : A = B := by simpa using HD.out
          rw [this, cmpI_eq]
        have HE := Lib.hid e
        clear e
        go_wp2
        go_ret
        exact ⟨by rw [HE.out]; rfl, hq⟩
      · obtain ⟨a, rfl, _, hac⟩ := hca.keep (hq.below _) (by intro e; subst e; simp at hn; omega)
        obtain ⟨b, rfl, _, hbc⟩ := hcb.keep (hq.below _) (by intro e; subst e; simp at hm; omega)
        have hca1 := hac (k - 1) (by omega)
        have hcb1 := hbc (k - 1) (by omega)
        clear hac hbc
        obtain ⟨x, hx⟩ : ∃ x, x = A.getD (k - 1) 0 := ⟨_, rfl⟩
        obtain ⟨y, hy⟩ : ∃ y, y = B.getD (k - 1) 0 := ⟨_, rfl⟩
        rw [← hx] at hca1
        rw [← hy] at hcb1
        have HX := Lib.hid hx
        have HY := Lib.hid hy
        clear hx hy
        have hb1 : (0 : Int) ≤ (k : Int) - 1 := by omega
        have hb2 : (k : Int) - 1 < (n : Int) := by omega
        by_cases hxy : x = y
        · have ht : (x != y) = false := by simp [hxy]
          have HXY := Lib.hid hxy
          clear hxy
          go_wp2_with fail
          go_quiet (fail)
          go_wp2
          go_roundw
          case rel => exact ⟨k - 1, by omega, by go_num, by
            show _ = _
            rw [drop_step A (k - 1) (by omega), drop_step B (k - 1) (by omega), ← HX.out, ← HY.out, HXY.out, show k - 1 + 1 = k from by omega, HD.out], hq.drewN _⟩
          case measure => simp [intOf]; omega
        · have ht : (x != y) = true := by simp [hxy]
          have hdd : A.drop (k - 1 + 1) = B.drop (k - 1 + 1) := by rw [show k - 1 + 1 = k from by omega]; exact HD.out
          have hdr := HD.out
          have e : cmpI (val A) (val B) = if x < y then -1 else 1 := by
            by_cases hlt : x < y
            · rw [if_pos hlt]; exact cmpI_lt (val_lt_of_limb hA hB (k - 1) (by omega) (by omega) hdd (by rw [← HX.out, ← HY.out]; exact hlt))
            · rw [if_neg hlt]; exact cmpI_gt (val_lt_of_limb hB hA (k - 1) (by omega) (by omega) hdd.symm (by rw [← HX.out, ← HY.out]; omega))
          have HE0 := e
          clear e hdd hdr hxy HX HY HD
          by_cases hlt : x < y
          · rw [if_pos hlt] at HE0
            have HE := Lib.hid HE0
            clear HE0
            have hd : decide (x < y) = true := by simpa using hlt
            go_wp2_with fail
            go_quiet (fail)
            go_wp2
            go_quiet ((go_at_call 78; exact quiet_add_left (sign_any _ _)))
            go_wp2
            go_ret
            exact ⟨by rw [HE.out]; rfl, by first | exact (hq.drewN _).drewN _ | exact hq.drewN _⟩
          · rw [if_neg hlt] at HE0
            have HE := Lib.hid HE0
            clear HE0
            have hd : decide (x < y) = false := by simpa using hlt
            go_wp2_with fail
            go_quiet (fail)
            go_wp2
            go_quiet ((go_at_call 78; exact quiet_add_left (sign_any _ _)))
            go_wp2
            go_ret
            exact ⟨by rw [HE.out]; rfl, by first | exact (hq.drewN _).drewN _ | exact hq.drewN _⟩
  · have e : cmpI (val A) (val B) = if n < m then -1 else 1 := by
      by_cases hlt : n < m
      · rw [if_pos hlt]; exact cmpI_lt (val_lt_of_len hA hB lB (by omega))
      · rw [if_neg hlt]; exact cmpI_gt (val_lt_of_len hB hA lA (by omega))
    have HE0 := e
    clear e
    have hne : ((n : Int) != (m : Int)) = true := by simp; omega
    by_cases hlt : n < m
    · rw [if_pos hlt] at HE0
      have HE := Lib.hid HE0
      clear HE0
      go_enter Tryd.func61, Tryd.ntmps61
      go_wp2_with (go_at_call 78; refine (sign_any _ _).mono ?_; rintro e w' ⟨rfl, rfl⟩)
      go_ret
      exact ⟨by rw [HE.out]; rfl, Quiet.refl w⟩
    · rw [if_neg hlt] at HE0
      have HE := Lib.hid HE0
      clear HE0
      have hd : decide ((n : Int) < (m : Int)) = false := by simpa using hlt
      go_enter Tryd.func61, Tryd.ntmps61
      go_wp2_with (go_at_call 78; refine (sign_any _ _).mono ?_; rintro e w' ⟨rfl, rfl⟩)
      go_ret
      exact ⟨by rw [HE.out]; rfl, Quiet.refl w⟩
end Go.Proofs.YtomgihlkbmaleaaDoor
namespace Go.Proofs.YtomgihlkbmaleaaDoor
open Go.RowKit M
end Go.Proofs.YtomgihlkbmaleaaDoor
namespace Go.Proofs.YtomgihlkbmaleaaDoor
open Go.RowKit M
theorem Wrote.drew {w wr : World} {M : Nat} {L : List Int} (h : Wrote w wr M L) : Wrote w wr.drew M L := ⟨h.ok, h.own.drew, h.below.drew⟩
/-- The difference after k rounds. -/
def SubRel (w : World) (A B : List Int) (n k : Nat) (cy : Int) (wr : World) : Prop :=
  0 ≤ cy ∧ cy ≤ 1 ∧ ∃ C : List Int, C.length = k ∧ val C = val (A.take k) - val (B.take k) + pw k * cy ∧ Wrote w wr n (C ++ List.replicate (n - k) 0)
theorem SubRel.drew {w wr : World} {A B : List Int} {n k : Nat} {cy : Int} (h : SubRel w A B n k cy wr) : SubRel w A B n k cy wr.drew :=
  let ⟨h0, h1, C, hC, hv, hw⟩ := h; ⟨h0, h1, C, hC, hv, hw.drew⟩
theorem RetNat.after {w w1 : World} {s : Nat} {e : Ending} {w' : World} (hb : Below w.heap.size w w1) (h : RetNat w1 s e w') : RetNat w s e w' :=
  let ⟨v, he, hr, hb'⟩ := h; ⟨v, he, hr, hb.trans (hb'.mono hb.size)⟩
theorem Raised.after {w w1 : World} {n : Int} {e : Ending} {w' : World} (hb : Below w.heap.size w w1) (h : Raised w1 n e w') : Raised w n e w' :=
  ⟨h.1, hb.trans (h.2.mono hb.size)⟩
end Go.Proofs.YtomgihlkbmaleaaDoor
namespace Go.Proofs.YtomgihlkbmaleaaDoor
open Go.RowKit M
/-- addTimes after k rounds: the row L0 with k limbs replaced from d on. -/
def AtRel (L0 : List Int) (d : Nat) (A : List Int) (x : Int) (k : Nat) (cy : Int) (L : List Int) : Prop :=
  0 ≤ cy ∧ cy < 4294967296 ∧ ∃ C : List Int, C.length = k ∧ L = L0.take d ++ C ++ L0.drop (d + k) ∧ val C + pw k * cy = val ((L0.drop d).take k) + x * val (A.take k)
theorem mul_small (a b : Int) (ha : 0 ≤ a) (hb : 0 ≤ b) (ha1 : a < 4294967296) (hb1 : b < 4294967296) : 0 ≤ a * b ∧ a * b ≤ 18446744065119617025 := by
  constructor
  · exact Int.mul_nonneg ha hb
  · have h1 : a * b ≤ 4294967295 * b := Int.mul_le_mul_of_nonneg_right (by omega) hb
    have h2 : 4294967295 * b ≤ 18446744065119617025 := by omega
    omega
theorem getD_app3 (X C Y : List Int) (d k : Nat) (hX : X.length = d) (hC : C.length = k) : (X ++ C ++ Y).getD (d + k) 0 = Y.getD 0 0 := by
  subst hX hC
  rw [List.getD_eq_getElem?_getD, List.getD_eq_getElem?_getD, List.getElem?_append_right (by simp)]; simp
theorem set_app3 (X C Y : List Int) (y : Int) (d k : Nat) (v : Int) (hX : X.length = d) (hC : C.length = k) : (X ++ C ++ y :: Y).set (d + k) v = X ++ (C ++ [v]) ++ Y := by
  subst hX hC
  rw [List.set_append_right _ _ (by simp)]
  simp
theorem add_step (P l x a c s t : Int) (h : s + P * c = t) : s + P * ((c + (l + x * a)) % 4294967296) + 4294967296 * P * ((c + (l + x * a)) / 4294967296) = t + P * l + x * (P * a) := by
  have e : (c + (l + x * a)) % 4294967296 + 4294967296 * ((c + (l + x * a)) / 4294967296) = c + (l + x * a) := Int.emod_add_mul_ediv _ _
  have e2 : P * ((c + (l + x * a)) % 4294967296) + 4294967296 * P * ((c + (l + x * a)) / 4294967296) = P * (c + (l + x * a)) := by
    rw [← e, Int.mul_add, e, Int.mul_comm 4294967296 P, Int.mul_assoc]
  have e3 : P * (c + (l + x * a)) = P * c + P * l + x * (P * a) := by
    rw [Int.mul_add, Int.mul_add, Int.mul_left_comm P x a, Int.add_assoc]
  omega
theorem atRel_step {L0 : List Int} {d : Nat} {A : List Int} {x : Int} {k : Nat} {cy : Int} {L : List Int} (h0L : Ok L0) (hA : Ok A) (hx0 : 0 ≤ x) (hx1 : x < 4294967296) (h : AtRel L0 d A x k cy L) (hk : k < A.length) (hd : d + A.length ≤ L0.length) :
    L.getD (d + k) 0 = L0.getD (d + k) 0 ∧ AtRel L0 d A x (k + 1) ((cy + (L.getD (d + k) 0 + x * A.getD k 0)) / 4294967296) (L.set (d + k) ((cy + (L.getD (d + k) 0 + x * A.getD k 0)) % 4294967296)) := by
  obtain ⟨h0, h1, C, hC, rfl, hv⟩ := h
  have hX : (L0.take d).length = d := by rw [List.length_take]; omega
  have e : (L0.take d ++ C ++ L0.drop (d + k)).getD (d + k) 0 = L0.getD (d + k) 0 := by
    rw [getD_app3 _ _ _ d k hX hC, drop_step L0 (d + k) (by omega)]; rfl
  refine ⟨e, ?_⟩
  rw [e]
  have ha := hA.getD k
  have hl := h0L.getD (d + k)
  have hm := mul_small x (A.getD k 0) hx0 ha.1 hx1 ha.2
  generalize hmm : x * A.getD k 0 = q at *
  refine ⟨by omega, by omega, C ++ [(cy + (L0.getD (d + k) 0 + q)) % 4294967296], by simp [hC], ?_, ?_⟩
  · rw [drop_step L0 (d + k) (by omega), set_app3 _ _ _ _ d k _ hX hC]; rfl
  · have e2 : (L0.drop d).getD k 0 = L0.getD (d + k) 0 := by simp [List.getD, List.getElem?_drop]
    rw [val_snoc, hC, pw_succ, val_take_succ _ k (by rw [List.length_drop]; omega), val_take_succ' A k, e2, ← hmm, add_step _ _ _ _ _ _ _ hv, Int.mul_add]
    omega
/-- All blocks but one are as they were. -/
def But (g : Nat) (w w' : World) : Prop := w.heap.size ≤ w'.heap.size ∧ ∀ k, k ≠ g → w'.heap[k]? = w.heap[k]?
theorem But.refl (g : Nat) (w : World) : But g w w := ⟨Nat.le_refl _, fun _ _ => rfl⟩
theorem But.setCell {g : Nat} {w w' : World} (h : But g w w') (j : Nat) (u : Value) : But g w (w'.setCell ⟨g, j, none⟩ u) :=
  ⟨by simpa [World.setCell] using h.1, fun k hk => (Below.heap_setCell _ _ _ _ (by simpa using hk)).trans (h.2 k hk)⟩
theorem But.cells {g : Nat} {w w' : World} {ao : Option Addr} {l : List Int} {k : IntKind} (h : But g w w') (hc : CellsK k w ao l) (hs : l ≠ [] → ∀ a, ao = some a → a.block ≠ g) : CellsK k w' ao l := by
  intro hl
  obtain ⟨a, rfl, ha, hcc⟩ := hc hl
  have hblk : ∀ i, (a.add i).block = a.block := fun i => by unfold Addr.add; split <;> rfl
  exact ⟨a, rfl, Nat.lt_of_lt_of_le ha h.1, fun i hi => by rw [World.cell?_of_block (w := w) (h.2 _ (by rw [hblk]; exact hs hl a rfl))]; exact hcc i hi⟩
/-- natural.addTimes on a row of the caller's own: from the offset d on, as many limbs as a has. -/
theorem addTimes_any (ao : Option Addr) (A L0 : List Int) (w wr0 : World) (M d n ca cc : Nat) (x : Int) (hn : A.length = n) (hA : Ok A) (hca : CellsK .u32 wr0 ao A) (hx0 : 0 ≤ x) (hx1 : x < 4294967296)
    (hW : Wrote w wr0 M L0) (hdM : d + n ≤ M) (hM : M ≤ 100000) (hsep : A ≠ [] → ∀ a, ao = some a → a.block ≠ w.heap.size) :
    Calls Tryd.prog 105 #[.slice (some ⟨w.heap.size, d, none⟩) n cc, .slice ao n ca, .int .u32 x] wr0 fun e w' =>
      ∃ (cy : Int) (L : List Int), e = .returned (.int .u32 cy) ∧ AtRel L0 d A x n cy L ∧ Wrote w w' M L ∧ But w.heap.size wr0 w' := by
  have HS := Lib.hid hsep
  clear hsep
  go_enter Tryd.func105, Tryd.ntmps105
  go_wp2
  go_loopw [7, 12] (fun c i wr => ∃ (k : Nat) (cy : Int) (L : List Int), k ≤ n ∧ i = .int .i64 k ∧ c = .int .u64 cy ∧ AtRel L0 d A x k cy L ∧ Wrote w wr M L ∧ But w.heap.size wr0 wr) (fun _ i _ => n - (intOf i).toNat)
  case atStart => exact ⟨0, 0, L0, Nat.zero_le _, rfl, rfl, ⟨Int.le_refl _, by omega, [], rfl, by simp, by simp [val]⟩, hW, But.refl _ _⟩
  case round =>
    obtain ⟨k, cy, L, hk, rfl, rfl, hrel, hw, hbut⟩ := hrel
    have h0 := hrel.1
    have h1 := hrel.2.1
    by_cases hlt : k < n
    · have hne : A ≠ [] := by intro e; subst e; simp at hn; omega
      obtain ⟨a, rfl, _, hac⟩ := (hbut.cells hca HS.out) hne
      have hcA := hac k (by omega)
      have hcell := hw.cell (d + k) (by omega)
      have hfree := hw.free (d + k)
      have hL0 := hW.len
      have hst := atRel_step hW.ok hA hx0 hx1 hrel (by omega) (by omega)
      have hl := hw.ok.getD (d + k)
      have ha := hA.getD k
      have hm := mul_small x (A.getD k 0) hx0 ha.1 hx1 ha.2
      generalize A.getD k 0 = y at *
      generalize L.getD (d + k) 0 = l at *
      have hq0 : 0 ≤ cy + (l + x * y) := by omega
      have hq1 : cy + (l + x * y) ≤ 18446744073709551615 := by omega
      have hst2 := hst.2
      have hws := hw.store (d + k) (x := (cy + (l + x * y)) % 4294967296) (by omega) (by omega)
      have HST := Lib.hid hst2
      have HWS := Lib.hid hws
      have HB := Lib.hid (hbut.setCell (d + k) (.int .u32 ((cy + (l + x * y)) % 4294967296)))
      clear hst hst2 hws hrel hw hbut hac hca hL0 hW
      go_wp2
      go_roundw
      case rel => exact ⟨k + 1, _, _, by omega, by go_num, rfl, HST.out, HWS.out, HB.out⟩
      case measure => simp [intOf]; omega
    · have hkn : k = n := by omega
      subst hkn
      have HR := Lib.hid hrel
      clear hrel
      go_wp2
      go_ret
      exact ⟨cy, L, rfl, HR.out, hw, hbut⟩
/-- The product after i rounds. -/
def MulRel (w : World) (A B : List Int) (i : Nat) (wr : World) : Prop :=
  ∃ D : List Int, D.length = i + B.length ∧ val D = val (A.take i) * val B ∧ Wrote w wr (A.length + B.length) (D ++ List.replicate (A.length - i) 0)
theorem mul_lists {A B D L : List Int} {i : Nat} {cy : Int} (hi : i < A.length) (hD : D.length = i + B.length) (hv : val D = val (A.take i) * val B)
    (hrel : AtRel (D ++ List.replicate (A.length - i) 0) i B (A.getD i 0) B.length cy L) :
    ∃ D', D'.length = i + 1 + B.length ∧ val D' = val (A.take (i + 1)) * val B ∧ L.set (i + B.length) cy = D' ++ List.replicate (A.length - (i + 1)) 0 := by
  obtain ⟨_, _, C, hC, rfl, hvc⟩ := hrel
  have e1 : (D ++ List.replicate (A.length - i) 0).take i = D.take i := by rw [List.take_append_of_le_length (by omega)]
  have e2 : (D ++ List.replicate (A.length - i) 0).drop (i + B.length) = 0 :: List.replicate (A.length - (i + 1)) 0 := by
    rw [List.drop_append_of_le_length (by omega), List.drop_eq_nil_of_le (by omega), List.nil_append, show A.length - i = (A.length - (i + 1)) + 1 from by omega, List.replicate_succ]
  have e3 : ((D ++ List.replicate (A.length - i) 0).drop i).take B.length = D.drop i := by
    rw [List.drop_append_of_le_length (by omega), List.take_append_of_le_length (by rw [List.length_drop]; omega), List.take_of_length_le (by rw [List.length_drop]; omega)]
  rw [e3, List.take_of_length_le (Nat.le_refl B.length)] at hvc
  rw [e1, e2]
  refine ⟨D.take i ++ (C ++ [cy]), by simp [hC]; omega, ?_, by rw [set_app3 _ _ _ _ i B.length _ (by rw [List.length_take]; omega) hC]⟩
  rw [val_append, val_snoc, hC, hvc, List.length_take, Nat.min_eq_left (by omega), val_take_succ' A i, Int.add_mul, ← hv]
  have e4 : val D = val (D.take i) + pw i * val (D.drop i) := by
    conv => lhs; rw [← List.take_append_drop i D]
    rw [val_append, List.length_take, Nat.min_eq_left (by omega)]
  rw [e4, Int.mul_add, Int.mul_assoc, Int.add_assoc]
theorem mul_over {A B : List Int} (hA : Ok A) (hB : Ok B) (lA : A.getLast? ≠ some 0) (lB : B.getLast? ≠ some 0) (hA0 : A ≠ []) (hB0 : B ≠ []) (h : 640 < A.length + B.length - 1) : pw 640 ≤ val A * val B := by
  have h1 := val_ge hA lA hA0
  have h2 := val_ge hB lB hB0
  have h3 : pw (A.length - 1) * pw (B.length - 1) ≤ val A * val B := Int.mul_le_mul h1 h2 (by have := pw_pos (B.length - 1); omega) (val_nonneg hA)
  rw [← pw_add] at h3
  have h4 := pw_le (show 640 ≤ A.length - 1 + (B.length - 1) by have := List.length_pos_iff.2 hA0; have := List.length_pos_iff.2 hB0; omega)
  omega
set_option maxHeartbeats 1600000 in
theorem product_any (ao bo : Option Addr) (A B : List Int) (n m ca cb : Nat) (w : World) (hn : A.length = n) (hm : B.length = m) (hn6 : n ≤ 700) (hm6 : m ≤ 700)
    (hA : Ok A) (hB : Ok B) (lA : A.getLast? ≠ some 0) (lB : B.getLast? ≠ some 0) (hca : CellsK .u32 w ao A) (hcb : CellsK .u32 w bo B) (R : Ending → World → Prop)
    (hok : val A * val B < pw 640 → ∀ e w', RetNat w (val A * val B).toNat e w' → R e w') (hov : pw 640 ≤ val A * val B → ∀ e w', Raised w 2 e w' → R e w') :
    Calls Tryd.prog 98 #[.slice ao n ca, .slice bo m cb] w R := by
  have HOK := Lib.hid hok
  have HOV := Lib.hid hov
  clear hok hov
  by_cases h0 : n = 0
  · subst h0
    have e : A = [] := by simpa using hn
    have hz : val A * val B = 0 := by rw [e]; simp [val]
    have HZ := Lib.hid hz
    clear hz e
    go_enter Tryd.func98, Tryd.ntmps98
    go_wp2
    refine HOK.out (by rw [HZ.out]; exact pw_pos _) _ _ ⟨_, rfl, ?_, Below.refl _ _⟩
    rw [HZ.out, show (0 : Int).toNat = 0 from rfl, limbs_zero]; exact Rd.nil w
  have hn0 : ((n : Int) == 0) = false := beq_eq_false_iff_ne.2 (by omega)
  by_cases h1 : m = 0
  · subst h1
    have e : B = [] := by simpa using hm
    have hz : val A * val B = 0 := by rw [e]; simp [val]
    have HZ := Lib.hid hz
    clear hz e
    go_enter Tryd.func98, Tryd.ntmps98
    go_wp2
    refine HOK.out (by rw [HZ.out]; exact pw_pos _) _ _ ⟨_, rfl, ?_, Below.refl _ _⟩
    rw [HZ.out, show (0 : Int).toNat = 0 from rfl, limbs_zero]; exact Rd.nil w
  have hm0 : ((m : Int) == 0) = false := beq_eq_false_iff_ne.2 (by omega)
  have hAne : A ≠ [] := by intro e; subst e; simp at hn; omega
  have hBne : B ≠ [] := by intro e; subst e; simp at hm; omega
  by_cases h2 : 640 < n + m - 1
  · have hbig := mul_over hA hB lA lB hAne hBne (by omega)
    have HBIG := Lib.hid hbig
    have hd : decide ((640 : Int) < (n : Int) + m - 1) = true := by simp; omega
    clear hbig
    go_enter Tryd.func98, Tryd.ntmps98
    go_wp2
    exact ⟨rfl, HOV.out HBIG.out _ _ ⟨rfl, Below.refl _ _⟩⟩
  obtain ⟨i0, hi, hz0, hz1, hz2⟩ := info_parts Tryd.info96
  have h3 : n + m ≤ 641 := by omega
  have hd : decide ((640 : Int) < (n : Int) + m - 1) = false := by simp; omega
  clear lA lB h2 h0 h1
  go_enter Tryd.func98, Tryd.ntmps98
  go_wp2_with (at_make; refine wpList_make_full _ rfl _ _ 70 rfl w.heap.size 96 i0 (.int .u32 0) 1 Tryd.underlying70 hi hz0 hz1 .i64 .i64 _ _ (n + m) rfl rfl (by push_cast; rfl) (by push_cast; rfl) (by rw [hz2]; omega) (by unfold maxLen; omega) (Nat.le_refl _) ?_; intro w1 hown hgrow)
  have hW := Wrote.made hown hgrow
  clear hown hgrow hi hz0 hz1 hz2
  go_loopw [32] (fun v wr => ∃ i : Nat, i ≤ n ∧ v = .int .i64 i ∧ MulRel w A B i wr) (fun v _ => n - (intOf v).toNat)
  case atStart => exact ⟨0, Nat.zero_le _, rfl, List.replicate m 0, by simp [hm], by simp [val, val_replicate], by rw [hn, hm, Nat.sub_zero, List.replicate_append_replicate, Nat.add_comm m n]; exact hW⟩
  case round =>
    obtain ⟨i, hi, rfl, hrel⟩ := hrel
    have HR := Lib.hid hrel
    obtain ⟨D, hD, hv, hw⟩ := hrel
    rw [hm] at hD
    rw [hn, hm] at hw
    by_cases hlt : i < n
    · have hbw := hw.below
      obtain ⟨a, rfl, hab, hac⟩ := (hca.keep hbw) hAne
      have hcA := hac i (by omega)
      have hbc := hcb.keep hbw
      have hsep : B ≠ [] → ∀ b, bo = some b → b.block ≠ w.heap.size := by
        intro hB0 b hb
        obtain ⟨b', hb', hlt', _⟩ := hcb hB0
        rw [hb] at hb'; obtain rfl := Option.some.inj hb'; omega
      have hx := hA.getD i
      obtain ⟨x, hxx⟩ : ∃ x, x = A.getD i 0 := ⟨_, rfl⟩
      rw [← hxx] at hcA hx
      have hat := fun cc => addTimes_any bo B (D ++ List.replicate (n - i) 0) w wr (n + m) i m cb cc x hm hB hbc hx.1 hx.2 hw (by omega) (by omega) hsep
      have HV := Lib.hid hv
      have HX := Lib.hid hxx
      have HAT := Lib.hid hat
      have HD := Lib.hid hD
      clear hv hxx hac hbc hsep hat hw hbw hD HR
      go_wp2_with fail
      refine (HAT.out _).mono ?_
      rintro e w2 ⟨cy, L, rfl, hrel2, hw2, hbut⟩
      have hc0 := hrel2.1
      have hc1 := hrel2.2.1
      have hcell := hw2.cell (i + m) (by omega)
      have hfree := hw2.free (i + m)
      have hst := hw2.store (i + m) hc0 hc1
      have hnext : MulRel w A B (i + 1) (w2.setCell ⟨w.heap.size, i + m, none⟩ (.int .u32 cy)) := by
        have h4 : AtRel (D ++ List.replicate (A.length - i) 0) i B (A.getD i 0) B.length cy L := by rw [hn, hm, ← HX.out]; exact hrel2
        obtain ⟨D', hD', hv', hL'⟩ := mul_lists (by omega) (by rw [hm]; exact HD.out) HV.out h4
        refine ⟨D', hD', hv', ?_⟩
        rw [hm] at hL'
        rw [← hL', hn, hm]; exact hst
      have HN := Lib.hid hnext
      clear hrel2 hw2 hbut hst hnext
      go_wp2
      go_roundw
      case rel => exact ⟨i + 1, by omega, by go_num, HN.out⟩
      case measure => simp [intOf]; omega
    · have hin : i = n := by omega
      subst hin
      rw [Nat.sub_self, List.replicate_zero, List.append_nil] at hw
      rw [List.take_of_length_le (by omega)] at hv
      have HV := Lib.hid hv
      have hnn := val_nonneg hw.ok
      clear hv HR
      by_cases hlim : val A * val B < pw 640
      · have hfit := fit_ok _ D (i + m) (i + m) _ hD (Nat.le_refl _) (by unfold maxLen; omega) hw.ok hw.cells (by rw [HV.out]; exact hlim)
        have HL := Lib.hid hlim
        clear hlim
        go_wp2_with fail
        refine hfit.mono ?_
        rintro e w2 ⟨rfl, rfl⟩
        go_wp2
        refine HOK.out HL.out _ _ ⟨_, rfl, ?_, hw.below⟩
        exact Rd.trimmed hw.cells hw.ok (cap := i + m) (by omega) (by unfold maxLen; omega) (by rw [← HV.out]; omega)
      · have hfit := fit_over _ D (i + m) (i + m) _ hD (Nat.le_refl _) (by unfold maxLen; omega) hw.ok hw.cells (by rw [HV.out]; omega)
        have HL := Lib.hid (show pw 640 ≤ val A * val B by omega)
        clear hlim
        go_wp2_with fail
        refine hfit.mono ?_
        rintro e w2 ⟨rfl, rfl⟩
        exact ⟨rfl, HOV.out HL.out _ _ ⟨rfl, hw.below⟩⟩
end Go.Proofs.YtomgihlkbmaleaaDoor
namespace Go.Proofs.YtomgihlkbmaleaaDoor
open Go.RowKit M
/-- A fact kept from the walk, and from unfolding. -/
structure Bx (p : Prop) : Prop where
  out : p
theorem bitLen_bounds (n : Nat) (h : n < 2 ^ 63) : n < 2 ^ Lib.bitLen n := by
  by_cases h0 : n = 0
  · subst h0; decide
  · exact (Lib.bitLenAux_bounds 64 n (by omega) h0).2.2
theorem bitLen_le (n : Nat) (h : n < 2 ^ 63) : Lib.bitLen n ≤ 63 := Lib.bitLen_le n 63 (by omega) h
theorem i64_bit (x : Nat) (h : x < 2 ^ 63) : (bits .and .i64 (x : Int) 1 == 1) = decide (x % 2 = 1) := by
  have e : bits .and .i64 (x : Int) 1 = ((x % 2 : Nat) : Int) := by
    have h1 : (BitVec.ofInt 64 1).toNat = 2 ^ 1 - 1 := by decide
    have key : (BitVec.ofInt 64 (x : Int) &&& BitVec.ofInt 64 1).toNat = ((x : Int) % ((2 ^ 64 : Nat) : Int)).toNat % 2 ^ 1 := by
      rw [BitVec.toNat_and, BitVec.toNat_ofInt, h1, Nat.and_two_pow_sub_one_eq_mod]
    show IntKind.i64.wrap ((BitVec.ofInt 64 (x : Int) &&& BitVec.ofInt 64 1).toNat : Nat) = _
    rw [key, IntKind.wrap_i64]
    omega
  rw [e]
  by_cases q : x % 2 = 1 <;> simp [q] <;> omega
theorem limbs_one : limbs 1 = [1] := by rw [limbs_pos 1 (by decide), show 1 / 4294967296 = 0 from rfl, limbs_zero]; rfl
theorem rd_one (w : World) : Rd (w.alloc (.cells #[.int .u32 1] 96)) (.slice (some ⟨w.heap.size, 0, none⟩) 1 1) (limbs 1) := by
  rw [limbs_one]
  exact rd_of_owns (base := w.heap.size) (World.ownsRow_lit w #[.int .u32 1] 1 (Nat.le_refl _) (by unfold maxLen; omega) rfl) (Ok.cons (by omega) (by omega) Ok.nil)
theorem retNat_shape {w w' : World} {s : Nat} {e : Ending} (h : RetNat w s e w') : ∃ ao cap, e = .returned (.slice ao (limbs s).length cap) ∧ (limbs s).length ≤ cap ∧ cap ≤ maxLen ∧ CellsK .u32 w' ao (limbs s) ∧ Below w.heap.size w w' := by
  obtain ⟨v, rfl, hr, hb⟩ := h
  obtain ⟨ao, cap, rfl, h1, h2, h3⟩ := hr.shape
  exact ⟨ao, cap, rfl, h1, h2, h3, hb⟩
theorem product_ok (ao bo : Option Addr) (a b : Nat) (n m ca cb : Nat) (w : World) (hn : (limbs a).length = n) (hm : (limbs b).length = m) (ha : (a : Int) < pw 640) (hb : (b : Int) < pw 640)
    (hca : CellsK .u32 w ao (limbs a)) (hcb : CellsK .u32 w bo (limbs b)) (h : ((a * b : Nat) : Int) < pw 640) : Calls Tryd.prog 98 #[.slice ao n ca, .slice bo m cb] w (RetNat w (a * b)) := by
  have la := limbs_length_le.2 ha
  have lb := limbs_length_le.2 hb
  have e : val (limbs a) * val (limbs b) = ((a * b : Nat) : Int) := by rw [val_limbs, val_limbs]; push_cast; rfl
  refine product_any ao bo _ _ n m ca cb w hn hm (by omega) (by omega) (ok_limbs a) (ok_limbs b) (limbs_last a) (limbs_last b) hca hcb _ (fun _ q w' h' => ?_) (fun h' => ?_)
  · rw [e] at h'; exact h'
  · rw [e] at h'; omega
theorem product_over (ao bo : Option Addr) (a b : Nat) (n m ca cb : Nat) (w : World) (hn : (limbs a).length = n) (hm : (limbs b).length = m) (ha : (a : Int) < pw 640) (hb : (b : Int) < pw 640)
    (hca : CellsK .u32 w ao (limbs a)) (hcb : CellsK .u32 w bo (limbs b)) (h : pw 640 ≤ ((a * b : Nat) : Int)) : Calls Tryd.prog 98 #[.slice ao n ca, .slice bo m cb] w (Raised w 2) := by
  have la := limbs_length_le.2 ha
  have lb := limbs_length_le.2 hb
  have e : val (limbs a) * val (limbs b) = ((a * b : Nat) : Int) := by rw [val_limbs, val_limbs]; push_cast; rfl
  refine product_any ao bo _ _ n m ca cb w hn hm (by omega) (by omega) (ok_limbs a) (ok_limbs b) (limbs_last a) (limbs_last b) hca hcb _ (fun h' => ?_) (fun _ e w' h' => h')
  rw [e] at h'; omega
theorem pow_half (a n k : Nat) (hk : k ≠ 0) : a ^ (n / 2 ^ (k - 1)) = if n / 2 ^ (k - 1) % 2 = 1 then a ^ (n / 2 ^ k) * a ^ (n / 2 ^ k) * a else a ^ (n / 2 ^ k) * a ^ (n / 2 ^ k) := by
  have e : n / 2 ^ k = n / 2 ^ (k - 1) / 2 := by rw [Nat.div_div_eq_div_mul, ← Nat.pow_succ]; congr 2; omega
  rw [e]
  generalize n / 2 ^ (k - 1) = q
  split
  · rw [← Nat.pow_add, ← Nat.pow_succ]; congr 1; omega
  · rw [← Nat.pow_add]; congr 1; omega
/-- A power with a part of the exponent is not greater, unless the base is 0. -/
theorem pow_part (a n k : Nat) (hk : k ≠ 0) (B : Int) (hB : 1 < B) (h : B ≤ ((a ^ (n / 2 ^ k) * a ^ (n / 2 ^ k) : Nat) : Int)) : B ≤ ((a ^ n : Nat) : Int) := by
  by_cases ha : a = 0
  · subst ha
    generalize n / 2 ^ k = q at h
    cases q with
    | zero => simp at h; omega
    | succ q => simp at h; omega
  · rw [← Nat.pow_add] at h
    have e : n / 2 ^ k * 2 ^ 1 ≤ n := by
      have h1 : n / 2 ^ k * 2 ^ k ≤ n := Nat.div_mul_le_self n _
      have h2 : 2 ^ 1 ≤ 2 ^ k := Nat.pow_le_pow_right (by omega) (by omega)
      exact Nat.le_trans (Nat.mul_le_mul_left _ h2) h1
    have := Nat.pow_le_pow_right (n := a) (by omega) (show n / 2 ^ k + n / 2 ^ k ≤ n by omega)
    omega
theorem pow_part' (a n k : Nat) (hk : k ≠ 0) (B : Int) (hB : 1 < B) (hb : n / 2 ^ (k - 1) % 2 = 1) (h : B ≤ ((a ^ (n / 2 ^ k) * a ^ (n / 2 ^ k) * a : Nat) : Int)) : B ≤ ((a ^ n : Nat) : Int) := by
  have e := pow_half a n k hk
  rw [if_pos hb] at e
  rw [← e] at h
  by_cases ha : a = 0
  · subst ha
    generalize n / 2 ^ (k - 1) = q at h
    cases q with
    | zero => simp at h; omega
    | succ q => simp at h; omega
  · have := Nat.pow_le_pow_right (n := a) (by omega) (Nat.div_le_self n (2 ^ (k - 1)))
    omega
theorem power_any (ao : Option Addr) (a n : Nat) (na ca : Nat) (w : World) (ha : (a : Int) < pw 640) (hna : (limbs a).length = na) (hn : n < 2 ^ 63) (hca : CellsK .u32 w ao (limbs a)) (R : Ending → World → Prop)
    (hok : ((a ^ n : Nat) : Int) < pw 640 → ∀ e w', RetNat w (a ^ n) e w' → R e w') (hov : pw 640 ≤ ((a ^ n : Nat) : Int) → ∀ e w', Raised w 2 e w' → R e w') :
    Calls Tryd.prog 96 #[.slice ao na ca, .int .i64 n] w R := by
  have HOK := Lib.hid hok
  have HOV := Lib.hid hov
  have hlen := fun w => Tryd.bits_Len (n : Int) w (by omega) (by omega)
  have hbb := bitLen_bounds n hn
  have hbl := bitLen_le n hn
  rw [Int.toNat_natCast] at hlen
  generalize Lib.bitLen n = l at *
  have HBB := Lib.hid hbb
  have HLEN := Lib.hid hlen
  have hn' : (n : Int) ≤ 9223372036854775807 := by omega
  have HA := Bx.mk ha
  clear hok hov hbb hlen hn ha
  go_enter Tryd.func96, Tryd.ntmps96
  go_wp2_with (go_at_call 51; refine (HLEN.out _).mono ?_; rintro e w2 ⟨rfl, rfl⟩)
  go_loopw [5, 6] (fun v i wr => ∃ (k P : Nat), k ≤ 63 ∧ i = .int .i64 ((k : Int) - 1) ∧ Hid (P = a ^ (n / 2 ^ k)) ∧ Bx ((P : Int) < pw 640) ∧ Rd wr v (limbs P) ∧ Below w.heap.size w wr) (fun _ i _ => (intOf i + 1).toNat)
  case atStart => exact ⟨l, 1, hbl, by go_num, by show _ = _; rw [Nat.div_eq_of_lt HBB.out, Nat.pow_zero], ⟨by decide +kernel⟩, rd_one w, (Below.refl _ _).alloc (Nat.le_refl _) _⟩
  case round =>
    obtain ⟨k, P, hk, rfl, HP, HPL, hr, hb⟩ := hrel
    obtain ⟨po, cp, rfl, hpc, hpm, hpo⟩ := hr.shape
    by_cases h0 : k = 0
    · subst h0
      have hPn : P = a ^ n := by have := HP.out; simpa using this
      have HPN := Bx.mk hPn
      clear hPn
      go_wp2
      refine HOK.out (by rw [← HPN.out]; exact HPL.out) _ _ ⟨_, rfl, ?_, hb⟩
      rw [← HPN.out]; exact hr
    · have hb1 : (0 : Int) ≤ (k : Int) - 1 := by omega
      have hb2 : (k : Int) - 1 < 64 := by omega
      by_cases hsq : ((P * P : Nat) : Int) < pw 640
      · have hp := product_ok po po P P _ _ cp cp wr rfl rfl HPL.out HPL.out hpo hpo hsq
        have HSQ := Bx.mk hsq
        clear hsq
        go_wp2_with fail
        refine hp.mono ?_
        rintro e w2 hret
        obtain ⟨qo, cq, rfl, hqc, hqm, hqo, hqb⟩ := retNat_shape hret
        clear hret hp
        have hP2 : ((P * P : Nat) : Int) = ((a ^ (n / 2 ^ k) * a ^ (n / 2 ^ k) : Nat) : Int) := by rw [HP.out]
        have hbelow := hb.trans (hqb.mono hb.size)
        have hbitn := i64_bit (n / 2 ^ (k - 1)) (Nat.lt_of_le_of_lt (Nat.div_le_self _ _) (by omega))
        have hcast : ((n / 2 ^ (k - 1) : Nat) : Int) = (n : Int) / 2 ^ (k - 1) := by push_cast; rfl
        rw [hcast] at hbitn
        have hk1 := pow_half a n k h0
        by_cases hbit : n / 2 ^ (k - 1) % 2 = 1
        · rw [decide_eq_true hbit] at hbitn
          rw [if_pos hbit] at hk1
          have hca2 := (hca.keep hb).keep hqb
          by_cases hov2 : ((P * P * a : Nat) : Int) < pw 640
          · have hp := product_ok qo ao (P * P) a _ _ cq ca w2 rfl hna HSQ.out HA.out hqo hca2 hov2
            have HB2 := Bx.mk hbelow
            have HN : Bx (P * P * a = a ^ (n / 2 ^ (k - 1))) := ⟨by rw [HP.out, hk1]⟩
            have HO2 := Bx.mk hov2
            clear hov2 hP2 hbelow hcast hk1 hbit hqb hb hca2
            go_wp2_with fail
            refine hp.mono ?_
            rintro e w3 hret
            have hret2 := RetNat.after HB2.out hret
            obtain ⟨v, he, hr3, hb3⟩ := hret2
            subst he
            clear hret hp
            go_wp2
            go_roundw
            case rel => exact ⟨k - 1, P * P * a, by omega, by go_num, HN.out, HO2, hr3, hb3⟩
            case measure => simp [intOf]; omega
          · have hbig : pw 640 ≤ ((a ^ n : Nat) : Int) := pow_part' a n k h0 _ (by decide +kernel) hbit (by rw [← HP.out]; omega)
            have hp := product_over qo ao (P * P) a _ _ cq ca w2 rfl hna HSQ.out HA.out hqo hca2 (by omega)
            have HB2 := Bx.mk hbelow
            have HBIG := Bx.mk hbig
            clear hov2 hP2 hbelow hcast hk1 hbit hqb hb hca2 hbig
            go_wp2_with fail
            refine hp.mono ?_
            rintro e w3 ⟨rfl, hb3⟩
            exact ⟨rfl, HOV.out HBIG.out _ _ ⟨rfl, HB2.out.trans (hb3.mono HB2.out.size)⟩⟩
        · rw [decide_eq_false hbit] at hbitn
          rw [if_neg hbit] at hk1
          have HN : Bx (P * P = a ^ (n / 2 ^ (k - 1))) := ⟨by rw [HP.out, hk1]⟩
          have HB2 := Bx.mk hbelow
          have HRD : Bx (Rd w2 (.slice qo (limbs (P * P)).length cq) (limbs (P * P))) := ⟨ok_limbs _, qo, cq, rfl, hqc, hqm, hqo⟩
          clear hP2 hbelow hcast hk1 hbit hqb hb
          go_wp2
          go_roundw
          case rel => exact ⟨k - 1, P * P, by omega, by go_num, HN.out, HSQ, HRD.out, HB2.out⟩
          case measure => simp [intOf]; omega
      · have hbig : pw 640 ≤ ((a ^ n : Nat) : Int) := pow_part a n k h0 _ (by decide +kernel) (by rw [← HP.out]; omega)
        have hp := product_over po po P P _ _ cp cp wr rfl rfl HPL.out HPL.out hpo hpo (by omega)
        have HBIG := Bx.mk hbig
        clear hsq hbig
        go_wp2_with fail
        refine hp.mono ?_
        rintro e w3 ⟨rfl, hb3⟩
        exact ⟨rfl, HOV.out HBIG.out _ _ ⟨rfl, hb.trans (hb3.mono hb.size)⟩⟩
end Go.Proofs.YtomgihlkbmaleaaDoor

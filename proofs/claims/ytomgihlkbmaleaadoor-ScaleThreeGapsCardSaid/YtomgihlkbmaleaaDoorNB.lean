/- natural: quotients, deferred calls. -/
import Derived.Test.YtomgihlkbmaleaaDoorNA
import Derived.Test.YtomgihlkbmaleaaDoorMath
namespace Go.Proofs.YtomgihlkbmaleaaDoor
open Go.RowKit M
/-- A row of the call's own, of which the first limbs are known. -/
structure OwnB (base : Nat) (w0 wr : World) (g : Nat) (L : List Int) : Prop where
  ok : Ok L
  ge : base ≤ g
  blk : ∃ cur : Array Value, wr.heap[g]? = some (.cells cur 96 (0, 0)) ∧ L.length ≤ cur.size ∧ ∀ i, i < L.length → cur[i]? = some (.int .u32 (L.getD i 0))
  below : Below base w0 wr
theorem OwnB.lt {base : Nat} {w0 wr : World} {g : Nat} {L : List Int} (h : OwnB base w0 wr g L) : g < wr.heap.size := by
  obtain ⟨cur, hg, _⟩ := h.blk; exact (Array.getElem?_eq_some_iff.1 hg).1
theorem OwnB.cell {base : Nat} {w0 wr : World} {g : Nat} {L : List Int} (h : OwnB base w0 wr g L) (i : Nat) (hi : i < L.length) : wr.cell? ⟨g, i, none⟩ = some (.int .u32 (L.getD i 0)) := by
  obtain ⟨cur, hg, _, hc⟩ := h.blk
  rw [cell_of_row wr g i cur 96 (0, 0) hg]; exact hc i hi
theorem OwnB.free {base : Nat} {w0 wr : World} {g : Nat} {L : List Int} (h : OwnB base w0 wr g L) (i : Nat) : wr.frozen? ⟨g, i, none⟩ = false := by
  obtain ⟨cur, hg, _⟩ := h.blk; exact frozen_of_row wr g i cur 96 hg
theorem OwnB.store {base : Nat} {w0 wr : World} {g : Nat} {L : List Int} (h : OwnB base w0 wr g L) (j : Nat) {x : Int} (h0 : 0 ≤ x) (h1 : x < 4294967296) : OwnB base w0 (wr.setCell ⟨g, j, none⟩ (.int .u32 x)) g (L.set j x) := by
  obtain ⟨cur, hg, hs, hc⟩ := h.blk
  refine ⟨h.ok.set j h0 h1, h.ge, ⟨cur.setIfInBounds j (.int .u32 x), heap_setCell_same wr g j cur 96 _ hg, by simpa using hs, fun i hi => ?_⟩, h.below.setCell h.ge _⟩
  simp only [List.length_set] at hi
  have hci := hc i hi
  by_cases e : i = j
  · subst e
    rw [Array.getElem?_setIfInBounds_self_of_lt (by omega)]
    simp [List.getD, List.getElem?_set, hi]
  · rw [Array.getElem?_setIfInBounds_ne (by omega), hci]
    simp [List.getD, List.getElem?_set, show ¬ j = i from by omega]
theorem OwnB.drew {base : Nat} {w0 wr : World} {g : Nat} {L : List Int} (h : OwnB base w0 wr g L) (n : Nat) : OwnB base w0 (wr.drewN n) g L := ⟨h.ok, h.ge, h.blk, below_drewN h.below n⟩
theorem OwnB.cells {base : Nat} {w0 wr : World} {g : Nat} {L : List Int} (h : OwnB base w0 wr g L) : CellsK .u32 wr (some ⟨g, 0, none⟩) L := by
  intro _
  refine ⟨_, rfl, h.lt, fun i hi => ?_⟩
  have e : (⟨g, 0, none⟩ : Addr).add i = ⟨g, i, none⟩ := by unfold Addr.add; split <;> simp_all
  rw [e]; exact h.cell i hi
theorem OwnB.take {base : Nat} {w0 wr : World} {g : Nat} {L : List Int} (h : OwnB base w0 wr g L) (k : Nat) : OwnB base w0 wr g (L.take k) := by
  obtain ⟨cur, hg, hs, hc⟩ := h.blk
  refine ⟨h.ok.take k, h.ge, ⟨cur, hg, by rw [List.length_take]; omega, fun i hi => ?_⟩, h.below⟩
  rw [List.length_take] at hi
  rw [hc i (by omega)]; simp [List.getD, List.getElem?_take, show i < k from by omega]
end Go.Proofs.YtomgihlkbmaleaaDoor
namespace Go.Proofs.YtomgihlkbmaleaaDoor.M
/-- The list R with k limbs from d on replaced by C. -/
def Win (R : List Int) (d k : Nat) (C R' : List Int) : Prop := C.length = k ∧ R' = R.take d ++ C ++ R.drop (d + k)
theorem Win.nil (R : List Int) (d : Nat) : Win R d 0 [] R := ⟨rfl, by simp⟩
theorem Win.len {R : List Int} {d k : Nat} {C R' : List Int} (h : Win R d k C R') (hd : d + k ≤ R.length) : R'.length = R.length := by
  obtain ⟨hC, rfl⟩ := h; simp [hC]; omega
theorem Win.set {R : List Int} {d k : Nat} {C R' : List Int} (h : Win R d k C R') (hd : d + k < R.length) (x : Int) : Win R d (k + 1) (C ++ [x]) (R'.set (d + k) x) := by
  obtain ⟨hC, rfl⟩ := h
  have hX : (R.take d).length = d := by rw [List.length_take]; omega
  refine ⟨by simp [hC], ?_⟩
  rw [drop_step R (d + k) (by omega), List.set_append_right _ _ (by simp [hC]; omega)]
  have e : d + k - (R.take d ++ C).length = 0 := by simp [hC, hX]
  rw [e, List.set_cons_zero, Nat.add_assoc]; simp
end Go.Proofs.YtomgihlkbmaleaaDoor.M
namespace Go.Proofs.YtomgihlkbmaleaaDoor
open Go.RowKit M
theorem make_any (x : Nat) (w : World) (hx : x < 18446744073709551616) : Calls Tryd.prog 79 #[.int .u64 x] w (RetNat w x) := by
  have hb0 : (0 : Int) ≤ (x : Int) % 4294967296 ∧ (x : Int) % 4294967296 < 4294967296 := by omega
  have hb1 : (0 : Int) ≤ (x : Int) / 4294967296 ∧ (x : Int) / 4294967296 < 4294967296 := by omega
  have hv : val [(x : Int) % 4294967296, (x : Int) / 4294967296] = x := by simp only [val]; omega
  have hok : Ok [(x : Int) % 4294967296, (x : Int) / 4294967296] := Ok.cons hb0.1 hb0.2 (Ok.cons hb1.1 hb1.2 Ok.nil)
  have hown := World.ownsRow_lit (e := 96) (size := 1) (base := w.heap.size) w #[.int .u32 ((x : Int) % 4294967296), .int .u32 ((x : Int) / 4294967296)] 2 (Nat.le_refl _) (by unfold maxLen; omega) rfl
  have hcells : CellsK .u32 (w.alloc (.cells #[.int .u32 ((x : Int) % 4294967296), .int .u32 ((x : Int) / 4294967296)] 96)) (some ⟨w.heap.size, 0, none⟩) [(x : Int) % 4294967296, (x : Int) / 4294967296] := cells_of_owns hown
  have htrim := trim_any _ _ 2 2 _ rfl (Nat.le_refl _) (by unfold maxLen; omega) hok hcells
  have hrd := Rd.trimmed (s := x) hcells hok (cap := 2) (by simp) (by unfold maxLen; omega) hv
  have hbel : Below w.heap.size w (w.alloc (.cells #[.int .u32 ((x : Int) % 4294967296), .int .u32 ((x : Int) / 4294967296)] 96)) := (Below.refl _ _).alloc (Nat.le_refl _) _
  have HT := Bx.mk htrim
  have HR := Bx.mk hrd
  have hx' : (x : Int) < 18446744073709551616 := by omega
  clear htrim hrd hown hcells hok hv hx
  go_enter Tryd.func79, Tryd.ntmps79
  go_wp2_with fail
  refine HT.out.mono ?_
  rintro e w2 ⟨rfl, rfl⟩
  go_wp2
  go_ret
  exact ⟨_, rfl, HR.out, hbel⟩
end Go.Proofs.YtomgihlkbmaleaaDoor
namespace Go.Proofs.YtomgihlkbmaleaaDoor
open Go.RowKit M
theorem But.trans {g : Nat} {w w1 w2 : World} (h : But g w w1) (k : But g w1 w2) : But g w w2 := ⟨Nat.le_trans h.1 k.1, fun i hi => (k.2 i hi).trans (h.2 i hi)⟩
end Go.Proofs.YtomgihlkbmaleaaDoor
namespace Go.Proofs.YtomgihlkbmaleaaDoor
open Go.RowKit M
end Go.Proofs.YtomgihlkbmaleaaDoor
namespace Go.Proofs.YtomgihlkbmaleaaDoor.M
end Go.Proofs.YtomgihlkbmaleaaDoor.M
namespace Go.Proofs.YtomgihlkbmaleaaDoor
open Go.RowKit M
/-- A quotient and a remainder come back. -/
def RetPair (w : World) (q r : Nat) (e : Ending) (w' : World) : Prop := ∃ v1 v2, e = .returned (.tuple #[v1, v2]) ∧ Rd w' v1 (limbs q) ∧ Rd w' v2 (limbs r) ∧ Below w.heap.size w w'
end Go.Proofs.YtomgihlkbmaleaaDoor
namespace Go.Proofs.YtomgihlkbmaleaaDoor
open Go.RowKit M
theorem RetPair.after {w w1 : World} {q r : Nat} {e : Ending} {w' : World} (hb : Below w.heap.size w w1) (h : RetPair w1 q r e w') : RetPair w q r e w' :=
  let ⟨v1, v2, he, h1, h2, hb'⟩ := h; ⟨v1, v2, he, h1, h2, hb.trans (hb'.mono hb.size)⟩
end Go.Proofs.YtomgihlkbmaleaaDoor
namespace Go.Proofs.YtomgihlkbmaleaaDoor.M
end Go.Proofs.YtomgihlkbmaleaaDoor.M
namespace Go.Proofs.YtomgihlkbmaleaaDoor
open Go.RowKit M
/-- A row of bytes of the call's own, of which the first ones are known. -/
structure OwnY (base : Nat) (w0 wr : World) (g : Nat) (T : List Int) : Prop where
  ge : base ≤ g
  blk : ∃ cur : Array Value, wr.heap[g]? = some (.cells cur 5 (0, 0)) ∧ T.length ≤ cur.size ∧ ∀ i, i < T.length → cur[i]? = some (.int .u8 (T.getD i 0))
  below : Below base w0 wr
theorem OwnY.lt {base : Nat} {w0 wr : World} {g : Nat} {T : List Int} (h : OwnY base w0 wr g T) : g < wr.heap.size := by
  obtain ⟨cur, hg, _⟩ := h.blk; exact (Array.getElem?_eq_some_iff.1 hg).1
theorem OwnY.cell {base : Nat} {w0 wr : World} {g : Nat} {T : List Int} (h : OwnY base w0 wr g T) (i : Nat) (hi : i < T.length) : wr.cell? ⟨g, i, none⟩ = some (.int .u8 (T.getD i 0)) := by
  obtain ⟨cur, hg, _, hc⟩ := h.blk
  rw [cell_of_row wr g i cur 5 (0, 0) hg]; exact hc i hi
theorem OwnY.free {base : Nat} {w0 wr : World} {g : Nat} {T : List Int} (h : OwnY base w0 wr g T) (i : Nat) : wr.frozen? ⟨g, i, none⟩ = false := by
  obtain ⟨cur, hg, _⟩ := h.blk; exact frozen_of_row wr g i cur 5 hg
theorem OwnY.store {base : Nat} {w0 wr : World} {g : Nat} {T : List Int} (h : OwnY base w0 wr g T) (j : Nat) (x : Int) : OwnY base w0 (wr.setCell ⟨g, j, none⟩ (.int .u8 x)) g (T.set j x) := by
  obtain ⟨cur, hg, hs, hc⟩ := h.blk
  refine ⟨h.ge, ⟨cur.setIfInBounds j (.int .u8 x), heap_setCell_same wr g j cur 5 _ hg, by simpa using hs, fun i hi => ?_⟩, h.below.setCell h.ge _⟩
  simp only [List.length_set] at hi
  have hci := hc i hi
  by_cases e : i = j
  · subst e
    rw [Array.getElem?_setIfInBounds_self_of_lt (by omega)]
    simp [List.getD, List.getElem?_set, hi]
  · rw [Array.getElem?_setIfInBounds_ne (by omega), hci]
    simp [List.getD, List.getElem?_set, show ¬ j = i from by omega]
theorem OwnY.drew {base : Nat} {w0 wr : World} {g : Nat} {T : List Int} (h : OwnY base w0 wr g T) : OwnY base w0 wr.drew g T := ⟨h.ge, h.blk, h.below.drew⟩
theorem OwnY.take {base : Nat} {w0 wr : World} {g : Nat} {T : List Int} (h : OwnY base w0 wr g T) (k : Nat) : OwnY base w0 wr g (T.take k) := by
  obtain ⟨cur, hg, hs, hc⟩ := h.blk
  refine ⟨h.ge, ⟨cur, hg, by rw [List.length_take]; omega, fun i hi => ?_⟩, h.below⟩
  rw [List.length_take] at hi
  rw [hc i (by omega)]; simp [List.getD, List.getElem?_take, show i < k from by omega]
end Go.Proofs.YtomgihlkbmaleaaDoor
namespace Go.Proofs.YtomgihlkbmaleaaDoor
open Go.RowKit M
theorem OwnB.grown {b : Nat} {w0 w w1 : World} {g : Nat} {L : List Int} {o : Obj} {row : Option Nat} (hO : OwnB b w0 w g L) (hg : (w.alloc o).grownBy w1 row) (hne : row ≠ some g) (hb : b ≤ w.heap.size) (hrow : ∀ k, row = some k → b ≤ k) : OwnB b w0 w1 g L := by
  obtain ⟨cur, hh, hs, hc⟩ := hO.blk
  have hlt := hO.lt
  refine ⟨hO.ok, hO.ge, ⟨cur, ?_, hs, hc⟩, (hO.below.alloc hb o).grown hg (by simp; omega) hrow⟩
  rw [hg.block g (by simp; omega) (by intro e; exact hne e.symm), Below.heap_alloc w o g hlt]; exact hh
theorem OwnB.trimmed {base : Nat} {w0 wr : World} {g : Nat} {L : List Int} {s : Nat} (h : OwnB base w0 wr g L) (hv : val L = s) : OwnB base w0 wr g (limbs s) ∧ (limbs s).length ≤ L.length ∧ (trimL L).length = (limbs s).length := by
  obtain ⟨k, hk, e⟩ := trimL_prefix h.ok _ rfl
  rw [trimL_eq hv] at e
  exact ⟨by rw [e]; exact h.take k, by rw [e, List.length_take]; omega, by rw [trimL_eq hv]⟩
end Go.Proofs.YtomgihlkbmaleaaDoor
namespace Go.Proofs.YtomgihlkbmaleaaDoor
open Go.RowKit M
theorem require2_ok (b : Nat) (ao bo : Option Addr) (A B : List Int) (n m ca cb : Nat) (w : World) (hn : A.length = n) (hm : B.length = m) (hca : CellsK .u32 w ao A) (hcb : CellsK .u32 w bo B) (hA : isNat A = true) (hB : isNat B = true)
    (c0 : w.cell? ⟨b, 0, none⟩ = some (.slice ao n ca)) (c1 : w.cell? ⟨b, 1, none⟩ = some (.slice bo m cb)) :
    Calls Tryd.prog 60 #[.slice (some ⟨b, 0, none⟩) 2 2] w fun e w' => e = .returned (.tuple #[]) ∧ w = w' := by
  have hvA := valid_any ao A n ca w hn hca
  have hvB := valid_any bo B m cb w hm hcb
  rw [hA] at hvA
  rw [hB] at hvB
  have HA := Bx.mk hvA
  have HB := Bx.mk hvB
  clear hvA hvB hA hB hn hm hca hcb
  go_enter Tryd.func60, Tryd.ntmps60
  go_wp2
  refine wp_loop_rounds 3 ?_
  rw [rounds_succ]
  go_wp2_with fail
  refine HA.out.mono ?_
  rintro e w' ⟨rfl, rfl⟩
  go_wp2
  rw [rounds_succ]
  go_wp2_with fail
  refine HB.out.mono ?_
  rintro e w' ⟨rfl, rfl⟩
  go_wp2
  rw [rounds_succ]
  go_wp2
  go_end0
  exact ⟨rfl, rfl⟩
theorem require1_ok (b : Nat) (ao : Option Addr) (A : List Int) (n ca : Nat) (w : World) (hn : A.length = n) (hca : CellsK .u32 w ao A) (hA : isNat A = true)
    (c0 : w.cell? ⟨b, 0, none⟩ = some (.slice ao n ca)) :
    Calls Tryd.prog 60 #[.slice (some ⟨b, 0, none⟩) 1 1] w fun e w' => e = .returned (.tuple #[]) ∧ w = w' := by
  have hvA := valid_any ao A n ca w hn hca
  rw [hA] at hvA
  have HA := Bx.mk hvA
  clear hvA hA hn hca
  go_enter Tryd.func60, Tryd.ntmps60
  go_wp2
  refine wp_loop_rounds 2 ?_
  rw [rounds_succ]
  go_wp2_with fail
  refine HA.out.mono ?_
  rintro e w' ⟨rfl, rfl⟩
  go_wp2
  rw [rounds_succ]
  go_wp2
  go_end0
  exact ⟨rfl, rfl⟩
/-- The deferred call where nothing was raised. -/
theorem catch_idle65 (p : Addr) (w : World) :
    CallsD Tryd.prog 104 #[.pointer (some p)] .returning w fun e u' w' => e = .returned (.tuple #[]) ∧ u' = .returning ∧ w' = w := by
  refine callsD_of_wpS Tryd.func104 rfl fun c₀ cs hu => ?_
  simp only [Tryd.ntmps104, List.size_toArray, List.length_cons, List.length_nil, Nat.reduceAdd, Nat.reduceSub, Array.replicate_succ, Array.replicate_zero, List.push_toArray, List.append_toArray, List.nil_append, List.cons_append]
  apply wpS_seq
  apply wpS_region
  simp [wpOpsS, go_sem, recoverD, hu, Exit.thenS]
  refine wpS_of_wp ?_
  go_wp2
  simp [bodyPostS, results, Tryd.results104]
  cases c₀; simp_all
/-- The deferred call where nothing was raised. -/
theorem catch_idle77 (p : Addr) (w : World) :
    CallsD Tryd.prog 76 #[.pointer (some p)] .returning w fun e u' w' => e = .returned (.tuple #[]) ∧ u' = .returning ∧ w' = w := by
  refine callsD_of_wpS Tryd.func76 rfl fun c₀ cs hu => ?_
  simp only [Tryd.ntmps76, List.size_toArray, List.length_cons, List.length_nil, Nat.reduceAdd, Nat.reduceSub, Array.replicate_succ, Array.replicate_zero, List.push_toArray, List.append_toArray, List.nil_append, List.cons_append]
  apply wpS_seq
  apply wpS_region
  simp [wpOpsS, go_sem, recoverD, hu, Exit.thenS]
  refine wpS_of_wp ?_
  go_wp2
  simp [bodyPostS, results, Tryd.results76]
  cases c₀; simp_all
end Go.Proofs.YtomgihlkbmaleaaDoor
namespace Go.Proofs.YtomgihlkbmaleaaDoor
open Go.RowKit M
theorem setCell_self (w : World) (b : Nat) (v : Value) (h : w.cell? ⟨b, 0, none⟩ = some v) : w.setCell ⟨b, 0, none⟩ v = w := by
  have e : w.heap.modify b (fun o => match o with
      | .cells c elem frozen => .cells (if (none : Option Nat).isSome then c else c.setIfInBounds 0 v) elem frozen
      | o => o) = w.heap := by
    apply Array.ext_getElem?
    intro i
    rw [Array.getElem?_modify]
    split
    · rename_i hib
      subst hib
      simp only [World.cell?] at h
      cases hh : w.heap[b]? with
      | none => rfl
      | some o =>
        cases o with
        | cells c elem fr =>
          rw [hh] at h
          simp at h
          have hc : c.setIfInBounds 0 v = c := by
            apply Array.ext_getElem?
            intro j
            rw [Array.getElem?_setIfInBounds]
            split
            · rename_i hj; subst hj; split
              · exact h.symm
              · rename_i hns; rw [Array.getElem?_eq_none (by omega)]
            · rfl
          simp [hc]
        | _ => rfl
    · rfl
  exact congrArg (fun h => ({ w with heap := h } : World)) e
/-- natural.attempt over this closure: its result. -/
theorem attemptMul_ok (a1 a2 : Addr) (s : Nat) (w : World) (h : Calls Tryd.prog 97 #[.pointer (some a1), .pointer (some a2)] (w.alloc (.cells #[.int .i64 0] 25)) (RetNat (w.alloc (.cells #[.int .i64 0] 25)) s)) :
    Calls Tryd.prog 94 #[.func (Fn.func 97) #[] #[.pointer (some a1), .pointer (some a2)]] w fun e w' => ∃ v, e = .returned (.tuple #[v, .int .i64 0]) ∧ Rd w' v (limbs s) ∧ Below w.heap.size w w' := by
  have hmf : ∀ (fn : Fn) (first cap : Array Value) (w : World), (Instr.makeFunc fn first cap).run Tryd.prog w = .ok (.func fn first cap) w := fun _ _ _ _ => rfl
  have hb0 : Below w.heap.size w (w.alloc (.cells #[.int .i64 0] 25)) := (Below.refl _ _).alloc (Nat.le_refl _) _
  have H := Bx.mk h
  clear h
  go_enter_defers Tryd.func94, Tryd.ntmps94
  go_wp2_with fail
  refine H.out.mono ?_
  rintro e w2 ⟨v, rfl, hrd, hb⟩
  have hc0 : w2.cell? ⟨w.heap.size, 0, none⟩ = some (.int .i64 0) := by rw [hb.cell (p := ⟨w.heap.size, 0, none⟩) (by simp)]; simp [go_sem]
  have hz0 : w2.frozen? ⟨w.heap.size, 0, none⟩ = false := by rw [hb.frozen (p := ⟨w.heap.size, 0, none⟩) (by simp)]; simp [go_sem]
  have HBB := Bx.mk (hb0.trans (hb.mono hb0.size))
  have HRD := Bx.mk hrd
  clear hrd
  have hself := setCell_self w2 w.heap.size _ hc0
  clear hb hb0 H
  go_wp2
  refine leaves_cons (f := 104) (args := #[.pointer (some ⟨w.heap.size, 0, none⟩)]) (by simp) (by simp [go_sem]) ?_
  refine (catch_idle65 ⟨w.heap.size, 0, none⟩ _).mono ?_
  rintro e u' w'' ⟨rfl, rfl, rfl⟩
  simp only [hself]
  refine ⟨_, by simp [results, Tryd.results94, go_sem, hc0]; rfl, ?_⟩
  exact ⟨v, rfl, HRD.out, HBB.out⟩
/-- natural.attempt over this closure: its result. -/
theorem attemptPow_ok (a1 a2 : Addr) (s : Nat) (w : World) (h : Calls Tryd.prog 95 #[.pointer (some a1), .pointer (some a2)] (w.alloc (.cells #[.int .i64 0] 25)) (RetNat (w.alloc (.cells #[.int .i64 0] 25)) s)) :
    Calls Tryd.prog 94 #[.func (Fn.func 95) #[] #[.pointer (some a1), .pointer (some a2)]] w fun e w' => ∃ v, e = .returned (.tuple #[v, .int .i64 0]) ∧ Rd w' v (limbs s) ∧ Below w.heap.size w w' := by
  have hmf : ∀ (fn : Fn) (first cap : Array Value) (w : World), (Instr.makeFunc fn first cap).run Tryd.prog w = .ok (.func fn first cap) w := fun _ _ _ _ => rfl
  have hb0 : Below w.heap.size w (w.alloc (.cells #[.int .i64 0] 25)) := (Below.refl _ _).alloc (Nat.le_refl _) _
  have H := Bx.mk h
  clear h
  go_enter_defers Tryd.func94, Tryd.ntmps94
  go_wp2_with fail
  refine H.out.mono ?_
  rintro e w2 ⟨v, rfl, hrd, hb⟩
  have hc0 : w2.cell? ⟨w.heap.size, 0, none⟩ = some (.int .i64 0) := by rw [hb.cell (p := ⟨w.heap.size, 0, none⟩) (by simp)]; simp [go_sem]
  have hz0 : w2.frozen? ⟨w.heap.size, 0, none⟩ = false := by rw [hb.frozen (p := ⟨w.heap.size, 0, none⟩) (by simp)]; simp [go_sem]
  have HBB := Bx.mk (hb0.trans (hb.mono hb0.size))
  have HRD := Bx.mk hrd
  clear hrd
  have hself := setCell_self w2 w.heap.size _ hc0
  clear hb hb0 H
  go_wp2
  refine leaves_cons (f := 104) (args := #[.pointer (some ⟨w.heap.size, 0, none⟩)]) (by simp) (by simp [go_sem]) ?_
  refine (catch_idle65 ⟨w.heap.size, 0, none⟩ _).mono ?_
  rintro e u' w'' ⟨rfl, rfl, rfl⟩
  simp only [hself]
  refine ⟨_, by simp [results, Tryd.results94, go_sem, hc0]; rfl, ?_⟩
  exact ⟨v, rfl, HRD.out, HBB.out⟩
/-- natural.attempt over this closure: its result. -/
theorem attemptCmp_ok (a1 a2 : Addr) (n : Int) (w : World) (h : Calls Tryd.prog 59 #[.pointer (some a1), .pointer (some a2)] (w.alloc (.cells #[.int .i64 0] 25)) (fun e w' => e = .returned (.int .i64 n) ∧ Below (w.heap.size + 1) (w.alloc (.cells #[.int .i64 0] 25)) w')) :
    Calls Tryd.prog 58 #[.func (Fn.func 59) #[] #[.pointer (some a1), .pointer (some a2)]] w fun e w' => e = .returned (.tuple #[.int .i64 n, .int .i64 0]) ∧ Below w.heap.size w w' := by
  have hmf : ∀ (fn : Fn) (first cap : Array Value) (w : World), (Instr.makeFunc fn first cap).run Tryd.prog w = .ok (.func fn first cap) w := fun _ _ _ _ => rfl
  have hb0 : Below w.heap.size w (w.alloc (.cells #[.int .i64 0] 25)) := (Below.refl _ _).alloc (Nat.le_refl _) _
  have H := Bx.mk h
  clear h
  go_enter_defers Tryd.func58, Tryd.ntmps58
  go_wp2_with fail
  refine H.out.mono ?_
  rintro e w2 ⟨rfl, hb⟩
  have hb : Below (w.alloc (.cells #[.int .i64 0] 25)).heap.size (w.alloc (.cells #[.int .i64 0] 25)) w2 := hb.mono (by simp)
  have hc0 : w2.cell? ⟨w.heap.size, 0, none⟩ = some (.int .i64 0) := by rw [hb.cell (p := ⟨w.heap.size, 0, none⟩) (by simp)]; simp [go_sem]
  have hz0 : w2.frozen? ⟨w.heap.size, 0, none⟩ = false := by rw [hb.frozen (p := ⟨w.heap.size, 0, none⟩) (by simp)]; simp [go_sem]
  have HBB := Bx.mk (hb0.trans (hb.mono hb0.size))
  have hself := setCell_self w2 w.heap.size _ hc0
  clear hb hb0 H
  go_wp2
  refine leaves_cons (f := 76) (args := #[.pointer (some ⟨w.heap.size, 0, none⟩)]) (by simp) (by simp [go_sem]) ?_
  refine (catch_idle77 ⟨w.heap.size, 0, none⟩ _).mono ?_
  rintro e u' w'' ⟨rfl, rfl, rfl⟩
  simp only [hself]
  refine ⟨_, by simp [results, Tryd.results58, go_sem, hc0]; rfl, ?_⟩
  exact ⟨rfl, HBB.out⟩
end Go.Proofs.YtomgihlkbmaleaaDoor

/- The choices of some of the first numbers: what the iterator hands to its rounds. -/
import Derived.Test.YtnbamjoadankmaaRF
import Derived.Test.YtnbamjoadankmaaR2
import Derived.Shelf.Abstract
import Derived.Shelf.RegionOpen
import Derived.OwnWalkIn
import Derived.TacticsInMore
import Derived.LoopNIn
import Derived.LoopIn
import Derived.WalkSmall
import Derived.Maps.AppendAt
namespace Go.Proofs.Ytnbamjoadankmaa
open Go.RowKit Go.Shelf D
attribute [local go_sem] Oper.semAt_some run_store_fn
/-- The rising lists of k of the numbers from f to n - 1, in their order. -/
def chs (n : Nat) : Nat → Nat → List (List Nat)
  | 0, _ => [[]]
  | k + 1, f => (List.range' f (n - f)).flatMap fun i => (chs n k (i + 1)).map (i :: ·)
theorem mem_chs {n : Nat} : ∀ {k f : Nat} {s : List Nat}, s ∈ chs n k f ↔ s.length = k ∧ s.Pairwise (· < ·) ∧ ∀ i ∈ s, f ≤ i ∧ i < n := by
  intro k
  induction k with
  | zero =>
    intro f s
    simp only [chs, List.mem_singleton]
    constructor
    · rintro rfl; simp
    · rintro ⟨h, _⟩; exact List.eq_nil_of_length_eq_zero h
  | succ k ih =>
    intro f s
    simp only [chs, List.mem_flatMap, List.mem_range'_1, List.mem_map]
    constructor
    · rintro ⟨i, hi, t, ht, rfl⟩
      obtain ⟨h1, h2, h3⟩ := ih.1 ht
      refine ⟨by simp [h1], List.pairwise_cons.2 ⟨fun x hx => by have := h3 x hx; omega, h2⟩, fun x hx => ?_⟩
      rcases List.mem_cons.1 hx with rfl | hx
      · omega
      · have := h3 x hx; omega
    · rintro ⟨h1, h2, h3⟩
      cases s with
      | nil => simp at h1
      | cons i t =>
        have hi := h3 i (by simp)
        refine ⟨i, by omega, t, ih.2 ⟨by simpa using h1, (List.pairwise_cons.1 h2).2, fun x hx => ⟨?_, (h3 x (by simp [hx])).2⟩⟩, rfl⟩
        have := (List.pairwise_cons.1 h2).1 x hx; omega
theorem chs_cons {n k f i : Nat} {t : List Nat} (hf : f ≤ i) (hi : i < n) (ht : t ∈ chs n k (i + 1)) : i :: t ∈ chs n (k + 1) f := by
  simp only [chs, List.mem_flatMap, List.mem_range'_1, List.mem_map]
  exact ⟨i, by omega, t, ht, rfl⟩
theorem chs_from {n k f i : Nat} (hf : f ≤ i) (hi : i < n) (c : List Nat) : ((List.range' f (i + 1 - f)).flatMap fun i => (chs n k (i + 1)).map (i :: ·)).map (c ++ ·) = ((List.range' f (i - f)).flatMap fun i => (chs n k (i + 1)).map (i :: ·)).map (c ++ ·) ++ (chs n k (i + 1)).map ((c ++ [i]) ++ ·) := by
  rw [show i + 1 - f = (i - f) + 1 by omega, List.range'_concat, List.flatMap_append, List.map_append]
  congr 1
  simp [show f + (i - f) = i by omega]
/-- The variables of the iterator. -/
structure Ext (n1 l size n g Bc Bs By Bn Be : Nat) (W : World) (c : List Nat) : Prop where
  vc : Boxed W Bc 29 (.slice (some ⟨g, 0, none⟩) c.length size)
  vs : Boxed W Bs 3 (.int .i64 size)
  vy : Boxed W By 159 (.func (.yield l) #[] #[])
  vn : Boxed W Bn 3 (.int .i64 n)
  ve : Boxed W Be 121 (.func (.func 151) #[] #[.pointer (some ⟨Bc, 0, none⟩), .pointer (some ⟨Bs, 0, none⟩), .pointer (some ⟨By, 0, none⟩), .pointer (some ⟨Bn, 0, none⟩), .pointer (some ⟨Be, 0, none⟩)])
  row : W.ownsRow n1 3 1 (.slice (some ⟨g, 0, none⟩) c.length size) c.length (c.map fun (j : Nat) => Value.int .i64 (j : Int))
theorem Ext.up {n1 l size n g Bc Bs By Bn Be m : Nat} {W W' : World} {c : List Nat} (h : Ext n1 l size n g Bc Bs By Bn Be W c) (hu : Up m W W') (hm : m ≤ n1) (h1 : m ≤ Bc) (h2 : m ≤ Bs) (h3 : m ≤ By) (h4 : m ≤ Bn) (h5 : m ≤ Be) : Ext n1 l size n g Bc Bs By Bn Be W' c where
  vc := (hu.2 _ h1 h.vc.lt).trans h.vc
  vs := (hu.2 _ h2 h.vs.lt).trans h.vs
  vy := (hu.2 _ h3 h.vy.lt).trans h.vy
  vn := (hu.2 _ h4 h.vn.lt).trans h.vn
  ve := (hu.2 _ h5 h.ve.lt).trans h.ve
  row := by
    obtain ⟨e, h⟩ := h.row
    refine ⟨e, h.imp id ?_⟩
    rintro ⟨g', cap, cur, e1, e2, e3, e4⟩
    exact ⟨g', cap, cur, e1, e2, (hu.2 _ (by omega) (Array.getElem?_eq_some_iff.1 e3).1).trans e3, e4⟩
theorem Ext.chosen' {n1 l size n g Bc Bs By Bn Be : Nat} {W : World} {c : List Nat} (h : Ext n1 l size n g Bc Bs By Bn Be W c) (hc : c ≠ []) : Chosen n1 (.slice (some ⟨g, 0, none⟩) c.length size) c W := by
  obtain ⟨ao, c', e, h1, h2, h3⟩ := cn_of_owns h.row
  cases e
  obtain ⟨b, o, e, hb, _⟩ := h3 hc
  cases e
  exact ⟨g, size, rfl, h1, h2, owns_block h.row g rfl, hb, h3⟩
theorem Ext.apart {n1 l size n g Bc Bs By Bn Be : Nat} {W : World} {c : List Nat} (h : Ext n1 l size n g Bc Bs By Bn Be W c) (h2' : Bs < n1) (h4' : Bn < n1) (hz : 0 < size) : Bc ≠ g ∧ Bs ≠ g ∧ By ≠ g ∧ Bn ≠ g ∧ Be ≠ g ∧ n1 ≤ g ∧ Bc ≠ Bs ∧ Bc ≠ By ∧ Bc ≠ Bn ∧ Bc ≠ Be := by
  have hg := owns_block h.row g rfl
  obtain ⟨cur, e3, hcs⟩ : ∃ cur, W.heap[g]? = some (.cells cur 3 (0, 0)) ∧ True := by
    rcases h.row.2 with ⟨e, _⟩ | ⟨g', cap, cur, e, _, e3, _⟩
    · cases e
    · cases e; exact ⟨cur, e3, trivial⟩
  have key : ∀ {B : Nat} {t : TypeId} {v : Value}, Boxed W B t v → t ≠ 3 → B ≠ g := fun hb ht e => by
    subst e; have : W.heap[_]? = _ := hb; rw [e3] at this; cases this; exact ht rfl
  have key2 : ∀ {B C : Nat} {t u : TypeId} {v x : Value}, Boxed W B t v → Boxed W C u x → t ≠ u → B ≠ C := fun hb hc ht e => by
    subst e; have h1 : W.heap[_]? = _ := hb; have h2 : W.heap[_]? = _ := hc; rw [h1] at h2; cases h2; exact ht rfl
  exact ⟨key h.vc (by decide), by omega, key h.vy (by decide), by omega, key h.ve (by decide), hg, key2 h.vc h.vs (by decide), key2 h.vc h.vy (by decide), key2 h.vc h.vn (by decide), key2 h.vc h.ve (by decide)⟩
/-- A number is put behind the list. -/
theorem Ext.push {n1 l size n g Bc Bs By Bn Be : Nat} {W w1 : World} {c : List Nat} {o : Obj} {i : Nat} (h : Ext n1 l size n g Bc Bs By Bn Be W c) (h2' : Bs < n1) (h4' : Bn < n1) (hz : 0 < size)
    (hrow : w1.ownsRow n1 3 1 (.slice (some ⟨g, 0, none⟩) (c.length + 1) size) (c.length + 1) ((c.map fun (j : Nat) => Value.int .i64 (j : Int)) ++ [.int .i64 i])) (hg : (W.alloc o).grownBy w1 (some g)) :
    Ext n1 l size n g Bc Bs By Bn Be (w1.setCell ⟨Bc, 0, none⟩ (.slice (some ⟨g, 0, none⟩) (c.length + 1) size)) (c ++ [i]) := by
  obtain ⟨a1, a2, a3, a4, a5, a6, a7, a8, a9, a10⟩ := h.apart h2' h4' hz
  have k : ∀ {B : Nat} {t : TypeId} {v : Value}, Boxed W B t v → B ≠ g → Boxed w1 B t v := fun hb hne => (hb.alloc o).kept hg (by simpa using hne)
  refine ⟨?_, (k h.vs a2).other (Ne.symm a7) _, (k h.vy a3).other (Ne.symm a8) _, (k h.vn a4).other (Ne.symm a9) _, (k h.ve a5).other (Ne.symm a10) _, ?_⟩
  · rw [List.length_append]; exact (k h.vc a1).set _
  · rw [List.length_append, List.map_append]
    exact hrow.kept (grownBy_setCell' w1 Bc _) (by simpa [Value.ownBlock] using Ne.symm a1)
/-- The last number is taken away. -/
theorem Ext.pop {n1 l size n g Bc Bs By Bn Be : Nat} {W : World} {c : List Nat} {i : Nat} (h : Ext n1 l size n g Bc Bs By Bn Be W (c ++ [i])) (h2' : Bs < n1) (h4' : Bn < n1) (hz : 0 < size) :
    Ext n1 l size n g Bc Bs By Bn Be (W.setCell ⟨Bc, 0, none⟩ (.slice (some ⟨g, 0, none⟩) c.length size)) c := by
  obtain ⟨a1, a2, a3, a4, a5, a6, a7, a8, a9, a10⟩ := h.apart h2' h4' hz
  refine ⟨h.vc.set _, h.vs.other (Ne.symm a7) _, h.vy.other (Ne.symm a8) _, h.vn.other (Ne.symm a9) _, h.ve.other (Ne.symm a10) _, ?_⟩
  have hr := h.row
  rw [List.length_append, List.map_append] at hr
  exact (ownsRow_pop (by simp) hr).kept (grownBy_setCell' W Bc _) (by simpa [Value.ownBlock] using Ne.symm a1)
theorem ptr_one (W : World) (v : Value) (t : TypeId) : ∀ j u, [v][j]? = some u → (W.alloc (.cells #[v] t)).cell? ((⟨W.heap.size, 0, none⟩ : Addr).add j) = some u := cell_one_new _ _ _
set_option maxRecDepth 100000 in
set_option maxHeartbeats 4000000 in
/-- One more number, in all ways. -/
theorem extend_in (F : Fence) (hd : F.depth = none) (h61 : F.fn 151) (hro : F.round = none) (l m n1 size n g Bc Bs By Bn Be : Nat) (J Jx : List (List Nat) → World → Prop) (hJ : Ab n1 J)
    (hs : size ≤ 6) (hs1 : 1 ≤ size) (hn : n ≤ 1000) (hm : m ≤ n1) (h1 : n1 ≤ Bc) (h2 : m ≤ Bs) (h3 : n1 ≤ By) (h4 : m ≤ Bn) (h5 : n1 ≤ Be) (h2' : Bs < n1) (h4' : Bn < n1)
    (hY : ∀ q pre s v W1, J pre W1 → s ∈ chs n size 0 → Chosen n1 v s W1 → YieldAt F q Try.prog l #[v] W1 fun e W' =>
      (e = .returned (.bool true) ∧ J (pre ++ [s]) W' ∧ Up m W1 W') ∨ (e = .returned (.bool false) ∧ Jx (pre ++ [s]) W')) :
    ∀ (k q f : Nat) (c : List Nat) (pre : List (List Nat)) (W : World), c.length + k = size → (∀ t ∈ chs n k f, c ++ t ∈ chs n size 0) → f ≤ n → Ext n1 l size n g Bc Bs By Bn Be W c → J pre W → n1 ≤ W.heap.size →
      CallsIn F q Try.prog 151 #[.int .i64 f, .pointer (some ⟨Bc, 0, none⟩), .pointer (some ⟨Bs, 0, none⟩), .pointer (some ⟨By, 0, none⟩), .pointer (some ⟨Bn, 0, none⟩), .pointer (some ⟨Be, 0, none⟩)] W fun e W' =>
        (e = .returned (.bool true) ∧ J (pre ++ (chs n k f).map (c ++ ·)) W' ∧ Ext n1 l size n g Bc Bs By Bn Be W' c ∧ n1 ≤ W'.heap.size) ∨ (e = .returned (.bool false) ∧ ∃ xs, Jx xs W') := by
  intro k
  have hdd : ∀ k : Nat, (F.depth.isSome = true → 1 ≤ k) := fun k h => by rw [hd] at h; cases h
  induction k with
  | zero =>
    intro q f c pre W hk hcc hf hE hj hW
    have e1 := hE.vc.cell
    have e2 := hE.vs.cell
    have e3 := hE.vy.cell
    obtain ⟨fn, tmps, assign, body, hy, hR⟩ := hY (q - 1) pre c _ W hj (by simpa using hcc [] (by simp [chs])) (hE.chosen' (fun e => by subst e; simp at hk; omega))
    have hcl : c.length = size := by omega
    rw [hcl] at e1 hy
    refine callsIn_of_wp Try.func151 rfl h61 ?_ hro
    simp only [Try.ntmps151, List.size_toArray, List.length_cons, List.length_nil, Nat.reduceAdd, Nat.reduceSub, Array.replicate_succ, Array.replicate_zero, List.push_toArray, List.append_toArray, List.nil_append, List.cons_append]
    gi_wp2_with ((try refine ⟨hdd _, ?_⟩); refine hR.mono ?_; clear hR; rintro e W1 (⟨rfl, hJ1, hu⟩ | ⟨rfl, hx⟩))
    · go_ret
      exact .inl ⟨rfl, by simpa [chs] using hJ1, hE.up hu hm (by omega) h2 (by omega) h4 (by omega), Nat.le_trans hW hu.1⟩
    · go_ret
      exact .inr ⟨rfl, _, hx⟩
  | succ k ih =>
    intro q f c pre W hk hcc hf hE hj hW
    have e1 := hE.vc.cell
    have e2 := hE.vs.cell
    refine callsIn_of_wp Try.func151 rfl h61 ?_ hro
    simp only [Try.ntmps151, List.size_toArray, List.length_cons, List.length_nil, Nat.reduceAdd, Nat.reduceSub, Array.replicate_succ, Array.replicate_zero, List.push_toArray, List.append_toArray, List.nil_append, List.cons_append]
    have hne : ((c.length : Int) == (size : Int)) = false := by simp; omega
    gi_wp2
    gi_loopw [8] (fun p wr => ∃ i : Nat, p = .int .i64 i ∧ f ≤ i ∧ i ≤ n ∧ n1 ≤ wr.heap.size ∧ Ext n1 l size n g Bc Bs By Bn Be wr c ∧ J (pre ++ ((List.range' f (i - f)).flatMap fun i => (chs n k (i + 1)).map (i :: ·)).map (c ++ ·)) wr) (fun p _ => n - (intOf p).toNat)
    case atStart => exact ⟨f, rfl, by omega, hf, hW, hE, by simpa using hj⟩
    case round =>
      obtain ⟨i, rfl, hfi, hin, hWr, hE, hj⟩ := hrel
      have q1 := hE.vc.cell
      have q2 := hE.vn.cell
      by_cases hlt : i < n
      · obtain ⟨a1, a2, a3, a4, a5, a6, a7, a8, a9, a10⟩ := hE.apart h2' h4' (by omega)
        obtain ⟨ti, hti, hti2⟩ := Option.map_eq_some_iff.1 info_int
        simp only [Prod.mk.injEq] at hti2
        have IH : ∀ (x : Int) (w1 : World), x = ((i + 1 : Nat) : Int) → Ext n1 l size n g Bc Bs By Bn Be (w1.setCell ⟨Bc, 0, none⟩ (.slice (some ⟨g, 0, none⟩) (c.length + 1) size)) (c ++ [i]) → Below n1 wr (w1.setCell ⟨Bc, 0, none⟩ (.slice (some ⟨g, 0, none⟩) (c.length + 1) size)) →
            CallsIn F (q - 1) Try.prog 151 #[.int .i64 x, .pointer (some ⟨Bc, 0, none⟩), .pointer (some ⟨Bs, 0, none⟩), .pointer (some ⟨By, 0, none⟩), .pointer (some ⟨Bn, 0, none⟩), .pointer (some ⟨Be, 0, none⟩)] (w1.setCell ⟨Bc, 0, none⟩ (.slice (some ⟨g, 0, none⟩) (c.length + 1) size)) fun e W' =>
            (e = .returned (.bool true) ∧ J (pre ++ ((List.range' f (i - f)).flatMap fun i => (chs n k (i + 1)).map (i :: ·)).map (c ++ ·) ++ (chs n k (i + 1)).map ((c ++ [i]) ++ ·)) W' ∧ Ext n1 l size n g Bc Bs By Bn Be W' (c ++ [i]) ∧ n1 ≤ W'.heap.size ∧ W'.cell? ⟨Bc, 0, none⟩ = some (.slice (some ⟨g, 0, none⟩) (c.length + 1) size) ∧ W'.frozen? ⟨Bc, 0, none⟩ = false) ∨ (e = .returned (.bool false) ∧ ∃ xs, Jx xs W') := by
          rintro x w1 rfl hE2 hb
          exact (ih (q - 1) (i + 1) (c ++ [i]) _ _ (by simp; omega) (fun t ht => by rw [List.append_assoc]; exact hcc _ (chs_cons hfi hlt ht)) (by omega) hE2 (hJ _ _ _ hb hj) (Nat.le_trans hWr hb.size)).mono fun e W' h => h.imp (fun ⟨x1, x2, x3, x4⟩ => ⟨x1, x2, x3, x4, by have := x3.vc.cell; rwa [List.length_append] at this, x3.vc.frozen⟩) id
        gi_wp2_with (first
          | (gi_at_builtin; refine wpListIn_append_fits _ rfl _ _ 29 rfl n1 3 ti 1 Try.underlying29 hti hti2.2.1 g c.length size _ rfl (hE.row.alloc _) ⟨wr.heap.size, 0, none⟩ 1 1 [.int .i64 i] rfl rfl (cell_one_new _ _ _) (by simp [Value.oneCell']) (by omega) ?_; intro w1 hrow1 hg1
             have hE2 := hE.push h2' h4' (by omega) hrow1 hg1
             have hv1 : Boxed w1 Bc _ _ := (hE.vc.alloc _).kept hg1 (by simpa using a1)
             have p1 := hv1.cell
             have p2 := hv1.frozen
             have p3 := hE2.ve.cell
             have hB2 : Below n1 wr (w1.setCell ⟨Bc, 0, none⟩ (.slice (some ⟨g, 0, none⟩) (c.length + 1) size)) := (((Below.refl n1 wr).alloc hWr _).grown hg1 (by simp; omega) (fun k e => by cases e; exact a6)).setCell (p := ⟨Bc, 0, none⟩) h1 _
             have IH2 := Bx.mk (fun x hx => IH x w1 hx hE2 hB2)
             clear IH)
          | ((try refine ⟨hdd _, ?_⟩); gi_at_call 151; refine (IH2.out _ (by simp)).mono ?_; clear IH2; rintro e W3 (⟨rfl, hJ3, hE3, hs3, p4, p5⟩ | ⟨rfl, xs, hx⟩)))
        · go_roundw
          case rel => exact ⟨i + 1, by simp, by omega, by omega, by simpa [World.setCell] using hs3, hE3.pop h2' h4' (by omega), hJ _ _ _ ((Below.refl n1 W3).setCell (p := ⟨Bc, 0, none⟩) h1 _) (by rw [chs_from hfi hlt, ← List.append_assoc]; exact hJ3)⟩
          case measure => simp [intOf]; omega
        · go_ret
          exact .inr ⟨rfl, xs, hx⟩
      · obtain rfl : i = n := by omega
        gi_wp2
        go_ret
        exact .inl ⟨rfl, by simpa [chs] using hj, hE, hWr⟩
theorem room_any {F : Fence} (hd : F.depth = none) (k : Nat) : F.room k := fun d h => by rw [hd] at h; cases h
theorem yield_any {F : Fence} (hd : F.depth = none) {m : Nat} (m' : Nat) {P : Program} {l : Nat} {args : Array Value} {W : World} {R : Ending → World → Prop} (h : YieldAt F m P l args W R) : YieldAt F m' P l args W R := by
  obtain ⟨fn, tmps, assign, body, hy, hR⟩ := h
  exact ⟨fn, tmps, assign, body, hy, hR.1, fun c cs _ => hR.2 c cs (room_any hd _)⟩
set_option maxRecDepth 100000 in
set_option maxHeartbeats 4000000 in
/-- The iterator hands all choices to its rounds, or some of them until a round says no more. -/
theorem choices_seqs (F : Fence) (hd : F.depth = none) (h60 : F.fn 150) (h61 : F.fn 151) (hro : F.round = none) (q m size n Bs Bn : Nat) (w : World) (hs : size ≤ 6) (hs1 : 1 ≤ size) (hn : n ≤ 1000)
    (vs : Boxed w Bs 3 (.int .i64 size)) (vn : Boxed w Bn 3 (.int .i64 n)) (hm : m ≤ w.heap.size) (h2 : m ≤ Bs) (h4 : m ≤ Bn) :
    Seqs F q Try.prog m 150 #[.pointer (some ⟨Bs, 0, none⟩), .pointer (some ⟨Bn, 0, none⟩)] (fun s => s ∈ chs n size 0) (fun xs => xs = chs n size 0) (fun _ => True) w := fun l J Jx W hW hJ hJx hY h0 => by
  have hdd : ∀ k : Nat, (F.depth.isSome = true → 1 ≤ k) := fun k h => by rw [hd] at h; cases h
  have vs' : Boxed W Bs 3 (.int .i64 size) := (hW.block _ vs.lt).trans vs
  have vn' : Boxed W Bn 3 (.int .i64 n) := (hW.block _ vn.lt).trans vn
  have hsW := hW.size
  have q1 := (vs'.alloc (.cells #[.func (.yield l) #[] #[]] 159)).cell
  obtain ⟨ti, hti, hti2⟩ := Option.map_eq_some_iff.1 info_int
  simp only [Prod.mk.injEq] at hti2
  refine callsIn_of_wp Try.func150 rfl h60 ?_ hro
  simp only [Try.ntmps150, List.size_toArray, List.length_cons, List.length_nil, Nat.reduceAdd, Nat.reduceSub, Array.replicate_succ, Array.replicate_zero, List.push_toArray, List.append_toArray, List.nil_append, List.cons_append]
  gi_wp2_with (first
    | (gi_at_make; refine wpListIn_make_own _ rfl _ _ 29 rfl W.heap.size 3 ti (.int .i64 0) 1 Try.underlying29 hti hti2.1 hti2.2.1 .i64 .i64 (size : Int) size rfl rfl rfl (by rw [hti2.2.2]; omega) (by unfold maxLen; omega) (by simp) ?_; intro w1 hrow1 hg1
       have b0 := Boxed.new (w1.alloc (.cells #[.slice (some ⟨W.heap.size + 1, 0, none⟩) 0 size] 29)) 121 .nilFunc
       rw [World.size_alloc] at b0
       have b1 := b0.set (.func (.func 151) #[] #[.pointer (some ⟨w1.heap.size, 0, none⟩), .pointer (some ⟨Bs, 0, none⟩), .pointer (some ⟨W.heap.size, 0, none⟩), .pointer (some ⟨Bn, 0, none⟩), .pointer (some ⟨w1.heap.size + 1, 0, none⟩)])
       have p1 := b0.cell
       have p2 := b0.frozen
       have p3 := b1.cell
       have hs2 := hg1.size
       rw [World.size_alloc] at hs2 hrow1
       obtain ⟨fv, hfv⟩ : ∃ fv : Value, fv = .func (.func 151) #[] #[.pointer (some ⟨w1.heap.size, 0, none⟩), .pointer (some ⟨Bs, 0, none⟩), .pointer (some ⟨W.heap.size, 0, none⟩), .pointer (some ⟨Bn, 0, none⟩), .pointer (some ⟨w1.heap.size + 1, 0, none⟩)] := ⟨_, rfl⟩
       have hE0 : Ext W.heap.size l size n (W.heap.size + 1) w1.heap.size Bs W.heap.size Bn (w1.heap.size + 1) ((w1.alloc (.cells #[.slice (some ⟨W.heap.size + 1, 0, none⟩) 0 size] 29)).alloc (.cells #[fv] 121)) [] :=
         ⟨(Boxed.new w1 _ _).alloc _, (((vs'.alloc _).kept hg1 (by simp)).alloc _).alloc _, (((Boxed.new W _ _).kept hg1 (by simp)).alloc _).alloc _, (((vn'.alloc _).kept hg1 (by simp)).alloc _).alloc _,
           by have := Boxed.new (w1.alloc (.cells #[.slice (some ⟨W.heap.size + 1, 0, none⟩) 0 size] 29)) 121 fv; rw [World.size_alloc] at this; rw [hfv] at this ⊢; exact this, (hrow1.alloc _).alloc _⟩
       have hB : Below W.heap.size W ((w1.alloc (.cells #[.slice (some ⟨W.heap.size + 1, 0, none⟩) 0 size] 29)).alloc (.cells #[fv] 121)) :=
         ((((Below.refl _ W).alloc (Nat.le_refl _) _).grown hg1 (by simp) (fun k e => by cases e)).alloc (by omega) _).alloc (by simp; omega) _
       have IH := Bx.mk (extend_in F hd h61 hro l m W.heap.size size n (W.heap.size + 1) w1.heap.size Bs W.heap.size Bn (w1.heap.size + 1) J Jx hJ hs hs1 hn (by omega) (by omega) h2 (by omega) h4 (by omega) (by have := vs.lt; omega) (by have := vn.lt; omega)
         (fun q' pre s v W1 hj hK hc => yield_any hd q' (hY pre s v W1 hj hK hc)) size (q - 1) 0 [] [] _ (by simp) (fun t ht => ht) (by omega) hE0 (hJ _ _ _ hB h0) (by simp; omega))
       rw [hfv] at IH
       clear hE0 hB hfv)
    | ((try refine ⟨hdd _, ?_⟩); gi_at_call 151; refine IH.out.mono ?_; clear IH; rintro e W3 (⟨rfl, hJ3, hE3, hs3⟩ | ⟨rfl, xs, hx⟩)))
  · go_end0
    exact ⟨⟨_, rfl⟩, .inl ⟨_, rfl, by simpa using hJ3⟩⟩
  · go_end0
    exact ⟨⟨_, rfl⟩, .inr ⟨xs, trivial, hx⟩⟩
set_option maxHeartbeats 1000000 in
/-- choices: two boxes. -/
theorem choices_any (n size : Int) (w : World) : Calls Try.prog 119 #[.int .i64 n, .int .i64 size] w fun e w' => e = .returned (.func (.func 150) #[] #[.pointer (some ⟨w.heap.size + 1, 0, none⟩), .pointer (some ⟨w.heap.size, 0, none⟩)]) ∧ w' = (w.alloc (.cells #[.int .i64 n] 3)).alloc (.cells #[.int .i64 size] 3) := by
  go_enter Try.func119, Try.ntmps119
  go_wp2_with fail
  go_ret
  exact ⟨rfl, rfl⟩
end Go.Proofs.Ytnbamjoadankmaa

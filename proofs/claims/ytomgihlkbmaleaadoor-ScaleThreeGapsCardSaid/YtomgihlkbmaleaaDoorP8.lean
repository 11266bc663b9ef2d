/- pitch.fraction, walked. -/
import Derived.Test.YtomgihlkbmaleaaDoorP7
namespace Go.Proofs.YtomgihlkbmaleaaDoor
open Go.RowKit M
attribute [local go_sem] Oper.semAt_some
theorem product_row {W : World} {base : Nat} {va : Value} {L : List (Nat × Nat)} (h : W.ownsRow base 65 2 va L.length (fl L)) (hL : PosL L) (h6 : L.length ≤ 6) (hf : Fits (prodL L)) : Calls Tryd.prog 62 #[va] W (OutP W (prodL L)) := by
  rcases h.2 with ⟨rfl, h0⟩ | ⟨g, cap, cur, rfl, _, hg, _⟩
  · have : L = [] := List.length_eq_zero_iff.1 h0
    subst this
    exact product_nil none 0 W
  · exact product_some g cap L.length L W rfl h6 hL (Array.getElem?_eq_some_iff.1 hg).1 (row_powC h) hf
theorem row_below {W W' : World} {base e size n : Nat} {v : Value} {xs : List Value} (h : W.ownsRow base e size v n xs) (hb : Below W.heap.size W W') : W'.ownsRow base e size v n xs := by
  refine ⟨h.1, ?_⟩
  rcases h.2 with h0 | ⟨g, cap, cur, rfl, h1, hg, h2⟩
  · exact .inl h0
  · exact .inr ⟨g, cap, cur, rfl, h1, (hb.block g (Array.getElem?_eq_some_iff.1 hg).1).trans hg, h2⟩
theorem Nm.put {W : World} {v : Value} {a : Nat} (h : Nm W v a) {D : Nat} {o o' : Obj} (hD : W.heap[D]? = some o) (ho : o.isCells = false) : Nm (W.putObj D o') v a := by
  refine ⟨h.fits, h.rd.ok, ?_⟩
  obtain ⟨ao, cap, e, h1, h2, h3⟩ := h.rd.shape
  refine ⟨ao, cap, e, h1, h2, fun hl => ?_⟩
  obtain ⟨p, hp, hb, hc⟩ := h3 hl
  have hblk : ∀ i, (p.add i).block = p.block := fun i => by unfold Addr.add; split <;> rfl
  have hne : p.block ≠ D := by
    intro e
    have h0 := hc 0 (List.length_pos_iff.2 hl)
    have : (p.add 0).block = D := (hblk 0).trans e
    unfold World.cell? at h0
    rw [this, hD] at h0
    cases o <;> simp_all [Obj.isCells]
  refine ⟨p, hp, ?_, fun i hi => ?_⟩
  · have := (grownBy_putObj' W D o').size; omega
  · rw [World.cell?_of_block ((grownBy_putObj' W D o').block (p.add i).block (by rw [hblk]; exact hb) (by rw [hblk]; simpa using hne))]
    exact hc i hi
/-- What is kept while both products are made. -/
structure FrE (w0 : World) (va vb : Value) (A B : List (Nat × Nat)) (D : Nat) (W : World) : Prop where
  a : Boxed W (w0.heap.size + 1) 85 va
  b : Boxed W (w0.heap.size + 2) 85 vb
  ra : W.ownsRow w0.heap.size 65 2 va A.length (fl A)
  rb : W.ownsRow w0.heap.size 65 2 vb B.length (fl B)
  d : W.heap[D]? = some (.deferred (some []))
  bl : Below w0.heap.size w0 W
theorem FrE.call {w0 W W' : World} {va vb : Value} {A B : List (Nat × Nat)} {D : Nat} (hb : Below W.heap.size W W') (h : FrE w0 va vb A B D W) : FrE w0 va vb A B D W' :=
  ⟨(hb.block _ h.a.lt).trans h.a, (hb.block _ h.b.lt).trans h.b, row_below h.ra hb, row_below h.rb hb, (hb.block _ (Array.getElem?_eq_some_iff.1 h.d).1).trans h.d, h.bl.trans (hb.mono h.bl.size)⟩
theorem FrE.drew {w0 W : World} {va vb : Value} {A B : List (Nat × Nat)} {D : Nat} (h : FrE w0 va vb A B D W) : FrE w0 va vb A B D W.drew := FrE.call (Below.refl _ _).drew h
theorem FrE.all {w0 W : World} {va vb : Value} {A B : List (Nat × Nat)} {D : Nat} (h : FrE w0 va vb A B D W) : FrE w0 va vb A B D W ∧ W.cell? ⟨w0.heap.size + 1, 0, none⟩ = some va ∧ W.cell? ⟨w0.heap.size + 1 + 1, 0, none⟩ = some vb := ⟨h, h.a.cell, h.b.cell⟩
theorem FrE.allX {w0 W : World} {va vb : Value} {A B : List (Nat × Nat)} {D : Nat} {X : Prop} (h : FrE w0 va vb A B D W ∧ X) : FrE w0 va vb A B D W ∧ W.cell? ⟨w0.heap.size + 1, 0, none⟩ = some va ∧ W.cell? ⟨w0.heap.size + 1 + 1, 0, none⟩ = some vb := h.1.all
theorem Nm.drew {W : World} {v : Value} {a : Nat} (h : Nm W v a) : Nm W.drew v a := h.keep (Below.refl _ _).drew
theorem prod_a {w0 W : World} {va vb : Value} {A B : List (Nat × Nat)} {D : Nat} (hL : PosL A) (h6 : A.length ≤ 6) (hf : Fits (prodL A)) (h : FrE w0 va vb A B D W) : Calls Tryd.prog 62 #[va] W fun e W' => ∃ u, e = .returned u ∧ Nm W' u (prodL A) ∧ FrE w0 va vb A B D W' ∧ Below W.heap.size W W' :=
  (product_row h.ra hL h6 hf).mono fun _ _ ⟨u, he, hn, hb⟩ => ⟨u, he, hn, h.call hb, hb⟩
theorem prod_b {w0 W : World} {va vb : Value} {A B : List (Nat × Nat)} {D : Nat} (hL : PosL B) (h6 : B.length ≤ 6) (hf : Fits (prodL B)) (h : FrE w0 va vb A B D W) : Calls Tryd.prog 62 #[vb] W fun e W' => ∃ u, e = .returned u ∧ Nm W' u (prodL B) ∧ FrE w0 va vb A B D W' ∧ Below W.heap.size W W' :=
  (product_row h.rb hL h6 hf).mono fun _ _ ⟨u, he, hn, hb⟩ => ⟨u, he, hn, h.call hb, hb⟩
theorem pw_natP (k : Nat) : ((4294967296 ^ k : Nat) : Int) = pw k := by unfold pw; exact Int.natCast_pow _ _
theorem fits_up {v : Nat → Int} (h : ∀ i, i < 6 → v i ≤ 1152) : Fits (up v) := ⟨by
  rw [← pw_natP 640]; exact Int.ofNat_lt.2 (up_fits h)⟩
def OutFr (w : World) (v : Nat → Int) (e : Ending) (w' : World) : Prop := ∃ a b, e = .returned (.tuple #[a, b]) ∧ Nm w' a (up v) ∧ Nm w' b (dn v) ∧ Below w.heap.size w w'
theorem FrI.alloc {w0 : World} {v : Nat → Int} {pre : List (Ix v)} {W : World} (h : FrI w0 v pre W) (o : Obj) : FrI w0 v pre (W.alloc o) :=
  ⟨let ⟨va, h1, h2, h3⟩ := h.a; ⟨va, h1.alloc _, h2.alloc _, h3⟩, let ⟨vb, h1, h2, h3⟩ := h.b; ⟨vb, h1.alloc _, h2.alloc _, h3⟩, h.c.alloc _, h.bl.alloc h.bl.size _⟩
theorem FrI.pos {w0 : World} {v : Nat → Int} {pre : List (Ix v)} {W w1 : World} {x : Ix v} {va v' : Value} {tmp : Obj} (B : Nat) (hI : FrI w0 v pre W) (hp : 0 < v x.i) (hva : Boxed W (w0.heap.size + 1) 85 va) (hra : W.ownsRow w0.heap.size 65 2 va (posL v pre).length (fl (posL v pre))) (hna : va = .slice none 0 0 ∨ posL v pre ≠ [])
    (hown' : w1.ownsRow w0.heap.size 65 2 v' ((posL v pre).length + 1) (fl (posL v pre) ++ [.int .i64 (prI x.i), .int .i64 (v x.i)])) (hgrow : (W.alloc tmp).grownBy w1 va.ownBlock) :
    KeepsFrom B W (w1.setCell ⟨w0.heap.size + 1, 0, none⟩ v') ∧ Kp (w0.heap.size + 3) W (w1.setCell ⟨w0.heap.size + 1, 0, none⟩ v') ∧ FrI w0 v (pre ++ [x]) (w1.setCell ⟨w0.heap.size + 1, 0, none⟩ v') := by
  obtain ⟨hv1, hv2, hr2, hk2, hb2⟩ := hva.appended (by decide) hra hI.bl.size (by omega) hown' hgrow
  obtain ⟨vb, hvb, hrb, hnb⟩ := hI.b
  have hrb1 := (hrb.alloc tmp).kept hgrow (rows_ne hra hrb (fun p hp q hq => pos_neg hp hq) hna hnb)
  have hrb2 := hrb1.kept (grownBy_setCell' w1 (w0.heap.size + 1) v') (.inr (hv1.not_row (by decide) hrb1).symm)
  have hvb1 := (hvb.alloc tmp).kept hgrow (hvb.not_row (by decide) hra)
  have hvb2 := hvb1.other (B' := w0.heap.size + 1) (by omega) v'
  have hc2 := ((hI.c.alloc tmp).kept hgrow (hI.c.not_row (by decide) hra)).set_other (B := w0.heap.size + 1) (by omega) v'
  refine ⟨hk2.from _, hI.c.kp hc2, ?_⟩
  have ha : ∃ va, Boxed (w1.setCell ⟨w0.heap.size + 1, 0, none⟩ v') (w0.heap.size + 1) 85 va ∧ (w1.setCell ⟨w0.heap.size + 1, 0, none⟩ v').ownsRow w0.heap.size 65 2 va (posL v (pre ++ [x])).length (fl (posL v (pre ++ [x]))) ∧ (va = .slice none 0 0 ∨ posL v (pre ++ [x]) ≠ []) := by
    refine ⟨v', hv2, ?_, .inr (by rw [posL_hit hp]; simp)⟩
    rw [posL_hit hp, fl_snoc, List.length_append, List.length_singleton]
    have e1 : (((pr x.i : Nat) : Int)) = prI x.i := (prI_pr _).symm
    have e2 : (((v x.i).toNat : Nat) : Int) = v x.i := Int.toNat_of_nonneg (by omega)
    simp only [e1, e2]
    exact hr2
  have hb : ∃ vb, Boxed (w1.setCell ⟨w0.heap.size + 1, 0, none⟩ v') (w0.heap.size + 2) 85 vb ∧ (w1.setCell ⟨w0.heap.size + 1, 0, none⟩ v').ownsRow w0.heap.size 65 2 vb (negL v (pre ++ [x])).length (fl (negL v (pre ++ [x]))) ∧ (vb = .slice none 0 0 ∨ negL v (pre ++ [x]) ≠ []) := by
    rw [negL_miss hp]; exact ⟨vb, hvb2, hrb2, hnb⟩
  exact ⟨ha, hb, hc2, hI.bl.trans hb2⟩
theorem FrI.neg {w0 : World} {v : Nat → Int} {pre : List (Ix v)} {W w1 : World} {x : Ix v} {va v' : Value} {tmp : Obj} (B : Nat) (hI : FrI w0 v pre W) (hp : ¬ 0 < v x.i) (hva : Boxed W (w0.heap.size + 2) 85 va) (hra : W.ownsRow w0.heap.size 65 2 va (negL v pre).length (fl (negL v pre))) (hna : va = .slice none 0 0 ∨ negL v pre ≠ [])
    (hown' : w1.ownsRow w0.heap.size 65 2 v' ((negL v pre).length + 1) (fl (negL v pre) ++ [.int .i64 (prI x.i), .int .i64 (-v x.i)])) (hgrow : (W.alloc tmp).grownBy w1 va.ownBlock) :
    KeepsFrom B W (w1.setCell ⟨w0.heap.size + 2, 0, none⟩ v') ∧ Kp (w0.heap.size + 3) W (w1.setCell ⟨w0.heap.size + 2, 0, none⟩ v') ∧ FrI w0 v (pre ++ [x]) (w1.setCell ⟨w0.heap.size + 2, 0, none⟩ v') := by
  obtain ⟨hv1, hv2, hr2, hk2, hb2⟩ := hva.appended (by decide) hra hI.bl.size (by omega) hown' hgrow
  obtain ⟨vb, hvb, hrb, hnb⟩ := hI.a
  have hrb1 := (hrb.alloc tmp).kept hgrow (rows_ne hra hrb (fun p hp q hq e => pos_neg hq hp e.symm) hna hnb)
  have hrb2 := hrb1.kept (grownBy_setCell' w1 (w0.heap.size + 2) v') (.inr (hv1.not_row (by decide) hrb1).symm)
  have hvb1 := (hvb.alloc tmp).kept hgrow (hvb.not_row (by decide) hra)
  have hvb2 := hvb1.other (B' := w0.heap.size + 2) (by omega) v'
  have hc2 := ((hI.c.alloc tmp).kept hgrow (hI.c.not_row (by decide) hra)).set_other (B := w0.heap.size + 2) (by omega) v'
  refine ⟨hk2.from _, hI.c.kp hc2, ?_⟩
  have ha : ∃ va, Boxed (w1.setCell ⟨w0.heap.size + 2, 0, none⟩ v') (w0.heap.size + 2) 85 va ∧ (w1.setCell ⟨w0.heap.size + 2, 0, none⟩ v').ownsRow w0.heap.size 65 2 va (negL v (pre ++ [x])).length (fl (negL v (pre ++ [x]))) ∧ (va = .slice none 0 0 ∨ negL v (pre ++ [x]) ≠ []) := by
    refine ⟨v', hv2, ?_, .inr (by rw [negL_hit hp]; simp)⟩
    rw [negL_hit hp, fl_snoc, List.length_append, List.length_singleton]
    have e1 : (((pr x.i : Nat) : Int)) = prI x.i := (prI_pr _).symm
    have e2 : (((-v x.i).toNat : Nat) : Int) = -v x.i := Int.toNat_of_nonneg (by omega)
    simp only [e1, e2]
    exact hr2
  have hb : ∃ vb, Boxed (w1.setCell ⟨w0.heap.size + 2, 0, none⟩ v') (w0.heap.size + 1) 85 vb ∧ (w1.setCell ⟨w0.heap.size + 2, 0, none⟩ v').ownsRow w0.heap.size 65 2 vb (posL v (pre ++ [x])).length (fl (posL v (pre ++ [x]))) ∧ (vb = .slice none 0 0 ∨ posL v (pre ++ [x]) ≠ []) := by
    rw [posL_miss hp]; exact ⟨vb, hvb2, hrb2, hnb⟩
  exact ⟨hb, ha, hc2, hI.bl.trans hb2⟩
set_option maxRecDepth 100000 in
set_option maxHeartbeats 4000000 in
theorem fraction_any (v : Nat → Int) (w : World) (hv : Hx (Lim 1152 v)) (hP : Pm w) : Calls Tryd.prog 48 #[PV v] w (OutFr w v) := by
  obtain ⟨i0, hi, hz0, hz1, hz2⟩ := info_parts Tryd.info65
  refine (callsIn_wide (n := 8)).1 ?_
  refine callsIn_of_wp_marks Tryd.func48 rfl trivial ?_ rfl
  simp only [Tryd.ntmps48, List.size_toArray, List.length_cons, List.length_nil, Nat.reduceAdd, Nat.reduceSub, Array.replicate_succ, Array.replicate_zero, List.push_toArray, List.append_toArray, List.nil_append, List.cons_append]
  gi_wp2_with (refine ⟨trivial, ?_⟩; gi_at_call 44; refine (powers_in Fence.wide _ trivial rfl _ _).mono ?_; rintro e w' ⟨rfl, rfl⟩)
  have HI : FrI w v [] ((((w.alloc (.cells (PC v) 22)).alloc (.cells #[.slice none 0 0] 85)).alloc (.cells #[.slice none 0 0] 85)).alloc (.cells (PC v) 22)) := ⟨⟨_, by have := ((Boxed.new (w.alloc (.cells (PC v) 22)) 85 (.slice none 0 0)).alloc (.cells #[.slice none 0 0] 85)).alloc (.cells (PC v) 22); simpa using this, World.ownsRow_nil _ _ _ _, .inl rfl⟩,
    ⟨_, by have := (Boxed.new ((w.alloc (.cells (PC v) 22)).alloc (.cells #[.slice none 0 0] 85)) 85 (.slice none 0 0)).alloc (.cells (PC v) 22); simpa using this, World.ownsRow_nil _ _ _ _, .inl rfl⟩,
    by have := World.alloc_heap_new (((w.alloc (.cells (PC v) 22)).alloc (.cells #[.slice none 0 0] 85)).alloc (.cells #[.slice none 0 0] 85)) (.cells (PC v) 22); simpa [RowB] using this,
    ((((Below.refl _ _).alloc (Nat.le_refl _) _).alloc (by simp) _).alloc (by simp; omega) _).alloc (by simp; omega) _⟩
  have hsz : ((((w.alloc (.cells (PC v) 22)).alloc (.cells #[.slice none 0 0] 85)).alloc (.cells #[.slice none 0 0] 85)).alloc (.cells (PC v) 22)).heap.size = w.heap.size + 4 := by simp
  have hP0 := hP.keep HI.bl
  obtain ⟨W0, hW0⟩ : ∃ W0, (((w.alloc (.cells (PC v) 22)).alloc (.cells #[.slice none 0 0] 85)).alloc (.cells #[.slice none 0 0] 85)).alloc (.cells (PC v) 22) = W0 := ⟨_, rfl⟩
  rw [hW0] at HI hsz hP0 ⊢
  clear hW0
  refine wpIn_rangeFunc_ownH rfl (by omega) (gf := 57) (lb := #[.pointer (some ⟨w.heap.size + 1 + 1 + 1, 0, none⟩)]) rfl trivial (enters_of Tryd.func57 (by kernel_rfl) rfl)
    (powers_stops Fence.wide (8 - 1) trivial rfl (by omega) (w.heap.size + 3) v W0 (by omega) hP0 HI.c.lc) Kp.trans (fun W l o o' hl h ho _ o2 => by
      rw [World.cell?_of_block ((grownBy_putObj' W l o').block (w.heap.size + 3) (by have := (Array.getElem?_eq_some_iff.1 h).1; show w.heap.size + 3 < _; omega) (by simp; omega))]) (Below.refl _ _) (fun _ => rfl)
    (FrI w v) (fun _ _ _ => False) (FrI.own w v _ (by omega)) (fun _ _ _ _ _ hs _ _ => hs) HI
    (fun x a' W => ∃ Bx, w.heap.size + 3 < Bx ∧ RowB W Bx #[.int .i64 (prI x.i), .int .i64 (v x.i)] 65 ∧ a' = { tmps := #[PV v, .pointer (some ⟨w.heap.size, 0, none⟩), .slice none 0 0, .slice none 0 0, .pointer (some ⟨w.heap.size + 1, 0, none⟩), .pointer (some ⟨w.heap.size + 1 + 1, 0, none⟩), .pointer (some ⟨Bx, 0, none⟩), PV v, .func (.func 57) #[] #[.pointer (some ⟨w.heap.size + 1 + 1 + 1, 0, none⟩)], .agg #[.int .i64 (prI x.i), .int .i64 (v x.i)], undef, undef, undef, undef, undef, undef, undef, undef, undef, undef, undef, undef, undef, undef, undef, undef, undef, undef, undef, undef], defers := [] })
    (fun x a' _ X Y row hs hg hr => by obtain ⟨Bx, h1, h2, h3⟩ := hs; exact ⟨Bx, h1, RowB.own Bx _ _ () X Y row h2 hg (fun r e => (hr r e).2), h3⟩)
    ?assign ?body ?done ?stop
  case assign =>
    intro l pre x W K hI hK
    have hbs := hI.c.lt
    unfold encP
    gi_wp2
    refine hK _ _ ((KeepsOthers.alloc _ _).from _) (hI.c.kp (hI.c.alloc _)) (hI.alloc _) ⟨W.heap.size, hbs, World.alloc_heap_new W _, rfl⟩
  case body =>
    rintro l pre x a' W hl hlr hI ⟨Bx, hBx, bX, rfl⟩ hlt
    have x0 := bX.cell 0
    have x1 := bX.cell 1
    have hBW := bX.lt
    simp at x0 x1
    by_cases hp : 0 < v x.i
    · obtain ⟨va, hva, hra, hna⟩ := hI.a
      have hc := hva.cell
      have hpl := posL_len (v := v) pre
      have hbs := hI.bl.size
      have hxv := hv.out x.i x.lt
      obtain ⟨hx1, hx2⟩ := hxv
      have HI2 := Hx.mk hI
      clear hI
      gi_wp2_with (gi_at_builtin; refine wpListIn_append_own _ rfl _ _ 85 rfl w.heap.size 65 i0 (.agg #[.int .i64 0, .int .i64 0]) 2 16 Tryd.underlying85 hi hz0 hz1 hz2 rfl (by decide) _ _ _ rfl (hra.alloc _) ⟨W.heap.size, 0, none⟩ 1 1 [.int .i64 (prI x.i), .int .i64 (v x.i)] rfl rfl (cell_two_new _ _ _ _) (by simp [Value.oneCell']) (by unfold maxLen; omega) (by omega) (by simp; omega) ?_; intro v' w1 hown' hgrow _; obtain ⟨g', cap', rfl⟩ := ownsRow_succ hown'; obtain ⟨hv1, hv2, hr2, hk2, hb2⟩ := hva.appended (by decide) hra HI2.out.bl.size (by omega) hown' hgrow; have hc1 := hv1.cell; have hf1 := hv1.frozen)
      exact FrI.pos _ HI2.out hp hva hra hna hown' hgrow
    · obtain ⟨va, hva, hra, hna⟩ := hI.b
      have hc := hva.cell
      have hpl := negL_len (v := v) pre
      have hbs := hI.bl.size
      have hxv := hv.out x.i x.lt
      obtain ⟨hx1, hx2⟩ := hxv
      have HI2 := Hx.mk hI
      clear hI
      gi_wp2_with (gi_at_builtin; refine wpListIn_append_own _ rfl _ _ 85 rfl w.heap.size 65 i0 (.agg #[.int .i64 0, .int .i64 0]) 2 16 Tryd.underlying85 hi hz0 hz1 hz2 rfl (by decide) _ _ _ rfl (hra.alloc _) ⟨W.heap.size, 0, none⟩ 1 1 [.int .i64 (prI x.i), .int .i64 (-v x.i)] rfl rfl (cell_two_new _ _ _ _) (by simp [Value.oneCell']) (by unfold maxLen; omega) (by omega) (by simp; omega) ?_; intro v' w1 hown' hgrow _; obtain ⟨g', cap', rfl⟩ := ownsRow_succ hown'; obtain ⟨hv1, hv2, hr2, hk2, hb2⟩ := hva.appended (by decide) hra HI2.out.bl.size (by omega) hown' hgrow; have hc1 := hv1.cell; have hf1 := hv1.frozen)
      exact FrI.neg _ HI2.out (by omega) hva hra hna hown' hgrow
  case done =>
    rintro D ys W hD rfl hI hK
    obtain ⟨va, hva, hra, hna⟩ := hI.a
    obtain ⟨vb, hvb, hrb, hnb⟩ := hI.b
    have hpa := posL_pos hv (ixs v 6)
    have hpb := negL_pos hv (ixs v 6)
    have hla := Nat.le_trans (posL_len (v := v) (ixs v 6)) (ixs_len v 6)
    have hlb := Nat.le_trans (negL_len (v := v) (ixs v 6)) (ixs_len v 6)
    have HA := Hx.mk (prod_posL v 6 (Nat.le_refl _))
    have HB := Hx.mk (prod_negL v 6 (Nat.le_refl _))
    have hfa : Fits (prodL (posL v (ixs v 6))) := by rw [HA.out]; exact fits_up fun i hi => (hv.out i hi).2
    have hfb : Fits (prodL (negL v (ixs v 6))) := by rw [HB.out]; exact fits_up fun i hi => by have := (hv.out i hi).1; simp only [neg]; omega
    have HS : FrE w va vb (posL v (ixs v 6)) (negL v (ixs v 6)) D W := ⟨hva, hvb, hra, hrb, hK, hI.bl⟩
    clear hI hva hvb hra hrb hK hna hnb HI hP0 hP
    generalize posL v (ixs v 6) = A at *
    generalize negL v (ixs v 6) = B at *
    have HD := HS.drew.all
    obtain ⟨_, c1, c2⟩ := HS.all
    gi_wp2
    refine wpIn_wide.2 ?_
    go_region_held3 (fun W' => FrE w va vb A B D W' ∧ W'.cell? ⟨w.heap.size + 1, 0, none⟩ = some va ∧ W'.cell? ⟨w.heap.size + 1 + 1, 0, none⟩ = some vb)
      (first | (with_reducible assumption) | (refine FrE.all ?_; with_reducible assumption) | (refine FrE.allX ?_; with_reducible assumption))
      (first
        | (go_at_call_of 62 va; refine (prod_a hpa hla hfa (And.left (by assumption))).mono ?_; rintro e w' ⟨ua, rfl, hna, hS', hba⟩)
        | (go_at_call_of 62 vb; refine (prod_b hpb hlb hfb (And.left (by assumption))).mono ?_; rintro e w' ⟨ub, rfl, hnb, hS', hbb⟩))
    all_goals
      (try simp only [Exit.inBlock, Exit.then])
      have HNa : Hx (Nm w' ua (prodL A)) := ⟨by first | exact hna | exact hna.keep hbb | exact hna.drew.keep hbb⟩
      have HNb : Hx (Nm w' ub (prodL B)) := ⟨by first | exact hnb | exact hnb.keep hba | exact hnb.drew.keep hba⟩
      have HE := Hx.mk hS'
      clear hna hnb hba hbb
      gi_wp2
      refine ⟨by simp, .inl ⟨_, _, rfl, run_takeDeferred HE.out.d, ?_⟩⟩
      refine ⟨.tuple #[ua, ub], by simp [results, Tryd.results48, go_sem], ua, ub, rfl, ?_, ?_, HE.out.bl.trans (belowK_b (w := w) (Nat.le_refl _) _ D _ _ (by omega) HE.out.d rfl rfl)⟩
      · rw [HA.out] at HNa; exact HNa.out.put (o := .deferred (some [])) HE.out.d rfl
      · rw [HB.out] at HNb; exact HNb.out.put (o := .deferred (some [])) HE.out.d rfl
  case stop =>
    rintro D c pre W _ _ h _
    exact h.elim
end Go.Proofs.YtomgihlkbmaleaaDoor

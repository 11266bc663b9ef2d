/- pitch.sign. -/
import Derived.Test.YtomgihlkbmaleaaDoorP8
namespace Go.Proofs.YtomgihlkbmaleaaDoor
open Go.RowKit M
attribute [local go_sem] Oper.semAt_some
/-- The greatest common divisor of what has come, and of the first n. -/
def gcdL (v : Nat → Int) (l : List (Ix v)) : Nat := l.foldl (fun g x => Nat.gcd g (v x.i).natAbs) 0
def gN (v : Nat → Int) : Nat → Nat
  | 0 => 0
  | n + 1 => Nat.gcd (gN v n) (v n).natAbs
theorem gcdL_snoc {v : Nat → Int} (l : List (Ix v)) (x : Ix v) : gcdL v (l ++ [x]) = Nat.gcd (gcdL v l) (v x.i).natAbs := by simp [gcdL]
theorem gcdL_ixs (v : Nat → Int) (n : Nat) (hn : n ≤ 6) : gcdL v (ixs v n) = gN v n := by
  induction n with
  | zero => rfl
  | succ n ih =>
    have ih := ih (by omega)
    by_cases h : n < 6 ∧ v n ≠ 0
    · rw [ixs_take h, gcdL_snoc, ih]; rfl
    · have hz : v n = 0 := by
        refine Decidable.byContradiction fun hz => h ⟨by omega, hz⟩
      rw [ixs_skip hz, ih, gN, hz]; simp
theorem gN_dvd (v : Nat → Int) (n : Nat) : ∀ i, i < n → (gN v n : Int) ∣ v i := by
  induction n with
  | zero => intro i hi; omega
  | succ n ih =>
    intro i hi
    by_cases e : i = n
    · subst e; exact Int.ofNat_dvd_left.2 (Nat.gcd_dvd_right _ _)
    · exact Int.dvd_trans (Int.ofNat_dvd.2 (Nat.gcd_dvd_left _ _)) (ih i (by omega))
theorem gN_zero (v : Nat → Int) (n : Nat) (h : gN v n = 0) : ∀ i, i < n → v i = 0 := fun i hi => by
  have := gN_dvd v n i hi
  rw [h] at this
  exact Int.zero_dvd.1 this
theorem gcdL_le {v : Nat → Int} (hv : Hx (Lim 1152 v)) (l : List (Ix v)) : gcdL v l ≤ 1152 := by
  rcases List.eq_nil_or_concat l with rfl | ⟨k, x, rfl⟩
  · simp [gcdL]
  · rw [List.concat_eq_append, gcdL_snoc]
    have h1 := Nat.gcd_dvd_right (gcdL v k) (v x.i).natAbs
    have h2 := Nat.le_of_dvd (by have := x.ne; omega) h1
    have := hv.out x.i x.lt
    omega
theorem sg_of_gN {v u : Nat → Int} (h : gN v 6 ≠ 0) (hu : ∀ i, i < 6 → v i = (gN v 6 : Int) * u i) : sg u = sg v := by
  have h1 := sg_smul (k := gN v 6) (by omega) u
  rw [← h1]; exact sg_congr fun i hi => (hu i hi).symm
theorem bd_quoK {v d u : Int} (hd : 0 < d) (h : v = d * u) (l : -1152 ≤ v) (t : v ≤ 1152) : -1152 ≤ u ∧ u ≤ 1152 := by
  subst h
  constructor
  · refine Int.not_lt.1 fun hn => ?_
    have : d * u ≤ 1 * u := Int.mul_le_mul_of_nonpos_right (by omega) (by omega)
    omega
  · refine Int.not_lt.1 fun hn => ?_
    have : 1 * u ≤ d * u := Int.mul_le_mul_of_nonneg_right (by omega) (by omega)
    omega
theorem RowB.frozen {W : World} {b : Nat} {cs : Array Value} {t : TypeId} (h : RowB W b cs t) (o : Nat) : W.frozen? ⟨b, o, none⟩ = false := by simp [World.frozen?, show W.heap[b]? = _ from h]
/-- What sign's loop keeps. -/
structure SgI (w0 : World) (v : Nat → Int) (pre : List (Ix v)) (W : World) : Prop where
  a : Boxed W (w0.heap.size + 1) 3 (.int .i64 ((gcdL v pre : Nat) : Int))
  l : RowB W w0.heap.size (PC v) 22
  c : RowB W (w0.heap.size + 2) (PC v) 22
  bl : Below w0.heap.size w0 W
theorem SgI.own (w0 : World) (v : Nat → Int) (B : Nat) (hB : w0.heap.size ≤ B) : OwnFrom B (SgI w0 v) := by
  intro s X Y row hs hg hr
  have hr' : ∀ r, row = some r → ∃ o : Obj, X.heap[r]? = some o ∧ o.isCells = false := fun r e => (hr r e).2
  exact ⟨boxed_own _ 3 (fun pre => Value.int .i64 ((gcdL v pre : Nat) : Int)) s X Y row hs.a hg hr', RowB.own _ _ _ s X Y row hs.l hg hr',
    RowB.own _ _ _ s X Y row hs.c hg hr', ownFrom_below (β := List (Ix v)) (Nat.le_refl _) hB s X Y row hs.bl hg hr⟩
theorem SgI.alloc {w0 : World} {v : Nat → Int} {pre : List (Ix v)} {W : World} (h : SgI w0 v pre W) (o : Obj) : SgI w0 v pre (W.alloc o) := ⟨h.a.alloc _, h.l.alloc _, h.c.alloc _, h.bl.alloc h.bl.size _⟩
theorem SgI.step {w0 : World} {v : Nat → Int} {pre : List (Ix v)} {x : Ix v} {W : World} (B d : Nat) (h : SgI w0 v pre W) :
    KeepsFrom B W ((W.drewN d).setCell ⟨w0.heap.size + 1, 0, none⟩ (.int .i64 ((gcdL v (pre ++ [x]) : Nat) : Int))) ∧ Kp (w0.heap.size + 2) W ((W.drewN d).setCell ⟨w0.heap.size + 1, 0, none⟩ (.int .i64 ((gcdL v (pre ++ [x]) : Nat) : Int))) ∧
    SgI w0 v (pre ++ [x]) ((W.drewN d).setCell ⟨w0.heap.size + 1, 0, none⟩ (.int .i64 ((gcdL v (pre ++ [x]) : Nat) : Int))) := by
  have h1 : SgI w0 v pre (W.drewN d) := ⟨h.a, h.l, h.c, below_drewN h.bl d⟩
  have hk : KeepsOthers W (W.drewN d) := ⟨Nat.le_refl _, fun _ _ h _ => h⟩
  have hc := h1.c.set_other (B := w0.heap.size + 1) (by omega) (.int .i64 ((gcdL v (pre ++ [x]) : Nat) : Int))
  exact ⟨(hk.trans (KeepsOthers.setCell _ _ _)).from _, h.c.kp hc, h1.a.set _, h1.l.set_other (B := w0.heap.size + 1) (by omega) _, hc, h1.bl.setCell (p := ⟨w0.heap.size + 1, 0, none⟩) (by simp) _⟩
def OutS (w : World) (x : Int) (e : Ending) (w' : World) : Prop := e = .returned (.int .i64 x) ∧ Below w.heap.size w w'
set_option maxRecDepth 100000 in
set_option maxHeartbeats 4000000 in
theorem psign_any (v : Nat → Int) (w : World) (hv : Hx (Lim 1152 v)) (hP : Pm w) : Calls Tryd.prog 26 #[PV v] w (OutS w (sg v)) := by
  refine (callsIn_wide (n := 8)).1 ?_
  refine callsIn_of_wp_marks Tryd.func26 rfl trivial ?_ rfl
  simp only [Tryd.ntmps26, List.size_toArray, List.length_cons, List.length_nil, Nat.reduceAdd, Nat.reduceSub, Array.replicate_succ, Array.replicate_zero, List.push_toArray, List.append_toArray, List.nil_append, List.cons_append]
  gi_wp2_with (refine ⟨trivial, ?_⟩; gi_at_call 44; refine (powers_in Fence.wide _ trivial rfl _ _).mono ?_; rintro e w' ⟨rfl, rfl⟩)
  have HI : SgI w v [] (((w.alloc (.cells (PC v) 22)).alloc (.cells #[.int .i64 0] 3)).alloc (.cells (PC v) 22)) := ⟨by have := (Boxed.new (w.alloc (.cells (PC v) 22)) 3 (.int .i64 0)).alloc (.cells (PC v) 22); simpa [gcdL] using this,
    by have := World.alloc_heap_new w (.cells (PC v) 22); exact RowB.alloc (RowB.alloc this _) _,
    by have := World.alloc_heap_new ((w.alloc (.cells (PC v) 22)).alloc (.cells #[.int .i64 0] 3)) (.cells (PC v) 22); simpa [RowB] using this,
    (((Below.refl _ _).alloc (Nat.le_refl _) _).alloc (by simp) _).alloc (by simp; omega) _⟩
  have hsz : (((w.alloc (.cells (PC v) 22)).alloc (.cells #[.int .i64 0] 3)).alloc (.cells (PC v) 22)).heap.size = w.heap.size + 3 := by simp
  have hP0 := hP.keep HI.bl
  obtain ⟨W0, hW0⟩ : ∃ W0, ((w.alloc (.cells (PC v) 22)).alloc (.cells #[.int .i64 0] 3)).alloc (.cells (PC v) 22) = W0 := ⟨_, rfl⟩
  rw [hW0] at HI hsz hP0 ⊢
  clear hW0
  refine wpIn_rangeFunc_ownH rfl (by omega) (gf := 57) (lb := #[.pointer (some ⟨w.heap.size + 1 + 1, 0, none⟩)]) rfl trivial (enters_of Tryd.func57 (by kernel_rfl) rfl)
    (powers_stops Fence.wide (8 - 1) trivial rfl (by omega) (w.heap.size + 2) v W0 (by omega) hP0 HI.c.lc) Kp.trans (fun W l o o' hl h ho _ o2 => by
      rw [World.cell?_of_block ((grownBy_putObj' W l o').block (w.heap.size + 2) (by have := (Array.getElem?_eq_some_iff.1 h).1; show w.heap.size + 2 < _; omega) (by simp; omega))]) (Below.refl _ _) (fun _ => rfl)
    (SgI w v) (fun _ _ _ => False) (SgI.own w v _ (by omega)) (fun _ _ _ _ _ hs _ _ => hs) HI
    (fun x a' W => ∃ Bx, w.heap.size + 2 < Bx ∧ RowB W Bx #[.int .i64 (prI x.i), .int .i64 (v x.i)] 65 ∧ a' = { tmps := #[PV v, .pointer (some ⟨w.heap.size, 0, none⟩), .int .i64 0, .pointer (some ⟨w.heap.size + 1, 0, none⟩), .pointer (some ⟨Bx, 0, none⟩), undef, undef, PV v, .func (.func 57) #[] #[.pointer (some ⟨w.heap.size + 1 + 1, 0, none⟩)], .agg #[.int .i64 (prI x.i), .int .i64 (v x.i)], undef, undef, undef, undef, undef, undef, undef, undef, undef, undef, undef, undef, undef, undef, undef, undef, undef, undef, undef, undef, undef], defers := [] })
    (fun x a' _ X Y row hs hg hr => by obtain ⟨Bx, h1, h2, h3⟩ := hs; exact ⟨Bx, h1, RowB.own Bx _ _ () X Y row h2 hg (fun r e => (hr r e).2), h3⟩)
    ?assign ?body ?done ?stop
  case assign =>
    intro l pre x W K hI hK
    have hbs := hI.c.lt
    unfold encP
    gi_wp2
    exact hK _ _ ((KeepsOthers.alloc _ _).from _) (hI.c.kp (hI.c.alloc _)) (hI.alloc _) ⟨W.heap.size, hbs, World.alloc_heap_new W _, rfl⟩
  case body =>
    rintro l pre x a' W hl hlr hI ⟨Bx, hBx, bX, rfl⟩ hlt
    have x1 := bX.cell 1
    have hBW := bX.lt
    simp at x1
    have hc := hI.a.cell
    have hf := hI.a.frozen
    have hg1 := gcdL_le hv pre
    have hx := hv.out x.i x.lt
    have HG := Hx.mk (gcdL_snoc pre x)
    have HI2 := Hx.mk hI
    have HD := Hx.mk (fun w => divisor_any (gcdL v pre : Nat) (v x.i) (Nat.gcd (gcdL v pre) (v x.i).natAbs) w (by omega) (by omega) (by omega) (by omega) (by simp))
    rw [← HG.out] at HD
    obtain ⟨hx1, hx2⟩ := hx
    clear hI
    gi_wp2_with (refine ⟨trivial, ?_⟩; gi_at_call 45; refine (CallsIn.inRound l (callsIn_wide.2 (HD.out _))).mono ?_; rintro e w' ⟨rfl, d, rfl⟩)
    exact HI2.out.step _ d
  case done =>
    rintro D ys W hD rfl hI hK
    have hlv := gcdL_le hv (ixs v 6)
    rw [gcdL_ixs v 6 (Nat.le_refl _)] at hlv
    have hA := hI.a
    rw [gcdL_ixs v 6 (Nat.le_refl _)] at hA
    have hc := hA.cell
    have hP1 := hP.keep hI.bl
    have HI2 := Hx.mk hI
    have HK := Hx.mk hK
    have HDv := Hx.mk (gN_dvd v 6)
    by_cases h0 : gN v 6 = 0
    · have HZ := Hx.mk (show sg v = 0 from sg_zero.2 (gN_zero v 6 h0))
      rw [h0] at hc
      clear hI hK h0 hA
      gi_wp2
      refine ⟨by simp, .inl ⟨_, _, rfl, run_takeDeferred HK.out, ?_⟩⟩
      exact ⟨_, results_tmp rfl _ _ _, by rw [HZ.out]; rfl, HI2.out.bl.trans (belowK_b (w := w) (Nat.le_refl _) W D _ _ (by omega) HK.out rfl rfl)⟩
    · have hz : ((gN v 6 : Int) == 0) = false := beq_eq_false_iff_ne.2 (by omega)
      obtain ⟨u, hu⟩ : ∃ u : Nat → Int, ∀ i, i < 6 → v i = (gN v 6 : Int) * u i := by
        refine ⟨fun i => v i / (gN v 6 : Int), fun i hi => (Int.mul_ediv_cancel' (HDv.out i hi)).symm⟩
      have HSu := Hx.mk (sg_of_gN h0 hu)
      have HU := Hx.mk hu
      have hgp : 0 < (gN v 6 : Int) := by omega
      have Hv6 : Hx (Lim 1000000 v) := ⟨fun i hi => by have := hv.out i hi; omega⟩
      have Hu6 : Hx (Lim 1152 u) := ⟨fun i hi => bd_quoK hgp (HU.out i hi) (hv.out i hi).1 (hv.out i hi).2⟩
      have k0 := HI2.out.l.cell 0; have k1 := HI2.out.l.cell 1; have k2 := HI2.out.l.cell 2; have k3 := HI2.out.l.cell 3; have k4 := HI2.out.l.cell 4; have k5 := HI2.out.l.cell 5
      simp at k0 k1 k2 k3 k4 k5
      clear hI hK h0 hA hu
      gi_wp2_with (refine ⟨trivial, ?_⟩; gi_at_call 46; refine (callsIn_wide.2 (divided_yes v u (gN v 6) _ hgp (by omega) Hv6 HU)).mono ?_; rintro e w3 ⟨rfl, hb3⟩; have hr3 : RowB w3 w.heap.size (PC v) 22 := (hb3.block _ HI2.out.l.lt).trans HI2.out.l; have m0 : w3.cell? ⟨w.heap.size, 0, none⟩ = some (.int .i64 (v 0)) := hr3.cell 0; have f0 : w3.frozen? ⟨w.heap.size, 0, none⟩ = false := hr3.frozen 0; have m1 : w3.cell? ⟨w.heap.size, 1, none⟩ = some (.int .i64 (v 1)) := hr3.cell 1; have f1 : w3.frozen? ⟨w.heap.size, 1, none⟩ = false := hr3.frozen 1; have m2 : w3.cell? ⟨w.heap.size, 2, none⟩ = some (.int .i64 (v 2)) := hr3.cell 2; have f2 : w3.frozen? ⟨w.heap.size, 2, none⟩ = false := hr3.frozen 2; have m3 : w3.cell? ⟨w.heap.size, 3, none⟩ = some (.int .i64 (v 3)) := hr3.cell 3; have f3 : w3.frozen? ⟨w.heap.size, 3, none⟩ = false := hr3.frozen 3; have m4 : w3.cell? ⟨w.heap.size, 4, none⟩ = some (.int .i64 (v 4)) := hr3.cell 4; have f4 : w3.frozen? ⟨w.heap.size, 4, none⟩ = false := hr3.frozen 4; have m5 : w3.cell? ⟨w.heap.size, 5, none⟩ = some (.int .i64 (v 5)) := hr3.cell 5; have f5 : w3.frozen? ⟨w.heap.size, 5, none⟩ = false := hr3.frozen 5)
      have hB4 : Below w.heap.size w ((((((w3.setCell ⟨w.heap.size, 0, none⟩ (.int .i64 (u 0))).setCell ⟨w.heap.size, 1, none⟩ (.int .i64 (u 1))).setCell ⟨w.heap.size, 2, none⟩ (.int .i64 (u 2))).setCell ⟨w.heap.size, 3, none⟩ (.int .i64 (u 3))).setCell ⟨w.heap.size, 4, none⟩ (.int .i64 (u 4))).setCell ⟨w.heap.size, 5, none⟩ (.int .i64 (u 5))) := by
        refine Below.setCell (p := ⟨w.heap.size, 5, none⟩) ?_ (Nat.le_refl w.heap.size) _
        refine Below.setCell (p := ⟨w.heap.size, 4, none⟩) ?_ (Nat.le_refl w.heap.size) _
        refine Below.setCell (p := ⟨w.heap.size, 3, none⟩) ?_ (Nat.le_refl w.heap.size) _
        refine Below.setCell (p := ⟨w.heap.size, 2, none⟩) ?_ (Nat.le_refl w.heap.size) _
        refine Below.setCell (p := ⟨w.heap.size, 1, none⟩) ?_ (Nat.le_refl w.heap.size) _
        refine Below.setCell (p := ⟨w.heap.size, 0, none⟩) ?_ (Nat.le_refl w.heap.size) _
        exact HI2.out.bl.trans (hb3.mono HI2.out.bl.size)
      have hD4 : ((((((w3.setCell ⟨w.heap.size, 0, none⟩ (.int .i64 (u 0))).setCell ⟨w.heap.size, 1, none⟩ (.int .i64 (u 1))).setCell ⟨w.heap.size, 2, none⟩ (.int .i64 (u 2))).setCell ⟨w.heap.size, 3, none⟩ (.int .i64 (u 3))).setCell ⟨w.heap.size, 4, none⟩ (.int .i64 (u 4))).setCell ⟨w.heap.size, 5, none⟩ (.int .i64 (u 5))).heap[D]? = some (.deferred (some [])) := by
        have hne : D ≠ w.heap.size := by omega
        rw [Below.heap_setCell _ _ _ D hne, Below.heap_setCell _ _ _ D hne, Below.heap_setCell _ _ _ D hne, Below.heap_setCell _ _ _ D hne, Below.heap_setCell _ _ _ D hne, Below.heap_setCell _ _ _ D hne]
        exact (hb3.block D (Array.getElem?_eq_some_iff.1 HK.out).1).trans HK.out
      have HB4 := Hx.mk hB4
      have HD4 := Hx.mk hD4
      have hP4 := Hx.mk (hP.keep hB4)
      clear hB4 hD4 hr3 hb3 hP hP0 hP1 HI HI2 HK hc HDv HU k0 k1 k2 k3 k4 k5 m0 m1 m2 m3 m4 m5 f0 f1 f2 f3 f4 f5
      generalize (((((w3.setCell ⟨w.heap.size, 0, none⟩ (.int .i64 (u 0))).setCell ⟨w.heap.size, 1, none⟩ (.int .i64 (u 1))).setCell ⟨w.heap.size, 2, none⟩ (.int .i64 (u 2))).setCell ⟨w.heap.size, 3, none⟩ (.int .i64 (u 3))).setCell ⟨w.heap.size, 4, none⟩ (.int .i64 (u 4))).setCell ⟨w.heap.size, 5, none⟩ (.int .i64 (u 5)) = W4 at *
      refine ⟨trivial, ?_⟩
      refine (callsIn_wide.2 (fraction_any u _ Hu6 hP4.out)).mono ?_
      rintro e w5 ⟨a, b, rfl, na, nb, hb5⟩
      have HL : Hx (Live w5 [(a, up u), (b, dn u)]) := ⟨fun p hp => by
        rcases List.mem_cons.1 hp with rfl | hp
        · exact na
        · rcases List.mem_singleton.1 hp with rfl; exact nb⟩
      have HB5 := Hx.mk (HB4.out.trans (hb5.mono HB4.out.size))
      have HD5 := Hx.mk ((hb5.block D (Array.getElem?_eq_some_iff.1 HD4.out).1).trans HD4.out)
      clear na nb hb5 HB4 HD4 hP4
      gi_wp2_with (refine ⟨trivial, ?_⟩; gi_at_call 47; refine (callsIn_wide.2 (cmp_ok (a := up u) (b := dn u) HL.out (by simp) (by simp))).mono ?_; rintro e w6 ⟨rfl, _, hb6⟩)
      refine ⟨by simp, .inl ⟨_, _, rfl, run_takeDeferred ((hb6.block D (Array.getElem?_eq_some_iff.1 HD5.out).1).trans HD5.out), ?_⟩⟩
      have hB6 := HB5.out.trans (hb6.mono HB5.out.size)
      exact ⟨_, results_tmp rfl _ _ _, by rw [← HSu.out]; rfl, hB6.trans (belowK_b (w := w) (Nat.le_refl _) _ D _ _ (by omega) ((hb6.block D (Array.getElem?_eq_some_iff.1 HD5.out).1).trans HD5.out) rfl rfl)⟩
  case stop =>
    rintro D c pre W _ _ h _
    exact h.elim
end Go.Proofs.YtomgihlkbmaleaaDoor

/- pitch.text. -/
import Derived.Test.YtdlfnonlalkjdaaGreatDoorP14
namespace Go.Proofs.YtdlfnonlalkjdaaGreatDoor
open Go.RowKit M
open Go.Lib (itoa)
attribute [local go_sem] Oper.semAt_some
theorem Tryz.info9 : (Tryz.prog.info? 9).map (fun i => (i.zero, i.size, i.bytes)) = some (some (.string ⟨#[]⟩), 1, 16) := by kernel_rfl
def strs (v : Nat → Int) (l : List (Ix v)) : List Value := l.map fun x => .string (strL (termL (pr x.i) (v x.i)))
theorem strs_snoc {v : Nat → Int} (l : List (Ix v)) (x : Ix v) : strs v (l ++ [x]) = strs v l ++ [.string (strL (termL (pr x.i) (v x.i)))] := by simp [strs]
/-- What text's loop keeps. -/
structure TxI (w0 : World) (v : Nat → Int) (pre : List (Ix v)) (W : World) : Prop where
  a : ∃ vt, Boxed W (w0.heap.size + 1) 83 vt ∧ W.ownsRow w0.heap.size 9 1 vt pre.length (strs v pre) ∧ (vt = .slice none 0 0 ∨ pre ≠ [])
  c : RowB W (w0.heap.size + 2) (PC v) 22
  bl : Below w0.heap.size w0 W
theorem TxI.own (w0 : World) (v : Nat → Int) (B : Nat) (hB : w0.heap.size ≤ B) : OwnFrom B (TxI w0 v) := by
  intro s X Y row hs hg hr
  have hr' : ∀ r, row = some r → ∃ o : Obj, X.heap[r]? = some o ∧ o.isCells = false := fun r e => (hr r e).2
  exact ⟨holdsRow_own _ _ 83 9 1 (fun pre : List (Ix v) => pre.length) (fun pre => strs v pre) (fun pre va => va = .slice none 0 0 ∨ pre ≠ []) s X Y row hs.a hg hr',
    RowB.own _ _ _ s X Y row hs.c hg hr', ownFrom_below (β := List (Ix v)) (Nat.le_refl _) hB s X Y row hs.bl hg hr⟩
theorem TxI.alloc {w0 : World} {v : Nat → Int} {pre : List (Ix v)} {W : World} (h : TxI w0 v pre W) (o : Obj) : TxI w0 v pre (W.alloc o) :=
  ⟨let ⟨va, h1, h2, h3⟩ := h.a; ⟨va, h1.alloc _, h2.alloc _, h3⟩, h.c.alloc _, h.bl.alloc h.bl.size _⟩
theorem TxI.later {w0 : World} {v : Nat → Int} {pre : List (Ix v)} {W W' : World} (h : TxI w0 v pre W) (hb : Below W.heap.size W W') : TxI w0 v pre W' :=
  ⟨let ⟨va, h1, h2, h3⟩ := h.a; ⟨va, (hb.block _ h1.lt).trans h1, row_below h2 hb, h3⟩, (hb.block _ h.c.lt).trans h.c, h.bl.trans (hb.mono h.bl.size)⟩
theorem keepsFrom_below {B : Nat} {W W' : World} (hb : Below W.heap.size W W') : KeepsFrom B W W' := ⟨hb.size, fun k o _ hk _ => (hb.block k (Array.getElem?_eq_some_iff.1 hk).1).trans hk⟩
theorem TxI.step {w0 : World} {v : Nat → Int} {pre : List (Ix v)} {W Wc w1 : World} {x : Ix v} {vt v' : Value} {tmp : Obj} (B : Nat) (hI : TxI w0 v pre W) (hb : Below W.heap.size W Wc) (hvt : Boxed Wc (w0.heap.size + 1) 83 vt) (hrt : Wc.ownsRow w0.heap.size 9 1 vt pre.length (strs v pre))
    (hown' : w1.ownsRow w0.heap.size 9 1 v' (pre.length + 1) (strs v pre ++ [.string (strL (termL (pr x.i) (v x.i)))])) (hgrow : (Wc.alloc tmp).grownBy w1 vt.ownBlock) :
    KeepsFrom B W (w1.setCell ⟨w0.heap.size + 1, 0, none⟩ v') ∧ Kp (w0.heap.size + 2) W (w1.setCell ⟨w0.heap.size + 1, 0, none⟩ v') ∧ TxI w0 v (pre ++ [x]) (w1.setCell ⟨w0.heap.size + 1, 0, none⟩ v') := by
  have hIc := hI.later hb
  obtain ⟨hv1, hv2, hr2, hk2, hb2⟩ := hvt.appended (by decide) hrt hIc.bl.size (by omega) hown' hgrow
  have hc2 := ((hIc.c.alloc tmp).kept hgrow (hIc.c.not_row (by decide) hrt)).set_other (B := w0.heap.size + 1) (by omega) v'
  refine ⟨(keepsFrom_below hb).trans (hk2.from _), hI.c.kp hc2, ⟨v', hv2, ?_, .inr (by simp)⟩, hc2, hIc.bl.trans hb2⟩
  rw [strs_snoc, List.length_append, List.length_singleton]
  exact hr2
theorem termL_len (p : Nat) (e : Int) (hp : p ≤ 13) (h0 : -576 ≤ e) (h1 : e ≤ 576) : (termL p e).length ≤ 40 := by
  have l1 := itoa_len (p : Int) (by omega) (by omega)
  have hq := bd_quoK (v := e) (d := (gE e : Int)) (u := e / (gE e : Int)) (by have := gE_pos e; omega) (gE_mul e).symm (by omega) (by omega)
  have l2 := itoa_len (e / (gE e : Int)) (by omega) (by omega)
  have hd : 12 / gE e ≤ 12 := Nat.div_le_self _ _
  have l3 : (itoa ((12 / gE e : Nat) : Int)).length ≤ 11 := by
    generalize 12 / gE e = q at hd ⊢
    exact itoa_len _ (by omega) (by omega)
  unfold termL tailL
  rw [List.length_append]
  split
  · simp; omega
  · rw [List.length_cons, List.length_append]
    split
    · rw [List.length_cons]; omega
    · simp; omega
theorem lens_le (L : List (List UInt8)) (h : ∀ l ∈ L, l.length ≤ 40) : Lib.lens L ≤ 40 * L.length := by
  induction L with
  | nil => simp [Lib.lens]
  | cons a L ih =>
    have h1 := ih fun l hl => h l (by simp [hl])
    have h2 := h a (by simp)
    simp [Lib.lens] at h1 ⊢
    omega
theorem join_row {v : Nat → Int} {W : World} {base g cap : Nat} (hv : Hx (Lim 576 v)) (h : W.ownsRow base 9 1 (.slice (some ⟨g, 0, none⟩) (ixs v 6).length cap) (ixs v 6).length (strs v (ixs v 6))) (hg : g < W.heap.size) (hcap : (ixs v 6).length ≤ cap) :
    Calls Tryz.prog 56 #[.slice (some ⟨g, 0, none⟩) (ixs v 6).length cap, .string ⟨#[42]⟩] W fun e w' => e = .returned (.string (strL (Lib.join (termsL v (ixs v 6)) [42]))) ∧ Below W.heap.size W w' := by
  have hl6 := ixs_len v 6
  have hm : ((termsL v (ixs v 6)).map strL).map (·.data.toList) = termsL v (ixs v 6) := by simp [List.map_map, Function.comp_def]
  have hlen : (Lib.join (termsL v (ixs v 6)) [42]).length ≤ 140737488355328 := by
    have hb := lens_le (termsL v (ixs v 6)) (fun l hl => by
      obtain ⟨x, _, rfl⟩ := List.mem_map.1 hl
      have := hv.out x.i x.lt
      exact termL_len _ _ (pr_le _) (by omega) (by omega))
    have hlt : (termsL v (ixs v 6)).length = (ixs v 6).length := by simp [termsL]
    cases hc : termsL v (ixs v 6) with
    | nil => rw [Lib.join_nil]; simp
    | cons a r =>
      rw [Lib.join_length]
      rw [hc] at hb hlt
      simp at hlt
      simp at hb ⊢
      omega
  have := Tryz.strings_Join g 0 cap ((termsL v (ixs v 6)).map strL) ⟨#[42]⟩ W (fun j x hx => by
    have hc := h.cells (g := g) rfl j (.string x) (by
      simp only [strs, List.getElem?_map] at hx ⊢
      simp only [termsL, List.getElem?_map] at hx
      cases hj : (ixs v 6)[j]? with
      | none => rw [hj] at hx; simp at hx
      | some y => rw [hj] at hx; simp at hx ⊢; exact hx)
    have hadd : (⟨g, 0, none⟩ : Addr).add j = ⟨g, j, none⟩ := by unfold Addr.add; split <;> simp_all
    rw [hadd] at hc; rw [Nat.zero_add]; exact hc) hg (by simp [termsL]; omega) (by simp [termsL]; omega) (by rw [hm]; exact hlen)
  rw [hm] at this
  simpa [termsL] using this
/-- An append inside a region, by its run. -/
theorem opIn_append {F : Fence} {n : Nat} {P : Program} {o : Oper} {a : Act} {w w' : World} {K : Act → World → Prop} {Q : Exit → Act → World → Prop} {s x : Operand} {t : TypeId} {v u v' : Value}
    (hop : o.op = Op.call { callee := Callee.builtin Builtin.append, args := #[s, x], argTypes := #[t, t] }) (hrun : (Builtin.append_ #[t, t] o.type #[v, u]).run P w = .ok v' w') (hs : a.eval s = v) (hx : a.eval x = u) (hK : K (a.put o.dst v') w') : o.wpIn F n P a w K Q := by
  unfold Oper.wpIn
  refine ⟨?_, ?_⟩
  · simp [Oper.about, hop, resolve, Target.leads, Sem.run_pure]
  · rw [Oper.semAt_plain F _ _ (by rw [hop]; intro c hc'; cases hc')]
    simp [execOp, hop, resolve, invoke, builtin, hs, hx, hrun, Result.andThen]
    exact hK
set_option maxRecDepth 100000 in
set_option maxHeartbeats 4000000 in
theorem ptext_any (v : Nat → Int) (w : World) (hv : Hx (Lim 576 v)) (hP : Pm w) (hT : Tb w) : Calls Tryz.prog 41 #[PV v] w fun e w' => e = .returned (.string (strL (textL v))) ∧ Below w.heap.size w w' := by
  obtain ⟨i0, hi, hz0, hz1, hz2⟩ := info_parts Tryz.info9
  refine (callsIn_wide (n := 8)).1 ?_
  refine callsIn_of_wp_marks Tryz.func41 rfl trivial ?_ rfl
  simp only [Tryz.ntmps41, List.size_toArray, List.length_cons, List.length_nil, Nat.reduceAdd, Nat.reduceSub, Array.replicate_succ, Array.replicate_zero, List.push_toArray, List.append_toArray, List.nil_append, List.cons_append]
  gi_wp2_with (refine ⟨trivial, ?_⟩; gi_at_call 46; refine (powers_in Fence.wide _ trivial rfl _ _).mono ?_; rintro e w' ⟨rfl, rfl⟩)
  have HI : TxI w v [] (((w.alloc (.cells (PC v) 23)).alloc (.cells #[.slice none 0 0] 83)).alloc (.cells (PC v) 22)) := ⟨⟨_, by have := (Boxed.new (w.alloc (.cells (PC v) 23)) 83 (.slice none 0 0)).alloc (.cells (PC v) 22); simpa using this, World.ownsRow_nil _ _ _ _, .inl rfl⟩,
    by have := World.alloc_heap_new ((w.alloc (.cells (PC v) 23)).alloc (.cells #[.slice none 0 0] 83)) (.cells (PC v) 22); simpa [RowB] using this,
    (((Below.refl _ _).alloc (Nat.le_refl _) _).alloc (by simp) _).alloc (by simp; omega) _⟩
  have hsz : (((w.alloc (.cells (PC v) 23)).alloc (.cells #[.slice none 0 0] 83)).alloc (.cells (PC v) 22)).heap.size = w.heap.size + 3 := by simp
  have hP0 := hP.keep HI.bl
  obtain ⟨W0, hW0⟩ : ∃ W0, ((w.alloc (.cells (PC v) 23)).alloc (.cells #[.slice none 0 0] 83)).alloc (.cells (PC v) 22) = W0 := ⟨_, rfl⟩
  rw [hW0] at HI hsz hP0 ⊢
  clear hW0
  refine wpIn_rangeFunc_ownH rfl (by omega) (gf := 62) (lb := #[.pointer (some ⟨w.heap.size + 1 + 1, 0, none⟩)]) rfl trivial (enters_of Tryz.func62 (by kernel_rfl) rfl)
    (powers_stops Fence.wide (8 - 1) trivial rfl (by omega) (w.heap.size + 2) v W0 (by omega) hP0 HI.c.lc) Kp.trans (fun W l o o' hl h ho _ o2 => by
      rw [World.cell?_of_block ((grownBy_putObj' W l o').block (w.heap.size + 2) (by have := (Array.getElem?_eq_some_iff.1 h).1; show w.heap.size + 2 < _; omega) (by simp; omega))]) (Below.refl _ _) (fun _ => rfl)
    (TxI w v) (fun _ _ _ => False) (TxI.own w v _ (by omega)) (fun _ _ _ _ _ hs _ _ => hs) HI
    (fun x a' W => ∃ Bx, w.heap.size + 2 < Bx ∧ RowB W Bx #[.int .i64 (prI x.i), .int .i64 (v x.i)] 73 ∧ a' = { tmps := #[PV v, .pointer (some ⟨w.heap.size, 0, none⟩), .string ⟨#[]⟩, .pointer (some ⟨w.heap.size + 1, 0, none⟩), .pointer (some ⟨Bx, 0, none⟩), PV v, .func (.func 62) #[] #[.pointer (some ⟨w.heap.size + 1 + 1, 0, none⟩)], .agg #[.int .i64 (prI x.i), .int .i64 (v x.i)], undef, undef, undef, undef, undef, undef, undef, undef, undef, undef], defers := [] })
    (fun x a' _ X Y row hs hg hr => by obtain ⟨Bx, h1, h2, h3⟩ := hs; exact ⟨Bx, h1, RowB.own Bx _ _ () X Y row h2 hg (fun r e => (hr r e).2), h3⟩)
    ?assign ?body ?done ?stop
  case assign =>
    intro l pre x W K hI hK
    have hbs := hI.c.lt
    unfold encP
    gi_wp2
    exact hK _ _ ((KeepsOthers.alloc _ _).from _) (hI.c.kp (hI.c.alloc _)) (hI.alloc _) ⟨W.heap.size, hbs, World.alloc_heap_new W _, rfl⟩
  case body =>
    rintro l pre x a' W hl hlr hI ⟨Bx, hBx, bX, rfl⟩ hlt
    have x0 : W.cell? ⟨Bx, 0, none⟩ = some (.int .i64 (prI x.i)) := bX.cell 0
    have x1 : W.cell? ⟨Bx, 1, none⟩ = some (.int .i64 (v x.i)) := bX.cell 1
    have hBW := bX.lt
    obtain ⟨vt, hvt, hrt, hnt⟩ := hI.a
    have hc := hvt.cell
    have hx := hv.out x.i x.lt
    have HT := Hx.mk (fun w ht => term_any (pr x.i) (v x.i) w (pr_le _) ht hx.1 hx.2)
    rw [← prI_pr] at HT
    have HTW := Hx.mk (hT.keep hI.bl)
    have hmx : Tryz.prog.follows .mixedOrders = true := by kernel_rfl
    have HI2 := Hx.mk hI
    obtain ⟨s, hs⟩ : ∃ s, strL (termL (pr x.i) (v x.i)) = s := ⟨_, rfl⟩
    rw [hs] at HT
    have HS := Hx.mk hs
    have hbs := hI.bl.size
    clear hI hs hx
    gi_wp2
    refine wpIn_region_any hmx ?_
    change wpAnyIn _ _ _ _ _ _ _ _ _ (World.drew _)
    refine wpAnyIn_ready (rs := [0, 1]) (by kernel_rfl) (by simp) ?_
    refine AllReadyIn.cons rfl (fun K hK => ?_) ?_
    · go_simp
      refine hK _ _ ?_
      clear hK K
      refine wpAnyIn_ready (rs := [1]) (by kernel_rfl) (by simp) ?_
      refine AllReadyIn.cons rfl (fun K hK => ?_) ?_
      · go_simp
        refine hK _ _ ?_
        clear hK K
        refine wpAnyIn_ready (rs := [2]) (by kernel_rfl) (by simp) ?_
        refine AllReadyIn.cons rfl (fun K hK => ?_) ?_
        · go_simp
          gi_wp2_with (refine ⟨trivial, ?_⟩; gi_at_call 55; refine (CallsIn.inRound l (callsIn_wide.2 (HT.out _ (HTW.out.keep (Below.refl _ _).drew)))).mono ?_; rintro e Wc ⟨rfl, hbd⟩; have hb : Below W.heap.size W Wc := (Below.refl _ W).drew.trans hbd; have hvtc : Boxed Wc (w.heap.size + 1) 83 vt := (hb.block _ hvt.lt).trans hvt; have hrtc := row_below hrt hb; have hcc := hvtc.cell; have hcca := (hvtc.alloc (.cells #[.string s] 9)).cell; have hbz := hb.size)
          refine wpAnyIn_ready (rs := [3]) (by kernel_rfl) (by simp) ?_
          refine AllReadyIn.cons rfl (fun K hK => ?_) ?_
          · go_simp
            refine hK _ _ ?_
            clear hK K
            refine wpAnyIn_ready (rs := [4]) (by kernel_rfl) (by simp) ?_
            refine AllReadyIn.cons rfl (fun K hK => ?_) ?_
            · obtain ⟨v', w1, hrun, hown', hgrow, -⟩ := run_append_own (P := Tryz.prog) (Wc.alloc (.cells #[.string s] 9)) w.heap.size 83 83 9 i0 (.string ⟨#[]⟩) 1 16 Tryz.underlying83 hi hz0 hz1 hz2 rfl (by decide) vt pre.length (strs v pre) (hrtc.alloc _) ⟨Wc.heap.size, 0, none⟩ 1 1 [.string s] rfl (cell_one_new _ _ _) (by simp [Value.oneCell']) (by unfold maxLen; omega) (by omega) (by simp; omega)
              obtain ⟨g', cap', rfl⟩ := ownsRow_succ hown'
              obtain ⟨hv1, hv2, hr2, hk2, hb2⟩ := hvtc.appended (by decide) hrtc (by omega) (by omega) hown' hgrow
              have hc1 := hv1.cell
              have hf1 := hv1.frozen
              refine Eq.mpr (if_pos rfl) ?_
              refine opIn_append rfl hrun rfl rfl ?_
              refine hK _ _ ?_
              clear hK K hrun
              refine wpAnyIn_ready (rs := [5]) (by kernel_rfl) (by simp) ?_
              refine AllReadyIn.cons rfl (fun K hK => ?_) ?_
              · go_simp
                refine hK _ _ ?_
                clear hK K
                refine wpAnyIn_done (by kernel_rfl) ?_ _
                rw [← HS.out] at hown'
                gi_wp2
                exact HI2.out.step _ hb hvtc hrtc hown' hgrow
              exact AllReadyIn.nil
            exact AllReadyIn.nil
          exact AllReadyIn.nil
        exact AllReadyIn.nil
      exact AllReadyIn.nil
    refine AllReadyIn.cons rfl (fun K hK => ?_) ?_
    · go_simp
      refine hK _ _ ?_
      clear hK K
      refine wpAnyIn_ready (rs := [0, 2]) (by kernel_rfl) (by simp) ?_
      refine AllReadyIn.cons rfl (fun K hK => ?_) ?_
      · go_simp
        refine hK _ _ ?_
        clear hK K
        refine wpAnyIn_ready (rs := [2]) (by kernel_rfl) (by simp) ?_
        refine AllReadyIn.cons rfl (fun K hK => ?_) ?_
        · go_simp
          gi_wp2_with (refine ⟨trivial, ?_⟩; gi_at_call 55; refine (CallsIn.inRound l (callsIn_wide.2 (HT.out _ (HTW.out.keep (Below.refl _ _).drew)))).mono ?_; rintro e Wc ⟨rfl, hbd⟩; have hb : Below W.heap.size W Wc := (Below.refl _ W).drew.trans hbd; have hvtc : Boxed Wc (w.heap.size + 1) 83 vt := (hb.block _ hvt.lt).trans hvt; have hrtc := row_below hrt hb; have hcc := hvtc.cell; have hcca := (hvtc.alloc (.cells #[.string s] 9)).cell; have hbz := hb.size)
          refine wpAnyIn_ready (rs := [3]) (by kernel_rfl) (by simp) ?_
          refine AllReadyIn.cons rfl (fun K hK => ?_) ?_
          · go_simp
            refine hK _ _ ?_
            clear hK K
            refine wpAnyIn_ready (rs := [4]) (by kernel_rfl) (by simp) ?_
            refine AllReadyIn.cons rfl (fun K hK => ?_) ?_
            · obtain ⟨v', w1, hrun, hown', hgrow, -⟩ := run_append_own (P := Tryz.prog) (Wc.alloc (.cells #[.string s] 9)) w.heap.size 83 83 9 i0 (.string ⟨#[]⟩) 1 16 Tryz.underlying83 hi hz0 hz1 hz2 rfl (by decide) vt pre.length (strs v pre) (hrtc.alloc _) ⟨Wc.heap.size, 0, none⟩ 1 1 [.string s] rfl (cell_one_new _ _ _) (by simp [Value.oneCell']) (by unfold maxLen; omega) (by omega) (by simp; omega)
              obtain ⟨g', cap', rfl⟩ := ownsRow_succ hown'
              obtain ⟨hv1, hv2, hr2, hk2, hb2⟩ := hvtc.appended (by decide) hrtc (by omega) (by omega) hown' hgrow
              have hc1 := hv1.cell
              have hf1 := hv1.frozen
              refine Eq.mpr (if_pos rfl) ?_
              refine opIn_append rfl hrun rfl rfl ?_
              refine hK _ _ ?_
              clear hK K hrun
              refine wpAnyIn_ready (rs := [5]) (by kernel_rfl) (by simp) ?_
              refine AllReadyIn.cons rfl (fun K hK => ?_) ?_
              · go_simp
                refine hK _ _ ?_
                clear hK K
                refine wpAnyIn_done (by kernel_rfl) ?_ _
                rw [← HS.out] at hown'
                gi_wp2
                exact HI2.out.step _ hb hvtc hrtc hown' hgrow
              exact AllReadyIn.nil
            exact AllReadyIn.nil
          exact AllReadyIn.nil
        exact AllReadyIn.nil
      refine AllReadyIn.cons rfl (fun K hK => ?_) ?_
      · go_simp
        gi_wp2_with (refine ⟨trivial, ?_⟩; gi_at_call 55; refine (CallsIn.inRound l (callsIn_wide.2 (HT.out _ (HTW.out.keep (Below.refl _ _).drew)))).mono ?_; rintro e Wc ⟨rfl, hbd⟩; have hb : Below W.heap.size W Wc := (Below.refl _ W).drew.trans hbd; have hvtc : Boxed Wc (w.heap.size + 1) 83 vt := (hb.block _ hvt.lt).trans hvt; have hrtc := row_below hrt hb; have hcc := hvtc.cell; have hcca := (hvtc.alloc (.cells #[.string s] 9)).cell; have hbz := hb.size)
        refine wpAnyIn_ready (rs := [0, 3]) (by kernel_rfl) (by simp) ?_
        refine AllReadyIn.cons rfl (fun K hK => ?_) ?_
        · go_simp
          refine hK _ _ ?_
          clear hK K
          refine wpAnyIn_ready (rs := [3]) (by kernel_rfl) (by simp) ?_
          refine AllReadyIn.cons rfl (fun K hK => ?_) ?_
          · go_simp
            refine hK _ _ ?_
            clear hK K
            refine wpAnyIn_ready (rs := [4]) (by kernel_rfl) (by simp) ?_
            refine AllReadyIn.cons rfl (fun K hK => ?_) ?_
            · obtain ⟨v', w1, hrun, hown', hgrow, -⟩ := run_append_own (P := Tryz.prog) (Wc.alloc (.cells #[.string s] 9)) w.heap.size 83 83 9 i0 (.string ⟨#[]⟩) 1 16 Tryz.underlying83 hi hz0 hz1 hz2 rfl (by decide) vt pre.length (strs v pre) (hrtc.alloc _) ⟨Wc.heap.size, 0, none⟩ 1 1 [.string s] rfl (cell_one_new _ _ _) (by simp [Value.oneCell']) (by unfold maxLen; omega) (by omega) (by simp; omega)
              obtain ⟨g', cap', rfl⟩ := ownsRow_succ hown'
              obtain ⟨hv1, hv2, hr2, hk2, hb2⟩ := hvtc.appended (by decide) hrtc (by omega) (by omega) hown' hgrow
              have hc1 := hv1.cell
              have hf1 := hv1.frozen
              refine Eq.mpr (if_pos rfl) ?_
              refine opIn_append rfl hrun rfl rfl ?_
              refine hK _ _ ?_
              clear hK K hrun
              refine wpAnyIn_ready (rs := [5]) (by kernel_rfl) (by simp) ?_
              refine AllReadyIn.cons rfl (fun K hK => ?_) ?_
              · go_simp
                refine hK _ _ ?_
                clear hK K
                refine wpAnyIn_done (by kernel_rfl) ?_ _
                rw [← HS.out] at hown'
                gi_wp2
                exact HI2.out.step _ hb hvtc hrtc hown' hgrow
              exact AllReadyIn.nil
            exact AllReadyIn.nil
          exact AllReadyIn.nil
        refine AllReadyIn.cons rfl (fun K hK => ?_) ?_
        · go_simp
          refine hK _ _ ?_
          clear hK K
          refine wpAnyIn_ready (rs := [0]) (by kernel_rfl) (by simp) ?_
          refine AllReadyIn.cons rfl (fun K hK => ?_) ?_
          · go_simp
            refine hK _ _ ?_
            clear hK K
            refine wpAnyIn_ready (rs := [4]) (by kernel_rfl) (by simp) ?_
            refine AllReadyIn.cons rfl (fun K hK => ?_) ?_
            · obtain ⟨v', w1, hrun, hown', hgrow, -⟩ := run_append_own (P := Tryz.prog) (Wc.alloc (.cells #[.string s] 9)) w.heap.size 83 83 9 i0 (.string ⟨#[]⟩) 1 16 Tryz.underlying83 hi hz0 hz1 hz2 rfl (by decide) vt pre.length (strs v pre) (hrtc.alloc _) ⟨Wc.heap.size, 0, none⟩ 1 1 [.string s] rfl (cell_one_new _ _ _) (by simp [Value.oneCell']) (by unfold maxLen; omega) (by omega) (by simp; omega)
              obtain ⟨g', cap', rfl⟩ := ownsRow_succ hown'
              obtain ⟨hv1, hv2, hr2, hk2, hb2⟩ := hvtc.appended (by decide) hrtc (by omega) (by omega) hown' hgrow
              have hc1 := hv1.cell
              have hf1 := hv1.frozen
              refine Eq.mpr (if_pos rfl) ?_
              refine opIn_append rfl hrun rfl rfl ?_
              refine hK _ _ ?_
              clear hK K hrun
              refine wpAnyIn_ready (rs := [5]) (by kernel_rfl) (by simp) ?_
              refine AllReadyIn.cons rfl (fun K hK => ?_) ?_
              · go_simp
                refine hK _ _ ?_
                clear hK K
                refine wpAnyIn_done (by kernel_rfl) ?_ _
                rw [← HS.out] at hown'
                gi_wp2
                exact HI2.out.step _ hb hvtc hrtc hown' hgrow
              exact AllReadyIn.nil
            exact AllReadyIn.nil
          exact AllReadyIn.nil
        exact AllReadyIn.nil
      exact AllReadyIn.nil
    exact AllReadyIn.nil
  case done =>
    rintro D ys W hD rfl hI hK
    obtain ⟨vt, hvt, hrt, hnt⟩ := hI.a
    have hc := hvt.cell
    have HI2 := Hx.mk hI
    have HK := Hx.mk hK
    by_cases hn : ixs v 6 = []
    · obtain rfl : vt = .slice none 0 0 := hnt.resolve_right (fun h => h hn)
      have HE := Hx.mk (show textL v = [49] by simp [textL, hn])
      clear hI hK hrt hnt hn hvt
      gi_wp2
      refine ⟨by simp, .inl ⟨_, _, rfl, run_takeDeferred HK.out, ?_⟩⟩
      exact ⟨_, results_tmp rfl _ _ _, by rw [HE.out]; rfl, HI2.out.bl.trans (belowK_b (w := w) (Nat.le_refl _) W D _ _ (by omega) HK.out rfl rfl)⟩
    · have hlen : 0 < (ixs v 6).length := List.length_pos_iff.2 hn
      obtain ⟨g, cap, rfl, hg, hcap⟩ : ∃ g cap, vt = .slice (some ⟨g, 0, none⟩) (ixs v 6).length cap ∧ g < W.heap.size ∧ (ixs v 6).length ≤ cap := by
        rcases hrt.2 with ⟨_, h0⟩ | ⟨g, cap, cur, rfl, _, hg, hle, _⟩
        · omega
        · exact ⟨g, cap, rfl, (Array.getElem?_eq_some_iff.1 hg).1, hle⟩
      have HJ := Hx.mk (join_row hv hrt hg hcap)
      have HE := Hx.mk (show textL v = Lib.join (termsL v (ixs v 6)) [42] by simp [textL, hn])
      have hl6 := ixs_len v 6
      obtain ⟨k, hk⟩ : ∃ k, (ixs v 6).length = k := ⟨_, rfl⟩
      rw [hk] at hlen HJ hc hl6
      have hz : ((k : Int) == 0) = false := beq_eq_false_iff_ne.2 (by omega)
      clear hI hK hrt hnt hn hvt hk hg hcap
      gi_wp2_with (refine ⟨trivial, ?_⟩; gi_at_call 56; refine (callsIn_wide.2 HJ.out).mono ?_; rintro e w5 ⟨rfl, hb⟩)
      refine ⟨by simp, .inl ⟨_, _, rfl, run_takeDeferred ((hb.block D (Array.getElem?_eq_some_iff.1 HK.out).1).trans HK.out), ?_⟩⟩
      exact ⟨_, results_tmp rfl _ _ _, by rw [HE.out]; rfl, (HI2.out.bl.trans (hb.mono HI2.out.bl.size)).trans (belowK_b (w := w) (Nat.le_refl _) _ D _ _ (by omega) ((hb.block D (Array.getElem?_eq_some_iff.1 HK.out).1).trans HK.out) rfl rfl)⟩
  case stop =>
    rintro D c pre W _ _ h _
    exact h.elim
end Go.Proofs.YtdlfnonlalkjdaaGreatDoor

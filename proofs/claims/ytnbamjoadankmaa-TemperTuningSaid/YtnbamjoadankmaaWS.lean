/- The program's lattice: the step that notes a coefficient. -/
import Derived.Test.YtnbamjoadankmaaWP
import Derived.Test.YtnbamjoadankmaaVI
import Derived.Test.YtnbamjoadankmaaVR
import Derived.Deep.CutRange
import Derived.Deep.DeepCutAuto
import Derived.Deep.Light
namespace Go.Proofs.Ytnbamjoadankmaa
open Go.RowKit D
theorem step_go_call2 {P : Program} {ops : Array Oper} {o : Oper} {a : Act} {w : World} {K : Act → World → Prop} {Q : Exit → Act → World → Prop} {E : Prop} (hg : o.guard = none) (f : FuncId) (args : Array Value) (v : Value) (R : World → Prop)
    (hx : (execOp a.eval o).run P w = .ok (.enter f args) w) (hc : Calls P f args w fun e w' => e = .returned v ∧ R w') (h : ∀ w', R w' → K (a.put o.dst v) w') : if Region.wanted o (yielded ops a.tmps) = true then Oper.wp P o a w K Q else E := by
  have hw : Region.wanted o (yielded ops a.tmps) = true := by simp [Region.wanted, hg]
  rw [if_pos hw]
  unfold Oper.wp
  rw [hx]
  exact hc.mono (by rintro e w' ⟨rfl, hr⟩; exact h w' hr)
theorem news_one (w : World) (x : Int) : ∀ ad, some (⟨w.heap.size, 0, none⟩ : Addr) = some ad → ∀ (j : Nat) u, [Value.int .i64 x][j]? = some u → (w.alloc (.cells #[.int .i64 x] 3)).cell? (ad.add j) = some u := by
  intro ad had; cases had; intro j u hu; match j, hu with | 0, hu => (simp at hu; subst hu; simp [Addr.add, go_sem])
theorem one_cell {x : Int} : ∀ u ∈ [Value.int .i64 x], u.oneCell' = true := by simp [Value.oneCell']
/-- The state of the step: the list of the coefficients that are noted, and the basis. -/
def NJ (lb bx n0 : Nat) (X Y : Value) (cf : Nat → Int) (t : Nat) (S : Nat → Prop) (W : World) : Prop :=
  ∃ cv, Boxed W lb 29 cv ∧ PB W bx X Y ∧ W.ownsRow n0 3 1 cv t ((List.range t).map fun i => .int .i64 (cf i)) ∧ n0 ≤ W.heap.size ∧ ∀ b, S b ↔ (b = lb ∨ b = bx ∨ cv.ownBlock = some b)
theorem NJ.sst {w0 : World} {lb bx n0 : Nat} {X Y : Value} {cf : Nat → Int} (h1 : w0.heap.size ≤ lb) (h2 : w0.heap.size ≤ bx) (h3 : w0.heap.size ≤ n0) : Sst w0 (NJ lb bx n0 X Y cf) where
  lt t S W b h hb := by
    obtain ⟨cv, c1, c2, c3, c4, c5⟩ := h
    rcases (c5 b).1 hb with rfl | rfl | e
    · exact ⟨h1, c1.lt⟩
    · exact ⟨h2, c2.lt⟩
    · have := own_lt c3 b e; exact ⟨by omega, this.2⟩
  keep t S W W' h hs hk := by
    obtain ⟨cv, c1, c2, c3, c4, c5⟩ := h
    exact ⟨cv, (hk lb ((c5 lb).2 (.inl rfl))).trans c1, c2.keep (hk bx ((c5 bx).2 (.inr (.inl rfl)))), own_keep c3 (fun k e _ => hk k ((c5 k).2 (.inr (.inr e)))), by omega, c5⟩
theorem setCell_heap_ne {W : World} {b k : Nat} {z : Value} {c : Nat} (h : c ≠ b) : (W.setCell ⟨b, k, none⟩ z).heap[c]? = W.heap[c]? := Below.heap_setCell _ _ _ _ (by simpa using h)
theorem ci_snoc (cf : Nat → Int) (k : Nat) : ((List.range k).map fun i => Value.int .i64 (cf i)) ++ [.int .i64 (cf k)] = (List.range (k + 1)).map fun i => Value.int .i64 (cf i) := by rw [List.range_succ, List.map_append, List.map_singleton]
theorem noted_own {W : World} {cv : Value} {gm n m cm : Nat} (h : ∀ b, (Value.slice (some ⟨gm, 0, none⟩) n cm).ownBlock = some b → cv.ownBlock = some b ∨ m ≤ b) (hm : W.heap.size + 2 ≤ m) (hg : (Value.slice (some ⟨gm, 0, none⟩) n cm).ownBlock = some gm) : cv.ownBlock = some gm ∨ W.heap.size + 2 ≤ gm :=
  (h gm hg).imp id (fun e => Nat.le_trans hm e)
/-- The blocks that the step changes. -/
theorem noted_exc {lb bx n0 : Nat} {cv : Value} (S : Nat → Prop) {W W1 w2 w8 : World} {o : Obj} (hS : ∀ b, S b ↔ (b = lb ∨ b = bx ∨ cv.ownBlock = some b)) (_ : lb < n0) (hB : Below W.heap.size W W1) (hb2 : Below W1.heap.size W1 w2) (hs : W1.heap.size = W.heap.size + 2)
    (hk8 : ∀ k', k' < w2.heap.size → (∀ b, cv.ownBlock = some b → k' ≠ b) → w8.heap[k']? = w2.heap[k']?) (_ : ∀ b, cv.ownBlock = some b → b < W.heap.size) (hg : (w2.alloc o).grownBy w8 cv.ownBlock) (z : Value) : Exc S W (w8.setCell ⟨lb, 0, none⟩ z) := by
  have s2 := hb2.size
  have s8 := hg.size
  rw [World.size_alloc] at s8
  have g := Below.grown (B := 0) (Below.refl 0 (w2.alloc o)) hg (Nat.zero_le _) (fun _ _ => Nat.zero_le _)
  have hB2 := hB.trans (hb2.mono (by omega))
  refine ⟨g.os.trans hB2.os, g.tape.trans hB2.tape, g.output.trans hB2.output, by rw [show (w8.setCell ⟨lb, 0, none⟩ z).heap.size = w8.heap.size by simp [World.setCell]]; omega, fun k hk hn => ?_⟩
  rw [setCell_heap_ne (fun e => hn ((hS k).2 (.inl e)))]
  exact (hk8 k (by omega) (fun b hb e => hn ((hS k).2 (.inr (.inr (e ▸ hb)))))).trans (hB2.block k hk)
set_option maxRecDepth 100000 in
set_option maxHeartbeats 16000000 in
theorem noted_at (w0 : World) (fo co : Option Addr) (fc cc q : Nat) (O : Nat → Nat → Int) (p : Nat → Nat) (x : Nat → Int) (lb bx n0 i : Nat) (cf : Nat → Int) (v v' : Nat → Int) (S : Nat → Prop) (W : World) (hS : BS w0 fo fc co cc q O p) (hi : i < q) (h1 : lb < n0) (h2 : bx < n0) (h4 : w0.heap.size ≤ lb)
    (hJ : NJ lb bx n0 (.slice fo q fc) (.slice co q cc) cf i S W) (hB : Below w0.heap.size w0 W) (hv : Vv v) (hcf : v (p i) / O i (p i) = cf i) (hv' : (fun j => v j + -(v (p i) / O i (p i)) * O i j) = v') :
    Calls Try.prog 127 #[.int .i64 i, PV v, .pointer (some ⟨lb, 0, none⟩), .pointer (some ⟨bx, 0, none⟩)] W fun e W' => e = .returned (PV v') ∧ Stp (NJ lb bx n0 (.slice fo q fc) (.slice co q cc) cf) (i + 1) S W W' := by
  obtain ⟨ti, hti, hti2⟩ := Option.map_eq_some_iff.1 info_int
  simp only [Prod.mk.injEq] at hti2
  obtain ⟨hz0, hz1, hz2⟩ := hti2
  have HTI := Bx.mk hti
  obtain ⟨cv, c1, c2, c3, c4, c5⟩ := hJ
  have hq6 := hS.six
  have HPC := Bx.mk (fun w' (hb : Below w0.heap.size w0 w') => coefficient_any fo co fc cc q O p i v w' (hS.keep hb) hi hv)
  have HPR := Bx.mk (fun w' (hb : Below w0.heap.size w0 w') => remainder_at fo co fc cc q O p i v w' (hS.keep hb) hi hv)
  rw [hcf] at HPC
  rw [hv'] at HPR
  obtain ⟨hV0, hP0, hB0, hs0⟩ := two_vecs W v
  obtain ⟨W1, hW1⟩ : ∃ W1, ((W.alloc (.cells #[.int .i64 (v 0), .int .i64 (v 1), .int .i64 (v 2), .int .i64 (v 3), .int .i64 (v 4), .int .i64 (v 5)] 36)).alloc (.cells #[.int .i64 0, .int .i64 0, .int .i64 0, .int .i64 0, .int .i64 0, .int .i64 0] 36)) = W1 := ⟨_, rfl⟩
  rw [hW1] at hV0 hP0 hB0 hs0
  have w0s := hB.size
  have l1 := c1.lt
  have l2 := c2.lt
  have e1 : Boxed W1 lb _ _ := (hB0.block lb l1).trans c1
  have e2 : PB W1 bx _ _ := c2.keep (hB0.block bx l2)
  have e3 := own_keep c3 (fun k e _ => hB0.block k (own_lt c3 k e).2)
  have hn1 : lb ≠ bx := fun e => by
    have a := c1; have b := c2; rw [e] at a
    have a' : W.heap[bx]? = _ := a
    have b' : W.heap[bx]? = _ := b
    rw [a'] at b'; cases b'
  have HE1 := Bx.mk e1
  have HE2 := Bx.mk e2
  have HE3 := Bx.mk e3
  have HV1 := Bx.mk hV0
  have HZ1 := Bx.mk hP0
  have HBW := Bx.mk hB0
  have HB1 := Bx.mk (hB.trans (hB0.mono w0s))
  have HC5 := Bx.mk c5
  have HC3 := Bx.mk c3
  have a1 := e1.cell
  have a2 := e2.c0
  have a3 := e2.c1
  have b0 := hV0.c0
  have b1 := hV0.c1
  have b2 := hV0.c2
  have b3 := hV0.c3
  have b4 := hV0.c4
  have b5 := hV0.c5
  unfold PV at HPC HPR ⊢
  clear hti hV0 hP0 hB0 e1 e2 e3 c1 c2 c3 c5 hB hS
  have MK : True := trivial
  go_enter Try.func127, Try.ntmps127
  go_wp2_with fail
  try rw [hW1]
  clear hW1
  go_cut [13] (fun _ w9 => ∃ gm cm, Bx (PB w9 bx (.slice fo q fc) (.slice co q cc)) ∧ Bx (VB w9 W.heap.size v) ∧ Bx (VB w9 (W.heap.size + 1) (fun _ => 0)) ∧ Bx (Below w0.heap.size w0 w9) ∧ Bx (Exc S W w9) ∧ Bx (Boxed w9 lb 29 (.slice (some ⟨gm, 0, none⟩) (i + 1) cm)) ∧ Bx (w9.ownsRow n0 3 1 (.slice (some ⟨gm, 0, none⟩) (i + 1) cm) (i + 1) ((List.range (i + 1)).map fun i => .int .i64 (cf i))) ∧ Bx (cv.ownBlock = some gm ∨ W.heap.size + 2 ≤ gm))
  case first =>
    go_region_law (first
      | (clear MK; refine step_go_call2 rfl 128 #[.agg #[.slice fo q fc, .slice co q cc], .int .i64 i, .agg #[.int .i64 (v 0), .int .i64 (v 1), .int .i64 (v 2), .int .i64 (v 3), .int .i64 (v 4), .int .i64 (v 5)]] (.int .i64 (cf i)) (fun w2 => Below W1.heap.size W1 w2) (by simp [execOp, resolve, invoke, go_sem]) ((HPC.out _ (by first | exact HB1.out | exact below_drew HB1.out)).mono fun e w' h => ⟨h.1, (by first | exact h.2 | exact Below.trans (below_drew (Below.refl _ W1)) h.2)⟩) ?_
         intro w2 hb2
         have E1 : Boxed w2 lb _ _ := (hb2.block lb (by omega)).trans HE1.out
         have d1 := E1.cell
         have E2 := HE2.out.keep (hb2.block bx (by omega))
         have O2 := own_keep HE3.out (fun k e _ => hb2.block k (own_lt HE3.out k e).2)
         have s2 := hb2.size
         have OA := fun (o : Obj) => own_keep O2 (fun k e _ => ((Below.refl w2.heap.size w2).alloc (Nat.le_refl _) o).block k (own_lt O2 k e).2)
         have OB : ∀ (o : Obj) k, k < w2.heap.size → (w2.alloc o).heap[k]? = w2.heap[k]? := fun o k hk => ((Below.refl w2.heap.size w2).alloc (Nat.le_refl _) o).block k hk
         have d1a : ∀ o : Obj, (w2.alloc o).cell? ⟨lb, 0, none⟩ = some cv := fun o => (cell_same (OB o lb (by omega))).trans d1
         have OZ : ∀ o : Obj, n0 ≤ (w2.alloc o).heap.size := fun o => by rw [World.size_alloc]; omega)
      | (refine step_append_fresh rfl (.tmp 7) (.tmp 12) 29 rfl n0 3 ti (.int .i64 0) 1 8 Try.underlying29 HTI.out hz0 hz1 hz2 rfl (by decide) cv i _ rfl (OA _) _ 1 _ [.int .i64 (cf i)] rfl rfl (by intro h; cases h) (news_one w2 (cf i)) one_cell (by unfold maxLen; omega) (by omega) (OZ _) ?_
         intro v8 w8 ho8 hg8 hf8
         rw [ci_snoc] at ho8
         obtain ⟨gm, cm, rfl, hgm0, hgms⟩ := own_form ho8 (by omega)
         have hk8 : ∀ k', k' < w2.heap.size → (∀ b, cv.ownBlock = some b → k' ≠ b) → w8.heap[k']? = w2.heap[k']? := fun k' hk' hne => (hg8.block k' (by simp; omega) (fun e => hne k' e.symm rfl)).trans (OB _ k' hk')
         have s8 : w2.heap.size ≤ w8.heap.size := by have := hg8.size; simp at this; omega
         have B8 : Boxed w8 lb _ _ := (hk8 lb (by omega) (fun b hb => by have := (own_lt HC3.out b hb).1; omega)).trans E1
         have d8 := B8.cell
         have f8 := B8.frozen
         have nb : ∀ k, k < n0 → ∀ b, cv.ownBlock = some b → k ≠ b := fun k hk b hb => by have := (own_lt HC3.out b hb).1; omega
         have nc : ∀ k, W.heap.size ≤ k → ∀ b, cv.ownBlock = some b → k ≠ b := fun k hk b hb => by have := (own_lt HC3.out b hb).2; omega
         have P9 := (E2.keep (hk8 bx (by omega) (nb bx h2))).keep (setCell_heap_ne (W := w8) (b := lb) (k := 0) (z := .slice (some ⟨gm, 0, none⟩) (i + 1) cm) (Ne.symm hn1))
         have p0 := P9.c0
         have p1 := P9.c1
         have V9 := ((HV1.out.keep (hb2.block W.heap.size (by omega))).keep (hk8 _ (by omega) (nc _ (Nat.le_refl _)))).keep (setCell_heap_ne (W := w8) (b := lb) (k := 0) (z := .slice (some ⟨gm, 0, none⟩) (i + 1) cm) (by omega))
         have q0 := V9.c0
         have q1 := V9.c1
         have q2 := V9.c2
         have q3 := V9.c3
         have q4 := V9.c4
         have q5 := V9.c5
         have hsA : W.heap.size + 1 < w8.heap.size := by omega
         have Z9 := Bx.mk (((HZ1.out.keep (hb2.block (W.heap.size + 1) (by omega))).keep (hk8 _ (by omega) (nc _ (by omega)))).keep (setCell_heap_ne (W := w8) (b := lb) (k := 0) (z := .slice (some ⟨gm, 0, none⟩) (i + 1) cm) (by omega)))
         have HW9 := Bx.mk (Below.setCell (p := ⟨lb, 0, none⟩) (Below.grown (HB1.out.trans ((hb2.trans (((Below.refl w2.heap.size w2).alloc (Nat.le_refl _) _).mono s2)).mono (by omega))) hg8 (by rw [World.size_alloc]; omega) (fun b hb => by have := (own_lt HC3.out b hb).1; omega)) h4 (.slice (some ⟨gm, 0, none⟩) (i + 1) cm))
         have HX9 := Bx.mk (noted_exc S HC5.out h1 HBW.out hb2 hs0 hk8 (fun b hb => (own_lt HC3.out b hb).2) hg8 (.slice (some ⟨gm, 0, none⟩) (i + 1) cm))
         have HO9 := Bx.mk (ownsRow_setCell_below ho8 (a := ⟨lb, 0, none⟩) h1 (.slice (some ⟨gm, 0, none⟩) (i + 1) cm))
         have HL9 := Bx.mk (B8.set (.slice (some ⟨gm, 0, none⟩) (i + 1) cm))
         have HP9 := Bx.mk P9
         have HV9 := Bx.mk V9
         have HF9 := Bx.mk (noted_own (W := W) (fun b hb => (hf8 b hb)) (by rw [World.size_alloc]; omega) rfl)
         have hs9 : (w8.setCell ⟨lb, 0, none⟩ (.slice (some ⟨gm, 0, none⟩) (i + 1) cm)).heap.size = w8.heap.size := by simp [World.setCell]
         obtain ⟨w9, hw9⟩ : ∃ w9, w8.setCell ⟨lb, 0, none⟩ (.slice (some ⟨gm, 0, none⟩) (i + 1) cm) = w9 := ⟨_, rfl⟩
         rw [hw9] at p0 p1 q0 q1 q2 q3 q4 q5 Z9 HW9 HX9 HO9 HL9 HP9 HV9 hs9
         clear P9 V9 ho8 hf8 hk8))
    all_goals go_wp2_with fail
    all_goals go_meet
    all_goals exact ⟨gm, cm, HP9, HV9, Z9, HW9, HX9, HL9, HO9, HF9⟩
  case rest =>
    obtain ⟨gm, cm, HP9, HV9, HZ9, HW9, HX9, HL9, HO9, HF9⟩ := hcut
    have p0 := HP9.out.c0
    have p1 := HP9.out.c1
    have q0 := HV9.out.c0
    have q1 := HV9.out.c1
    have q2 := HV9.out.c2
    have q3 := HV9.out.c3
    have q4 := HV9.out.c4
    have q5 := HV9.out.c5
    have hzl := HZ9.out.lt
    go_wp2_with (first
      | (go_at_call 86; refine (HPR.out _ HW9.out).mono ?_; rintro e wa ⟨rfl, hba⟩
         have ZA := HZ9.out.keep (hba.block (W.heap.size + 1) (by omega))
         have HZA := Bx.mk ZA
         have HBA := Bx.mk hba
         have g0 := ZA.c0
         have g1 := ZA.c1
         have g2 := ZA.c2
         have g3 := ZA.c3
         have g4 := ZA.c4
         have g5 := ZA.c5
         have z0 := ZA.f 0
         have z1 := ZA.f 1
         have z2 := ZA.f 2
         have z3 := ZA.f 3
         have z4 := ZA.f 4
         have z5 := ZA.f 5
         clear ZA hba))
    have V6 := HZA.out.lit v'
    have hb6 := but_lit (W.heap.size + 1) wa v'
    have y0 := V6.c0
    have y1 := V6.c1
    have y2 := V6.c2
    have y3 := V6.c3
    have y4 := V6.c4
    have y5 := V6.c5
    obtain ⟨wz, hwz⟩ : ∃ wz, ((((((wa.setCell ⟨W.heap.size + 1, 0, none⟩ (.int .i64 (v' 0))).setCell ⟨W.heap.size + 1, 1, none⟩ (.int .i64 (v' 1))).setCell ⟨W.heap.size + 1, 2, none⟩ (.int .i64 (v' 2))).setCell ⟨W.heap.size + 1, 3, none⟩ (.int .i64 (v' 3))).setCell ⟨W.heap.size + 1, 4, none⟩ (.int .i64 (v' 4))).setCell ⟨W.heap.size + 1, 5, none⟩ (.int .i64 (v' 5))) = wz := ⟨_, rfl⟩
    rw [hwz] at V6 hb6 y0 y1 y2 y3 y4 y5 ⊢
    clear hwz
    have HX := Bx.mk ((HX9.out.below HBA.out).but hb6 (.inl (by omega)))
    have key := fun k hk (hne : k ≠ W.heap.size + 1) => (hb6.block k (Nat.lt_of_lt_of_le hk HBA.out.size) hne).trans (HBA.out.block k hk)
    refine bodyPost_ret_by (v := .agg #[.int .i64 (v' 0), .int .i64 (v' 1), .int .i64 (v' 2), .int .i64 (v' 3), .int .i64 (v' 4), .int .i64 (v' 5)]) (by simp [results, Try.results127, go_sem, y0, y1, y2, y3, y4, y5]) rfl ?_
    have hg := own_lt HO9.out gm rfl
    have hgn : gm ≠ W.heap.size + 1 := fun e => by
      rcases HF9.out with h | h
      · have := (own_lt HC3.out gm h).2; omega
      · omega
    refine ⟨rfl, fun b => b = lb ∨ b = bx ∨ (Value.slice (some ⟨gm, 0, none⟩) (i + 1) cm).ownBlock = some b, ⟨.slice (some ⟨gm, 0, none⟩) (i + 1) cm, (key lb HL9.out.lt (by omega)).trans HL9.out, HP9.out.keep (key bx HP9.out.lt (by omega)), own_keep HO9.out (fun k e _ => by cases e; exact key gm hg.2 hgn), by have := HX.out.size; omega, fun b => Iff.rfl⟩, HX.out, fun k hk h => (HC5.out k).2 ?_⟩
    rcases h with h | h | h
    · exact .inl h
    · exact .inr (.inl h)
    · have e : gm = k := by cases h; rfl
      have hk' : k < W.heap.size := hk
      rcases HF9.out with h2 | h2
      · exact .inr (.inr (e ▸ h2))
      · exact absurd hk' (by omega)
end Go.Proofs.Ytnbamjoadankmaa
/- The program's lattice: member. -/
namespace Go.Proofs.Ytnbamjoadankmaa
open Go.RowKit D
/-- What a call owns reads as a list of integers. -/
theorem ci_of_owns {w : World} {base n : Nat} {v : Value} {l : List Int} (h : w.ownsRow base 3 1 v n (l.map fun j => Value.int .i64 j)) : ∃ ao c, v = .slice ao l.length c ∧ l.length ≤ c ∧ c ≤ maxLen ∧ CI w ao l := by
  have hn : l.length = n := by have := h.1; simpa using this
  rcases h.2 with ⟨h', h0⟩ | ⟨g, cap, cur, h', hb, hg, hnc, hm, hs, ht⟩
  · subst h'
    have : l = [] := List.eq_nil_of_length_eq_zero (by omega)
    subst this
    exact ⟨none, 0, rfl, Nat.le_refl _, by unfold maxLen; omega, CI.nil⟩
  · subst h'
    refine ⟨some ⟨g, 0, none⟩, cap, by rw [hn], by omega, hm, fun _ => ⟨g, 0, rfl, (Array.getElem?_eq_some_iff.1 hg).1, fun i hi => ?_⟩⟩
    rw [Nat.zero_add, h.cellAt i (by omega)]
    simp [List.getElem?_eq_getElem hi, List.getD]
/-- The coefficient of a row. -/
def ckf (O : Nat → Nat → Int) (p : Nat → Nat) (v : Nat → Int) (i : Nat) : Int := rmd O p v i (p i) / O i (p i)
/-- What member answers. -/
def MemRes (O : Nat → Nat → Int) (p : Nat → Nat) (v : Nat → Int) (q : Nat) (e : Ending) (w' : World) : Prop :=
  ((∀ k, k ≤ q → Vv (rmd O p v k)) ∧ (((∀ j, j < 6 → rmd O p v q j = 0) ∧ ∃ lo lc, e = .returned (.tuple #[.slice lo q lc, .bool true, .int .i64 0]) ∧ q ≤ lc ∧ lc ≤ maxLen ∧ CI w' lo ((List.range q).map (ckf O p v))) ∨
    ((¬ ∀ j, j < 6 → rmd O p v q j = 0) ∧ e = .returned (.tuple #[.slice none 0 0, .bool false, .int .i64 0])))) ∨ ((∃ k, k ≤ q ∧ ¬ Vv (rmd O p v k)) ∧ e = .returned (.tuple #[.slice none 0 0, .bool false, .int .i64 3]))
theorem above_new (w : World) (o : Obj) : Below w.heap.size w (w.alloc o) := (Below.refl w.heap.size w).alloc (Nat.le_refl _) o
theorem ci_of_range {w : World} {base q : Nat} {v : Value} {f : Nat → Int} (h : w.ownsRow base 3 1 v q ((List.range q).map fun i => .int .i64 (f i))) : ∃ ao c, v = .slice ao q c ∧ q ≤ c ∧ c ≤ maxLen ∧ CI w ao ((List.range q).map f) := by
  have e : ((List.range q).map fun i => Value.int .i64 (f i)) = ((List.range q).map f).map fun j => Value.int .i64 j := by simp [List.map_map, Function.comp_def]
  rw [e] at h
  have h' := ci_of_owns h
  simp only [List.length_map, List.length_range] at h'
  exact h'
theorem member_split {O : Nat → Nat → Int} {p : Nat → Nat} {v : Nat → Int} {q lb bx n0 : Nat} {X Y : Value} {e : Ending} {w4 : World}
    (hr : (e = .returned (.tuple #[PV (rmd O p v q), .int .i64 0]) ∧ (∀ k, k ≤ q → Vv (rmd O p v k)) ∧ ∃ S, NJ lb bx n0 X Y (ckf O p v) q S w4) ∨ (e = .returned (.tuple #[PV fun _ => 0, .int .i64 3]) ∧ ∃ k, k ≤ q ∧ ¬ Vv (rmd O p v k))) :
    (e = .returned (.tuple #[(.agg #[.int .i64 (rmd O p v q 0), .int .i64 (rmd O p v q 1), .int .i64 (rmd O p v q 2), .int .i64 (rmd O p v q 3), .int .i64 (rmd O p v q 4), .int .i64 (rmd O p v q 5)]), .int .i64 0]) ∧ Bx (∀ k, k ≤ q → Vv (rmd O p v k)) ∧ Bx (∀ j, j < 6 → rmd O p v q j = 0) ∧ (∀ w, (Op.equalIn 10000 36 (.agg #[.int .i64 (rmd O p v q 0), .int .i64 (rmd O p v q 1), .int .i64 (rmd O p v q 2), .int .i64 (rmd O p v q 3), .int .i64 (rmd O p v q 4), .int .i64 (rmd O p v q 5)]) (.agg #[.int .i64 0, .int .i64 0, .int .i64 0, .int .i64 0, .int .i64 0, .int .i64 0])).run Try.prog w = .ok true w) ∧ ∃ lo lc, q ≤ lc ∧ lc ≤ maxLen ∧ Bx (CI w4 lo ((List.range q).map (ckf O p v))) ∧ ∀ o : Obj, (w4.alloc o).cell? ⟨lb, 0, none⟩ = some (.slice lo q lc)) ∨
    (e = .returned (.tuple #[(.agg #[.int .i64 (rmd O p v q 0), .int .i64 (rmd O p v q 1), .int .i64 (rmd O p v q 2), .int .i64 (rmd O p v q 3), .int .i64 (rmd O p v q 4), .int .i64 (rmd O p v q 5)]), .int .i64 0]) ∧ Bx (∀ k, k ≤ q → Vv (rmd O p v k)) ∧ Bx (¬ ∀ j, j < 6 → rmd O p v q j = 0) ∧ (∀ w, (Op.equalIn 10000 36 (.agg #[.int .i64 (rmd O p v q 0), .int .i64 (rmd O p v q 1), .int .i64 (rmd O p v q 2), .int .i64 (rmd O p v q 3), .int .i64 (rmd O p v q 4), .int .i64 (rmd O p v q 5)]) (.agg #[.int .i64 0, .int .i64 0, .int .i64 0, .int .i64 0, .int .i64 0, .int .i64 0])).run Try.prog w = .ok false w)) ∨
    (e = .returned (.tuple #[(.agg #[.int .i64 0, .int .i64 0, .int .i64 0, .int .i64 0, .int .i64 0, .int .i64 0]), .int .i64 3]) ∧ Bx (∃ k, k ≤ q ∧ ¬ Vv (rmd O p v k))) := by
  rcases hr with ⟨rfl, hk, S, cv, j1, j2, j3, j4, j5⟩ | ⟨rfl, hk⟩
  · by_cases hz : ∀ j, j < 6 → rmd O p v q j = 0
    · obtain ⟨lo, lc, rfl, hll, hlm, hci⟩ := ci_of_range j3
      exact .inl ⟨rfl, ⟨hk⟩, ⟨hz⟩, eq6_is 36 Try.underlying36 (rmd O p v q) (fun _ => 0) true ⟨fun _ => hz, fun _ => rfl⟩, lo, lc, hll, hlm, ⟨hci⟩, fun o => (cell_same ((above_new w4 o).block _ j1.lt)).trans j1.cell⟩
    · exact .inr (.inl ⟨rfl, ⟨hk⟩, ⟨hz⟩, eq6_is 36 Try.underlying36 (rmd O p v q) (fun _ => 0) false ⟨fun h => Bool.noConfusion h, fun h => absurd h hz⟩⟩)
  · exact .inr (.inr ⟨rfl, ⟨hk⟩⟩)
theorem member_boxes (w : World) (x y z f : Value) (v : Nat → Int) (t u s : TypeId) : ∀ W4, ((((w.alloc (.cells #[x, y] u)).alloc (.cells #[.int .i64 (v 0), .int .i64 (v 1), .int .i64 (v 2), .int .i64 (v 3), .int .i64 (v 4), .int .i64 (v 5)] t)).alloc (.cells #[z] s)).alloc (.cells #[f] 162)) = W4 →
    W4.heap[w.heap.size]? = some (.cells #[x, y] u (0, 0)) ∧ Boxed W4 (w.heap.size + 1 + 1) s z ∧ W4.cell? ⟨w.heap.size + 1 + 1 + 1, 0, none⟩ = some f ∧ Below w.heap.size w W4 ∧ W4.heap.size = w.heap.size + 4 := by
  rintro W4 rfl
  refine ⟨?_, ?_, ?_, ((((Below.refl _ w).alloc (Nat.le_refl _) _).alloc (by simp) _).alloc (by simp <;> omega) _).alloc (by simp <;> omega) _, by simp⟩
  · have h := World.alloc_heap_new w (.cells #[x, y] u)
    exact ((((Below.refl _ (w.alloc (.cells #[x, y] u))).alloc (Nat.le_refl _) _).alloc (by simp) _).alloc (by simp <;> omega) _).block _ (by simp) |>.trans h
  · have h := Boxed.new ((w.alloc (.cells #[x, y] u)).alloc (.cells #[.int .i64 (v 0), .int .i64 (v 1), .int .i64 (v 2), .int .i64 (v 3), .int .i64 (v 4), .int .i64 (v 5)] t)) s z
    simp only [World.size_alloc] at h
    exact (((Below.refl _ (((w.alloc (.cells #[x, y] u)).alloc (.cells #[.int .i64 (v 0), .int .i64 (v 1), .int .i64 (v 2), .int .i64 (v 3), .int .i64 (v 4), .int .i64 (v 5)] t)).alloc (.cells #[z] s))).alloc (Nat.le_refl _) _).block _ (by simp)).trans h
  · have h := (Boxed.new (((w.alloc (.cells #[x, y] u)).alloc (.cells #[.int .i64 (v 0), .int .i64 (v 1), .int .i64 (v 2), .int .i64 (v 3), .int .i64 (v 4), .int .i64 (v 5)] t)).alloc (.cells #[z] s)) 162 f).cell
    simp only [World.size_alloc] at h; exact h
set_option maxRecDepth 100000 in
set_option maxHeartbeats 16000000 in
theorem member_at (fo co : Option Addr) (fc cc q : Nat) (O : Nat → Nat → Int) (p : Nat → Nat) (v : Nat → Int) (w : World) (hS : BS w fo fc co cc q O p) (hv : Vv v) :
    Calls Try.prog 83 #[.agg #[.slice fo q fc, .slice co q cc], PV v] w fun e w' => MemRes O p v q e w' ∧ Below w.heap.size w w' := by
  obtain ⟨hb0, hb1, hb2, hb3, hb4⟩ := member_boxes w (.slice fo q fc) (.slice co q cc) (.slice none 0 0) (.func (.func 127) #[] #[.pointer (some ⟨w.heap.size + 1 + 1, 0, none⟩), .pointer (some ⟨w.heap.size, 0, none⟩)]) v 36 100 29 _ rfl
  have hS0 : NJ (w.heap.size + 1 + 1) w.heap.size (w.heap.size + 1 + 1 + 1) (.slice fo q fc) (.slice co q cc) (ckf O p v) 0 (fun b => b = w.heap.size + 1 + 1 ∨ b = w.heap.size ∨ (Value.slice none 0 0).ownBlock = some b) ((((w.alloc (.cells #[.slice fo q fc, .slice co q cc] 100)).alloc (.cells #[.int .i64 (v 0), .int .i64 (v 1), .int .i64 (v 2), .int .i64 (v 3), .int .i64 (v 4), .int .i64 (v 5)] 36)).alloc (.cells #[.slice none 0 0] 29)).alloc (.cells #[.func (.func 127) #[] #[.pointer (some ⟨w.heap.size + 1 + 1, 0, none⟩), .pointer (some ⟨w.heap.size, 0, none⟩)]] 162)) :=
    ⟨.slice none 0 0, hb1, hb0, World.ownsRow_nil _ _ _ _, by omega, fun b => Iff.rfl⟩
  have hSS : Sst w (NJ (w.heap.size + 1 + 1) w.heap.size (w.heap.size + 1 + 1 + 1) (.slice fo q fc) (.slice co q cc) (ckf O p v)) := NJ.sst (by omega) (Nat.le_refl _) (by omega)
  have HLA := Bx.mk (last_noted w fo co fc cc q (w.heap.size + 1 + 1) w.heap.size (rmd O p v) _ _ (w.heap.size + 1 + 1 + 1) 0 1 ((((w.alloc (.cells #[.slice fo q fc, .slice co q cc] 100)).alloc (.cells #[.int .i64 (v 0), .int .i64 (v 1), .int .i64 (v 2), .int .i64 (v 3), .int .i64 (v 4), .int .i64 (v 5)] 36)).alloc (.cells #[.slice none 0 0] 29)).alloc (.cells #[.func (.func 127) #[] #[.pointer (some ⟨w.heap.size + 1 + 1, 0, none⟩), .pointer (some ⟨w.heap.size, 0, none⟩)]] 162)) hSS hS.six hS.lf hb3 hb2 (by omega) (fun h => by
      rcases h with h | h | h
      · omega
      · omega
      · cases h) (fun k h => (hSS.lt _ _ _ k hS0 h).1) hS0 hv (fun i S W hi hJ hB hx => noted_at w fo co fc cc q O p v _ _ _ i (ckf O p v) (rmd O p v i) (rmd O p v (i + 1)) S W hS hi (by omega) (by omega) (by omega) hJ hB hx rfl rfl))
  have HB3 := Bx.mk hb3
  have HSS := Bx.mk hSS
  unfold PV at HLA ⊢
  clear hSS hS0 hb0 hb1 hb2 hb3 hS
  go_enter Try.func83, Try.ntmps83
  go_wp2_with (first
    | (go_at_call 85; refine HLA.out.mono ?_; clear HLA; rintro e w4 ⟨hr, B4⟩
       have s4 := B4.size
       have HB4 := Bx.mk B4
       have hz := VB.new w4 (fun _ => 0)
       have d0 := hz.c0
       have d1 := hz.c1
       have d2 := hz.c2
       have d3 := hz.c3
       have d4 := hz.c4
       have d5 := hz.c5
       have f0 := hz.f 0
       have f1 := hz.f 1
       have f2 := hz.f 2
       have f3 := hz.f 3
       have f4 := hz.f 4
       have f5 := hz.f 5
       have HZ := Bx.mk hz
       clear hz B4
       have HBZ := Bx.mk (above_new w4)
       rcases member_split hr with ⟨rfl, hkb, hzb, E6, lo, lc, hll, hlm, HCI, jca⟩ | ⟨rfl, hkb, hzb, E6⟩ | ⟨rfl, hk⟩))
  · refine bodyPost_ret_by (v := .tuple #[.slice lo q lc, .bool true, .int .i64 0]) (by simp [results, Try.results83, go_sem]) rfl ?_
    exact ⟨.inl ⟨hkb.out, .inl ⟨hzb.out, lo, lc, rfl, hll, hlm, HCI.out.keep (HBZ.out _)⟩⟩, HB4.out.trans ((HBZ.out _).mono (by omega))⟩
  · refine bodyPost_ret_by (v := .tuple #[.slice none 0 0, .bool false, .int .i64 0]) (by simp [results, Try.results83, go_sem]) rfl ?_
    exact ⟨.inl ⟨hkb.out, .inr ⟨hzb.out, rfl⟩⟩, HB4.out.trans ((HBZ.out _).mono (by omega))⟩
  · refine bodyPost_ret_by (v := .tuple #[.slice none 0 0, .bool false, .int .i64 3]) (by simp [results, Try.results83, go_sem]) rfl ?_
    exact ⟨.inr ⟨hk.out, rfl⟩, HB4.out.trans ((HBZ.out _).mono (by omega))⟩
end Go.Proofs.Ytnbamjoadankmaa
/- The program's lattice: Member. -/
namespace Go.Proofs.Ytnbamjoadankmaa
open Go.RowKit D
theorem MemRes.form {O : Nat → Nat → Int} {p : Nat → Nat} {v : Nat → Int} {q : Nat} {e : Ending} {w' : World} (h : MemRes O p v q e w') : ∃ lo n lc b c, e = .returned (.tuple #[.slice lo n lc, .bool b, .int .i64 c]) := by
  rcases h with ⟨_, ⟨_, lo, lc, rfl, _⟩ | ⟨_, rfl⟩⟩ | ⟨_, rfl⟩
  · exact ⟨_, _, _, _, _, rfl⟩
  · exact ⟨_, _, _, _, _, rfl⟩
  · exact ⟨_, _, _, _, _, rfl⟩
theorem vec_new (w : World) (v : Nat → Int) : VB (w.alloc (.cells #[.int .i64 (v 0), .int .i64 (v 1), .int .i64 (v 2), .int .i64 (v 3), .int .i64 (v 4), .int .i64 (v 5)] 36)) w.heap.size v ∧ Below w.heap.size w (w.alloc (.cells #[.int .i64 (v 0), .int .i64 (v 1), .int .i64 (v 2), .int .i64 (v 3), .int .i64 (v 4), .int .i64 (v 5)] 36)) := ⟨VB.new w v, above_new w _⟩
set_option maxRecDepth 100000 in
set_option maxHeartbeats 8000000 in
theorem lmember_at (ao : Option Addr) (n c1 : Nat) (M : Nat → Nat → Int) (v : Nat → Int) (w : World) (hc1 : n ≤ c1) (hc2 : c1 ≤ maxLen) (hR : CV w ao n M) (hm : VM M n) (hv : VV v) :
    Calls Try.prog 32 #[.slice ao n c1, PV v] w fun e w' => ∃ (q : Nat) (O : Nat → Nat → Int) (p : Nat → Nat), (Hf O q 6 p ∧ (∀ t, t < n → Sp O q 6 (M t)) ∧ ∀ i, i < q → Sp M n 6 (O i)) ∧ q ≤ 6 ∧ MemRes O p v q e w' ∧ Below w.heap.size w w' := by
  have HBF := Bx.mk (fun w' (hb : Below w.heap.size w w') => basisFor_any ao n c1 M v w' hc1 hc2 (hR.keep hb) hm hv)
  obtain ⟨hV0, hB0⟩ := vec_new w v
  have HV0 := Bx.mk hV0
  have HB0 := Bx.mk hB0
  have HVV := Bx.mk hv
  have v0 := hV0.c0
  have v1 := hV0.c1
  have v2 := hV0.c2
  have v3 := hV0.c3
  have v4 := hV0.c4
  have v5 := hV0.c5
  unfold PV at HBF ⊢
  clear hV0 hB0 hv
  go_enter Try.func32, Try.ntmps32
  go_wp2_with (first
    | (go_at_call 82; refine (HBF.out _ HB0.out).mono ?_; clear HBF; rintro e w2 ⟨fo, fc, co, cc, q, O, p, rfl, HS2, HH2, hfc, B2w⟩
       have hs2 := B2w.out.size
       have hs2a : w.heap.size < w2.heap.size := Nat.lt_of_lt_of_le HV0.out.lt hs2
       have hBW := above_new w2 (.cells #[.slice fo q fc, .slice co q cc] 100)
       have V2 := (HV0.out.keep (B2w.out.block w.heap.size HV0.out.lt)).keep (hBW.block w.heap.size hs2a)
       have hq6 := HS2.out.six
       have HLA := Bx.mk ((member_at fo co fc cc q O p v (w2.alloc (.cells #[.slice fo q fc, .slice co q cc] 100)) (HS2.out.keep hBW) HVV.out).mono (R' := fun e w' => ∃ lo n lc b c, e = .returned (.tuple #[.slice lo n lc, .bool b, .int .i64 c]) ∧ Bx (MemRes O p v q e w') ∧ Bx (Below w.heap.size w w')) fun e w' h => by
         obtain ⟨lo, n, lc, b, c, he⟩ := h.1.form
         exact ⟨lo, n, lc, b, c, he, ⟨h.1⟩, ⟨(HB0.out.trans (B2w.out.mono (Nat.le_of_lt HV0.out.lt))).trans ((hBW.mono (Nat.le_of_lt hs2a)).trans (h.2.mono (by rw [World.size_alloc]; omega)))⟩⟩)
       unfold PV at HLA
       have d0 := V2.c0
       have d1 := V2.c1
       have d2 := V2.c2
       have d3 := V2.c3
       have d4 := V2.c4
       have d5 := V2.c5
       have ne1 : w.heap.size ≠ w2.heap.size := by omega
       have ne2 : w2.heap.size ≠ w.heap.size := by omega
       clear B2w V2 hBW HS2)
    | (go_at_call 83; refine HLA.out.mono ?_; clear HLA; rintro e w4 ⟨lo, n, lc, b, c, rfl, HM, HB⟩))
  refine bodyPost_ret_by (v := .tuple #[.slice lo n lc, .bool b, .int .i64 c]) (by simp [results, Try.results32, go_sem]) rfl ?_
  exact ⟨q, O, p, HH2.out, hq6, HM.out, HB.out⟩
set_option maxRecDepth 100000 in
set_option maxHeartbeats 8000000 in
theorem lmember_bad (ao : Option Addr) (n c1 : Nat) (M : Nat → Nat → Int) (v : Nat → Int) (w : World) (hc1 : n ≤ c1) (hc2 : c1 ≤ maxLen) (hR : CV w ao n M) (h : ¬ (VM M n ∧ VV v)) :
    Calls Try.prog 32 #[.slice ao n c1, PV v] w fun e w' => e = .returned (.tuple #[.slice none 0 0, .bool false, .int .i64 1]) ∧ Below w.heap.size w w' := by
  have HBF : Bx (∀ w', Below w.heap.size w w' → Calls Try.prog 82 #[.slice ao n c1, PV v] w' fun e w'' => e = .returned (.tuple #[.agg #[.slice none 0 0, .slice none 0 0], .int .i64 1]) ∧ Below w'.heap.size w' w'') := ⟨fun w' hb => by
    by_cases hv : VV v
    · exact basisFor_bad ao n c1 M v w' hc1 hc2 (hR.keep hb) (fun hm => h ⟨hm, hv⟩) hv
    · exact basisFor_vec ao n c1 v w' hv⟩
  obtain ⟨hV0, hB0⟩ := vec_new w v
  have HB0 := Bx.mk hB0
  have hlt := hV0.lt
  have v0 := hV0.c0
  have v1 := hV0.c1
  have v2 := hV0.c2
  have v3 := hV0.c3
  have v4 := hV0.c4
  have v5 := hV0.c5
  unfold PV at HBF ⊢
  clear hV0 hB0
  go_enter Try.func32, Try.ntmps32
  go_wp2_with (first
    | (go_at_call 82; refine (HBF.out _ HB0.out).mono ?_; clear HBF; rintro e w2 ⟨rfl, B2w⟩
       have HB4 := Bx.mk ((HB0.out.trans (B2w.mono (Nat.le_of_lt hlt))).trans ((above_new w2 (.cells #[.slice none 0 0, .slice none 0 0] 100)).mono (by have := B2w.size; omega)))
       clear B2w))
  refine bodyPost_ret_by (v := .tuple #[.slice none 0 0, .bool false, .int .i64 1]) (by simp [results, Try.results32, go_sem]) rfl ?_
  exact ⟨rfl, HB4.out⟩
end Go.Proofs.Ytnbamjoadankmaa

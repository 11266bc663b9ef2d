/- One round of a loop over a function that hands vectors: the record is ready, busy, and ready again. -/
import Derived.Test.YtnbamjoadankmaaRF
import Derived.Test.YtnbamjoadankmaaKD
import Derived.Test.YtnbamjoadankmaaVF
namespace Go.Proofs.Ytnbamjoadankmaa
open Go.RowKit
variable {F : Fence} {n : Nat} {P : Program}
/-- A round that goes on: what the loop's assignment and body do, between the two turns of the record. -/
theorem round_on {l : Nat} {W : World} {r : Loop} (hl : W.heap[l]? = some (.loop r)) (hr : r.state = .ready) (hp : r.pending = none) {v : Value} (hs : r.params.size = 1) (hfn : F.fn r.fn)
    (A : Act → World → Prop) (R : World → Prop)
    (hassign : r.assign.wpIn (F.inRound l) n P (Exit.then (fun a' W' => A a' W') fun _ _ _ => False) { tmps := (r.params.zip #[v]).foldl (fun t (p, v) => t.setIfInBounds p v) r.tmps, defers := [] } W)
    (hA : ∀ a' W', A a' W' → W'.heap[l]? = some (.loop r))
    (hbody : ∀ a' W', A a' W' → r.body.wpIn (F.inRound l) n P (fun e _ W3 => e = .normal ∧ W3.heap[l]? = some (.loop { r with state := .busy }) ∧ R (W3.putObj l (.loop r))) a' (W'.putObj l (.loop { r with state := .busy }))) :
    YieldAt F n P l #[v] W fun e W' => e = .returned (.bool true) ∧ R W' := by
  refine ⟨r.fn, _, r.assign, r.body, run_yield hl (by simp [hs]), roundIn_of_wpIn hfn (wpIn_mono hassign ?_)⟩
  rintro e a1 W1 hp1
  cases e with
  | normal =>
    have hl1 := hA _ _ hp1
    have hlt1 : l < W1.heap.size := (Array.getElem?_eq_some_iff.1 hl1).1
    refine ⟨_, run_beginRound hl1 hr, ?_⟩
    refine wpIn_mono (hbody a1 W1 hp1) ?_
    rintro e a3 W3 ⟨rfl, h3, hR⟩
    refine ⟨.bool true, W3.putObj l (.loop r), ?_, rfl, hR⟩
    have h := run_endRound (P := P) none h3
    have e : ({ ({ r with state := .busy } : Loop) with state := if (none : Option Code).isNone then .ready else .done, pending := none } : Loop) = r := by cases r; simp_all
    rw [e] at h
    exact h
  | exit id => exact hp1.elim
  | goto t => exact hp1.elim
  | ret => exact hp1.elim
  | panic ch => exact hp1.elim
  | outgrown => exact hp1.elim
end Go.Proofs.Ytnbamjoadankmaa
/- A loop over a function that hands vectors, whose rounds note the vector in a block and always go on. -/
namespace Go.Proofs.Ytnbamjoadankmaa
open Go.RowKit
/-- A vector in a block. -/
def VB (W : World) (b : Nat) (v : Nat → Int) : Prop := W.heap[b]? = some (.cells #[.int .i64 (v 0), .int .i64 (v 1), .int .i64 (v 2), .int .i64 (v 3), .int .i64 (v 4), .int .i64 (v 5)] 36 (0, 0))
theorem VB.lt {W : World} {b : Nat} {v : Nat → Int} (h : VB W b v) : b < W.heap.size := (Array.getElem?_eq_some_iff.1 h).1
theorem VB.c0 {W : World} {b : Nat} {v : Nat → Int} (h : VB W b v) : W.cell? ⟨b, 0, none⟩ = some (.int .i64 (v 0)) := by have h' : W.heap[b]? = _ := h; simp [World.cell?, h']
theorem VB.c1 {W : World} {b : Nat} {v : Nat → Int} (h : VB W b v) : W.cell? ⟨b, 1, none⟩ = some (.int .i64 (v 1)) := by have h' : W.heap[b]? = _ := h; simp [World.cell?, h']
theorem VB.c2 {W : World} {b : Nat} {v : Nat → Int} (h : VB W b v) : W.cell? ⟨b, 2, none⟩ = some (.int .i64 (v 2)) := by have h' : W.heap[b]? = _ := h; simp [World.cell?, h']
theorem VB.c3 {W : World} {b : Nat} {v : Nat → Int} (h : VB W b v) : W.cell? ⟨b, 3, none⟩ = some (.int .i64 (v 3)) := by have h' : W.heap[b]? = _ := h; simp [World.cell?, h']
theorem VB.c4 {W : World} {b : Nat} {v : Nat → Int} (h : VB W b v) : W.cell? ⟨b, 4, none⟩ = some (.int .i64 (v 4)) := by have h' : W.heap[b]? = _ := h; simp [World.cell?, h']
theorem VB.c5 {W : World} {b : Nat} {v : Nat → Int} (h : VB W b v) : W.cell? ⟨b, 5, none⟩ = some (.int .i64 (v 5)) := by have h' : W.heap[b]? = _ := h; simp [World.cell?, h']
theorem VB.f {W : World} {b : Nat} {v : Nat → Int} (h : VB W b v) (k : Nat) : W.frozen? ⟨b, k, none⟩ = false := by have h' : W.heap[b]? = _ := h; simp [World.frozen?, h']
theorem VB.keep {W W' : World} {b : Nat} {v : Nat → Int} (h : VB W b v) (hk : W'.heap[b]? = W.heap[b]?) : VB W' b v := hk.trans h
theorem VB.new (W : World) (v : Nat → Int) : VB (W.alloc (.cells #[.int .i64 (v 0), .int .i64 (v 1), .int .i64 (v 2), .int .i64 (v 3), .int .i64 (v 4), .int .i64 (v 5)] 36)) W.heap.size v := World.alloc_heap_new W _
theorem set_block {W : World} {b k : Nat} {cs : Array Value} {t : TypeId} {l : Nat × Nat} (h : W.heap[b]? = some (.cells cs t l)) (z : Value) : (W.setCell ⟨b, k, none⟩ z).heap[b]? = some (.cells (cs.setIfInBounds k z) t l) := by
  simp [World.setCell, Array.getElem?_modify, h]
theorem VB.six {W : World} {b : Nat} {v : Nat → Int} (h : VB W b v) (x : Nat → Int) : VB (six6 W b 0 x) b x := by
  have h' : W.heap[b]? = _ := h
  have a0 := set_block (k := 0) h' (.int .i64 (x 0))
  have a1 := set_block (k := 0 + 1) a0 (.int .i64 (x 1))
  have a2 := set_block (k := 0 + 2) a1 (.int .i64 (x 2))
  have a3 := set_block (k := 0 + 3) a2 (.int .i64 (x 3))
  have a4 := set_block (k := 0 + 4) a3 (.int .i64 (x 4))
  have a5 := set_block (k := 0 + 5) a4 (.int .i64 (x 5))
  unfold VB six6
  simpa using a5
variable {F : Fence} {n : Nat} {P : Program}
theorem but_put (A : World) (b : Nat) (o : Obj) : But b A (A.putObj b o) := ⟨rfl, rfl, rfl, by simp, fun k _ hk => World.putObj_heap_other hk⟩
/-- The loop. -/
theorem vec_loop {g : Operand} {ps : Array Tmp} {assign body : Code} {Q : Exit → Act → World → Prop} {a : Act} {w : World}
    (hro : F.round = none) (h1 : 1 ≤ n) {gf : Nat} {lb : Array Value} (hg : a.eval g = .func (.func gf) #[] lb) (hFg : F.fn gf) (eg : ∀ args w, (callFunc gf args).run P w = .ok (.enter gf args) w) (hps : ps.size = 1)
    (vb : Nat) (hvb : vb < w.heap.size) (toV : (Nat → Int) → Value) (a₁ : (Nat → Int) → Nat → Act)
    (hassign : ∀ (l : Nat) (x : Nat → Int) (W : World), assign.wpIn (F.inRound l) (n - 1 - 1) P (Exit.then (fun a' W' => a' = a₁ x W.heap.size ∧ Below W.heap.size W W' ∧ VB W' W.heap.size x) fun _ _ _ => False) { tmps := (ps.zip #[toV x]).foldl (fun t (p, v) => t.setIfInBounds p v) a.tmps, defers := [] } W)
    (hbody : ∀ (l : Nat) (x : Nat → Int) (b : Nat) (W : World) (y : Nat → Int), VB W b x → VB W vb y → b ≠ vb → body.wpIn (F.inRound l) (n - 1 - 1) P (fun e _ W3 => e = .normal ∧ W3 = six6 W vb 0 x) (a₁ x b) W)
    (R : World → Prop) (hR : ∀ A o, R A → R (A.putObj (w.heap.size + 1) o))
    (hcall : ∀ (r : Loop) (W1 : World), Below w.heap.size w W1 → W1.heap.size = w.heap.size + 2 → W1.heap[w.heap.size + 1]? = some (.loop r) →
      (∀ x W, W.heap[w.heap.size + 1]? = some (.loop r) → (∃ y, VB W vb y) → YieldAt F (n - 1 - 1) P (w.heap.size + 1) #[toV x] W fun e W' => e = .returned (.bool true) ∧ But vb W W' ∧ VB W' vb x) →
      CallsIn F (n - 1) P gf (#[.func (.yield (w.heap.size + 1)) #[] #[]] ++ lb) W1 fun e W' => (∃ v, e = .returned v) ∧ W1.heap.size ≤ W'.heap.size ∧ (∀ k, w.heap.size ≤ k → k < W1.heap.size → W'.heap[k]? = W1.heap[k]?) ∧ R W')
    (hdone : ∀ (W : World), R W → w.heap.size ≤ W.heap.size → W.heap[w.heap.size]? = some (.deferred (some [])) → Q .normal { a with defers := { target := .collected w.heap.size, args := #[] } :: a.defers } W) :
    (Code.rangeFunc g ps assign body).wpIn F n P Q a w := by
  refine wpIn_rangeFunc ?_
  intro fn hfn
  rw [hro]
  obtain ⟨r, hr⟩ : ∃ r : Loop, r = { state := .ready, pending := none, fn, tmps := a.tmps, params := ps, assign, body, defers := w.heap.size } := ⟨_, rfl⟩
  obtain ⟨W1, hW1⟩ : ∃ W1, (w.alloc (.deferred (some []))).alloc (.loop r) = W1 := ⟨_, rfl⟩
  have hs1 : W1.heap.size = w.heap.size + 2 := by rw [← hW1]; simp
  have hL1 : W1.heap[w.heap.size + 1]? = some (.loop r) := by
    rw [← hW1]; have := World.alloc_heap_new (w.alloc (.deferred (some []))) (.loop r); rwa [World.size_alloc] at this
  have hK1 : W1.heap[w.heap.size]? = some (.deferred (some [])) := by
    rw [← hW1]; exact (Below.heap_alloc _ _ _ (by simp)).trans (World.alloc_heap_new w _)
  have hbw : Below w.heap.size w W1 := by rw [← hW1]; exact ((Below.refl _ w).alloc (Nat.le_refl _) _).alloc (by simp) _
  refine ⟨w.heap.size + 1, [{ target := .collected w.heap.size, args := #[] }], W1, { target := .fn (.func gf) lb, args := #[.func (.yield (w.heap.size + 1)) #[] #[]] }, W1, gf,
    #[.func (.yield (w.heap.size + 1)) #[] #[]] ++ lb, W1, ?_, ?_, ?_, ?_, fun _ => h1, ?_⟩
  · rw [← hW1, hr]; exact run_enterLoop_outer _ _ _ _ _
  · simp only [resolve, hg]
    simp [go_sem]
  · intro f' hf'; simp [Target.leads] at hf'; subst hf'; exact hFg
  · simp [invoke, go_sem, eg]
  · refine (hcall r W1 hbw hs1 hL1 ?_).mono ?_
    · rintro x W hl ⟨y, hy⟩
      have hlt := (Array.getElem?_eq_some_iff.1 hl).1
      refine round_on hl (by rw [hr]) (by rw [hr]) (by rw [hr]; exact hps) (by rw [hr]; exact hfn)
        (fun a' W' => a' = a₁ x W.heap.size ∧ Below W.heap.size W W' ∧ VB W' W.heap.size x) (fun W' => But vb W W' ∧ VB W' vb x) (by rw [hr]; exact hassign _ x W) (fun a' W' h => (h.2.1.block _ hlt).trans hl) ?_
      rintro a' W' ⟨rfl, hB, hV⟩
      have hlt' : w.heap.size + 1 < W'.heap.size := Nat.lt_of_lt_of_le hlt hB.size
      have hy' : VB W' vb y := hy.keep (hB.block _ hy.lt)
      have hvl : vb ≠ w.heap.size + 1 := by omega
      have hne : W.heap.size ≠ vb := by have := hy.lt; omega
      have hbody' := hbody (w.heap.size + 1) x W.heap.size (W'.putObj (w.heap.size + 1) (.loop { r with state := .busy })) y (hV.keep (World.putObj_heap_other (by omega))) (hy'.keep (World.putObj_heap_other hvl)) hne
      have eb : r.body = body := by rw [hr]
      rw [← eb] at hbody'
      refine wpIn_mono hbody' ?_
      rintro e a3 W3 ⟨rfl, h3⟩
      have hb6 : But vb (W'.putObj (w.heap.size + 1) (.loop { r with state := .busy })) W3 := by rw [h3]; exact But.six6 _ 0 x
      have hyp : VB (W'.putObj (w.heap.size + 1) (.loop { r with state := .busy })) vb y := hy'.keep (World.putObj_heap_other hvl)
      have hv6 : VB W3 vb x := by rw [h3]; exact hyp.six x
      clear h3
      have hsz := hb6.size
      simp only [World.putObj_size] at hsz
      refine ⟨rfl, ?_, ?_, hv6.keep (World.putObj_heap_other hvl)⟩
      · rw [hb6.block _ (by rw [World.putObj_size]; exact hlt') (Ne.symm hvl)]
        exact World.putObj_heap_same hlt'
      · refine ⟨hb6.os.trans hB.os, hb6.tape.trans hB.tape, hb6.output.trans hB.output, ?_, fun k hk hkv => ?_⟩
        · rw [World.putObj_size]
          exact Nat.le_trans hB.size hsz
        · by_cases e : k = w.heap.size + 1
          · subst e
            rw [World.putObj_heap_same (Nat.lt_of_lt_of_le hlt' hsz), hl]
          · rw [World.putObj_heap_other e, hb6.block k (by rw [World.putObj_size]; exact Nat.lt_of_lt_of_le hk hB.size) hkv, World.putObj_heap_other e]
            exact hB.block k hk
    · rintro e W2 ⟨⟨v, rfl⟩, hBs, hBt, hRW⟩
      have hl : W2.heap[w.heap.size + 1]? = some (.loop r) := (hBt _ (by omega) (by omega)).trans hL1
      have hk : W2.heap[w.heap.size]? = some (.deferred (some [])) := (hBt _ (by omega) (by omega)).trans hK1
      exact ⟨none, _, by have := run_endLoop (P := P) hl (by rw [hr]; simp); rw [show r.pending = none by rw [hr]] at this; exact this, hdone _ (hR _ _ hRW) (by simp; omega) ((World.putObj_heap_other (by omega)).trans hk)⟩
end Go.Proofs.Ytnbamjoadankmaa
/- The program's lattice: where a search ends. -/
namespace Go.Proofs.Ytnbamjoadankmaa
open Go.RowKit D
/-- A basis in a block. -/
def PB (W : World) (b : Nat) (x y : Value) : Prop := W.heap[b]? = some (.cells #[x, y] 100 (0, 0))
theorem PB.lt {W : World} {b : Nat} {x y : Value} (h : PB W b x y) : b < W.heap.size := (Array.getElem?_eq_some_iff.1 h).1
theorem PB.c0 {W : World} {b : Nat} {x y : Value} (h : PB W b x y) : W.cell? ⟨b, 0, none⟩ = some x := by have h' : W.heap[b]? = _ := h; simp [World.cell?, h']
theorem PB.c1 {W : World} {b : Nat} {x y : Value} (h : PB W b x y) : W.cell? ⟨b, 1, none⟩ = some y := by have h' : W.heap[b]? = _ := h; simp [World.cell?, h']
theorem PB.f {W : World} {b : Nat} {x y : Value} (h : PB W b x y) (k : Nat) : W.frozen? ⟨b, k, none⟩ = false := by have h' : W.heap[b]? = _ := h; simp [World.frozen?, h']
theorem PB.keep {W W' : World} {b : Nat} {x y : Value} (h : PB W b x y) (hk : W'.heap[b]? = W.heap[b]?) : PB W' b x y := hk.trans h
theorem PB.set1 {W : World} {b : Nat} {x y : Value} (h : PB W b x y) (z : Value) : PB (W.setCell ⟨b, 1, none⟩ z) b x z := by
  have h' : W.heap[b]? = _ := h
  unfold PB
  simp [World.setCell, Array.getElem?_modify, h']
theorem PB.set0 {W : World} {b : Nat} {x y : Value} (h : PB W b x y) (z : Value) : PB (W.setCell ⟨b, 0, none⟩ z) b z y := by
  have h' : W.heap[b]? = _ := h
  unfold PB
  simp [World.setCell, Array.getElem?_modify, h']
theorem PB.drew {W : World} {b : Nat} {x y : Value} (h : PB W b x y) : PB W.drew b x y := h
theorem PB.new (W : World) (x y : Value) : PB (W.alloc (.cells #[x, y] 100)) W.heap.size x y := World.alloc_heap_new W _
theorem below_step {w w1 w2 : World} (h : Below w.heap.size w w1) {k : Nat} (hk : w1.heap.size = w.heap.size + k) (h2 : Below w1.heap.size w1 w2) : Below w.heap.size w w2 := h.trans (h2.mono (by omega))
set_option maxRecDepth 100000 in
set_option maxHeartbeats 8000000 in
theorem ends_go (x : Nat → Int) (eb : Nat) (w : World) (hv : ∀ j, j < 6 → -1000000000 ≤ x j ∧ x j ≤ 1000000000) (he : Boxed w eb 25 (.int .i64 0)) :
    Calls Try.prog 130 #[PV x, .pointer (some ⟨eb, 0, none⟩)] w fun e w' => e = .returned (.bool false) ∧ Below w.heap.size w w' := by
  have HL := Bx.mk (fun w' => lvalid_any x w' true (by simpa using hv))
  have hlt := he.lt
  have HB := Bx.mk ((Below.refl _ w).alloc (Nat.le_refl _) (.cells #[.int .i64 (x 0), .int .i64 (x 1), .int .i64 (x 2), .int .i64 (x 3), .int .i64 (x 4), .int .i64 (x 5)] 36))
  have hsz : (w.alloc (.cells #[.int .i64 (x 0), .int .i64 (x 1), .int .i64 (x 2), .int .i64 (x 3), .int .i64 (x 4), .int .i64 (x 5)] 36)).heap.size = w.heap.size + 1 := by simp
  have hx := box_cell w x 36
  have v0 := hx 0 (by omega)
  have v1 := hx 1 (by omega)
  have v2 := hx 2 (by omega)
  have v3 := hx 3 (by omega)
  have v4 := hx 4 (by omega)
  have v5 := hx 5 (by omega)
  have HE := Bx.mk he
  unfold PV at HL ⊢
  clear hx hv he
  go_enter Try.func130, Try.ntmps130
  go_wp2_with (go_at_call 126; refine (HL.out _).mono ?_; rintro e w2 ⟨rfl, B2w⟩; have B2 := Bx.mk (below_step HB.out hsz B2w); have E2 : Boxed w2 eb _ _ := (B2.out.block eb hlt).trans HE.out; have c2 := E2.cell; have f2 := E2.frozen)
  go_ret
  exact ⟨rfl, B2.out⟩
set_option maxRecDepth 100000 in
set_option maxHeartbeats 8000000 in
theorem ends_stop (x : Nat → Int) (eb : Nat) (w : World) (hv : ¬ ∀ j, j < 6 → -1000000000 ≤ x j ∧ x j ≤ 1000000000) (he : Boxed w eb 25 (.int .i64 0)) :
    Calls Try.prog 130 #[PV x, .pointer (some ⟨eb, 0, none⟩)] w fun e w' => e = .returned (.bool true) ∧ ∃ w1, Bx (Below w.heap.size w w1) ∧ w' = w1.setCell ⟨eb, 0, none⟩ (.int .i64 3) := by
  have HL := Bx.mk (fun w' => lvalid_any x w' false (by simpa using hv))
  have hlt := he.lt
  have HB := Bx.mk ((Below.refl _ w).alloc (Nat.le_refl _) (.cells #[.int .i64 (x 0), .int .i64 (x 1), .int .i64 (x 2), .int .i64 (x 3), .int .i64 (x 4), .int .i64 (x 5)] 36))
  have hsz : (w.alloc (.cells #[.int .i64 (x 0), .int .i64 (x 1), .int .i64 (x 2), .int .i64 (x 3), .int .i64 (x 4), .int .i64 (x 5)] 36)).heap.size = w.heap.size + 1 := by simp
  have hx := box_cell w x 36
  have v0 := hx 0 (by omega)
  have v1 := hx 1 (by omega)
  have v2 := hx 2 (by omega)
  have v3 := hx 3 (by omega)
  have v4 := hx 4 (by omega)
  have v5 := hx 5 (by omega)
  have HE := Bx.mk he
  unfold PV at HL ⊢
  clear hx hv he
  go_enter Try.func130, Try.ntmps130
  go_wp2_with (go_at_call 126; refine (HL.out _).mono ?_; rintro e w2 ⟨rfl, B2w⟩; have B2 := Bx.mk (below_step HB.out hsz B2w); have E2 : Boxed w2 eb _ _ := (B2.out.block eb hlt).trans HE.out; have c2 := E2.cell; have f2 := E2.frozen; have c3 := (E2.set (.int .i64 3)).cell)
  go_ret
  exact ⟨rfl, _, B2, rfl⟩
end Go.Proofs.Ytnbamjoadankmaa

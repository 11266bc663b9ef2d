/- Loops over a function that keeps a list of its own in memory: a law for the loop and its rounds. -/
import Derived.Test.YtnbamjoadankmaaMC
import Derived.RangeFuncNested
import Derived.RangeFuncBound
import Derived.RangeFuncLeaves
namespace Go.Proofs.Ytnbamjoadankmaa
open Go.RowKit
/-- A function value is stored as any other one. -/
theorem run_store_fn {P : Program} {w : World} {a : Addr} {m : Mode} (f : Fn) (b c : Array Value) : (store a (.func f b c) m).run P w = stored P w a (.func f b c) m := run_store P w a _ m rfl
/-- From block n on all that was there is as it was. -/
def Up (n : Nat) (A B : World) : Prop := A.heap.size ≤ B.heap.size ∧ ∀ b, n ≤ b → b < A.heap.size → B.heap[b]? = A.heap[b]?
theorem Up.refl (n : Nat) (A : World) : Up n A A := ⟨Nat.le_refl _, fun _ _ _ => rfl⟩
theorem Up.trans {n : Nat} {A B C : World} (h : Up n A B) (k : Up n B C) : Up n A C := ⟨Nat.le_trans h.1 k.1, fun b hb hs => (k.2 b hb (Nat.lt_of_lt_of_le hs h.1)).trans (h.2 b hb hs)⟩
theorem Up.mono {n m : Nat} {A B : World} (h : Up n A B) (hm : n ≤ m) : Up m A B := ⟨h.1, fun b hb hs => h.2 b (by omega) hs⟩
theorem Up.of_below {n : Nat} {A B : World} (h : Below A.heap.size A B) : Up n A B := ⟨h.size, fun b _ hs => h.block b hs⟩
theorem Up.alloc (n : Nat) (A : World) (o : Obj) : Up n A (A.alloc o) := ⟨by simp, fun b _ hs => Below.heap_alloc _ _ _ hs⟩
theorem Up.setCell {n : Nat} (A : World) {a : Addr} (ha : a.block < n) (u : Value) : Up n A (A.setCell a u) := ⟨by simp [World.setCell], fun b hb _ => Below.heap_setCell _ _ _ _ (by omega)⟩
theorem Up.putObj {n : Nat} (A : World) {l : Nat} (ha : l < n) (o : Obj) : Up n A (A.putObj l o) := ⟨by simp, fun b hb _ => World.putObj_heap_other (by omega)⟩
theorem below_put {n : Nat} (A : World) {l : Nat} (ha : n ≤ l) (o : Obj) : Below n A (A.putObj l o) := ⟨rfl, rfl, rfl, by simp, fun b hb => World.putObj_heap_other (by omega)⟩
theorem up_below {n m : Nat} {A B C : World} (h : Up n A B) (k : Below m B C) (hm : A.heap.size ≤ m) : Up n A C := ⟨Nat.le_trans h.1 k.size, fun b hb hs => (k.block b (by omega)).trans (h.2 b hb hs)⟩
/-- What speaks of the blocks below n alone. -/
def Ab {β : Type} (n : Nat) (J : β → World → Prop) : Prop := ∀ s A B, Below n A B → J s A → J s B
theorem Ab.and {β : Type} {n : Nat} {J K : β → World → Prop} (h : Ab n J) (k : Ab n K) : Ab n fun s W => J s W ∧ K s W := fun s A B hb hs => ⟨h s A B hb hs.1, k s A B hb hs.2⟩
theorem Ab.mono {β : Type} {n m : Nat} {J : β → World → Prop} (h : Ab n J) (hm : n ≤ m) : Ab m J := fun s A B hb hs => h s A B (hb.mono hm) hs
theorem Ab.pure {β : Type} (n : Nat) (p : β → Prop) : Ab n fun s (_ : World) => p s := fun _ _ _ _ h => h
theorem Ab.below {β : Type} {n m : Nat} (w : World) (h : m ≤ n) : Ab n fun (_ : β) W => Below m w W := fun _ _ _ hb hs => hs.trans (hb.mono h)
theorem Ab.up {β : Type} {n m : Nat} (w : World) (h : w.heap.size ≤ m) : Ab m fun (_ : β) W => Up n w W := fun _ _ _ hb hs => up_below hs hb h
theorem Ab.boxed {β : Type} {n : Nat} (b : Nat) (t : TypeId) (f : β → Value) (h : b < n) : Ab n fun s W => Boxed W b t (f s) := fun _ _ _ hb hs => (hb.block b h).trans hs
theorem Ab.cn {β : Type} {n : Nat} (ao : Option Addr) (f : β → List Nat) : Ab n fun s W => (∀ b o, ao = some ⟨b, o, none⟩ → b < n) ∧ CN W ao (f s) := fun s A B hb hs => ⟨hs.1, fun hl => by
  obtain ⟨b, o, rfl, ha, hc⟩ := hs.2 hl
  exact ⟨b, o, rfl, Nat.lt_of_lt_of_le ha hb.size, fun i hi => by rw [hb.cell (p := ⟨b, o + i, none⟩) (hs.1 b o rfl)]; exact hc i hi⟩⟩
/-- A slice of indices from block n on. -/
def Chosen (n : Nat) (v : Value) (s : List Nat) (W : World) : Prop := ∃ b c, v = .slice (some ⟨b, 0, none⟩) s.length c ∧ s.length ≤ c ∧ c ≤ maxLen ∧ n ≤ b ∧ b < W.heap.size ∧ CN W (some ⟨b, 0, none⟩) s
theorem Chosen.up {n : Nat} {v : Value} {s : List Nat} {A B : World} (h : Chosen n v s A) (k : Up n A B) : Chosen n v s B := by
  obtain ⟨b, c, e, h1, h2, h3, h4, h5⟩ := h
  refine ⟨b, c, e, h1, h2, h3, Nat.lt_of_lt_of_le h4 k.1, fun hl => ?_⟩
  obtain ⟨b', o, e', ha, hc⟩ := h5 hl
  cases e'
  exact ⟨b, 0, rfl, Nat.lt_of_lt_of_le ha k.1, fun i hi => by rw [World.cell?_of_block (w := A) (a := ⟨b, 0 + i, none⟩) (k.2 b h3 h4)]; exact hc i hi⟩
theorem Chosen.mono {n m : Nat} {v : Value} {s : List Nat} {A : World} (h : Chosen n v s A) (k : m ≤ n) : Chosen m v s A := by
  obtain ⟨b, c, e, h1, h2, h3, h4, h5⟩ := h
  exact ⟨b, c, e, h1, h2, by omega, h4, h5⟩
/-- A function that hands lists of indices to a round, one after another, and keeps memory of its own. -/
def Seqs (F : Fence) (n : Nat) (P : Program) (m g : Nat) (lb : Array Value) (K : List Nat → Prop) (S Sp : List (List Nat) → Prop) (w : World) : Prop :=
  ∀ (l : Nat) (J Jx : List (List Nat) → World → Prop) (W : World), Below w.heap.size w W → Ab W.heap.size J → Ab W.heap.size Jx →
    (∀ pre s v W1, J pre W1 → K s → Chosen W.heap.size v s W1 → YieldAt F (n - 1) P l #[v] W1 fun e W' =>
      (e = .returned (.bool true) ∧ J (pre ++ [s]) W' ∧ Up m W1 W') ∨ (e = .returned (.bool false) ∧ Jx (pre ++ [s]) W')) →
    J [] W →
    CallsIn F n P g (#[.func (.yield l) #[] #[]] ++ lb) W fun e W' => (∃ v, e = .returned v) ∧ ((∃ xs, S xs ∧ J xs W') ∨ (∃ pre, Sp pre ∧ Jx pre W'))
/-- How a round's body may be left. -/
def roundEnd (N : Nat) (I : List (List Nat) → World → Prop) (Ix : Code → List (List Nat) → World → Prop) (xs : List (List Nat)) (W : World) : Exit → Act → World → Prop
  | .normal, _, W' => Up N W W' ∧ I xs W'
  | .ret, _, W' => Up N W W' ∧ Ix .ret xs W'
  | _, _, _ => False
variable {F : Fence} {n : Nat} {P : Program}
/-- One round: the record is ready, busy, and ready again or done. -/
theorem round_of {l N : Nat} {W : World} {r : Loop} (hN : N ≤ l) (hl : W.heap[l]? = some (.loop r)) (hr : r.state = .ready) (hp : r.pending = none) {v : Value} {s : List Nat} {pre : List (List Nat)} {n₁ : Nat} (hs : r.params.size = 1) (hfn : F.fn r.fn) (hl1 : l < n₁)
    {I : List (List Nat) → World → Prop} {Ix : Code → List (List Nat) → World → Prop} (hI : Ab l I) (hIx : ∀ c, Ab l (Ix c)) (hi : I pre W) (hc : Chosen n₁ v s W)
    (Ax : Act → World → Prop) (hAx : ∀ a A r', Ax a A → (∃ r0, A.heap[l]? = some (.loop r0)) → Ax a (A.putObj l (.loop r')))
    (hassign : r.assign.wpIn (F.inRound l) n P (Exit.then (fun a' W' => Up N W W' ∧ I pre W' ∧ Ax a' W') fun _ _ _ => False) { tmps := (r.params.zip #[v]).foldl (fun t (p, v) => t.setIfInBounds p v) r.tmps, defers := [] } W)
    (hbody : ∀ (a' : Act) (W' : World), (∃ r', W'.heap[l]? = some (.loop r')) → I pre W' → Ax a' W' → Chosen n₁ v s W' → r.body.wpIn (F.inRound l) n P (roundEnd N I Ix (pre ++ [s]) W') a' W') :
    YieldAt F n P l #[v] W fun e W' => (e = .returned (.bool true) ∧ (I (pre ++ [s]) W' ∧ W'.heap[l]? = some (.loop r) ∧ Up N W W')) ∨
      (e = .returned (.bool false) ∧ (Ix .ret (pre ++ [s]) W' ∧ W'.heap[l]? = some (.loop { r with state := .done, pending := some .ret }) ∧ Up (l + 1) W W' ∧ ∀ b, N ≤ b → b < l → W'.heap[b]? = W.heap[b]?)) := by
  refine ⟨r.fn, _, r.assign, r.body, run_yield hl (by simp [hs]), roundIn_of_wpIn hfn (wpIn_mono hassign ?_)⟩
  rintro e a1 W1 hp1
  cases e with
  | normal =>
    obtain ⟨hu, hi1, hax⟩ := hp1
    have hlt : l < W.heap.size := (Array.getElem?_eq_some_iff.1 hl).1
    have hl1' : W1.heap[l]? = some (.loop r) := (hu.2 l hN hlt).trans hl
    have hlt1 : l < W1.heap.size := Nat.lt_of_lt_of_le hlt hu.1
    refine ⟨_, run_beginRound hl1' hr, ?_⟩
    have hl2 : (W1.putObj l (.loop { r with state := .busy })).heap[l]? = some (.loop { r with state := .busy }) := World.putObj_heap_same hlt1
    refine wpIn_mono (hbody a1 _ ⟨_, hl2⟩ (hI _ _ _ (below_put _ (Nat.le_refl _) _) hi1) (hAx _ _ _ hax ⟨_, hl1'⟩) ((hc.up (hu.mono (by omega))).up (Up.putObj _ (by omega) _))) ?_
    have fin : ∀ (jump : Option Code) (W3 : World), Up N (W1.putObj l (.loop { r with state := .busy })) W3 →
        (Instr.endRound l jump).run P W3 = .ok (.bool jump.isNone) (W3.putObj l (.loop { r with state := if jump.isNone then .ready else .done, pending := jump })) ∧
        (W3.putObj l (.loop { r with state := if jump.isNone then .ready else .done, pending := jump })).heap[l]? = some (.loop { r with state := if jump.isNone then .ready else .done, pending := jump }) ∧
        Up (l + 1) W (W3.putObj l (.loop { r with state := if jump.isNone then .ready else .done, pending := jump })) ∧ ∀ b, N ≤ b → b < l → (W3.putObj l (.loop { r with state := if jump.isNone then .ready else .done, pending := jump })).heap[b]? = W.heap[b]? := fun jump W3 hk => by
      have hl3 : W3.heap[l]? = some (.loop { r with state := .busy }) := (hk.2 l hN (by simp; exact hlt1)).trans hl2
      have hlt3 : l < W3.heap.size := (Array.getElem?_eq_some_iff.1 hl3).1
      refine ⟨by have h := run_endRound (P := P) jump hl3; exact h, World.putObj_heap_same hlt3, ?_, fun b hb hbl => ?_⟩
      · exact ((hu.mono (by omega)).trans (Up.putObj _ (by omega) _)).trans ((hk.mono (by omega)).trans (Up.putObj _ (by omega) _))
      · rw [World.putObj_heap_other (by omega), hk.2 b hb (by simp; omega), World.putObj_heap_other (by omega), hu.2 b hb (by omega)]
    rintro e a3 W3 hq
    cases e with
    | normal =>
      obtain ⟨hk, hi3⟩ := hq
      obtain ⟨h1, h2, h3, h4⟩ := fin none W3 hk
      have h5 : (W3.putObj l (.loop { r with state := if (none : Option Code).isNone then .ready else .done, pending := none })).heap[l]? = some (.loop r) := by rw [h2]; cases r; simp_all
      refine ⟨_, _, h1, .inl ⟨rfl, hI _ _ _ (below_put _ (Nat.le_refl _) _) hi3, h5, h3.1, fun b hb hs => ?_⟩⟩
      by_cases hbl : b = l
      · subst hbl; rw [h5, hl]
      · by_cases hlt' : b < l
        · exact h4 b hb hlt'
        · exact h3.2 b (by omega) hs
    | ret =>
      obtain ⟨hk, hi3⟩ := hq
      obtain ⟨h1, h2, h3, h4⟩ := fin (some .ret) W3 hk
      exact ⟨_, _, h1, .inr ⟨rfl, hIx _ _ _ _ (below_put _ (Nat.le_refl _) _) hi3, h2, h3, h4⟩⟩
    | exit id => exact hq.elim
    | goto t => exact hq.elim
    | panic ch => exact hq.elim
    | outgrown => exact hq.elim
  | exit id => exact hp1.elim
  | goto t => exact hp1.elim
  | ret => exact hp1.elim
  | panic ch => exact hp1.elim
  | outgrown => exact hp1.elim
/-- A loop over such a function, where no loop is around it. -/
theorem seqs_loop {g : Operand} {ps : Array Tmp} {assign body : Code} {Q : Exit → Act → World → Prop} {a : Act} {w : World}
    (hro : F.round = none) (h1 : 1 ≤ n) {gf : Nat} {lb : Array Value} (hg : a.eval g = .func (.func gf) #[] lb) (hFg : F.fn gf) (eg : ∀ args w, (callFunc gf args).run P w = .ok (.enter gf args) w)
    {m : Nat} (hm : m ≤ w.heap.size) {K : List Nat → Prop} {S Sp : List (List Nat) → Prop} {w0 : World} (hseq : Seqs F (n - 1) P m gf lb K S Sp w0) (hb0 : Below w0.heap.size w0 w) (hps : ps.size = 1)
    (I : List (List Nat) → World → Prop) (Ix : Code → List (List Nat) → World → Prop) (hI : Ab w.heap.size I) (hIx : ∀ c, Ab w.heap.size (Ix c)) (h0 : I [] w)
    (Ax : Value → List Nat → Act → World → Prop) (hAx : ∀ v s a A r' l, w.heap.size ≤ l → Ax v s a A → (∃ r0, A.heap[l]? = some (.loop r0)) → Ax v s a (A.putObj l (.loop r')))
    (hassign : ∀ (l : Nat) (pre : List (List Nat)) (s : List Nat) (v : Value) (W : World), w.heap.size ≤ l → I pre W → Chosen (w.heap.size + 2) v s W →
      assign.wpIn (F.inRound l) (n - 1 - 1) P (Exit.then (fun a' W' => Up m W W' ∧ I pre W' ∧ Ax v s a' W') fun _ _ _ => False) { tmps := (ps.zip #[v]).foldl (fun t (p, v) => t.setIfInBounds p v) a.tmps, defers := [] } W)
    (hbody : ∀ (l : Nat) (pre : List (List Nat)) (s : List Nat) (v : Value) (a' : Act) (W : World), w.heap.size ≤ l → (∃ r', W.heap[l]? = some (.loop r')) → I pre W → Ax v s a' W → K s → Chosen (w.heap.size + 2) v s W →
      body.wpIn (F.inRound l) (n - 1 - 1) P (roundEnd m I Ix (pre ++ [s]) W) a' W)
    (hdone : ∀ (D : Nat) (xs : List (List Nat)) (W : World), w.heap.size ≤ D → S xs → I xs W → W.heap[D]? = some (.deferred (some [])) → Q .normal { a with defers := { target := .collected D, args := #[] } :: a.defers } W)
    (hstop : ∀ (D : Nat) (pre : List (List Nat)) (W : World), w.heap.size ≤ D → Sp pre → Ix .ret pre W → W.heap[D]? = some (.deferred (some [])) → Code.ret.wpIn F n P Q { a with defers := { target := .collected D, args := #[] } :: a.defers } W) :
    (Code.rangeFunc g ps assign body).wpIn F n P Q a w := by
  refine wpIn_rangeFunc ?_
  intro fn hfn
  rw [hro]
  obtain ⟨r, hr⟩ : ∃ r : Loop, r = { state := .ready, pending := none, fn, tmps := a.tmps, params := ps, assign, body, defers := w.heap.size } := ⟨_, rfl⟩
  obtain ⟨W1, hW1⟩ : ∃ W1, (w.alloc (.deferred (some []))).alloc (.loop r) = W1 := ⟨_, rfl⟩
  have hs1 : W1.heap.size = w.heap.size + 2 := by rw [← hW1]; simp
  have hL1 : W1.heap[w.heap.size + 1]? = some (.loop r) := by
    rw [← hW1]; have := World.alloc_heap_new (w.alloc (.deferred (some []))) (.loop r); rwa [World.size_alloc] at this
  have hK1 : W1.heap[w.heap.size]? = some (.deferred (some [])) := by
    rw [← hW1]; exact (Below.heap_alloc _ _ _ (by simp)).trans (World.alloc_heap_new w _)
  have hbw : Below w.heap.size w W1 := by rw [← hW1]; exact ((Below.refl _ w).alloc (Nat.le_refl _) _).alloc (by simp) _
  have hb1 : Below w0.heap.size w0 W1 := hb0.trans (hbw.mono hb0.size)
  refine ⟨w.heap.size + 1, [{ target := .collected w.heap.size, args := #[] }], W1, { target := .fn (.func gf) lb, args := #[.func (.yield (w.heap.size + 1)) #[] #[]] }, W1, gf,
    #[.func (.yield (w.heap.size + 1)) #[] #[]] ++ lb, W1, ?_, ?_, ?_, ?_, fun _ => h1, ?_⟩
  · rw [← hW1, hr]; exact run_enterLoop_outer _ _ _ _ _
  · simp only [resolve, hg]
    simp [go_sem]
  · intro f' hf'; simp [Target.leads] at hf'; subst hf'; exact hFg
  · simp [invoke, go_sem, eg]
  · refine (hseq (w.heap.size + 1)
      (fun pre W => I pre W ∧ W.heap[w.heap.size + 1]? = some (.loop r) ∧ W.heap[w.heap.size]? = some (.deferred (some [])))
      (fun pre W => Ix .ret pre W ∧ W.heap[w.heap.size + 1]? = some (.loop { r with state := .done, pending := some .ret }) ∧ W.heap[w.heap.size]? = some (.deferred (some [])))
      W1 hb1 (fun s A B hb hs => ⟨hI _ _ _ (hb.mono (by omega)) hs.1, (hb.block _ (by omega)).trans hs.2.1, (hb.block _ (by omega)).trans hs.2.2⟩)
      (fun s A B hb hs => ⟨hIx _ _ _ _ (hb.mono (by omega)) hs.1, (hb.block _ (by omega)).trans hs.2.1, (hb.block _ (by omega)).trans hs.2.2⟩) ?_ ⟨hI _ _ _ hbw h0, hL1, hK1⟩).mono ?_
    · rintro pre s v W ⟨hi, hl, hk⟩ hK hc
      have hlt : w.heap.size + 1 < W.heap.size := (Array.getElem?_eq_some_iff.1 hl).1
      have := round_of (n := n - 1 - 1) (P := P) (F := F) (N := m) (l := w.heap.size + 1) (by omega) hl (by rw [hr]) (by rw [hr]) (v := v) (s := s) (pre := pre) (n₁ := w.heap.size + 2) (by rw [hr]; exact hps) (by rw [hr]; exact hfn) (by omega) (hI.mono (by omega)) (fun c => (hIx c).mono (by omega)) hi (hs1 ▸ hc) (Ax v s) (fun a A r' hx h => hAx v s a A r' _ (by omega) hx h)
        (by rw [hr]; exact hassign _ pre s v W (by omega) hi (hs1 ▸ hc)) (fun a' W' h2 h3 h4 h5 => by rw [hr]; exact hbody _ pre s v a' W' (by omega) h2 h3 h4 hK h5)
      refine YieldAt.mono this fun e W' h => h.elim (fun ⟨he, hi, hl', hu⟩ => .inl ⟨he, ⟨hi, hl', (hu.2 _ hm (by omega)).trans hk⟩, hu⟩)
        (fun ⟨he, hi, hl', hu, hz⟩ => .inr ⟨he, hi, hl', (hz _ hm (by omega)).trans hk⟩)
    · rintro e W2 ⟨⟨v, rfl⟩, (⟨xs, hS, hi, hl, hk⟩ | ⟨pre, hSp, hi, hl, hk⟩)⟩
      · exact ⟨none, _, by have := run_endLoop (P := P) hl (by rw [hr]; simp); rw [show r.pending = none by rw [hr]] at this; exact this, hdone _ xs _ (Nat.le_refl _) hS (hI _ _ _ (below_put _ (by omega) _) hi) ((World.putObj_heap_other (by omega)).trans hk)⟩
      · exact ⟨some .ret, _, by have := run_endLoop (P := P) hl (by simp); exact this, hstop _ pre _ (Nat.le_refl _) hSp (hIx _ _ _ _ (below_put _ (by omega) _) hi) ((World.putObj_heap_other (by omega)).trans hk)⟩
/-- The same within a round of another loop. -/
theorem seqs_loop_in {g : Operand} {ps : Array Tmp} {assign body : Code} {Q : Exit → Act → World → Prop} {a : Act} {w : World} {l₀ : Nat} {r₀ : Loop}
    (hro : F.round = some l₀) (hl₀ : w.heap[l₀]? = some (.loop r₀)) (h1 : 1 ≤ n) {gf : Nat} {lb : Array Value} (hg : a.eval g = .func (.func gf) #[] lb) (hFg : F.fn gf) (eg : ∀ args w, (callFunc gf args).run P w = .ok (.enter gf args) w)
    {m : Nat} (hm : m ≤ w.heap.size) {K : List Nat → Prop} {S Sp : List (List Nat) → Prop} {w0 : World} (hseq : Seqs F (n - 1) P m gf lb K S Sp w0) (hb0 : Below w0.heap.size w0 w) (hps : ps.size = 1)
    (I : List (List Nat) → World → Prop) (Ix : Code → List (List Nat) → World → Prop) (hI : Ab w.heap.size I) (hIx : ∀ c, Ab w.heap.size (Ix c)) (h0 : I [] w)
    (Ax : Value → List Nat → Act → World → Prop) (hAx : ∀ v s a A r' l, w.heap.size ≤ l → Ax v s a A → (∃ r0, A.heap[l]? = some (.loop r0)) → Ax v s a (A.putObj l (.loop r')))
    (hassign : ∀ (l : Nat) (pre : List (List Nat)) (s : List Nat) (v : Value) (W : World), w.heap.size ≤ l → I pre W → Chosen (w.heap.size + 1) v s W →
      assign.wpIn (F.inRound l) (n - 1 - 1) P (Exit.then (fun a' W' => Up m W W' ∧ I pre W' ∧ Ax v s a' W') fun _ _ _ => False) { tmps := (ps.zip #[v]).foldl (fun t (p, v) => t.setIfInBounds p v) a.tmps, defers := [] } W)
    (hbody : ∀ (l : Nat) (pre : List (List Nat)) (s : List Nat) (v : Value) (a' : Act) (W : World), w.heap.size ≤ l → (∃ r', W.heap[l]? = some (.loop r')) → I pre W → Ax v s a' W → K s → Chosen (w.heap.size + 1) v s W →
      body.wpIn (F.inRound l) (n - 1 - 1) P (roundEnd m I Ix (pre ++ [s]) W) a' W)
    (hdone : ∀ (xs : List (List Nat)) (W : World), S xs → I xs W → Q .normal a W)
    (hstop : ∀ (pre : List (List Nat)) (W : World), Sp pre → Ix .ret pre W → Code.ret.wpIn F n P Q a W) :
    (Code.rangeFunc g ps assign body).wpIn F n P Q a w := by
  refine wpIn_rangeFunc ?_
  intro fn hfn
  rw [hro]
  obtain ⟨r, hr⟩ : ∃ r : Loop, r = { state := .ready, pending := none, fn, tmps := a.tmps, params := ps, assign, body, defers := r₀.defers } := ⟨_, rfl⟩
  obtain ⟨W1, hW1⟩ : ∃ W1, w.alloc (.loop r) = W1 := ⟨_, rfl⟩
  have hs1 : W1.heap.size = w.heap.size + 1 := by rw [← hW1]; simp
  have hL1 : W1.heap[w.heap.size]? = some (.loop r) := by rw [← hW1]; exact World.alloc_heap_new w _
  have hbw : Below w.heap.size w W1 := by rw [← hW1]; exact (Below.refl _ w).alloc (Nat.le_refl _) _
  have hb1 : Below w0.heap.size w0 W1 := hb0.trans (hbw.mono hb0.size)
  refine ⟨w.heap.size, [], W1, { target := .fn (.func gf) lb, args := #[.func (.yield w.heap.size) #[] #[]] }, W1, gf,
    #[.func (.yield w.heap.size) #[] #[]] ++ lb, W1, ?_, ?_, ?_, ?_, fun _ => h1, ?_⟩
  · rw [← hW1, hr]; exact run_enterLoop_inner hl₀ _ _ _ _ _
  · simp only [resolve, hg]
    simp [go_sem]
  · intro f' hf'; simp [Target.leads] at hf'; subst hf'; exact hFg
  · simp [invoke, go_sem, eg]
  · refine (hseq w.heap.size
      (fun pre W => I pre W ∧ W.heap[w.heap.size]? = some (.loop r))
      (fun pre W => Ix .ret pre W ∧ W.heap[w.heap.size]? = some (.loop { r with state := .done, pending := some .ret }))
      W1 hb1 (fun s A B hb hs => ⟨hI _ _ _ (hb.mono (by omega)) hs.1, (hb.block _ (by omega)).trans hs.2⟩)
      (fun s A B hb hs => ⟨hIx _ _ _ _ (hb.mono (by omega)) hs.1, (hb.block _ (by omega)).trans hs.2⟩) ?_ ⟨hI _ _ _ hbw h0, hL1⟩).mono ?_
    · rintro pre s v W ⟨hi, hl⟩ hK hc
      have hlt : w.heap.size < W.heap.size := (Array.getElem?_eq_some_iff.1 hl).1
      have := round_of (n := n - 1 - 1) (P := P) (F := F) (N := m) (l := w.heap.size) hm hl (by rw [hr]) (by rw [hr]) (v := v) (s := s) (pre := pre) (n₁ := w.heap.size + 1) (by rw [hr]; exact hps) (by rw [hr]; exact hfn) (by omega) (hI.mono (by omega)) (fun c => (hIx c).mono (by omega)) hi (hs1 ▸ hc) (Ax v s) (fun a A r' hx h => hAx v s a A r' _ (Nat.le_refl _) hx h)
        (by rw [hr]; exact hassign _ pre s v W (Nat.le_refl _) hi (hs1 ▸ hc)) (fun a' W' h2 h3 h4 h5 => by rw [hr]; exact hbody _ pre s v a' W' (Nat.le_refl _) h2 h3 h4 hK h5)
      refine YieldAt.mono this fun e W' h => h.elim (fun ⟨he, hi, hl', hu⟩ => .inl ⟨he, ⟨hi, hl'⟩, hu⟩)
        (fun ⟨he, hi, hl', hu, hz⟩ => .inr ⟨he, hi, hl'⟩)
    · rintro e W2 ⟨⟨v, rfl⟩, (⟨xs, hS, hi, hl⟩ | ⟨pre, hSp, hi, hl⟩)⟩
      · exact ⟨none, _, by have := run_endLoop (P := P) hl (by rw [hr]; simp); rw [show r.pending = none by rw [hr]] at this; exact this, hdone xs _ hS (hI _ _ _ (below_put _ (Nat.le_refl _) _) hi)⟩
      · exact ⟨some .ret, _, by have := run_endLoop (P := P) hl (by simp); exact this, hstop pre _ hSp (hIx _ _ _ _ (below_put _ (Nat.le_refl _) _) hi)⟩
end Go.Proofs.Ytnbamjoadankmaa

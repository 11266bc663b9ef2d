/- How often the tape was asked never becomes less: for any program and any run of the machine. -/
import Derived.Calls
import Derived.Below
namespace Go.Proofs.YtomgihlkbmaleaaDoor.Dr
open Go

theorem ask_dr {α : Type} (a : Ask α) : ∀ w : World, w.drawn ≤ (w.ask a).2.drawn := by
  induction a with
  | done a => intro w; exact Nat.le_refl _
  | ask what range k ih =>
    intro w
    unfold World.ask
    dsimp only
    split
    · exact ih _ _
    · exact Nat.le_trans (Nat.le_succ _) (ih _ { w with drawn := w.drawn + 1 })

theorem sys_dr (w : World) (c : Sys) : w.drawn ≤ (w.sys c).2.drawn := by
  have h := ask_dr (Kernel.perform c w.os) w
  unfold World.sys
  generalize w.ask (Kernel.perform c w.os) = x at h ⊢
  obtain ⟨⟨r, os⟩, w'⟩ := x
  split
  · exact Nat.le_refl _
  · rename_i heq
    cases heq
    exact h

theorem viewStore_dr {p : Program} {w : World} {at_ : Addr} {u : TypeId} {k : Addr} {v : Value} {b : Bool} {w' : World} {l : List Addr} (h : w.viewStore p at_ u k v b = .ok (w', l)) : w'.drawn = w.drawn := by
  unfold World.viewStore at h
  simp only [bind, Except.bind, pure, Except.pure] at h
  repeat (split at h; try (cases h))
  all_goals first | (cases h; rfl) | (change Except.error _ = _ at h; cases h)

theorem farStore_dr {p : Program} {w : World} {a : Addr} {v : Value} {b : Bool} {w' : World} {l : List Addr} (h : w.farStore p a v b = .ok (w', l)) : w'.drawn = w.drawn := by
  unfold World.farStore at h
  split at h
  · split at h
    · rename_i r hr
      cases h
      exact viewStore_dr hr
    · cases h
  · cases h

def rdr {α : Type} : Result α → Nat
  | .ok _ w => w.drawn
  | .halt _ w => w.drawn

theorem run_dr {α : Type} (p : Program) (s : Sem α) : ∀ w : World, w.drawn ≤ rdr (s.run p w) := by
  induction s with
  | pure a => intro w; exact Nat.le_refl _
  | load m a k ih =>
    intro w
    unfold Sem.run
    split
    · exact ih _ _
    · split
      · exact ih _ _
      · exact Nat.le_refl _
  | store m a v k ih =>
    intro w
    cases v <;> unfold Sem.run <;> first
      | exact Nat.le_refl _
      | (split
         · split
           · exact Nat.le_refl _
           · exact ih (w.setCell _ _)
         · split
           · rename_i hs
             exact (farStore_dr hs) ▸ ih _
           · exact Nat.le_refl _)
  | new o k ih => intro w; exact ih _ { w with heap := w.heap.push o }
  | shape r k ih => intro w; exact ih _ _
  | freeze a n k ih =>
    intro w
    have : (w.freeze a n).drawn = w.drawn := by unfold World.freeze; split <;> rfl
    exact this ▸ ih (w.freeze a n)
  | frozen a k ih => intro w; exact ih _ _
  | getObj r k ih =>
    intro w
    unfold Sem.run
    split
    · exact Nat.le_refl _
    · exact ih _ _
    · exact Nat.le_refl _
  | setObj r o k ih =>
    intro w
    unfold Sem.run
    split
    · exact Nat.le_refl _
    · exact ih { w with heap := w.heap.setIfInBounds r o }
    · exact Nat.le_refl _
  | choose q k ih =>
    intro w
    unfold Sem.run
    split
    · exact ih _ _
    · exact Nat.le_trans (Nat.le_succ _) (ih _ { w with drawn := w.drawn + 1 })
  | sys c k ih => intro w; exact Nat.le_trans (sys_dr w c) (ih _ _)
  | program k ih => intro w; exact ih _ _
  | mark m k ih => intro w; exact ih _
  | halt h => intro w; exact Nat.le_refl _


theorem runT_fst {α : Type} (p : Program) (s : Sem α) : ∀ (w : World) (es : Array Event), (s.runT p w es).1 = s.run p w := by
  induction s with
  | pure a => intro w es; rfl
  | load m a k ih =>
    intro w es
    unfold Sem.runT Sem.run
    cases h : w.cell? a with
    | some v => exact ih _ _ _
    | none =>
      cases h2 : w.farLoad p a (m == .atomic) with
      | ok r => obtain ⟨v, l⟩ := r; exact ih _ _ _
      | error e => rfl
  | store m a v k ih =>
    intro w es
    cases v <;> unfold Sem.runT Sem.run <;> first
      | rfl
      | (cases h : w.cell? a with
         | some v =>
           dsimp only
           split
           · rfl
           · exact ih _ _
         | none =>
           dsimp only
           split
           · exact ih _ _
           · rfl)
  | new o k ih => intro w es; exact ih _ _ _
  | shape r k ih => intro w es; exact ih _ _ _
  | freeze a n k ih => intro w es; exact ih _ _
  | frozen a k ih => intro w es; exact ih _ _ _
  | getObj r k ih =>
    intro w es
    unfold Sem.runT Sem.run
    split <;> first | rfl | exact ih _ _ _
  | setObj r o k ih =>
    intro w es
    unfold Sem.runT Sem.run
    split <;> first | rfl | exact ih _ _
  | choose q k ih =>
    intro w es
    unfold Sem.runT Sem.run
    split <;> exact ih _ _ _
  | sys c k ih => intro w es; exact ih _ _ _
  | program k ih => intro w es; exact ih _ _ _
  | mark m k ih => intro w es; exact ih _ _
  | halt h => intro w es; rfl

theorem runT_dr {α : Type} (p : Program) (s : Sem α) (w : World) (es : Array Event) : w.drawn ≤ rdr (s.runT p w es).1 := by
  rw [runT_fst]; exact run_dr p s w

theorem run_of {α : Type} {p : Program} {s : Sem α} {w : World} {r : Result α} (h : s.run p w = r) : w.drawn ≤ rdr r := h ▸ run_dr p s w
theorem runT_of {α : Type} {p : Program} {s : Sem α} {w : World} {es : Array Event} {x : Result α × Array Event} (h : s.runT p w es = x) : w.drawn ≤ rdr x.1 := h ▸ runT_dr p s w es

def gdr : GStep → Nat
  | .go _ w _ => w.drawn
  | .comm _ _ _ _ w _ => w.drawn
  | .spawn _ _ w _ => w.drawn
  | .count _ w _ => w.drawn
  | .timer _ _ w _ => w.drawn
  | .alone _ _ w _ => w.drawn
  | .newcoro _ _ _ w _ => w.drawn
  | .coroswitch _ _ _ w _ => w.drawn
  | .collect _ w _ => w.drawn
  | .watch _ w _ => w.drawn
  | .ended _ w _ => w.drawn

theorem gdr_after (es : Array Event) (s : GStep) : gdr (s.after es) = gdr s := by cases s <;> rfl

theorem endWith_dr (w : World) (fd : Nat) (t : ByteArray) (o : Outcome) : w.drawn ≤ gdr (endWith w fd t o) := by
  have h := sys_dr w (.write fd t)
  unfold endWith
  dsimp only
  generalize w.sys (.write fd t) = x at h ⊢
  obtain ⟨r, w'⟩ := x
  dsimp only at h ⊢
  split
  · rename_i heq; cases heq; split <;> exact h
  · rename_i heq; cases heq; exact h
  · rename_i heq; cases heq; exact h

theorem dieOf_dr (fr : Frame) (a : List ByteArray) (m : String) (b : Bool) (w : World) : gdr (dieOf fr a m b w) = w.drawn := rfl
theorem endThrow_dr (fr : Frame) (m : String) (w : World) : gdr (endThrow fr m w) = w.drawn := rfl
theorem endPrinting_dr (p : Program) (fr : Frame) (v : Value) (w : World) : gdr (endPrinting p fr v w) = w.drawn := by
  unfold endPrinting
  dsimp only
  split <;> rfl
theorem endFatal_dr (p : Program) (fr : Frame) (cs : List Frame) (d : Option Dying) (m : String) (w : World) : w.drawn ≤ gdr (endFatal p fr cs d m w) := by
  unfold endFatal
  dsimp only
  split
  · rename_i heq
    exact run_of heq
  · rename_i heq
    exact run_of heq
  · rename_i heq
    exact run_of heq
theorem writeOn_dr (p : Program) (fr : Frame) (d : Dying) (f : Fatal) (w : World) : w.drawn ≤ gdr (writeOn p fr d f w) := by
  unfold writeOn
  dsimp only
  split
  · exact Nat.le_refl _
  · split
    all_goals
      rename_i heq
      exact runT_of heq
theorem die_dr (p : Program) (fr : Frame) (d : Dying) (w : World) : w.drawn ≤ gdr (die p fr d w) := by
  unfold die
  dsimp only
  split
  · exact writeOn_dr p fr d _ w
  · split
    · split
      · exact Nat.le_refl _
      · exact endWith_dr _ _ _ _
    · split
      · exact Nat.le_refl _
      · split
        all_goals
          rename_i heq
          exact run_of heq
      · rw [gdr_after]
        generalize hx : (invoke _ _).runT p w #[] = x
        have h := runT_of hx
        obtain ⟨r, es⟩ := x
        dsimp only at h ⊢
        split
        all_goals first | exact h | exact Nat.le_refl _ | (rw [endPrinting_dr]; exact h)
      · exact Nat.le_refl _
theorem gdr_ite {c : Prop} [Decidable c] {a b : GStep} {n : Nat} (ha : n ≤ gdr a) (hb : n ≤ gdr b) : n ≤ gdr (if c then a else b) := by
  split <;> assumption

theorem gdr_elim {α : Type} (o : Option α) {a : GStep} {f : α → GStep} {n : Nat} (ha : n ≤ gdr a) (hf : ∀ x, n ≤ gdr (f x)) : n ≤ gdr (o.elim a f) := by
  cases o with
  | none => exact ha
  | some x => exact hf x

theorem doReturn_dr (p : Program) (main : Bool) (fr : Frame) (cs : List Frame) (d : Option Dying) (v : Value) (w : World) : gdr (doReturn p main fr cs d v w) = w.drawn := by
  unfold doReturn
  repeat' split
  all_goals rfl

theorem callDeferred_dr (p : Program) (fr : Frame) (cs : List Frame) (dy : Option Dying) (d : Deferred) (w : World) : w.drawn ≤ gdr (callDeferred p fr cs dy d w) := by
  unfold callDeferred
  refine gdr_ite ?_ ?_
  · exact Nat.le_refl _
  · generalize hx : (invoke _ _).runT p w #[] = x
    have h := runT_of hx
    obtain ⟨r, es⟩ := x
    dsimp only at h ⊢
    rw [gdr_after]
    split
    all_goals first | exact h | (rw [endThrow_dr]; exact h) | exact Nat.le_trans h (endFatal_dr ..) | (split <;> exact h)

theorem unwind_dr (p : Program) (main : Bool) (fr : Frame) (cs : List Frame) (dy : Option Dying) (w : World) : w.drawn ≤ gdr (unwind p main fr cs dy w) := by
  unfold unwind
  split
  · generalize hx : (Instr.takeDeferred _).runT p w #[] = x
    have h := runT_of hx
    obtain ⟨r, es⟩ := x
    dsimp only at h ⊢
    rw [gdr_after]
    split <;> exact h
  · exact callDeferred_dr ..
  · split
    · exact Nat.le_refl _
    · split
      · exact Nat.le_refl _
      · split
        · exact Nat.le_refl _
        · split
          · split
            · exact Nat.le_refl _
            · split
              all_goals
                rename_i heq
                exact run_of heq
          · split
            · rw [endPrinting_dr]; exact Nat.le_refl _
            · exact Nat.le_refl _
    · split
      · rw [doReturn_dr]; exact Nat.le_refl _
      · generalize hx : (results _ _).runT p w #[] = x
        have h := runT_of hx
        obtain ⟨r, es⟩ := x
        dsimp only at h ⊢
        rw [gdr_after]
        split
        all_goals first | exact h | (rw [doReturn_dr]; exact h)

theorem early_dr (p : Program) (fr : Frame) (cs : List Frame) (dy : Option Dying) (g : Nat) (w : World) : w.drawn ≤ gdr (early p fr cs dy g w) := by
  have N : ∀ w' : World, w.drawn ≤ w'.drawn → w.drawn ≤ gdr (match w'.heap[g]? with
    | some (.pending c elem) => GStep.go { frame := fr, callers := cs, status := .running, dying := dy } { w' with heap := w'.heap.setIfInBounds g (.cells c elem) }
    | _ => .ended (.stuck "early: the variable does not wait" (fr.pos p)) w') := fun w' h => by
    split <;> exact h
  unfold early
  dsimp only
  split
  · exact N w (Nat.le_refl _)
  · split
    · exact Nat.le_refl _
    · split
      · exact N w (Nat.le_refl _)
      · split
        · exact N w (Nat.le_refl _)
        · split
          · exact Nat.le_refl _
          · exact Nat.le_refl _
          · exact Nat.le_refl _
          · exact N w (Nat.le_refl _)
          · split
            · exact Nat.le_refl _
            · split
              · exact N w (Nat.le_refl _)
              · split
                · rename_i heq; exact N _ (run_of heq)
                · rename_i heq; exact (run_of heq : _)
                · rename_i heq; exact (run_of heq : _)

theorem apply_dr (p : Program) (listen : Bool) (fr : Frame) (cs : List Frame) (dy : Option Dying) (s : Sem Next) (w : World) : w.drawn ≤ gdr (stepG.apply p listen fr cs dy s w) := by
  unfold stepG.apply
  dsimp only
  have h : w.drawn ≤ rdr (if listen = true then s.runT p w #[] else (s.run p w, #[])).1 := by
    split
    · exact runT_dr ..
    · exact run_dr ..
  generalize (if listen = true then s.runT p w #[] else (s.run p w, #[])) = x at h ⊢
  obtain ⟨r, es⟩ := x
  dsimp only at h ⊢
  rw [gdr_after]
  split
  all_goals first
    | exact h
    | (rw [endThrow_dr]; exact h)
    | exact Nat.le_trans h (endFatal_dr ..)
    | exact Nat.le_trans h (early_dr ..)
    | (split <;> exact h)
    | exact gdr_ite h h
    | skip

theorem oper_dr (p : Program) (listen : Bool) (fr : Frame) (cs : List Frame) (dy : Option Dying) (w : World) : w.drawn ≤ gdr (stepG.oper p listen fr cs dy w) := by
  unfold stepG.oper
  split
  · exact Nat.le_refl _
  · split <;> exact apply_dr ..

theorem exec_dr (p : Program) (main : Bool) (listen : Bool) (fr : Frame) (cs : List Frame) (dy : Option Dying) (w : World) : w.drawn ≤ gdr (stepG.exec p main listen fr cs dy w) := by
  have LV : ∀ (jump : Option Code) (l : Nat), w.drawn ≤ gdr (match (Instr.endRound l jump).runT p w #[] with
      | (r, es) => GStep.after (seen p fr.fn es) (match r with
        | .ok v w => doReturn p main fr cs dy v w
        | .halt _ w => .ended (.stuck "range over a function: no such loop" (fr.pos p)) w)) := fun jump l => by
    generalize hx : (Instr.endRound l jump).runT p w #[] = x
    have h := runT_of hx
    obtain ⟨r, es⟩ := x
    dsimp only at h ⊢
    rw [gdr_after]
    cases r with
    | ok v w' => show _ ≤ gdr (doReturn ..); rw [doReturn_dr]; exact h
    | halt _ w' => exact h
  have LG : ∀ (jump : Option Code), w.drawn ≤ gdr (match fr.roundOf with
      | none => if (match jump with | none | some .ret => true | _ => false) = true then GStep.go { frame := { fr with mode := .returning }, callers := cs, status := .running, dying := dy } w else .ended (.stuck "exit, goto: no such block or label" (fr.pos p)) w
      | some l => (match (Instr.endRound l jump).runT p w #[] with
      | (r, es) => GStep.after (seen p fr.fn es) (match r with
        | .ok v w => doReturn p main fr cs dy v w
        | .halt _ w => .ended (.stuck "range over a function: no such loop" (fr.pos p)) w))) := fun jump => by
    cases fr.roundOf with
    | none => exact gdr_ite (Nat.le_refl _) (Nat.le_refl _)
    | some l => exact LV jump l
  unfold stepG.exec
  dsimp only
  split
  case h_1 => exact LG none
  case h_2 => exact LG (some .ret)
  case h_8 => split <;> exact Nat.le_refl _
  case h_13 => exact gdr_elim _ (LG (some (.exit _))) fun _ => Nat.le_refl _
  case h_14 => exact gdr_elim _ (LG (some (.goto _))) fun _ => Nat.le_refl _
  case h_15 =>
    generalize hx : (Instr.enterLoop _ _ _ _ _ _).runT p w #[] = x
    have h := runT_of hx
    obtain ⟨r, es⟩ := x
    dsimp only at h ⊢
    rw [gdr_after]
    split
    · exact Nat.le_trans h (apply_dr ..)
    · exact h
  case h_17 => exact apply_dr ..
  case h_18 =>
    generalize hx : (Instr.endLoop _).runT p w #[] = x
    have h := runT_of hx
    obtain ⟨r, es⟩ := x
    dsimp only at h ⊢
    rw [gdr_after]
    split <;> exact h
  case h_20 => exact apply_dr ..
  case h_21 => exact gdr_elim _ (Nat.le_refl _) fun _ => apply_dr ..
  case h_22 =>
    refine gdr_ite (Nat.le_refl _) ?_
    split
    all_goals
      rename_i heq
      exact run_of heq
  case h_24 => exact gdr_ite (oper_dr ..) (Nat.le_refl _)
  all_goals exact Nat.le_refl _

theorem stepG_dr (p : Program) (main : Bool) (g : Goroutine) (w : World) (listen : Bool) : w.drawn ≤ gdr (stepG p main g w listen) := by
  unfold stepG
  dsimp only
  split
  · exact die_dr ..
  · exact exec_dr ..
  · exact unwind_dr ..

def sdr (n : Nat) : Stepped → Prop
  | .next m => n ≤ m.world.drawn
  | .ended _ _ => True

theorem sdr_mono {a b : Nat} (h : a ≤ b) {s : Stepped} (k : sdr b s) : sdr a s := by
  cases s with
  | next m => exact Nat.le_trans h k
  | ended o w => trivial

theorem waitingAt_dr {rest : Rest} {cases : Array CommCase} {w w' : World} (h : waitingAt rest cases w = some w') : w'.drawn = w.drawn := by
  unfold waitingAt at h
  split at h
  · split at h
    · cases h; rfl
    · cases h
  · cases h; rfl

theorem communicate_dr (p : Program) (rest : Rest) (gs : Array Goroutine) (i : Nat) (g : Goroutine) (cases : Array CommCase) (blocking : Bool) (shape : CommShape) (w : World) :
    sdr w.drawn (communicate p rest gs i g cases blocking shape w).1 := by
  unfold communicate
  dsimp only
  split
  · trivial
  · split
    · split
      · split
        · rename_i heq; show _ ≤ _; rw [waitingAt_dr heq]; exact Nat.le_refl _
        · trivial
      · exact Nat.le_refl _
    · split
      · trivial
      · rename_i heq
        have h := run_of heq
        split
        · split
          · rename_i heq2
            exact Nat.le_trans h (run_of heq2)
          · trivial
        · exact h
        · exact h
        · split
          · exact h
          · split
            · rename_i heq2
              exact Nat.le_trans h (run_of heq2)
            · trivial
        · exact h
        · exact h
        · trivial

theorem serve_dr (p : Program) (m : Machine) (k : Nat) : sdr m.world.drawn (serve p m k) := by
  unfold serve
  split
  · trivial
  · exact Nat.le_refl _
  · dsimp only
    split
    · trivial
    · exact Nat.le_refl _

theorem drain_dr (w : World) (c : Nat) : (drain w c).2.drawn = w.drawn := by
  unfold drain
  split <;> rfl

theorem retime_dr (m : Machine) (k : Nat) (t : Timer) (a b : Nat) : (retime m k t a b).2.world.drawn = m.world.drawn := by
  unfold retime
  dsimp only
  split
  · exact drain_dr ..
  · rfl

theorem look_dr (p : Program) (gs : Array Goroutine) (rest : Rest) (w : World) : sdr w.drawn (look p gs rest w) := by
  unfold look
  split
  · dsimp only
    split
    · trivial
    · split
      · trivial
      · split
        · rename_i heq; exact (run_of heq : _)
        · trivial
        · trivial
  · trivial

theorem named_dr {m : Machine} {var : Addr} {f : Nat → Timer → Value × Machine} {v : Value} {m' : Machine} (hf : ∀ k t, (f k t).2.world.drawn = m.world.drawn) (h : timerOp.named m var f = .ok (v, m')) : m'.world.drawn = m.world.drawn := by
  unfold timerOp.named at h
  split at h
  · rename_i k _
    have e := hf k (m.rest.timers.getD k default)
    generalize f k (m.rest.timers.getD k default) = x at h e
    cases h
    exact e
  · cases h

theorem opened_dr {m m' : Machine} {var : Addr} (h : timerOp.opened m var = some m') : m'.world.drawn = m.world.drawn := by
  unfold timerOp.opened at h
  split at h
  · split at h
    · cases h; rfl
    · cases h
  · cases h; rfl

theorem timerOp_dr {m : Machine} {op : TimerOp} {v : Value} {m' : Machine} (h : timerOp m op = .ok (v, m')) : m'.world.drawn = m.world.drawn := by
  unfold timerOp at h
  split at h
  · split at h
    · cases h; rfl
    · split at h
      · split at h
        · cases h
        · cases h; rfl
      · cases h
  · exact named_dr (fun k t => retime_dr ..) h
  · split at h
    · rename_i m1 hm
      have e := opened_dr hm
      exact named_dr (fun k t => (retime_dr m1 ..).trans e) h
    · cases h
  · dsimp only at h
    cases h; rfl

theorem runT_step_dr (p : Program) (m : Machine) (i : Nat) (listen : Bool) : sdr m.world.drawn (Go.runT p m i listen).1 := by
  unfold Go.runT
  dsimp only
  generalize hs : stepG p (i == 0) _ m.world listen = s
  have h : m.world.drawn ≤ gdr s := hs ▸ stepG_dr ..
  cases s with
  | ended o w es => trivial
  | comm g cases blocking shape w es =>
    dsimp only
    have k := communicate_dr p m.rest (m.gs.swapAt! i { (default : Goroutine) with status := .finished }).2 i g cases blocking shape w
    generalize (communicate p m.rest (m.gs.swapAt! i { (default : Goroutine) with status := .finished }).2 i g cases blocking shape w) = y at k ⊢
    obtain ⟨r, more⟩ := y
    dsimp only at k ⊢
    cases r with
    | next m' => exact Nat.le_trans h k
    | ended o w => trivial
  | go g w es => exact h
  | spawn g c w es => exact h
  | count g w es => dsimp only; split; trivial; exact h
  | alone g on w es => exact h
  | collect g w es =>
    dsimp only
    have k := look_dr p ((m.gs.swapAt! i { (default : Goroutine) with status := .finished }).2.setIfInBounds i g) m.rest w
    generalize (look p ((m.gs.swapAt! i { (default : Goroutine) with status := .finished }).2.setIfInBounds i g) m.rest w) = y at k ⊢
    cases y with
    | next m' => exact Nat.le_trans h k
    | ended o w => trivial
  | watch g w es => exact h
  | newcoro g c d w es => exact h
  | coroswitch g c e w es =>
    dsimp only
    split
    · exact h
    · split
      · rename_i heq
        have e := endThrow_dr g.frame "coroswitch on exited coro" w
        rw [heq] at e
        show _ ≤ _
        exact Nat.le_trans h (Nat.le_of_eq e.symm)
      · trivial
    · trivial
  | timer g op w es =>
    dsimp only
    split
    · rename_i heq
      have e := timerOp_dr heq
      exact Nat.le_trans h (Nat.le_of_eq e.symm)
    · split
      · rename_i msg _ _ _ _ _ heq
        have e := endThrow_dr g.frame msg w
        rw [heq] at e
        exact Nat.le_trans h (Nat.le_of_eq e.symm)
      · trivial
    · trivial
    · trivial

def mdr (n : Nat) : Move → Prop
  | .goroutine m _ => n ≤ m.world.drawn
  | .machine s _ => sdr n s

theorem askOn_dr (p : Program) (m : Machine) : mdr m.world.drawn (askOn p m) := by
  have PK : ∀ m1 : Machine, m.world.drawn ≤ m1.world.drawn → mdr m.world.drawn (match (choose (.sched (runnable m.gs m.world.os.mono).length)).run p m1.world with
      | .halt _ w => .machine (.ended (.stuck "sched" "") w)
      | .ok k world =>
        if (runnable m.gs m.world.os.mono).length ≤ 1 then .goroutine { m1 with world } ((runnable m.gs m.world.os.mono).getD k 0) else
        match (choose (.extern "sched.slice" 65536)).run p world with
        | .halt _ w => .machine (.ended (.stuck "sched.slice" "") w)
        | .ok n world => .goroutine { m1 with world, rest := { m1.rest with slice := if n = 0 then none else some ((runnable m.gs m.world.os.mono).getD k 0, n) } } ((runnable m.gs m.world.os.mono).getD k 0)) := fun m1 h => by
    split
    · trivial
    · rename_i heq
      have h1 := run_of heq
      split
      · exact Nat.le_trans h h1
      · split
        · trivial
        · rename_i heq2
          exact Nat.le_trans h (Nat.le_trans h1 (run_of heq2))
  unfold askOn
  dsimp only
  split
  · trivial
  · rename_i heq
    have h1 := run_of heq
    split
    · exact sdr_mono (h1 : m.world.drawn ≤ (Machine.world { m with world := _ }).drawn) (serve_dr p _ _)
    · split
      · split
        · exact h1
        · split
          · exact h1
          · split
            · trivial
            · trivial
      · split
        · exact PK { m with world := _ } h1
        · split
          · trivial
          · rename_i heq2; exact PK { m with world := _ } (Nat.le_trans h1 (run_of heq2))
          · rename_i heq2; exact Nat.le_trans h1 (run_of heq2)
          · rename_i heq2; exact PK (Machine.advanceTo { m with world := _ } _) (Nat.le_trans h1 (run_of heq2))

theorem mdr_mono {a b : Nat} (h : a ≤ b) {s : Move} (k : mdr b s) : mdr a s := by
  cases s with
  | goroutine m i => exact Nat.le_trans h k
  | machine s o => exact sdr_mono h k

theorem ask_mdr (p : Program) (m : Machine) : mdr m.world.drawn (ask p m) := by
  unfold ask
  split
  · split
    · trivial
    · rename_i heq
      have h1 := run_of heq
      have k := look_dr p m.gs m.rest ‹World›
      split
      · rename_i hl
        rw [hl] at k
        exact mdr_mono (Nat.le_trans h1 k) (askOn_dr p _)
      · exact sdr_mono h1 k
    · rename_i heq
      have h1 := run_of heq
      exact mdr_mono (h1 : m.world.drawn ≤ (Machine.world { m with world := _ }).drawn) (askOn_dr p _)
  · exact askOn_dr p m

theorem move_dr (p : Program) (m : Machine) : mdr m.world.drawn (move p m) := by
  unfold move
  split
  · split
    · exact Nat.le_refl _
    · trivial
  · split
    · split
      · exact Nat.le_refl _
      · exact ask_mdr p { m with rest := { m.rest with slice := none } }
    · exact ask_mdr p m

theorem step_dr (p : Program) (m : Machine) : sdr m.world.drawn (step p m) := by
  unfold step stepT
  have h := move_dr p m
  split
  · rename_i m1 i heq
    rw [heq] at h
    exact sdr_mono h (runT_step_dr p m1 i true)
  · rename_i heq
    rw [heq] at h
    exact h

/-- A machine that goes on never counts fewer draws. -/
theorem steps_dr {P : Program} {m m' : Machine} (h : Steps P m m') : m.world.drawn ≤ m'.world.drawn := by
  obtain ⟨n, hn⟩ := h
  induction n generalizing m with
  | zero => simp only [runN] at hn; cases hn; exact Nat.le_refl _
  | succ n ih =>
    simp only [runN] at hn
    have k := step_dr P m
    cases hs : step P m with
    | next m1 =>
      rw [hs] at hn k
      exact Nat.le_trans k (ih hn)
    | ended o w => rw [hs] at hn; cases hn

/-- A call that comes back has not counted fewer draws. -/
theorem calls_dr {P : Program} {f : FuncId} {args : Array Value} {w : World} {R : Ending → World → Prop} (h : Calls P f args w R) :
    Calls P f args w fun e w' => R e w' ∧ (w.drawn ≤ w'.drawn ∨ e = .outgrown) := fun cs => by
  obtain ⟨e, w', fr, hR, hC, hf, hl⟩ := h cs
  refine ⟨e, w', fr, ⟨hR, ?_⟩, hC, hf, hl⟩
  cases e with
  | returned v => exact .inl (steps_dr hC)
  | panicked c => exact .inl (steps_dr hC)
  | outgrown => exact .inr rfl

end Go.Proofs.YtomgihlkbmaleaaDoor.Dr

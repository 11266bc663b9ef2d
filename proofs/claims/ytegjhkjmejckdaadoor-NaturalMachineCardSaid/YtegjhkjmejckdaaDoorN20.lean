/- natural.attempt over each of the closures of the exported functions: what comes back, or the error code. -/
import Derived.Test.YtegjhkjmejckdaaDoorN19
namespace Go.Proofs.YtegjhkjmejckdaaDoor
open Go.RowKit M
theorem setCell_self (w : World) (b : Nat) (v : Value) (h : w.cell? ⟨b, 0, none⟩ = some v) : w.setCell ⟨b, 0, none⟩ v = w := by
  have e : w.heap.modify b (fun o => match o with
      | .cells c elem frozen => .cells (if (none : Option Nat).isSome then c else c.setIfInBounds 0 v) elem frozen
      | o => o) = w.heap := by
    apply Array.ext_getElem?
    intro i
    rw [Array.getElem?_modify]
    split
    · rename_i hib
      subst hib
      simp only [World.cell?] at h
      cases hh : w.heap[b]? with
      | none => rfl
      | some o =>
        cases o with
        | cells c elem fr =>
          rw [hh] at h
          simp at h
          have hc : c.setIfInBounds 0 v = c := by
            apply Array.ext_getElem?
            intro j
            rw [Array.getElem?_setIfInBounds]
            split
            · rename_i hj; subst hj; split
              · exact h.symm
              · rename_i hns; rw [Array.getElem?_eq_none (by omega)]
            · rfl
          simp [hc]
        | _ => rfl
    · rfl
  exact congrArg (fun h => ({ w with heap := h } : World)) e
/-- natural.attempt over this closure: its result. -/
theorem attemptAdd_ok (a1 a2 : Addr) (s : Nat) (w : World) (h : Calls Tryd.prog 38 #[.pointer (some a1), .pointer (some a2)] (w.alloc (.cells #[.int .i64 0] 29)) (RetNat (w.alloc (.cells #[.int .i64 0] 29)) s)) :
    Calls Tryd.prog 37 #[.func (Fn.func 38) #[] #[.pointer (some a1), .pointer (some a2)]] w fun e w' => ∃ v, e = .returned (.tuple #[v, .int .i64 0]) ∧ Rd w' v (limbs s) ∧ Below w.heap.size w w' := by
  have hmf : ∀ (fn : Fn) (first cap : Array Value) (w : World), (Instr.makeFunc fn first cap).run Tryd.prog w = .ok (.func fn first cap) w := fun _ _ _ _ => rfl
  have hb0 : Below w.heap.size w (w.alloc (.cells #[.int .i64 0] 29)) := (Below.refl _ _).alloc (Nat.le_refl _) _
  have H := Bx.mk h
  clear h
  go_enter_defers Tryd.func37, Tryd.ntmps37
  go_wp2_with fail
  refine H.out.mono ?_
  rintro e w2 ⟨v, rfl, hrd, hb⟩
  have hc0 : w2.cell? ⟨w.heap.size, 0, none⟩ = some (.int .i64 0) := by rw [hb.cell (p := ⟨w.heap.size, 0, none⟩) (by simp)]; simp [go_sem]
  have hz0 : w2.frozen? ⟨w.heap.size, 0, none⟩ = false := by rw [hb.frozen (p := ⟨w.heap.size, 0, none⟩) (by simp)]; simp [go_sem]
  have HBB := Bx.mk (hb0.trans (hb.mono hb0.size))
  have HRD := Bx.mk hrd
  clear hrd
  have hself := setCell_self w2 w.heap.size _ hc0
  clear hb hb0 H
  go_wp2
  refine leaves_cons (f := 65) (args := #[.pointer (some ⟨w.heap.size, 0, none⟩)]) (by simp) (by simp [go_sem]) ?_
  refine (catch_idle65 ⟨w.heap.size, 0, none⟩ _).mono ?_
  rintro e u' w'' ⟨rfl, rfl, rfl⟩
  simp only [hself]
  refine ⟨_, by simp [results, Tryd.results37, go_sem, hc0]; rfl, ?_⟩
  exact ⟨v, rfl, HRD.out, HBB.out⟩
/-- natural.attempt over this closure: the error code that was raised. -/
theorem attemptAdd_raised (a1 a2 : Addr) (n : Int) (w : World) (h : Calls Tryd.prog 38 #[.pointer (some a1), .pointer (some a2)] (w.alloc (.cells #[.int .i64 0] 29)) (Raised (w.alloc (.cells #[.int .i64 0] 29)) n)) :
    Calls Tryd.prog 37 #[.func (Fn.func 38) #[] #[.pointer (some a1), .pointer (some a2)]] w fun e w' => e = .returned (.tuple #[.slice none 0 0, .int .i64 n]) ∧ Below w.heap.size w w' := by
  have hmf : ∀ (fn : Fn) (first cap : Array Value) (w : World), (Instr.makeFunc fn first cap).run Tryd.prog w = .ok (.func fn first cap) w := fun _ _ _ _ => rfl
  have hb0 : Below w.heap.size w (w.alloc (.cells #[.int .i64 0] 29)) := (Below.refl _ _).alloc (Nat.le_refl _) _
  have H := Bx.mk h
  clear h
  go_enter_defers Tryd.func37, Tryd.ntmps37
  go_wp2_with fail
  refine H.out.mono ?_
  rintro e w2 ⟨rfl, hb⟩
  have hc0 : w2.cell? ⟨w.heap.size, 0, none⟩ = some (.int .i64 0) := by rw [hb.cell (p := ⟨w.heap.size, 0, none⟩) (by simp)]; simp [go_sem]
  have hz0 : w2.frozen? ⟨w.heap.size, 0, none⟩ = false := by rw [hb.frozen (p := ⟨w.heap.size, 0, none⟩) (by simp)]; simp [go_sem]
  have HBB := Bx.mk (hb0.trans (hb.mono hb0.size))
  have HB2 := Bx.mk (HBB.out.setCell (p := ⟨w.heap.size, 0, none⟩) (Nat.le_refl _) (.int .i64 n))
  clear hb hb0 H
  refine leaves_cons (f := 65) (args := #[.pointer (some ⟨w.heap.size, 0, none⟩)]) (by simp) (by simp [go_sem]) ?_
  refine (catch_raised65 ⟨w.heap.size, 0, none⟩ 0 n [] _ hc0 hz0).mono ?_
  rintro e u' w'' ⟨rfl, rfl, rfl⟩
  have hcs : (w2.setCell ⟨w.heap.size, 0, none⟩ (.int .i64 n)).cell? ⟨w.heap.size, 0, none⟩ = some (.int .i64 n) := World.cell?_setCell_same' _ _ _ (by rw [hc0]; rfl)
  refine ⟨_, by simp [results, Tryd.results37, go_sem, hcs]; rfl, ?_⟩
  exact ⟨rfl, HB2.out⟩
/-- natural.attempt over this closure: its result. -/
theorem attemptSub_ok (a1 a2 : Addr) (s : Nat) (w : World) (h : Calls Tryd.prog 44 #[.pointer (some a1), .pointer (some a2)] (w.alloc (.cells #[.int .i64 0] 29)) (RetNat (w.alloc (.cells #[.int .i64 0] 29)) s)) :
    Calls Tryd.prog 37 #[.func (Fn.func 44) #[] #[.pointer (some a1), .pointer (some a2)]] w fun e w' => ∃ v, e = .returned (.tuple #[v, .int .i64 0]) ∧ Rd w' v (limbs s) ∧ Below w.heap.size w w' := by
  have hmf : ∀ (fn : Fn) (first cap : Array Value) (w : World), (Instr.makeFunc fn first cap).run Tryd.prog w = .ok (.func fn first cap) w := fun _ _ _ _ => rfl
  have hb0 : Below w.heap.size w (w.alloc (.cells #[.int .i64 0] 29)) := (Below.refl _ _).alloc (Nat.le_refl _) _
  have H := Bx.mk h
  clear h
  go_enter_defers Tryd.func37, Tryd.ntmps37
  go_wp2_with fail
  refine H.out.mono ?_
  rintro e w2 ⟨v, rfl, hrd, hb⟩
  have hc0 : w2.cell? ⟨w.heap.size, 0, none⟩ = some (.int .i64 0) := by rw [hb.cell (p := ⟨w.heap.size, 0, none⟩) (by simp)]; simp [go_sem]
  have hz0 : w2.frozen? ⟨w.heap.size, 0, none⟩ = false := by rw [hb.frozen (p := ⟨w.heap.size, 0, none⟩) (by simp)]; simp [go_sem]
  have HBB := Bx.mk (hb0.trans (hb.mono hb0.size))
  have HRD := Bx.mk hrd
  clear hrd
  have hself := setCell_self w2 w.heap.size _ hc0
  clear hb hb0 H
  go_wp2
  refine leaves_cons (f := 65) (args := #[.pointer (some ⟨w.heap.size, 0, none⟩)]) (by simp) (by simp [go_sem]) ?_
  refine (catch_idle65 ⟨w.heap.size, 0, none⟩ _).mono ?_
  rintro e u' w'' ⟨rfl, rfl, rfl⟩
  simp only [hself]
  refine ⟨_, by simp [results, Tryd.results37, go_sem, hc0]; rfl, ?_⟩
  exact ⟨v, rfl, HRD.out, HBB.out⟩
/-- natural.attempt over this closure: the error code that was raised. -/
theorem attemptSub_raised (a1 a2 : Addr) (n : Int) (w : World) (h : Calls Tryd.prog 44 #[.pointer (some a1), .pointer (some a2)] (w.alloc (.cells #[.int .i64 0] 29)) (Raised (w.alloc (.cells #[.int .i64 0] 29)) n)) :
    Calls Tryd.prog 37 #[.func (Fn.func 44) #[] #[.pointer (some a1), .pointer (some a2)]] w fun e w' => e = .returned (.tuple #[.slice none 0 0, .int .i64 n]) ∧ Below w.heap.size w w' := by
  have hmf : ∀ (fn : Fn) (first cap : Array Value) (w : World), (Instr.makeFunc fn first cap).run Tryd.prog w = .ok (.func fn first cap) w := fun _ _ _ _ => rfl
  have hb0 : Below w.heap.size w (w.alloc (.cells #[.int .i64 0] 29)) := (Below.refl _ _).alloc (Nat.le_refl _) _
  have H := Bx.mk h
  clear h
  go_enter_defers Tryd.func37, Tryd.ntmps37
  go_wp2_with fail
  refine H.out.mono ?_
  rintro e w2 ⟨rfl, hb⟩
  have hc0 : w2.cell? ⟨w.heap.size, 0, none⟩ = some (.int .i64 0) := by rw [hb.cell (p := ⟨w.heap.size, 0, none⟩) (by simp)]; simp [go_sem]
  have hz0 : w2.frozen? ⟨w.heap.size, 0, none⟩ = false := by rw [hb.frozen (p := ⟨w.heap.size, 0, none⟩) (by simp)]; simp [go_sem]
  have HBB := Bx.mk (hb0.trans (hb.mono hb0.size))
  have HB2 := Bx.mk (HBB.out.setCell (p := ⟨w.heap.size, 0, none⟩) (Nat.le_refl _) (.int .i64 n))
  clear hb hb0 H
  refine leaves_cons (f := 65) (args := #[.pointer (some ⟨w.heap.size, 0, none⟩)]) (by simp) (by simp [go_sem]) ?_
  refine (catch_raised65 ⟨w.heap.size, 0, none⟩ 0 n [] _ hc0 hz0).mono ?_
  rintro e u' w'' ⟨rfl, rfl, rfl⟩
  have hcs : (w2.setCell ⟨w.heap.size, 0, none⟩ (.int .i64 n)).cell? ⟨w.heap.size, 0, none⟩ = some (.int .i64 n) := World.cell?_setCell_same' _ _ _ (by rw [hc0]; rfl)
  refine ⟨_, by simp [results, Tryd.results37, go_sem, hcs]; rfl, ?_⟩
  exact ⟨rfl, HB2.out⟩
/-- natural.attempt over this closure: its result. -/
theorem attemptMul_ok (a1 a2 : Addr) (s : Nat) (w : World) (h : Calls Tryd.prog 48 #[.pointer (some a1), .pointer (some a2)] (w.alloc (.cells #[.int .i64 0] 29)) (RetNat (w.alloc (.cells #[.int .i64 0] 29)) s)) :
    Calls Tryd.prog 37 #[.func (Fn.func 48) #[] #[.pointer (some a1), .pointer (some a2)]] w fun e w' => ∃ v, e = .returned (.tuple #[v, .int .i64 0]) ∧ Rd w' v (limbs s) ∧ Below w.heap.size w w' := by
  have hmf : ∀ (fn : Fn) (first cap : Array Value) (w : World), (Instr.makeFunc fn first cap).run Tryd.prog w = .ok (.func fn first cap) w := fun _ _ _ _ => rfl
  have hb0 : Below w.heap.size w (w.alloc (.cells #[.int .i64 0] 29)) := (Below.refl _ _).alloc (Nat.le_refl _) _
  have H := Bx.mk h
  clear h
  go_enter_defers Tryd.func37, Tryd.ntmps37
  go_wp2_with fail
  refine H.out.mono ?_
  rintro e w2 ⟨v, rfl, hrd, hb⟩
  have hc0 : w2.cell? ⟨w.heap.size, 0, none⟩ = some (.int .i64 0) := by rw [hb.cell (p := ⟨w.heap.size, 0, none⟩) (by simp)]; simp [go_sem]
  have hz0 : w2.frozen? ⟨w.heap.size, 0, none⟩ = false := by rw [hb.frozen (p := ⟨w.heap.size, 0, none⟩) (by simp)]; simp [go_sem]
  have HBB := Bx.mk (hb0.trans (hb.mono hb0.size))
  have HRD := Bx.mk hrd
  clear hrd
  have hself := setCell_self w2 w.heap.size _ hc0
  clear hb hb0 H
  go_wp2
  refine leaves_cons (f := 65) (args := #[.pointer (some ⟨w.heap.size, 0, none⟩)]) (by simp) (by simp [go_sem]) ?_
  refine (catch_idle65 ⟨w.heap.size, 0, none⟩ _).mono ?_
  rintro e u' w'' ⟨rfl, rfl, rfl⟩
  simp only [hself]
  refine ⟨_, by simp [results, Tryd.results37, go_sem, hc0]; rfl, ?_⟩
  exact ⟨v, rfl, HRD.out, HBB.out⟩
/-- natural.attempt over this closure: the error code that was raised. -/
theorem attemptMul_raised (a1 a2 : Addr) (n : Int) (w : World) (h : Calls Tryd.prog 48 #[.pointer (some a1), .pointer (some a2)] (w.alloc (.cells #[.int .i64 0] 29)) (Raised (w.alloc (.cells #[.int .i64 0] 29)) n)) :
    Calls Tryd.prog 37 #[.func (Fn.func 48) #[] #[.pointer (some a1), .pointer (some a2)]] w fun e w' => e = .returned (.tuple #[.slice none 0 0, .int .i64 n]) ∧ Below w.heap.size w w' := by
  have hmf : ∀ (fn : Fn) (first cap : Array Value) (w : World), (Instr.makeFunc fn first cap).run Tryd.prog w = .ok (.func fn first cap) w := fun _ _ _ _ => rfl
  have hb0 : Below w.heap.size w (w.alloc (.cells #[.int .i64 0] 29)) := (Below.refl _ _).alloc (Nat.le_refl _) _
  have H := Bx.mk h
  clear h
  go_enter_defers Tryd.func37, Tryd.ntmps37
  go_wp2_with fail
  refine H.out.mono ?_
  rintro e w2 ⟨rfl, hb⟩
  have hc0 : w2.cell? ⟨w.heap.size, 0, none⟩ = some (.int .i64 0) := by rw [hb.cell (p := ⟨w.heap.size, 0, none⟩) (by simp)]; simp [go_sem]
  have hz0 : w2.frozen? ⟨w.heap.size, 0, none⟩ = false := by rw [hb.frozen (p := ⟨w.heap.size, 0, none⟩) (by simp)]; simp [go_sem]
  have HBB := Bx.mk (hb0.trans (hb.mono hb0.size))
  have HB2 := Bx.mk (HBB.out.setCell (p := ⟨w.heap.size, 0, none⟩) (Nat.le_refl _) (.int .i64 n))
  clear hb hb0 H
  refine leaves_cons (f := 65) (args := #[.pointer (some ⟨w.heap.size, 0, none⟩)]) (by simp) (by simp [go_sem]) ?_
  refine (catch_raised65 ⟨w.heap.size, 0, none⟩ 0 n [] _ hc0 hz0).mono ?_
  rintro e u' w'' ⟨rfl, rfl, rfl⟩
  have hcs : (w2.setCell ⟨w.heap.size, 0, none⟩ (.int .i64 n)).cell? ⟨w.heap.size, 0, none⟩ = some (.int .i64 n) := World.cell?_setCell_same' _ _ _ (by rw [hc0]; rfl)
  refine ⟨_, by simp [results, Tryd.results37, go_sem, hcs]; rfl, ?_⟩
  exact ⟨rfl, HB2.out⟩
/-- natural.attempt over this closure: its result. -/
theorem attemptPow_ok (a1 a2 : Addr) (s : Nat) (w : World) (h : Calls Tryd.prog 54 #[.pointer (some a1), .pointer (some a2)] (w.alloc (.cells #[.int .i64 0] 29)) (RetNat (w.alloc (.cells #[.int .i64 0] 29)) s)) :
    Calls Tryd.prog 37 #[.func (Fn.func 54) #[] #[.pointer (some a1), .pointer (some a2)]] w fun e w' => ∃ v, e = .returned (.tuple #[v, .int .i64 0]) ∧ Rd w' v (limbs s) ∧ Below w.heap.size w w' := by
  have hmf : ∀ (fn : Fn) (first cap : Array Value) (w : World), (Instr.makeFunc fn first cap).run Tryd.prog w = .ok (.func fn first cap) w := fun _ _ _ _ => rfl
  have hb0 : Below w.heap.size w (w.alloc (.cells #[.int .i64 0] 29)) := (Below.refl _ _).alloc (Nat.le_refl _) _
  have H := Bx.mk h
  clear h
  go_enter_defers Tryd.func37, Tryd.ntmps37
  go_wp2_with fail
  refine H.out.mono ?_
  rintro e w2 ⟨v, rfl, hrd, hb⟩
  have hc0 : w2.cell? ⟨w.heap.size, 0, none⟩ = some (.int .i64 0) := by rw [hb.cell (p := ⟨w.heap.size, 0, none⟩) (by simp)]; simp [go_sem]
  have hz0 : w2.frozen? ⟨w.heap.size, 0, none⟩ = false := by rw [hb.frozen (p := ⟨w.heap.size, 0, none⟩) (by simp)]; simp [go_sem]
  have HBB := Bx.mk (hb0.trans (hb.mono hb0.size))
  have HRD := Bx.mk hrd
  clear hrd
  have hself := setCell_self w2 w.heap.size _ hc0
  clear hb hb0 H
  go_wp2
  refine leaves_cons (f := 65) (args := #[.pointer (some ⟨w.heap.size, 0, none⟩)]) (by simp) (by simp [go_sem]) ?_
  refine (catch_idle65 ⟨w.heap.size, 0, none⟩ _).mono ?_
  rintro e u' w'' ⟨rfl, rfl, rfl⟩
  simp only [hself]
  refine ⟨_, by simp [results, Tryd.results37, go_sem, hc0]; rfl, ?_⟩
  exact ⟨v, rfl, HRD.out, HBB.out⟩
/-- natural.attempt over this closure: the error code that was raised. -/
theorem attemptPow_raised (a1 a2 : Addr) (n : Int) (w : World) (h : Calls Tryd.prog 54 #[.pointer (some a1), .pointer (some a2)] (w.alloc (.cells #[.int .i64 0] 29)) (Raised (w.alloc (.cells #[.int .i64 0] 29)) n)) :
    Calls Tryd.prog 37 #[.func (Fn.func 54) #[] #[.pointer (some a1), .pointer (some a2)]] w fun e w' => e = .returned (.tuple #[.slice none 0 0, .int .i64 n]) ∧ Below w.heap.size w w' := by
  have hmf : ∀ (fn : Fn) (first cap : Array Value) (w : World), (Instr.makeFunc fn first cap).run Tryd.prog w = .ok (.func fn first cap) w := fun _ _ _ _ => rfl
  have hb0 : Below w.heap.size w (w.alloc (.cells #[.int .i64 0] 29)) := (Below.refl _ _).alloc (Nat.le_refl _) _
  have H := Bx.mk h
  clear h
  go_enter_defers Tryd.func37, Tryd.ntmps37
  go_wp2_with fail
  refine H.out.mono ?_
  rintro e w2 ⟨rfl, hb⟩
  have hc0 : w2.cell? ⟨w.heap.size, 0, none⟩ = some (.int .i64 0) := by rw [hb.cell (p := ⟨w.heap.size, 0, none⟩) (by simp)]; simp [go_sem]
  have hz0 : w2.frozen? ⟨w.heap.size, 0, none⟩ = false := by rw [hb.frozen (p := ⟨w.heap.size, 0, none⟩) (by simp)]; simp [go_sem]
  have HBB := Bx.mk (hb0.trans (hb.mono hb0.size))
  have HB2 := Bx.mk (HBB.out.setCell (p := ⟨w.heap.size, 0, none⟩) (Nat.le_refl _) (.int .i64 n))
  clear hb hb0 H
  refine leaves_cons (f := 65) (args := #[.pointer (some ⟨w.heap.size, 0, none⟩)]) (by simp) (by simp [go_sem]) ?_
  refine (catch_raised65 ⟨w.heap.size, 0, none⟩ 0 n [] _ hc0 hz0).mono ?_
  rintro e u' w'' ⟨rfl, rfl, rfl⟩
  have hcs : (w2.setCell ⟨w.heap.size, 0, none⟩ (.int .i64 n)).cell? ⟨w.heap.size, 0, none⟩ = some (.int .i64 n) := World.cell?_setCell_same' _ _ _ (by rw [hc0]; rfl)
  refine ⟨_, by simp [results, Tryd.results37, go_sem, hcs]; rfl, ?_⟩
  exact ⟨rfl, HB2.out⟩
/-- natural.attempt over this closure: its result. -/
theorem attemptCmp_ok (a1 a2 : Addr) (n : Int) (w : World) (h : Calls Tryd.prog 57 #[.pointer (some a1), .pointer (some a2)] (w.alloc (.cells #[.int .i64 0] 29)) (fun e w' => e = .returned (.int .i64 n) ∧ Below (w.heap.size + 1) (w.alloc (.cells #[.int .i64 0] 29)) w')) :
    Calls Tryd.prog 56 #[.func (Fn.func 57) #[] #[.pointer (some a1), .pointer (some a2)]] w fun e w' => e = .returned (.tuple #[.int .i64 n, .int .i64 0]) ∧ Below w.heap.size w w' := by
  have hmf : ∀ (fn : Fn) (first cap : Array Value) (w : World), (Instr.makeFunc fn first cap).run Tryd.prog w = .ok (.func fn first cap) w := fun _ _ _ _ => rfl
  have hb0 : Below w.heap.size w (w.alloc (.cells #[.int .i64 0] 29)) := (Below.refl _ _).alloc (Nat.le_refl _) _
  have H := Bx.mk h
  clear h
  go_enter_defers Tryd.func56, Tryd.ntmps56
  go_wp2_with fail
  refine H.out.mono ?_
  rintro e w2 ⟨rfl, hb⟩
  have hb : Below (w.alloc (.cells #[.int .i64 0] 29)).heap.size (w.alloc (.cells #[.int .i64 0] 29)) w2 := hb.mono (by simp)
  have hc0 : w2.cell? ⟨w.heap.size, 0, none⟩ = some (.int .i64 0) := by rw [hb.cell (p := ⟨w.heap.size, 0, none⟩) (by simp)]; simp [go_sem]
  have hz0 : w2.frozen? ⟨w.heap.size, 0, none⟩ = false := by rw [hb.frozen (p := ⟨w.heap.size, 0, none⟩) (by simp)]; simp [go_sem]
  have HBB := Bx.mk (hb0.trans (hb.mono hb0.size))
  have hself := setCell_self w2 w.heap.size _ hc0
  clear hb hb0 H
  go_wp2
  refine leaves_cons (f := 77) (args := #[.pointer (some ⟨w.heap.size, 0, none⟩)]) (by simp) (by simp [go_sem]) ?_
  refine (catch_idle77 ⟨w.heap.size, 0, none⟩ _).mono ?_
  rintro e u' w'' ⟨rfl, rfl, rfl⟩
  simp only [hself]
  refine ⟨_, by simp [results, Tryd.results56, go_sem, hc0]; rfl, ?_⟩
  exact ⟨rfl, HBB.out⟩
/-- natural.attempt over this closure: the error code that was raised. -/
theorem attemptCmp_raised (a1 a2 : Addr) (n : Int) (w : World) (h : Calls Tryd.prog 57 #[.pointer (some a1), .pointer (some a2)] (w.alloc (.cells #[.int .i64 0] 29)) (Raised (w.alloc (.cells #[.int .i64 0] 29)) n)) :
    Calls Tryd.prog 56 #[.func (Fn.func 57) #[] #[.pointer (some a1), .pointer (some a2)]] w fun e w' => e = .returned (.tuple #[.int .i64 0, .int .i64 n]) ∧ Below w.heap.size w w' := by
  have hmf : ∀ (fn : Fn) (first cap : Array Value) (w : World), (Instr.makeFunc fn first cap).run Tryd.prog w = .ok (.func fn first cap) w := fun _ _ _ _ => rfl
  have hb0 : Below w.heap.size w (w.alloc (.cells #[.int .i64 0] 29)) := (Below.refl _ _).alloc (Nat.le_refl _) _
  have H := Bx.mk h
  clear h
  go_enter_defers Tryd.func56, Tryd.ntmps56
  go_wp2_with fail
  refine H.out.mono ?_
  rintro e w2 ⟨rfl, hb⟩
  have hc0 : w2.cell? ⟨w.heap.size, 0, none⟩ = some (.int .i64 0) := by rw [hb.cell (p := ⟨w.heap.size, 0, none⟩) (by simp)]; simp [go_sem]
  have hz0 : w2.frozen? ⟨w.heap.size, 0, none⟩ = false := by rw [hb.frozen (p := ⟨w.heap.size, 0, none⟩) (by simp)]; simp [go_sem]
  have HBB := Bx.mk (hb0.trans (hb.mono hb0.size))
  have HB2 := Bx.mk (HBB.out.setCell (p := ⟨w.heap.size, 0, none⟩) (Nat.le_refl _) (.int .i64 n))
  clear hb hb0 H
  refine leaves_cons (f := 77) (args := #[.pointer (some ⟨w.heap.size, 0, none⟩)]) (by simp) (by simp [go_sem]) ?_
  refine (catch_raised77 ⟨w.heap.size, 0, none⟩ 0 n [] _ hc0 hz0).mono ?_
  rintro e u' w'' ⟨rfl, rfl, rfl⟩
  have hcs : (w2.setCell ⟨w.heap.size, 0, none⟩ (.int .i64 n)).cell? ⟨w.heap.size, 0, none⟩ = some (.int .i64 n) := World.cell?_setCell_same' _ _ _ (by rw [hc0]; rfl)
  refine ⟨_, by simp [results, Tryd.results56, go_sem, hcs]; rfl, ?_⟩
  exact ⟨rfl, HB2.out⟩
/-- natural.attempt over this closure: its result. -/
theorem attemptText_ok (a1 : Addr) (s : ByteArray) (w : World) (h : Calls Tryd.prog 60 #[.pointer (some a1)] (w.alloc (.cells #[.int .i64 0] 29)) (fun e w' => e = .returned (.string s) ∧ Below (w.heap.size + 1) (w.alloc (.cells #[.int .i64 0] 29)) w')) :
    Calls Tryd.prog 59 #[.func (Fn.func 60) #[] #[.pointer (some a1)]] w fun e w' => e = .returned (.tuple #[.string s, .int .i64 0]) ∧ Below w.heap.size w w' := by
  have hmf : ∀ (fn : Fn) (first cap : Array Value) (w : World), (Instr.makeFunc fn first cap).run Tryd.prog w = .ok (.func fn first cap) w := fun _ _ _ _ => rfl
  have hb0 : Below w.heap.size w (w.alloc (.cells #[.int .i64 0] 29)) := (Below.refl _ _).alloc (Nat.le_refl _) _
  have H := Bx.mk h
  clear h
  go_enter_defers Tryd.func59, Tryd.ntmps59
  go_wp2_with fail
  refine H.out.mono ?_
  rintro e w2 ⟨rfl, hb⟩
  have hb : Below (w.alloc (.cells #[.int .i64 0] 29)).heap.size (w.alloc (.cells #[.int .i64 0] 29)) w2 := hb.mono (by simp)
  have hc0 : w2.cell? ⟨w.heap.size, 0, none⟩ = some (.int .i64 0) := by rw [hb.cell (p := ⟨w.heap.size, 0, none⟩) (by simp)]; simp [go_sem]
  have hz0 : w2.frozen? ⟨w.heap.size, 0, none⟩ = false := by rw [hb.frozen (p := ⟨w.heap.size, 0, none⟩) (by simp)]; simp [go_sem]
  have HBB := Bx.mk (hb0.trans (hb.mono hb0.size))
  have hself := setCell_self w2 w.heap.size _ hc0
  clear hb hb0 H
  go_wp2
  refine leaves_cons (f := 79) (args := #[.pointer (some ⟨w.heap.size, 0, none⟩)]) (by simp) (by simp [go_sem]) ?_
  refine (catch_idle79 ⟨w.heap.size, 0, none⟩ _).mono ?_
  rintro e u' w'' ⟨rfl, rfl, rfl⟩
  simp only [hself]
  refine ⟨_, by simp [results, Tryd.results59, go_sem, hc0]; rfl, ?_⟩
  exact ⟨rfl, HBB.out⟩
/-- natural.attempt over this closure: the error code that was raised. -/
theorem attemptText_raised (a1 : Addr) (n : Int) (w : World) (h : Calls Tryd.prog 60 #[.pointer (some a1)] (w.alloc (.cells #[.int .i64 0] 29)) (Raised (w.alloc (.cells #[.int .i64 0] 29)) n)) :
    Calls Tryd.prog 59 #[.func (Fn.func 60) #[] #[.pointer (some a1)]] w fun e w' => e = .returned (.tuple #[.string ⟨#[]⟩, .int .i64 n]) ∧ Below w.heap.size w w' := by
  have hmf : ∀ (fn : Fn) (first cap : Array Value) (w : World), (Instr.makeFunc fn first cap).run Tryd.prog w = .ok (.func fn first cap) w := fun _ _ _ _ => rfl
  have hb0 : Below w.heap.size w (w.alloc (.cells #[.int .i64 0] 29)) := (Below.refl _ _).alloc (Nat.le_refl _) _
  have H := Bx.mk h
  clear h
  go_enter_defers Tryd.func59, Tryd.ntmps59
  go_wp2_with fail
  refine H.out.mono ?_
  rintro e w2 ⟨rfl, hb⟩
  have hc0 : w2.cell? ⟨w.heap.size, 0, none⟩ = some (.int .i64 0) := by rw [hb.cell (p := ⟨w.heap.size, 0, none⟩) (by simp)]; simp [go_sem]
  have hz0 : w2.frozen? ⟨w.heap.size, 0, none⟩ = false := by rw [hb.frozen (p := ⟨w.heap.size, 0, none⟩) (by simp)]; simp [go_sem]
  have HBB := Bx.mk (hb0.trans (hb.mono hb0.size))
  have HB2 := Bx.mk (HBB.out.setCell (p := ⟨w.heap.size, 0, none⟩) (Nat.le_refl _) (.int .i64 n))
  clear hb hb0 H
  refine leaves_cons (f := 79) (args := #[.pointer (some ⟨w.heap.size, 0, none⟩)]) (by simp) (by simp [go_sem]) ?_
  refine (catch_raised79 ⟨w.heap.size, 0, none⟩ 0 n [] _ hc0 hz0).mono ?_
  rintro e u' w'' ⟨rfl, rfl, rfl⟩
  have hcs : (w2.setCell ⟨w.heap.size, 0, none⟩ (.int .i64 n)).cell? ⟨w.heap.size, 0, none⟩ = some (.int .i64 n) := World.cell?_setCell_same' _ _ _ (by rw [hc0]; rfl)
  refine ⟨_, by simp [results, Tryd.results59, go_sem, hcs]; rfl, ?_⟩
  exact ⟨rfl, HB2.out⟩
/-- natural.attempt over this closure: its result. -/
theorem attemptParse_ok (a1 : Addr) (s : Nat) (w : World) (h : Calls Tryd.prog 62 #[.pointer (some a1)] (w.alloc (.cells #[.int .i64 0] 29)) (RetNat (w.alloc (.cells #[.int .i64 0] 29)) s)) :
    Calls Tryd.prog 37 #[.func (Fn.func 62) #[] #[.pointer (some a1)]] w fun e w' => ∃ v, e = .returned (.tuple #[v, .int .i64 0]) ∧ Rd w' v (limbs s) ∧ Below w.heap.size w w' := by
  have hmf : ∀ (fn : Fn) (first cap : Array Value) (w : World), (Instr.makeFunc fn first cap).run Tryd.prog w = .ok (.func fn first cap) w := fun _ _ _ _ => rfl
  have hb0 : Below w.heap.size w (w.alloc (.cells #[.int .i64 0] 29)) := (Below.refl _ _).alloc (Nat.le_refl _) _
  have H := Bx.mk h
  clear h
  go_enter_defers Tryd.func37, Tryd.ntmps37
  go_wp2_with fail
  refine H.out.mono ?_
  rintro e w2 ⟨v, rfl, hrd, hb⟩
  have hc0 : w2.cell? ⟨w.heap.size, 0, none⟩ = some (.int .i64 0) := by rw [hb.cell (p := ⟨w.heap.size, 0, none⟩) (by simp)]; simp [go_sem]
  have hz0 : w2.frozen? ⟨w.heap.size, 0, none⟩ = false := by rw [hb.frozen (p := ⟨w.heap.size, 0, none⟩) (by simp)]; simp [go_sem]
  have HBB := Bx.mk (hb0.trans (hb.mono hb0.size))
  have HRD := Bx.mk hrd
  clear hrd
  have hself := setCell_self w2 w.heap.size _ hc0
  clear hb hb0 H
  go_wp2
  refine leaves_cons (f := 65) (args := #[.pointer (some ⟨w.heap.size, 0, none⟩)]) (by simp) (by simp [go_sem]) ?_
  refine (catch_idle65 ⟨w.heap.size, 0, none⟩ _).mono ?_
  rintro e u' w'' ⟨rfl, rfl, rfl⟩
  simp only [hself]
  refine ⟨_, by simp [results, Tryd.results37, go_sem, hc0]; rfl, ?_⟩
  exact ⟨v, rfl, HRD.out, HBB.out⟩
/-- natural.attempt over this closure: the error code that was raised. -/
theorem attemptParse_raised (a1 : Addr) (n : Int) (w : World) (h : Calls Tryd.prog 62 #[.pointer (some a1)] (w.alloc (.cells #[.int .i64 0] 29)) (Raised (w.alloc (.cells #[.int .i64 0] 29)) n)) :
    Calls Tryd.prog 37 #[.func (Fn.func 62) #[] #[.pointer (some a1)]] w fun e w' => e = .returned (.tuple #[.slice none 0 0, .int .i64 n]) ∧ Below w.heap.size w w' := by
  have hmf : ∀ (fn : Fn) (first cap : Array Value) (w : World), (Instr.makeFunc fn first cap).run Tryd.prog w = .ok (.func fn first cap) w := fun _ _ _ _ => rfl
  have hb0 : Below w.heap.size w (w.alloc (.cells #[.int .i64 0] 29)) := (Below.refl _ _).alloc (Nat.le_refl _) _
  have H := Bx.mk h
  clear h
  go_enter_defers Tryd.func37, Tryd.ntmps37
  go_wp2_with fail
  refine H.out.mono ?_
  rintro e w2 ⟨rfl, hb⟩
  have hc0 : w2.cell? ⟨w.heap.size, 0, none⟩ = some (.int .i64 0) := by rw [hb.cell (p := ⟨w.heap.size, 0, none⟩) (by simp)]; simp [go_sem]
  have hz0 : w2.frozen? ⟨w.heap.size, 0, none⟩ = false := by rw [hb.frozen (p := ⟨w.heap.size, 0, none⟩) (by simp)]; simp [go_sem]
  have HBB := Bx.mk (hb0.trans (hb.mono hb0.size))
  have HB2 := Bx.mk (HBB.out.setCell (p := ⟨w.heap.size, 0, none⟩) (Nat.le_refl _) (.int .i64 n))
  clear hb hb0 H
  refine leaves_cons (f := 65) (args := #[.pointer (some ⟨w.heap.size, 0, none⟩)]) (by simp) (by simp [go_sem]) ?_
  refine (catch_raised65 ⟨w.heap.size, 0, none⟩ 0 n [] _ hc0 hz0).mono ?_
  rintro e u' w'' ⟨rfl, rfl, rfl⟩
  have hcs : (w2.setCell ⟨w.heap.size, 0, none⟩ (.int .i64 n)).cell? ⟨w.heap.size, 0, none⟩ = some (.int .i64 n) := World.cell?_setCell_same' _ _ _ (by rw [hc0]; rfl)
  refine ⟨_, by simp [results, Tryd.results37, go_sem, hcs]; rfl, ?_⟩
  exact ⟨rfl, HB2.out⟩
end Go.Proofs.YtegjhkjmejckdaaDoor

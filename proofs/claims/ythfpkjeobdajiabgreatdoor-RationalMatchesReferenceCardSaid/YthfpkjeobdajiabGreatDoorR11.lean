/- the exported functions of rational. -/
import Derived.Test.YthfpkjeobdajiabGreatDoorR10
namespace Go.Proofs.YthfpkjeobdajiabGreatDoor
open Go.RowKit M
/-- A number and an error. -/
def OutR (q : Res) (w : World) (e : Ending) (w' : World) : Prop := e = .returned (.tuple #[RV q.n q.d, .int .i64 q.e]) ∧ Below w.heap.size w w'
theorem make_any (n d : Int) (q : Res) (w : World) (hn : I64 n) (hd : I64 d) (hq : makeQ n d = q) : Calls Tryz.prog 7 #[.int .i64 n, .int .i64 d] w (OutR q w) := by
  have hmf : ∀ (fn : Fn) (first cap : Array Value) (w : World), (Instr.makeFunc fn first cap).run Tryz.prog w = .ok (.func fn first cap) w := fun _ _ _ _ => rfl
  have hW : Below w.heap.size w (((w.alloc (.cells #[.int .i64 n] 3)).alloc (.cells #[.int .i64 d] 3)).alloc (.cells #[.int .i64 0, .int .i64 0] 23)) := by repeat (first | exact Below.refl _ _ | apply below_drewN | refine Below.setCell ?_ (by simp <;> omega) _ | refine Below.alloc ?_ (by simp <;> omega) _)
  have HP : Plc (((w.alloc (.cells #[.int .i64 n] 3)).alloc (.cells #[.int .i64 d] 3)).alloc (.cells #[.int .i64 0, .int .i64 0] 23)) (w.heap.size + 1 + 1) := ⟨by simp <;> omega, by simp [go_sem], by simp [go_sem], by simp [go_sem], by simp [go_sem]⟩
  have HC := Bx.mk (attemptMake_any ⟨w.heap.size, 0, none⟩ ⟨w.heap.size + 1, 0, none⟩ q.n q.d q.e (((w.alloc (.cells #[.int .i64 n] 3)).alloc (.cells #[.int .i64 d] 3)).alloc (.cells #[.int .i64 0, .int .i64 0] 23)) fun w' hb => closMake_any _ _ n d q w' (kc hb (by simp [go_sem]) (by simp <;> omega)) (kc hb (by simp [go_sem]) (by simp <;> omega)) (Nat.lt_of_lt_of_le (by simp <;> omega) hb.size) (Nat.lt_of_lt_of_le (by simp <;> omega) hb.size) hn hd hq)
  have HPP := Bx.mk (And.intro hW HP)
  clear hW HP
  go_enter Tryz.func7, Tryz.ntmps7
  go_wp2_with fail
  refine HC.out.mono ?_
  rintro e w2 ⟨rfl, hb⟩
  obtain ⟨hW, HP⟩ := HPP.out
  have hB := Bx.mk (hW.trans (hb.mono (by simp <;> omega)))
  obtain ⟨p0, p1, p2, p3, p4⟩ := HP.keep hb
  clear hb hW HP HC HPP
  go_wp2
  (try simp only [Exit.inBlock, Exit.then])
  refine bodyPost_ret_by (v := .tuple #[RV q.n q.d, .int .i64 q.e]) (by simp [results, Tryz.results7, go_sem, p1, p2]) rfl ?_
  exact ⟨rfl, (hB.out.setCell (by show _ ≤ w.heap.size + 1 + 1; omega) _).setCell (by show _ ≤ w.heap.size + 1 + 1; omega) _⟩
theorem operateAdd_any (n1 d1 n2 d2 : Int) (q : Res) (w : World) (i1 : I64 n1) (i2 : I64 d1) (i3 : I64 n2) (i4 : I64 d2) (hq : addQ n1 d1 n2 d2 = q) : Calls Tryz.prog 37 #[RV n1 d1, RV n2 d2, .func (Fn.func 38) #[] #[]] w (OutR q w) := by
  have hmf : ∀ (fn : Fn) (first cap : Array Value) (w : World), (Instr.makeFunc fn first cap).run Tryz.prog w = .ok (.func fn first cap) w := fun _ _ _ _ => rfl
  have hW : Below w.heap.size w ((((w.alloc (.cells #[.int .i64 n1, .int .i64 d1] 23)).alloc (.cells #[.int .i64 n2, .int .i64 d2] 23)).alloc (.cells #[.func (Fn.func 38) #[] #[]] 47)).alloc (.cells #[.int .i64 0, .int .i64 0] 23)) := by repeat (first | exact Below.refl _ _ | apply below_drewN | refine Below.setCell ?_ (by simp <;> omega) _ | refine Below.alloc ?_ (by simp <;> omega) _)
  have HP : Plc ((((w.alloc (.cells #[.int .i64 n1, .int .i64 d1] 23)).alloc (.cells #[.int .i64 n2, .int .i64 d2] 23)).alloc (.cells #[.func (Fn.func 38) #[] #[]] 47)).alloc (.cells #[.int .i64 0, .int .i64 0] 23)) (w.heap.size + 1 + 1 + 1) := ⟨by simp <;> omega, by simp [go_sem], by simp [go_sem], by simp [go_sem], by simp [go_sem]⟩
  have HC := Bx.mk (attemptOperate_any ⟨w.heap.size, 0, none⟩ ⟨w.heap.size + 1, 0, none⟩ ⟨w.heap.size + 1 + 1, 0, none⟩ q.n q.d q.e ((((w.alloc (.cells #[.int .i64 n1, .int .i64 d1] 23)).alloc (.cells #[.int .i64 n2, .int .i64 d2] 23)).alloc (.cells #[.func (Fn.func 38) #[] #[]] 47)).alloc (.cells #[.int .i64 0, .int .i64 0] 23)) fun w' hb => closAdd_any _ _ _ n1 d1 n2 d2 q w' ⟨Nat.lt_of_lt_of_le (by simp <;> omega) hb.size, kc hb (by simp [go_sem]) (by simp <;> omega), kc hb (by simp [go_sem]) (by simp <;> omega)⟩ ⟨Nat.lt_of_lt_of_le (by simp <;> omega) hb.size, kc hb (by simp [go_sem]) (by simp <;> omega), kc hb (by simp [go_sem]) (by simp <;> omega)⟩ (kc hb (by simp [go_sem]) (by simp <;> omega)) (Nat.lt_of_lt_of_le (by simp <;> omega) hb.size) i1 i2 i3 i4 hq)
  have HPP := Bx.mk (And.intro hW HP)
  clear hW HP
  go_enter Tryz.func37, Tryz.ntmps37
  go_wp2_with fail
  refine HC.out.mono ?_
  rintro e w2 ⟨rfl, hb⟩
  obtain ⟨hW, HP⟩ := HPP.out
  have hB := Bx.mk (hW.trans (hb.mono (by simp <;> omega)))
  obtain ⟨p0, p1, p2, p3, p4⟩ := HP.keep hb
  clear hb hW HP HC HPP
  go_wp2
  (try simp only [Exit.inBlock, Exit.then])
  refine bodyPost_ret_by (v := .tuple #[RV q.n q.d, .int .i64 q.e]) (by simp [results, Tryz.results37, go_sem, p1, p2]) rfl ?_
  exact ⟨rfl, (hB.out.setCell (by show _ ≤ w.heap.size + 1 + 1 + 1; omega) _).setCell (by show _ ≤ w.heap.size + 1 + 1 + 1; omega) _⟩
theorem add_any (n1 d1 n2 d2 : Int) (q : Res) (w : World) (i1 : I64 n1) (i2 : I64 d1) (i3 : I64 n2) (i4 : I64 d2) (hq : addQ n1 d1 n2 d2 = q) : Calls Tryz.prog 9 #[RV n1 d1, RV n2 d2] w (OutR q w) := by
  have hmf : ∀ (fn : Fn) (first cap : Array Value) (w : World), (Instr.makeFunc fn first cap).run Tryz.prog w = .ok (.func fn first cap) w := fun _ _ _ _ => rfl
  have hW : Below w.heap.size w (((w.alloc (.cells #[.int .i64 n1, .int .i64 d1] 23)).alloc (.cells #[.int .i64 n2, .int .i64 d2] 23)).alloc (.cells #[.int .i64 0, .int .i64 0] 23)) := by repeat (first | exact Below.refl _ _ | apply below_drewN | refine Below.setCell ?_ (by simp <;> omega) _ | refine Below.alloc ?_ (by simp <;> omega) _)
  have HP : Plc (((w.alloc (.cells #[.int .i64 n1, .int .i64 d1] 23)).alloc (.cells #[.int .i64 n2, .int .i64 d2] 23)).alloc (.cells #[.int .i64 0, .int .i64 0] 23)) (w.heap.size + 1 + 1) := ⟨by simp <;> omega, by simp [go_sem], by simp [go_sem], by simp [go_sem], by simp [go_sem]⟩
  have HC := Bx.mk (operateAdd_any n1 d1 n2 d2 q (((w.alloc (.cells #[.int .i64 n1, .int .i64 d1] 23)).alloc (.cells #[.int .i64 n2, .int .i64 d2] 23)).alloc (.cells #[.int .i64 0, .int .i64 0] 23)) i1 i2 i3 i4 hq)
  have HPP := Bx.mk (And.intro hW HP)
  clear hW HP
  go_enter Tryz.func9, Tryz.ntmps9
  go_wp2_with fail
  refine HC.out.mono ?_
  rintro e w2 ⟨rfl, hb⟩
  obtain ⟨hW, HP⟩ := HPP.out
  have hB := Bx.mk (hW.trans (hb.mono (by simp <;> omega)))
  obtain ⟨p0, p1, p2, p3, p4⟩ := HP.keep hb
  clear hb hW HP HC HPP
  go_wp2
  (try simp only [Exit.inBlock, Exit.then])
  refine bodyPost_ret_by (v := .tuple #[RV q.n q.d, .int .i64 q.e]) (by simp [results, Tryz.results9, go_sem, p1, p2]) rfl ?_
  exact ⟨rfl, (hB.out.setCell (by show _ ≤ w.heap.size + 1 + 1; omega) _).setCell (by show _ ≤ w.heap.size + 1 + 1; omega) _⟩
theorem operateSub_any (n1 d1 n2 d2 : Int) (q : Res) (w : World) (i1 : I64 n1) (i2 : I64 d1) (i3 : I64 n2) (i4 : I64 d2) (hq : subQ n1 d1 n2 d2 = q) : Calls Tryz.prog 37 #[RV n1 d1, RV n2 d2, .func (Fn.func 39) #[] #[]] w (OutR q w) := by
  have hmf : ∀ (fn : Fn) (first cap : Array Value) (w : World), (Instr.makeFunc fn first cap).run Tryz.prog w = .ok (.func fn first cap) w := fun _ _ _ _ => rfl
  have hW : Below w.heap.size w ((((w.alloc (.cells #[.int .i64 n1, .int .i64 d1] 23)).alloc (.cells #[.int .i64 n2, .int .i64 d2] 23)).alloc (.cells #[.func (Fn.func 39) #[] #[]] 47)).alloc (.cells #[.int .i64 0, .int .i64 0] 23)) := by repeat (first | exact Below.refl _ _ | apply below_drewN | refine Below.setCell ?_ (by simp <;> omega) _ | refine Below.alloc ?_ (by simp <;> omega) _)
  have HP : Plc ((((w.alloc (.cells #[.int .i64 n1, .int .i64 d1] 23)).alloc (.cells #[.int .i64 n2, .int .i64 d2] 23)).alloc (.cells #[.func (Fn.func 39) #[] #[]] 47)).alloc (.cells #[.int .i64 0, .int .i64 0] 23)) (w.heap.size + 1 + 1 + 1) := ⟨by simp <;> omega, by simp [go_sem], by simp [go_sem], by simp [go_sem], by simp [go_sem]⟩
  have HC := Bx.mk (attemptOperate_any ⟨w.heap.size, 0, none⟩ ⟨w.heap.size + 1, 0, none⟩ ⟨w.heap.size + 1 + 1, 0, none⟩ q.n q.d q.e ((((w.alloc (.cells #[.int .i64 n1, .int .i64 d1] 23)).alloc (.cells #[.int .i64 n2, .int .i64 d2] 23)).alloc (.cells #[.func (Fn.func 39) #[] #[]] 47)).alloc (.cells #[.int .i64 0, .int .i64 0] 23)) fun w' hb => closSub_any _ _ _ n1 d1 n2 d2 q w' ⟨Nat.lt_of_lt_of_le (by simp <;> omega) hb.size, kc hb (by simp [go_sem]) (by simp <;> omega), kc hb (by simp [go_sem]) (by simp <;> omega)⟩ ⟨Nat.lt_of_lt_of_le (by simp <;> omega) hb.size, kc hb (by simp [go_sem]) (by simp <;> omega), kc hb (by simp [go_sem]) (by simp <;> omega)⟩ (kc hb (by simp [go_sem]) (by simp <;> omega)) (Nat.lt_of_lt_of_le (by simp <;> omega) hb.size) i1 i2 i3 i4 hq)
  have HPP := Bx.mk (And.intro hW HP)
  clear hW HP
  go_enter Tryz.func37, Tryz.ntmps37
  go_wp2_with fail
  refine HC.out.mono ?_
  rintro e w2 ⟨rfl, hb⟩
  obtain ⟨hW, HP⟩ := HPP.out
  have hB := Bx.mk (hW.trans (hb.mono (by simp <;> omega)))
  obtain ⟨p0, p1, p2, p3, p4⟩ := HP.keep hb
  clear hb hW HP HC HPP
  go_wp2
  (try simp only [Exit.inBlock, Exit.then])
  refine bodyPost_ret_by (v := .tuple #[RV q.n q.d, .int .i64 q.e]) (by simp [results, Tryz.results37, go_sem, p1, p2]) rfl ?_
  exact ⟨rfl, (hB.out.setCell (by show _ ≤ w.heap.size + 1 + 1 + 1; omega) _).setCell (by show _ ≤ w.heap.size + 1 + 1 + 1; omega) _⟩
theorem sub_any (n1 d1 n2 d2 : Int) (q : Res) (w : World) (i1 : I64 n1) (i2 : I64 d1) (i3 : I64 n2) (i4 : I64 d2) (hq : subQ n1 d1 n2 d2 = q) : Calls Tryz.prog 11 #[RV n1 d1, RV n2 d2] w (OutR q w) := by
  have hmf : ∀ (fn : Fn) (first cap : Array Value) (w : World), (Instr.makeFunc fn first cap).run Tryz.prog w = .ok (.func fn first cap) w := fun _ _ _ _ => rfl
  have hW : Below w.heap.size w (((w.alloc (.cells #[.int .i64 n1, .int .i64 d1] 23)).alloc (.cells #[.int .i64 n2, .int .i64 d2] 23)).alloc (.cells #[.int .i64 0, .int .i64 0] 23)) := by repeat (first | exact Below.refl _ _ | apply below_drewN | refine Below.setCell ?_ (by simp <;> omega) _ | refine Below.alloc ?_ (by simp <;> omega) _)
  have HP : Plc (((w.alloc (.cells #[.int .i64 n1, .int .i64 d1] 23)).alloc (.cells #[.int .i64 n2, .int .i64 d2] 23)).alloc (.cells #[.int .i64 0, .int .i64 0] 23)) (w.heap.size + 1 + 1) := ⟨by simp <;> omega, by simp [go_sem], by simp [go_sem], by simp [go_sem], by simp [go_sem]⟩
  have HC := Bx.mk (operateSub_any n1 d1 n2 d2 q (((w.alloc (.cells #[.int .i64 n1, .int .i64 d1] 23)).alloc (.cells #[.int .i64 n2, .int .i64 d2] 23)).alloc (.cells #[.int .i64 0, .int .i64 0] 23)) i1 i2 i3 i4 hq)
  have HPP := Bx.mk (And.intro hW HP)
  clear hW HP
  go_enter Tryz.func11, Tryz.ntmps11
  go_wp2_with fail
  refine HC.out.mono ?_
  rintro e w2 ⟨rfl, hb⟩
  obtain ⟨hW, HP⟩ := HPP.out
  have hB := Bx.mk (hW.trans (hb.mono (by simp <;> omega)))
  obtain ⟨p0, p1, p2, p3, p4⟩ := HP.keep hb
  clear hb hW HP HC HPP
  go_wp2
  (try simp only [Exit.inBlock, Exit.then])
  refine bodyPost_ret_by (v := .tuple #[RV q.n q.d, .int .i64 q.e]) (by simp [results, Tryz.results11, go_sem, p1, p2]) rfl ?_
  exact ⟨rfl, (hB.out.setCell (by show _ ≤ w.heap.size + 1 + 1; omega) _).setCell (by show _ ≤ w.heap.size + 1 + 1; omega) _⟩
theorem operateMul_any (n1 d1 n2 d2 : Int) (q : Res) (w : World) (i1 : I64 n1) (i2 : I64 d1) (i3 : I64 n2) (i4 : I64 d2) (hq : mulQ n1 d1 n2 d2 = q) : Calls Tryz.prog 37 #[RV n1 d1, RV n2 d2, .func (Fn.func 40) #[] #[]] w (OutR q w) := by
  have hmf : ∀ (fn : Fn) (first cap : Array Value) (w : World), (Instr.makeFunc fn first cap).run Tryz.prog w = .ok (.func fn first cap) w := fun _ _ _ _ => rfl
  have hW : Below w.heap.size w ((((w.alloc (.cells #[.int .i64 n1, .int .i64 d1] 23)).alloc (.cells #[.int .i64 n2, .int .i64 d2] 23)).alloc (.cells #[.func (Fn.func 40) #[] #[]] 47)).alloc (.cells #[.int .i64 0, .int .i64 0] 23)) := by repeat (first | exact Below.refl _ _ | apply below_drewN | refine Below.setCell ?_ (by simp <;> omega) _ | refine Below.alloc ?_ (by simp <;> omega) _)
  have HP : Plc ((((w.alloc (.cells #[.int .i64 n1, .int .i64 d1] 23)).alloc (.cells #[.int .i64 n2, .int .i64 d2] 23)).alloc (.cells #[.func (Fn.func 40) #[] #[]] 47)).alloc (.cells #[.int .i64 0, .int .i64 0] 23)) (w.heap.size + 1 + 1 + 1) := ⟨by simp <;> omega, by simp [go_sem], by simp [go_sem], by simp [go_sem], by simp [go_sem]⟩
  have HC := Bx.mk (attemptOperate_any ⟨w.heap.size, 0, none⟩ ⟨w.heap.size + 1, 0, none⟩ ⟨w.heap.size + 1 + 1, 0, none⟩ q.n q.d q.e ((((w.alloc (.cells #[.int .i64 n1, .int .i64 d1] 23)).alloc (.cells #[.int .i64 n2, .int .i64 d2] 23)).alloc (.cells #[.func (Fn.func 40) #[] #[]] 47)).alloc (.cells #[.int .i64 0, .int .i64 0] 23)) fun w' hb => closMul_any _ _ _ n1 d1 n2 d2 q w' ⟨Nat.lt_of_lt_of_le (by simp <;> omega) hb.size, kc hb (by simp [go_sem]) (by simp <;> omega), kc hb (by simp [go_sem]) (by simp <;> omega)⟩ ⟨Nat.lt_of_lt_of_le (by simp <;> omega) hb.size, kc hb (by simp [go_sem]) (by simp <;> omega), kc hb (by simp [go_sem]) (by simp <;> omega)⟩ (kc hb (by simp [go_sem]) (by simp <;> omega)) (Nat.lt_of_lt_of_le (by simp <;> omega) hb.size) i1 i2 i3 i4 hq)
  have HPP := Bx.mk (And.intro hW HP)
  clear hW HP
  go_enter Tryz.func37, Tryz.ntmps37
  go_wp2_with fail
  refine HC.out.mono ?_
  rintro e w2 ⟨rfl, hb⟩
  obtain ⟨hW, HP⟩ := HPP.out
  have hB := Bx.mk (hW.trans (hb.mono (by simp <;> omega)))
  obtain ⟨p0, p1, p2, p3, p4⟩ := HP.keep hb
  clear hb hW HP HC HPP
  go_wp2
  (try simp only [Exit.inBlock, Exit.then])
  refine bodyPost_ret_by (v := .tuple #[RV q.n q.d, .int .i64 q.e]) (by simp [results, Tryz.results37, go_sem, p1, p2]) rfl ?_
  exact ⟨rfl, (hB.out.setCell (by show _ ≤ w.heap.size + 1 + 1 + 1; omega) _).setCell (by show _ ≤ w.heap.size + 1 + 1 + 1; omega) _⟩
theorem mul_any (n1 d1 n2 d2 : Int) (q : Res) (w : World) (i1 : I64 n1) (i2 : I64 d1) (i3 : I64 n2) (i4 : I64 d2) (hq : mulQ n1 d1 n2 d2 = q) : Calls Tryz.prog 13 #[RV n1 d1, RV n2 d2] w (OutR q w) := by
  have hmf : ∀ (fn : Fn) (first cap : Array Value) (w : World), (Instr.makeFunc fn first cap).run Tryz.prog w = .ok (.func fn first cap) w := fun _ _ _ _ => rfl
  have hW : Below w.heap.size w (((w.alloc (.cells #[.int .i64 n1, .int .i64 d1] 23)).alloc (.cells #[.int .i64 n2, .int .i64 d2] 23)).alloc (.cells #[.int .i64 0, .int .i64 0] 23)) := by repeat (first | exact Below.refl _ _ | apply below_drewN | refine Below.setCell ?_ (by simp <;> omega) _ | refine Below.alloc ?_ (by simp <;> omega) _)
  have HP : Plc (((w.alloc (.cells #[.int .i64 n1, .int .i64 d1] 23)).alloc (.cells #[.int .i64 n2, .int .i64 d2] 23)).alloc (.cells #[.int .i64 0, .int .i64 0] 23)) (w.heap.size + 1 + 1) := ⟨by simp <;> omega, by simp [go_sem], by simp [go_sem], by simp [go_sem], by simp [go_sem]⟩
  have HC := Bx.mk (operateMul_any n1 d1 n2 d2 q (((w.alloc (.cells #[.int .i64 n1, .int .i64 d1] 23)).alloc (.cells #[.int .i64 n2, .int .i64 d2] 23)).alloc (.cells #[.int .i64 0, .int .i64 0] 23)) i1 i2 i3 i4 hq)
  have HPP := Bx.mk (And.intro hW HP)
  clear hW HP
  go_enter Tryz.func13, Tryz.ntmps13
  go_wp2_with fail
  refine HC.out.mono ?_
  rintro e w2 ⟨rfl, hb⟩
  obtain ⟨hW, HP⟩ := HPP.out
  have hB := Bx.mk (hW.trans (hb.mono (by simp <;> omega)))
  obtain ⟨p0, p1, p2, p3, p4⟩ := HP.keep hb
  clear hb hW HP HC HPP
  go_wp2
  (try simp only [Exit.inBlock, Exit.then])
  refine bodyPost_ret_by (v := .tuple #[RV q.n q.d, .int .i64 q.e]) (by simp [results, Tryz.results13, go_sem, p1, p2]) rfl ?_
  exact ⟨rfl, (hB.out.setCell (by show _ ≤ w.heap.size + 1 + 1; omega) _).setCell (by show _ ≤ w.heap.size + 1 + 1; omega) _⟩
theorem operateDiv_any (n1 d1 n2 d2 : Int) (q : Res) (w : World) (i1 : I64 n1) (i2 : I64 d1) (i3 : I64 n2) (i4 : I64 d2) (hq : divQ n1 d1 n2 d2 = q) : Calls Tryz.prog 37 #[RV n1 d1, RV n2 d2, .func (Fn.func 41) #[] #[]] w (OutR q w) := by
  have hmf : ∀ (fn : Fn) (first cap : Array Value) (w : World), (Instr.makeFunc fn first cap).run Tryz.prog w = .ok (.func fn first cap) w := fun _ _ _ _ => rfl
  have hW : Below w.heap.size w ((((w.alloc (.cells #[.int .i64 n1, .int .i64 d1] 23)).alloc (.cells #[.int .i64 n2, .int .i64 d2] 23)).alloc (.cells #[.func (Fn.func 41) #[] #[]] 47)).alloc (.cells #[.int .i64 0, .int .i64 0] 23)) := by repeat (first | exact Below.refl _ _ | apply below_drewN | refine Below.setCell ?_ (by simp <;> omega) _ | refine Below.alloc ?_ (by simp <;> omega) _)
  have HP : Plc ((((w.alloc (.cells #[.int .i64 n1, .int .i64 d1] 23)).alloc (.cells #[.int .i64 n2, .int .i64 d2] 23)).alloc (.cells #[.func (Fn.func 41) #[] #[]] 47)).alloc (.cells #[.int .i64 0, .int .i64 0] 23)) (w.heap.size + 1 + 1 + 1) := ⟨by simp <;> omega, by simp [go_sem], by simp [go_sem], by simp [go_sem], by simp [go_sem]⟩
  have HC := Bx.mk (attemptOperate_any ⟨w.heap.size, 0, none⟩ ⟨w.heap.size + 1, 0, none⟩ ⟨w.heap.size + 1 + 1, 0, none⟩ q.n q.d q.e ((((w.alloc (.cells #[.int .i64 n1, .int .i64 d1] 23)).alloc (.cells #[.int .i64 n2, .int .i64 d2] 23)).alloc (.cells #[.func (Fn.func 41) #[] #[]] 47)).alloc (.cells #[.int .i64 0, .int .i64 0] 23)) fun w' hb => closDiv_any _ _ _ n1 d1 n2 d2 q w' ⟨Nat.lt_of_lt_of_le (by simp <;> omega) hb.size, kc hb (by simp [go_sem]) (by simp <;> omega), kc hb (by simp [go_sem]) (by simp <;> omega)⟩ ⟨Nat.lt_of_lt_of_le (by simp <;> omega) hb.size, kc hb (by simp [go_sem]) (by simp <;> omega), kc hb (by simp [go_sem]) (by simp <;> omega)⟩ (kc hb (by simp [go_sem]) (by simp <;> omega)) (Nat.lt_of_lt_of_le (by simp <;> omega) hb.size) i1 i2 i3 i4 hq)
  have HPP := Bx.mk (And.intro hW HP)
  clear hW HP
  go_enter Tryz.func37, Tryz.ntmps37
  go_wp2_with fail
  refine HC.out.mono ?_
  rintro e w2 ⟨rfl, hb⟩
  obtain ⟨hW, HP⟩ := HPP.out
  have hB := Bx.mk (hW.trans (hb.mono (by simp <;> omega)))
  obtain ⟨p0, p1, p2, p3, p4⟩ := HP.keep hb
  clear hb hW HP HC HPP
  go_wp2
  (try simp only [Exit.inBlock, Exit.then])
  refine bodyPost_ret_by (v := .tuple #[RV q.n q.d, .int .i64 q.e]) (by simp [results, Tryz.results37, go_sem, p1, p2]) rfl ?_
  exact ⟨rfl, (hB.out.setCell (by show _ ≤ w.heap.size + 1 + 1 + 1; omega) _).setCell (by show _ ≤ w.heap.size + 1 + 1 + 1; omega) _⟩
theorem div_any (n1 d1 n2 d2 : Int) (q : Res) (w : World) (i1 : I64 n1) (i2 : I64 d1) (i3 : I64 n2) (i4 : I64 d2) (hq : divQ n1 d1 n2 d2 = q) : Calls Tryz.prog 15 #[RV n1 d1, RV n2 d2] w (OutR q w) := by
  have hmf : ∀ (fn : Fn) (first cap : Array Value) (w : World), (Instr.makeFunc fn first cap).run Tryz.prog w = .ok (.func fn first cap) w := fun _ _ _ _ => rfl
  have hW : Below w.heap.size w (((w.alloc (.cells #[.int .i64 n1, .int .i64 d1] 23)).alloc (.cells #[.int .i64 n2, .int .i64 d2] 23)).alloc (.cells #[.int .i64 0, .int .i64 0] 23)) := by repeat (first | exact Below.refl _ _ | apply below_drewN | refine Below.setCell ?_ (by simp <;> omega) _ | refine Below.alloc ?_ (by simp <;> omega) _)
  have HP : Plc (((w.alloc (.cells #[.int .i64 n1, .int .i64 d1] 23)).alloc (.cells #[.int .i64 n2, .int .i64 d2] 23)).alloc (.cells #[.int .i64 0, .int .i64 0] 23)) (w.heap.size + 1 + 1) := ⟨by simp <;> omega, by simp [go_sem], by simp [go_sem], by simp [go_sem], by simp [go_sem]⟩
  have HC := Bx.mk (operateDiv_any n1 d1 n2 d2 q (((w.alloc (.cells #[.int .i64 n1, .int .i64 d1] 23)).alloc (.cells #[.int .i64 n2, .int .i64 d2] 23)).alloc (.cells #[.int .i64 0, .int .i64 0] 23)) i1 i2 i3 i4 hq)
  have HPP := Bx.mk (And.intro hW HP)
  clear hW HP
  go_enter Tryz.func15, Tryz.ntmps15
  go_wp2_with fail
  refine HC.out.mono ?_
  rintro e w2 ⟨rfl, hb⟩
  obtain ⟨hW, HP⟩ := HPP.out
  have hB := Bx.mk (hW.trans (hb.mono (by simp <;> omega)))
  obtain ⟨p0, p1, p2, p3, p4⟩ := HP.keep hb
  clear hb hW HP HC HPP
  go_wp2
  (try simp only [Exit.inBlock, Exit.then])
  refine bodyPost_ret_by (v := .tuple #[RV q.n q.d, .int .i64 q.e]) (by simp [results, Tryz.results15, go_sem, p1, p2]) rfl ?_
  exact ⟨rfl, (hB.out.setCell (by show _ ≤ w.heap.size + 1 + 1; omega) _).setCell (by show _ ≤ w.heap.size + 1 + 1; omega) _⟩
theorem cmpF_any (n1 d1 n2 d2 : Int) (w : World) (i1 : I64 n1) (i2 : I64 d1) (i3 : I64 n2) (i4 : I64 d2) : Calls Tryz.prog 23 #[RV n1 d1, RV n2 d2] w fun e w' => e = .returned (.tuple #[.int .i64 (cmpQ n1 d1 n2 d2).1, .int .i64 (cmpQ n1 d1 n2 d2).2]) ∧ Below w.heap.size w w' := by
  have hmf : ∀ (fn : Fn) (first cap : Array Value) (w : World), (Instr.makeFunc fn first cap).run Tryz.prog w = .ok (.func fn first cap) w := fun _ _ _ _ => rfl
  have hW : Below w.heap.size w ((w.alloc (.cells #[.int .i64 n1, .int .i64 d1] 23)).alloc (.cells #[.int .i64 n2, .int .i64 d2] 23)) := by repeat (first | exact Below.refl _ _ | apply below_drewN | refine Below.setCell ?_ (by simp <;> omega) _ | refine Below.alloc ?_ (by simp <;> omega) _)
  have HC := Bx.mk (attemptCmp_any ⟨w.heap.size, 0, none⟩ ⟨w.heap.size + 1, 0, none⟩ _ _ ((w.alloc (.cells #[.int .i64 n1, .int .i64 d1] 23)).alloc (.cells #[.int .i64 n2, .int .i64 d2] 23)) fun w' hb => closCmp_any _ _ n1 d1 n2 d2 w' ⟨Nat.lt_of_lt_of_le (by simp <;> omega) hb.size, kc hb (by simp [go_sem]) (by simp <;> omega), kc hb (by simp [go_sem]) (by simp <;> omega)⟩ ⟨Nat.lt_of_lt_of_le (by simp <;> omega) hb.size, kc hb (by simp [go_sem]) (by simp <;> omega), kc hb (by simp [go_sem]) (by simp <;> omega)⟩ i1 i2 i3 i4)
  have HPP := Bx.mk hW
  clear hW
  go_enter Tryz.func23, Tryz.ntmps23
  go_wp2_with fail
  refine HC.out.mono ?_
  rintro e w2 ⟨rfl, hb⟩
  have hB := Bx.mk (HPP.out.trans (hb.mono (by simp <;> omega)))
  clear hb HC HPP
  go_wp2
  go_ret2
  exact ⟨rfl, hB.out⟩
theorem floorF_any (n1 d1 : Int) (w : World) (i1 : I64 n1) (i2 : I64 d1) : Calls Tryz.prog 25 #[RV n1 d1] w fun e w' => e = .returned (.tuple #[.int .i64 (floorQ n1 d1).1, .int .i64 (floorQ n1 d1).2]) ∧ Below w.heap.size w w' := by
  have hmf : ∀ (fn : Fn) (first cap : Array Value) (w : World), (Instr.makeFunc fn first cap).run Tryz.prog w = .ok (.func fn first cap) w := fun _ _ _ _ => rfl
  have hW : Below w.heap.size w (w.alloc (.cells #[.int .i64 n1, .int .i64 d1] 23)) := by repeat (first | exact Below.refl _ _ | apply below_drewN | refine Below.setCell ?_ (by simp <;> omega) _ | refine Below.alloc ?_ (by simp <;> omega) _)
  have HC := Bx.mk (attemptFloor_any ⟨w.heap.size, 0, none⟩ _ _ (w.alloc (.cells #[.int .i64 n1, .int .i64 d1] 23)) fun w' hb => closFloor_any _ n1 d1 w' ⟨Nat.lt_of_lt_of_le (by simp <;> omega) hb.size, kc hb (by simp [go_sem]) (by simp <;> omega), kc hb (by simp [go_sem]) (by simp <;> omega)⟩ i1 i2)
  have HPP := Bx.mk hW
  clear hW
  go_enter Tryz.func25, Tryz.ntmps25
  go_wp2_with fail
  refine HC.out.mono ?_
  rintro e w2 ⟨rfl, hb⟩
  have hB := Bx.mk (HPP.out.trans (hb.mono (by simp <;> omega)))
  clear hb HC HPP
  go_wp2
  go_ret2
  exact ⟨rfl, hB.out⟩
theorem textF_any (n1 d1 : Int) (w : World) (i1 : I64 n1) (i2 : I64 d1) (ht : Tb w) : Calls Tryz.prog 27 #[RV n1 d1] w fun e w' => e = .returned (.tuple #[.string (txQ n1 d1), .int .i64 (txC n1 d1)]) ∧ Below w.heap.size w w' := by
  have hmf : ∀ (fn : Fn) (first cap : Array Value) (w : World), (Instr.makeFunc fn first cap).run Tryz.prog w = .ok (.func fn first cap) w := fun _ _ _ _ => rfl
  have hW : Below w.heap.size w (w.alloc (.cells #[.int .i64 n1, .int .i64 d1] 23)) := by repeat (first | exact Below.refl _ _ | apply below_drewN | refine Below.setCell ?_ (by simp <;> omega) _ | refine Below.alloc ?_ (by simp <;> omega) _)
  have HC := Bx.mk (attemptText_any ⟨w.heap.size, 0, none⟩ _ _ (w.alloc (.cells #[.int .i64 n1, .int .i64 d1] 23)) fun w' hb => closText_any _ n1 d1 w' ⟨Nat.lt_of_lt_of_le (by simp <;> omega) hb.size, kc hb (by simp [go_sem]) (by simp <;> omega), kc hb (by simp [go_sem]) (by simp <;> omega)⟩ i1 i2 (ht.keep (hW.trans (hb.mono hW.size))))
  have HPP := Bx.mk hW
  clear hW
  go_enter Tryz.func27, Tryz.ntmps27
  go_wp2_with fail
  refine HC.out.mono ?_
  rintro e w2 ⟨rfl, hb⟩
  have hB := Bx.mk (HPP.out.trans (hb.mono (by simp <;> omega)))
  clear hb HC HPP
  go_wp2
  go_ret2
  exact ⟨rfl, hB.out⟩
end Go.Proofs.YthfpkjeobdajiabGreatDoor

/- natural.attempt over the closure of Div. -/
import Derived.Test.YtegjhkjmejckdaaDoorT2
namespace Go.Proofs.YtegjhkjmejckdaaDoor
open Go.RowKit M
theorem attemptDiv_raised (a1 a2 : Addr) (n : Int) (w : World) (h : Calls Tryd.prog 52 #[.pointer (some a1), .pointer (some a2)] ((w.alloc (.cells #[.slice none 0 0, .slice none 0 0] 57)).alloc (.cells #[.int .i64 0] 29)) (Raised ((w.alloc (.cells #[.slice none 0 0, .slice none 0 0] 57)).alloc (.cells #[.int .i64 0] 29)) n)) :
    Calls Tryd.prog 51 #[.func (Fn.func 52) #[] #[.pointer (some a1), .pointer (some a2)]] w fun e w' => e = .returned (.tuple #[.agg #[.slice none 0 0, .slice none 0 0], .int .i64 n]) ∧ Below w.heap.size w w' := by
  have hmf : ∀ (fn : Fn) (first cap : Array Value) (w : World), (Instr.makeFunc fn first cap).run Tryd.prog w = .ok (.func fn first cap) w := fun _ _ _ _ => rfl
  have hb0 : Below w.heap.size w ((w.alloc (.cells #[.slice none 0 0, .slice none 0 0] 57)).alloc (.cells #[.int .i64 0] 29)) := ((Below.refl _ _).alloc (Nat.le_refl _) _).alloc (by simp) _
  have H := Bx.mk h
  clear h
  go_enter_defers Tryd.func51, Tryd.ntmps51
  go_wp2_with fail
  refine H.out.mono ?_
  rintro e w2 ⟨rfl, hb⟩
  have hblk : w2.heap[w.heap.size]? = some (.cells #[.slice none 0 0, .slice none 0 0] 57 (0, 0)) := by
    rw [hb.block _ (by simp [go_sem])]
    show (((w.heap.push _).push _) : Array Obj)[w.heap.size]? = _
    simp [Array.getElem?_push, Array.size_push]
  have hblk1 : w2.heap[w.heap.size + 1]? = some (.cells #[.int .i64 0] 29 (0, 0)) := by
    rw [hb.block _ (by simp [go_sem])]
    exact (show ∀ (a : Array Obj) (x y : Obj), ((a.push x).push y)[a.size + 1]? = some y from fun a x y => by rw [show a.size + 1 = (a.push x).size by simp, Array.getElem?_push_size]) _ _ _
  have hc0 : w2.cell? ⟨w.heap.size + 1, 0, none⟩ = some (.int .i64 0) := by simp [World.cell?, hblk1]
  have hz0 : w2.frozen? ⟨w.heap.size + 1, 0, none⟩ = false := by simp [World.frozen?, hblk1]
  have HBB := Bx.mk (hb0.trans (hb.mono hb0.size))
  have HB2 := Bx.mk (HBB.out.setCell (p := ⟨w.heap.size + 1, 0, none⟩) (by simp) (.int .i64 n))
  have hd0 : (w2.setCell ⟨w.heap.size + 1, 0, none⟩ (.int .i64 n)).cell? ⟨w.heap.size, 0, none⟩ = some (.slice none 0 0) := by
    rw [World.cell?_setCell_other _ _ _ _ (by simp)]; simp [World.cell?, hblk]
  have hd1 : (w2.setCell ⟨w.heap.size + 1, 0, none⟩ (.int .i64 n)).cell? ⟨w.heap.size, 1, none⟩ = some (.slice none 0 0) := by
    rw [World.cell?_setCell_other _ _ _ _ (by simp)]; simp [World.cell?, hblk]
  have hcs : (w2.setCell ⟨w.heap.size + 1, 0, none⟩ (.int .i64 n)).cell? ⟨w.heap.size + 1, 0, none⟩ = some (.int .i64 n) := World.cell?_setCell_same' _ _ _ (by rw [hc0]; rfl)
  clear hb hb0 H hblk hblk1
  refine leaves_cons (f := 72) (args := #[.pointer (some ⟨w.heap.size + 1, 0, none⟩)]) (by simp) (by simp [go_sem]) ?_
  refine (catch_raised72 ⟨w.heap.size + 1, 0, none⟩ 0 n [] _ hc0 hz0).mono ?_
  rintro e u' w'' ⟨rfl, rfl, rfl⟩
  refine ⟨_, by simp [results, Tryd.results51, go_sem, hcs, hd0, hd1]; rfl, ?_⟩
  exact ⟨rfl, HB2.out⟩
theorem attemptDiv_ok (a1 a2 : Addr) (q r : Nat) (w : World) (h : Calls Tryd.prog 52 #[.pointer (some a1), .pointer (some a2)] ((w.alloc (.cells #[.slice none 0 0, .slice none 0 0] 57)).alloc (.cells #[.int .i64 0] 29)) (RetArr ((w.alloc (.cells #[.slice none 0 0, .slice none 0 0] 57)).alloc (.cells #[.int .i64 0] 29)) q r)) :
    Calls Tryd.prog 51 #[.func (Fn.func 52) #[] #[.pointer (some a1), .pointer (some a2)]] w fun e w' => ∃ v1 v2, e = .returned (.tuple #[.agg #[v1, v2], .int .i64 0]) ∧ Rd w' v1 (limbs q) ∧ Rd w' v2 (limbs r) ∧ Below w.heap.size w w' := by
  have hmf : ∀ (fn : Fn) (first cap : Array Value) (w : World), (Instr.makeFunc fn first cap).run Tryd.prog w = .ok (.func fn first cap) w := fun _ _ _ _ => rfl
  have hb0 : Below w.heap.size w ((w.alloc (.cells #[.slice none 0 0, .slice none 0 0] 57)).alloc (.cells #[.int .i64 0] 29)) := ((Below.refl _ _).alloc (Nat.le_refl _) _).alloc (by simp) _
  have H := Bx.mk h
  clear h
  go_enter_defers Tryd.func51, Tryd.ntmps51
  go_wp2_with fail
  refine H.out.mono ?_
  rintro e w2 ⟨v1, v2, rfl, hr1, hr2, hb⟩
  have hblk : w2.heap[w.heap.size]? = some (.cells #[.slice none 0 0, .slice none 0 0] 57 (0, 0)) := by
    rw [hb.block _ (by simp [go_sem])]
    show (((w.heap.push _).push _) : Array Obj)[w.heap.size]? = _
    simp [Array.getElem?_push, Array.size_push]
  have hblk1 : w2.heap[w.heap.size + 1]? = some (.cells #[.int .i64 0] 29 (0, 0)) := by
    rw [hb.block _ (by simp [go_sem])]
    exact (show ∀ (a : Array Obj) (x y : Obj), ((a.push x).push y)[a.size + 1]? = some y from fun a x y => by rw [show a.size + 1 = (a.push x).size by simp, Array.getElem?_push_size]) _ _ _
  have hni : NoInt w2 w.heap.size := fun i k x e => by
    have : w2.cell? ⟨w.heap.size, i, none⟩ = (#[Value.slice none 0 0, Value.slice none 0 0])[i]? := by simp [World.cell?, hblk]
    rw [this] at e
    rcases i with _ | _ | i <;> simp at e
  obtain ⟨s1, n1, rfl, _, _, _⟩ := hr1.shape
  obtain ⟨s2, n2, rfl, _, _, _⟩ := hr2.shape
  have hni1 : NoInt (w2.setCell ⟨w.heap.size, 0, none⟩ (.slice s1 (limbs q).length n1)) w.heap.size := hni.setCell
  have hr1' := (hr1.setCell (g := w.heap.size) (o := 0) (u := (.slice s1 (limbs q).length n1)) hni).setCell (g := w.heap.size) (o := 1) (u := (.slice s2 (limbs r).length n2)) hni1
  have hr2' := (hr2.setCell (g := w.heap.size) (o := 0) (u := (.slice s1 (limbs q).length n1)) hni).setCell (g := w.heap.size) (o := 1) (u := (.slice s2 (limbs r).length n2)) hni1
  have hc00 : w2.cell? ⟨w.heap.size, 0, none⟩ = some (.slice none 0 0) := by simp [World.cell?, hblk]
  have hc01 : w2.cell? ⟨w.heap.size, 1, none⟩ = some (.slice none 0 0) := by simp [World.cell?, hblk]
  have hz00 : w2.frozen? ⟨w.heap.size, 0, none⟩ = false := by simp [World.frozen?, hblk]
  have hz01 : w2.frozen? ⟨w.heap.size, 1, none⟩ = false := by simp [World.frozen?, hblk]
  have hc0 : w2.cell? ⟨w.heap.size + 1, 0, none⟩ = some (.int .i64 0) := by simp [World.cell?, hblk1]
  have hz0 : w2.frozen? ⟨w.heap.size + 1, 0, none⟩ = false := by simp [World.frozen?, hblk1]
  have hd1 : ((w2.setCell ⟨w.heap.size, 0, none⟩ (.slice s1 (limbs q).length n1)).setCell ⟨w.heap.size, 1, none⟩ (.slice s2 (limbs r).length n2)).cell? ⟨w.heap.size, 1, none⟩ = some (.slice s2 (limbs r).length n2) :=
    World.cell?_setCell_same' _ _ _ (by rw [World.cell?_setCell_other _ _ _ _ (by simp), hc01]; rfl)
  have hd0 : ((w2.setCell ⟨w.heap.size, 0, none⟩ (.slice s1 (limbs q).length n1)).setCell ⟨w.heap.size, 1, none⟩ (.slice s2 (limbs r).length n2)).cell? ⟨w.heap.size, 0, none⟩ = some (.slice s1 (limbs q).length n1) := by
    rw [World.cell?_setCell_other _ _ _ _ (by simp)]; exact World.cell?_setCell_same' _ _ _ (by rw [hc00]; rfl)
  have hde : ((w2.setCell ⟨w.heap.size, 0, none⟩ (.slice s1 (limbs q).length n1)).setCell ⟨w.heap.size, 1, none⟩ (.slice s2 (limbs r).length n2)).cell? ⟨w.heap.size + 1, 0, none⟩ = some (.int .i64 0) := by
    rw [World.cell?_setCell_other _ _ _ _ (by simp), World.cell?_setCell_other _ _ _ _ (by simp)]; exact hc0
  have hself := setCell_self ((w2.setCell ⟨w.heap.size, 0, none⟩ (.slice s1 (limbs q).length n1)).setCell ⟨w.heap.size, 1, none⟩ (.slice s2 (limbs r).length n2)) (w.heap.size + 1) _ hde
  have G1 := Bx.mk hr1'
  have G2 := Bx.mk hr2'
  have G5 := Bx.mk (((hb0.trans (hb.mono hb0.size)).setCell (p := ⟨w.heap.size, 0, none⟩) (Nat.le_refl _) (.slice s1 (limbs q).length n1)).setCell (p := ⟨w.heap.size, 1, none⟩) (Nat.le_refl _) (.slice s2 (limbs r).length n2))
  have hsz3 : w.heap.size + 1 < w2.heap.size := by have := hb.size; simp at this; omega
  clear hb hb0 H hblk hblk1 hr1 hr2 hr1' hr2' hni hni1
  go_wp2
  refine leaves_cons (f := 72) (args := #[.pointer (some ⟨w.heap.size + 1, 0, none⟩)]) (by simp) (by simp [go_sem]) ?_
  refine (catch_idle72 ⟨w.heap.size + 1, 0, none⟩ _).mono ?_
  rintro e u' w'' ⟨rfl, rfl, rfl⟩
  simp only [hself]
  refine ⟨_, by simp [results, Tryd.results51, go_sem, hde, hd0, hd1]; rfl, ?_⟩
  exact ⟨_, _, rfl, G1.out, G2.out, G5.out⟩
end Go.Proofs.YtegjhkjmejckdaaDoor

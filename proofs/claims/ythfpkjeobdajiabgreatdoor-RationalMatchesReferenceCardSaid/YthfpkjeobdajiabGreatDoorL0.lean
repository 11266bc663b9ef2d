/- what the laws of rational share. -/
import Derived.Test.YthfpkjeobdajiabGreatDoorR14
namespace Go.Proofs.YthfpkjeobdajiabGreatDoor
open Go.RowKit M
theorem start1 (w : World) (ht : Tb w) (a b : Int) : St w (w.alloc (.cells #[.int .i64 a, .int .i64 b] 23)) [(w.heap.size, a, b)] :=
  St.push (w0 := w) (w := w) (L := []) ⟨Below.refl _ _, ht, fun t h => by cases h⟩ a b
theorem start2 (w : World) (ht : Tb w) (a b c d : Int) : St w ((w.alloc (.cells #[.int .i64 a, .int .i64 b] 23)).alloc (.cells #[.int .i64 c, .int .i64 d] 23)) [(w.heap.size + 1, c, d), (w.heap.size, a, b)] := by
  have h := (start1 w ht a b).push c d
  simpa using h
theorem start3 (w : World) (ht : Tb w) (a b c d e f : Int) : St w (((w.alloc (.cells #[.int .i64 a, .int .i64 b] 23)).alloc (.cells #[.int .i64 c, .int .i64 d] 23)).alloc (.cells #[.int .i64 e, .int .i64 f] 23)) [(w.heap.size + 1 + 1, e, f), (w.heap.size + 1, c, d), (w.heap.size, a, b)] := by
  have h := (start2 w ht a b c d).push e f
  simpa using h
theorem rep_i64 (r : Rat) : I64 (rep r).n ∧ I64 (rep r).d := by
  by_cases h : fits r = true
  · rw [rep_fits r h]
    have b := validQ_bd _ _ (valid_rat r h)
    have h1 := b.lo
    have h2 := b.hi
    have h3 := b.pos
    have h4 := b.top
    exact ⟨⟨by simp only; omega, by simp only; omega⟩, ⟨by simp only; omega, by simp only; omega⟩⟩
  · rw [rep_not r h]; exact ⟨⟨by decide, by decide⟩, ⟨by decide, by decide⟩⟩
theorem makeQ_i64 (n d : Int) : I64 (makeQ n d).n ∧ I64 (makeQ n d).d := by
  unfold makeQ
  split
  · exact ⟨⟨by decide, by decide⟩, ⟨by decide, by decide⟩⟩
  · exact rep_i64 _
theorem opQ_i64 (f : Int → Int → Int → Int → Res) (hf : ∀ a b c d, I64 (f a b c d).n ∧ I64 (f a b c d).d) (a b c d : Int) : I64 (opQ f a b c d).n ∧ I64 (opQ f a b c d).d := by
  unfold opQ
  split
  · exact hf a b c d
  · exact ⟨⟨by decide, by decide⟩, ⟨by decide, by decide⟩⟩
theorem addQ_i64 {a b c d x y e : Int} (h : addQ a b c d = ⟨x, y, e⟩) : I64 x ∧ I64 y := by
  have := opQ_i64 _ (fun a b c d => makeQ_i64 (a * d + c * b) (b * d)) a b c d
  have e : addQ a b c d = opQ (fun a b c d => makeQ (a * d + c * b) (b * d)) a b c d := rfl
  rw [← e, h] at this; exact this
theorem mulQ_i64 {a b c d x y e : Int} (h : mulQ a b c d = ⟨x, y, e⟩) : I64 x ∧ I64 y := by
  have := opQ_i64 _ (fun a b c d => makeQ_i64 (a * c) (b * d)) a b c d
  have e : mulQ a b c d = opQ (fun a b c d => makeQ (a * c) (b * d)) a b c d := rfl
  rw [← e, h] at this; exact this
theorem subQ_i64 {a b c d x y e : Int} (h : subQ a b c d = ⟨x, y, e⟩) : I64 x ∧ I64 y := by
  have := opQ_i64 _ (fun a b c d => makeQ_i64 (a * d - c * b) (b * d)) a b c d
  have e : subQ a b c d = opQ (fun a b c d => makeQ (a * d - c * b) (b * d)) a b c d := rfl
  rw [← e, h] at this; exact this
theorem res_mk (q : Res) : ∃ x y e, q = ⟨x, y, e⟩ := ⟨_, _, _, rfl⟩
/-- Cmp, by what it returns. -/
theorem cmp_v (n1 d1 n2 d2 x e : Int) (w : World) (i1 : I64 n1) (i2 : I64 d1) (i3 : I64 n2) (i4 : I64 d2) (h : cmpQ n1 d1 n2 d2 = (x, e)) :
    Calls Tryz.prog 23 #[RV n1 d1, RV n2 d2] w fun e' w' => e' = .returned (.tuple #[.int .i64 x, .int .i64 e]) ∧ Below w.heap.size w w' := by
  have := cmpF_any n1 d1 n2 d2 w i1 i2 i3 i4
  rw [h] at this; exact this
theorem floor_v (n1 d1 x e : Int) (w : World) (i1 : I64 n1) (i2 : I64 d1) (h : floorQ n1 d1 = (x, e)) :
    Calls Tryz.prog 25 #[RV n1 d1] w fun e' w' => e' = .returned (.tuple #[.int .i64 x, .int .i64 e]) ∧ Below w.heap.size w w' := by
  have := floorF_any n1 d1 w i1 i2
  rw [h] at this; exact this
theorem valid_v (n d : Int) (v : Bool) (w : World) (i1 : I64 n) (i2 : I64 d) (h : validQ n d = v) :
    Calls Tryz.prog 5 #[RV n d] w fun e' w' => e' = .returned (.bool v) ∧ Below w.heap.size w w' := by
  have := valid_any n d w i1 i2
  rw [h] at this; exact this
end Go.Proofs.YthfpkjeobdajiabGreatDoor

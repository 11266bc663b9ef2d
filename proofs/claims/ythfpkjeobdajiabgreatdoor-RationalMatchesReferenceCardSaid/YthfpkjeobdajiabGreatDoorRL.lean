/- RationalMatchesReference, walked. -/
import Derived.Test.YthfpkjeobdajiabGreatDoorRK
import Derived.Test.YthfpkjeobdajiabGreatDoorRE
import Derived.Test.YthfpkjeobdajiabGreatDoorRF3
import Derived.Test.YthfpkjeobdajiabGreatDoorL0
namespace Go.Proofs.YthfpkjeobdajiabGreatDoor
open Go.RowKit M
/-- A cell of a number that can be written. -/
structure Wc (w : World) (b : Nat) (n d : Int) : Prop where
  lt : b < w.heap.size
  c0 : w.cell? ⟨b, 0, none⟩ = some (.int .i64 n)
  c1 : w.cell? ⟨b, 1, none⟩ = some (.int .i64 d)
  f0 : w.frozen? ⟨b, 0, none⟩ = false
  f1 : w.frozen? ⟨b, 1, none⟩ = false
theorem Wc.keep {w w' : World} {b : Nat} {n d : Int} (h : Wc w b n d) (hb : Below w.heap.size w w') : Wc w' b n d := by
  have hl := h.lt
  have hs := hb.size
  exact ⟨by omega, kc hb h.c0 hl, kc hb h.c1 hl, by rw [hb.frozen (p := ⟨b, 0, none⟩) hl]; exact h.f0, by rw [hb.frozen (p := ⟨b, 1, none⟩) hl]; exact h.f1⟩
theorem Wc.fresh (w : World) (n d : Int) : Wc (w.alloc (.cells #[.int .i64 n, .int .i64 d] 23)) w.heap.size n d := ⟨by simp, by simp [go_sem], by simp [go_sem], by simp [go_sem], by simp [go_sem]⟩
/-- Both parts of a cell are written. -/
theorem Wc.put {w : World} {b : Nat} {n d : Int} (h : Wc w b n d) (n' d' : Int) : Wc ((w.setCell ⟨b, 0, none⟩ (.int .i64 n')).setCell ⟨b, 1, none⟩ (.int .i64 d')) b n' d' := by
  obtain ⟨h1, h2, h3, h4, h5⟩ := h
  refine ⟨by simpa [World.setCell] using h1, ?_, ?_, ?_, ?_⟩ <;> simp [go_sem, *]
theorem Wc.other {w : World} {b c : Nat} {n d : Int} (h : Wc w b n d) (hne : b ≠ c) (n' d' : Int) : Wc ((w.setCell ⟨c, 0, none⟩ (.int .i64 n')).setCell ⟨c, 1, none⟩ (.int .i64 d')) b n d := by
  obtain ⟨h1, h2, h3, h4, h5⟩ := h
  have hne' : ¬ c = b := fun h => hne h.symm
  refine ⟨by simpa [World.setCell] using h1, ?_, ?_, ?_, ?_⟩ <;> simp [go_sem, *]
/-- What stays while the law runs: the two numbers. -/
structure Lt (w0 w : World) (A B : Nat) (a1 a2 b1 b2 : Int) : Prop where
  bl : Below w0.heap.size w0 w
  tv : Tv w
  ca : Wc w A a1 a2
  cb : Wc w B b1 b2
  ab : A < B
  a0 : w0.heap.size ≤ A
theorem Lt.call {w0 w w' : World} {A B : Nat} {a1 a2 b1 b2 : Int} (h : Lt w0 w A B a1 a2 b1 b2) (hb : Below w.heap.size w w') : Lt w0 w' A B a1 a2 b1 b2 :=
  ⟨h.bl.trans (hb.mono h.bl.size), h.tv.keep hb, h.ca.keep hb, h.cb.keep hb, h.ab, h.a0⟩
theorem Lt.drew {w0 w : World} {A B : Nat} {a1 a2 b1 b2 : Int} (h : Lt w0 w A B a1 a2 b1 b2) : Lt w0 w.drew A B a1 a2 b1 b2 := h.call (Below.refl _ _).drew
theorem Lt.all {w0 w : World} {A B : Nat} {a1 a2 b1 b2 : Int} (h : Lt w0 w A B a1 a2 b1 b2) : Lt w0 w A B a1 a2 b1 b2 ∧ w.cell? ⟨A, 0, none⟩ = some (.int .i64 a1) ∧ w.cell? ⟨A, 1, none⟩ = some (.int .i64 a2) := ⟨h, h.ca.c0, h.ca.c1⟩
theorem Lt.allX {w0 w : World} {A B : Nat} {a1 a2 b1 b2 : Int} {X : Prop} (h : Lt w0 w A B a1 a2 b1 b2 ∧ X) : Lt w0 w A B a1 a2 b1 b2 ∧ w.cell? ⟨A, 0, none⟩ = some (.int .i64 a1) ∧ w.cell? ⟨A, 1, none⟩ = some (.int .i64 a2) := h.1.all
theorem lt_start (w : World) (tv : Tv w) (a1 a2 b1 b2 : Int) : Lt w ((w.alloc (.cells #[.int .i64 a1, .int .i64 a2] 23)).alloc (.cells #[.int .i64 b1, .int .i64 b2] 23)) w.heap.size (w.heap.size + 1) a1 a2 b1 b2 := by
  have h1 : Below w.heap.size w (w.alloc (.cells #[.int .i64 a1, .int .i64 a2] 23)) := (Below.refl _ _).alloc (Nat.le_refl _) _
  have h2 := h1.alloc h1.size (.cells #[.int .i64 b1, .int .i64 b2] 23)
  refine ⟨h2, tv.keep h2, (Wc.fresh w a1 a2).keep ((Below.refl _ _).alloc (Nat.le_refl _) _), ?_, by omega, Nat.le_refl _⟩
  have := Wc.fresh (w.alloc (.cells #[.int .i64 a1, .int .i64 a2] 23)) b1 b2
  simpa using this
/-- The same, with the two results. -/
structure Lw (w0 w : World) (A B X Y : Nat) (a1 a2 b1 b2 x1 x2 y1 y2 : Int) : Prop where
  bl : Below w0.heap.size w0 w
  tv0 : Tv w0
  ca : Wc w A a1 a2
  cb : Wc w B b1 b2
  cx : Wc w X x1 x2
  cy : Wc w Y y1 y2
  ab : A < B
  bx : B < X
  xy : X < Y
  a0 : w0.heap.size ≤ A
section
variable {w0 w w' : World} {A B X Y : Nat} {a1 a2 b1 b2 x1 x2 y1 y2 : Int}
theorem lw_start (tv0 : Tv w0) (h : Lt w0 w A B a1 a2 b1 b2) (hx : Wc w X x1 x2) (hb : B < X) (u v : Int) : Lw w0 (w.alloc (.cells #[.int .i64 u, .int .i64 v] 23)) A B X w.heap.size a1 a2 b1 b2 x1 x2 u v := by
  have hk : Below w.heap.size w (w.alloc (.cells #[.int .i64 u, .int .i64 v] 23)) := (Below.refl _ _).alloc (Nat.le_refl _) _
  have h1 := h.call hk
  exact ⟨h1.bl, tv0, h1.ca, h1.cb, hx.keep hk, Wc.fresh w u v, h.ab, hb, hx.lt, h.a0⟩
theorem Lw.tv (h : Lw w0 w A B X Y a1 a2 b1 b2 x1 x2 y1 y2) : Tv w := h.tv0.keep h.bl
theorem Lw.call (h : Lw w0 w A B X Y a1 a2 b1 b2 x1 x2 y1 y2) (hb : Below w.heap.size w w') : Lw w0 w' A B X Y a1 a2 b1 b2 x1 x2 y1 y2 :=
  ⟨h.bl.trans (hb.mono h.bl.size), h.tv0, h.ca.keep hb, h.cb.keep hb, h.cx.keep hb, h.cy.keep hb, h.ab, h.bx, h.xy, h.a0⟩
theorem Lw.drewN (h : Lw w0 w A B X Y a1 a2 b1 b2 x1 x2 y1 y2) (n : Nat) : Lw w0 (w.drewN n) A B X Y a1 a2 b1 b2 x1 x2 y1 y2 := h.call (below_drewN (Below.refl _ _) n)
theorem Lw.putX (h : Lw w0 w A B X Y a1 a2 b1 b2 x1 x2 y1 y2) (u v : Int) : Lw w0 ((w.setCell ⟨X, 0, none⟩ (.int .i64 u)).setCell ⟨X, 1, none⟩ (.int .i64 v)) A B X Y a1 a2 b1 b2 u v y1 y2 := by
  have h1 := h.ab; have h2 := h.bx; have h3 := h.xy; have h4 := h.a0
  exact ⟨(h.bl.setCell (by show _ ≤ X; omega) _).setCell (by show _ ≤ X; omega) _, h.tv0, h.ca.other (by omega) u v, h.cb.other (by omega) u v, h.cx.put u v, h.cy.other (by omega) u v, h1, h2, h3, h4⟩
theorem Lw.putY (h : Lw w0 w A B X Y a1 a2 b1 b2 x1 x2 y1 y2) (u v : Int) : Lw w0 ((w.setCell ⟨Y, 0, none⟩ (.int .i64 u)).setCell ⟨Y, 1, none⟩ (.int .i64 v)) A B X Y a1 a2 b1 b2 x1 x2 u v := by
  have h1 := h.ab; have h2 := h.bx; have h3 := h.xy; have h4 := h.a0
  exact ⟨(h.bl.setCell (by show _ ≤ Y; omega) _).setCell (by show _ ≤ Y; omega) _, h.tv0, h.ca.other (by omega) u v, h.cb.other (by omega) u v, h.cx.other (by omega) u v, h.cy.put u v, h1, h2, h3, h4⟩
end
set_option maxRecDepth 100000 in
set_option maxHeartbeats 8000000 in
theorem matches_walk (a1 a2 b1 b2 n d : Int) (s : ByteArray) (w : World) (tv : Tv w) (x0 y0 e0 x1 y1 e1 x2 y2 e2 x3 y3 e3 x4 y4 e4 x5 y5 e5 x6 y6 e6 x7 y7 e7 k1 k2 m1 m2 tc : Int) (v : Bool) (tq : ByteArray)
    (HV : Bx (∀ w, Calls Tryz.prog 5 #[RV a1 a2] w fun e w' => e = .returned (.bool v) ∧ Below w.heap.size w w')) (GV : Bx (∀ w, Calls Tryz.prog 6 #[RV a1 a2] w fun e w' => e = .returned (.bool v) ∧ Below w.heap.size w w'))
    (H0 : Bx (∀ w, Calls Tryz.prog 7 #[.int .i64 n, .int .i64 d] w (OutR ⟨x0, y0, e0⟩ w))) (G0 : Bx (∀ w, Calls Tryz.prog 8 #[.int .i64 n, .int .i64 d] w (OutR ⟨x0, y0, e0⟩ w)))
    (H1 : Bx (∀ w, Calls Tryz.prog 9 #[RV a1 a2, RV b1 b2] w (OutR ⟨x1, y1, e1⟩ w))) (G1 : Bx (∀ w, Calls Tryz.prog 10 #[RV a1 a2, RV b1 b2] w (OutR ⟨x1, y1, e1⟩ w)))
    (H2 : Bx (∀ w, Calls Tryz.prog 11 #[RV a1 a2, RV b1 b2] w (OutR ⟨x2, y2, e2⟩ w))) (G2 : Bx (∀ w, Calls Tryz.prog 12 #[RV a1 a2, RV b1 b2] w (OutR ⟨x2, y2, e2⟩ w)))
    (H3 : Bx (∀ w, Calls Tryz.prog 13 #[RV a1 a2, RV b1 b2] w (OutR ⟨x3, y3, e3⟩ w))) (G3 : Bx (∀ w, Calls Tryz.prog 14 #[RV a1 a2, RV b1 b2] w (OutR ⟨x3, y3, e3⟩ w)))
    (H4 : Bx (∀ w, Calls Tryz.prog 15 #[RV a1 a2, RV b1 b2] w (OutR ⟨x4, y4, e4⟩ w))) (G4 : Bx (∀ w, Calls Tryz.prog 16 #[RV a1 a2, RV b1 b2] w (OutR ⟨x4, y4, e4⟩ w)))
    (H5 : Bx (∀ w, Calls Tryz.prog 17 #[RV a1 a2, .int .i64 n] w (OutR ⟨x5, y5, e5⟩ w))) (G5 : Bx (∀ w, Calls Tryz.prog 18 #[RV a1 a2, .int .i64 n] w (OutR ⟨x5, y5, e5⟩ w)))
    (H6 : Bx (∀ w, Calls Tryz.prog 19 #[RV a1 a2, RV b1 b2] w (OutR ⟨x6, y6, e6⟩ w))) (G6 : Bx (∀ w, Calls Tryz.prog 20 #[RV a1 a2, RV b1 b2] w (OutR ⟨x6, y6, e6⟩ w)))
    (H7 : Bx (∀ w, Tv w → Calls Tryz.prog 21 #[.string s] w (OutR ⟨x7, y7, e7⟩ w))) (G7 : Bx (∀ w, Calls Tryz.prog 22 #[.string s] w (OutR ⟨x7, y7, e7⟩ w)))
    (HC : Bx (∀ w, Calls Tryz.prog 23 #[RV a1 a2, RV b1 b2] w fun e w' => e = .returned (.tuple #[.int .i64 k1, .int .i64 k2]) ∧ Below w.heap.size w w')) (GC : Bx (∀ w, Calls Tryz.prog 24 #[RV a1 a2, RV b1 b2] w fun e w' => e = .returned (.tuple #[.int .i64 k1, .int .i64 k2]) ∧ Below w.heap.size w w'))
    (HF : Bx (∀ w, Calls Tryz.prog 25 #[RV a1 a2] w fun e w' => e = .returned (.tuple #[.int .i64 m1, .int .i64 m2]) ∧ Below w.heap.size w w')) (GF : Bx (∀ w, Calls Tryz.prog 26 #[RV a1 a2] w fun e w' => e = .returned (.tuple #[.int .i64 m1, .int .i64 m2]) ∧ Below w.heap.size w w'))
    (HT : Bx (∀ w, Tb w → Calls Tryz.prog 27 #[RV a1 a2] w fun e w' => e = .returned (.tuple #[.string tq, .int .i64 tc]) ∧ Below w.heap.size w w')) (GT : Bx (∀ w, Calls Tryz.prog 28 #[RV a1 a2] w fun e w' => e = .returned (.tuple #[.string tq, .int .i64 tc]) ∧ Below w.heap.size w w')) :
    Calls Tryz.prog 3 #[RV a1 a2, RV b1 b2, .int .i64 n, .int .i64 d, .string s] w fun e w' => e = .returned (.bool true) ∧ Below w.heap.size w w' := by
  have S := Bx.mk (lt_start w tv a1 a2 b1 b2)
  have TV0 := Bx.mk tv
  clear tv
  go_enter Tryz.func3, Tryz.ntmps3
  go_wp2_with fail
  refine (head_any _ S.out.tv.tb).mono ?_
  rintro e w1 ⟨rfl, hb⟩
  have S := Bx.mk (S.out.call hb)
  clear hb
  obtain ⟨la, pa0, pa1, fa0, fa1⟩ := S.out.ca
  obtain ⟨lb, pb0, pb1, fb0, fb1⟩ := S.out.cb
  go_wp2_with fail
  have hLW : Lt w w1 w.heap.size (w.heap.size + 1) a1 a2 b1 b2 := S.out
  have hLD := hLW.drew.all
  clear fa0 fa1 lb pb0 pb1 fb0 fb1
  go_region_held3 (fun W' => Lt w W' w.heap.size (w.heap.size + 1) a1 a2 b1 b2 ∧ W'.cell? ⟨w.heap.size, 0, none⟩ = some (.int .i64 a1) ∧ W'.cell? ⟨w.heap.size, 1, none⟩ = some (.int .i64 a2))
    (first | (with_reducible assumption) | (refine Lt.all ?_; with_reducible assumption) | (refine Lt.allX ?_; with_reducible assumption))
    (first
      | (go_at_call 5; refine (HV.out _).mono ?_; rintro e w' ⟨rfl, hb⟩; have hS' := Lt.call (And.left (by assumption)) hb)
      | (go_at_call 6; refine (GV.out _).mono ?_; rintro e w' ⟨rfl, hb⟩; have hS' := Lt.call (And.left (by assumption)) hb))
  have S : Bx (Lt w _ w.heap.size (w.heap.size + 1) a1 a2 b1 b2) := ⟨hS'⟩
  clear hLW hLD la pa0 pa1 hS'
  obtain ⟨la, pa0, pa1, fa0, fa1⟩ := S.out.ca
  obtain ⟨lb, pb0, pb1, fb0, fb1⟩ := S.out.cb
  go_wp2_with fail
  refine (H0.out _).mono ?_
  rintro e w2 ⟨rfl, hb⟩
  have S := Bx.mk (S.out.call hb)
  clear hb
  clear la pa0 pa1 fa0 fa1 lb pb0 pb1 fb0 fb1
  have q2 := S.out.cb.lt
  have S := Bx.mk (S.out.call ((Below.refl _ _).alloc (Nat.le_refl _) (.cells #[.int .i64 x0, .int .i64 y0] 23)))
  have W1 := Bx.mk (Wc.fresh w2 x0 y0)
  go_wp2_with fail
  refine (G0.out _).mono ?_
  rintro e w3 ⟨rfl, hb⟩
  have S := Bx.mk (S.out.call hb)
  have W1 := Bx.mk (W1.out.keep hb)
  clear hb
  have S := Bx.mk (lw_start TV0.out S.out W1.out q2 x0 y0)
  obtain ⟨la, pa0, pa1, fa0, fa1⟩ := S.out.ca
  obtain ⟨lb, pb0, pb1, fb0, fb1⟩ := S.out.cb
  obtain ⟨lx, px0, px1, fx0, fx1⟩ := S.out.cx
  obtain ⟨ly, py0, py1, fy0, fy1⟩ := S.out.cy
  have qab := S.out.ab
  have qbx := S.out.bx
  have qxy := S.out.xy
  clear W1 q2
  go_wp2_with fail
  refine (H1.out _).mono ?_
  rintro e w4 ⟨rfl, hb⟩
  have S := Bx.mk (S.out.call hb)
  clear hb
  clear la pa0 pa1 fa0 fa1 lb pb0 pb1 fb0 fb1
  clear lx px0 px1 fx0 fx1 ly py0 py1 fy0 fy1 qab qbx qxy
  obtain ⟨la, pa0, pa1, fa0, fa1⟩ := S.out.ca
  obtain ⟨lb, pb0, pb1, fb0, fb1⟩ := S.out.cb
  obtain ⟨lx, px0, px1, fx0, fx1⟩ := S.out.cx
  obtain ⟨ly, py0, py1, fy0, fy1⟩ := S.out.cy
  have qab := S.out.ab
  have qbx := S.out.bx
  have qxy := S.out.xy
  have S := Bx.mk (S.out.putX x1 y1)
  go_wp2_with fail
  refine (G1.out _).mono ?_
  rintro e w5 ⟨rfl, hb⟩
  have S := Bx.mk (S.out.call hb)
  clear hb
  clear la pa0 pa1 fa0 fa1 lb pb0 pb1 fb0 fb1
  clear lx px0 px1 fx0 fx1 ly py0 py1 fy0 fy1 qab qbx qxy
  obtain ⟨la, pa0, pa1, fa0, fa1⟩ := S.out.ca
  obtain ⟨lb, pb0, pb1, fb0, fb1⟩ := S.out.cb
  obtain ⟨lx, px0, px1, fx0, fx1⟩ := S.out.cx
  obtain ⟨ly, py0, py1, fy0, fy1⟩ := S.out.cy
  have qab := S.out.ab
  have qbx := S.out.bx
  have qxy := S.out.xy
  have S := Bx.mk (S.out.putY x1 y1)
  go_wp2_with fail
  refine (H2.out _).mono ?_
  rintro e w6 ⟨rfl, hb⟩
  have S := Bx.mk (S.out.call hb)
  clear hb
  clear la pa0 pa1 fa0 fa1 lb pb0 pb1 fb0 fb1
  clear lx px0 px1 fx0 fx1 ly py0 py1 fy0 fy1 qab qbx qxy
  obtain ⟨la, pa0, pa1, fa0, fa1⟩ := S.out.ca
  obtain ⟨lb, pb0, pb1, fb0, fb1⟩ := S.out.cb
  obtain ⟨lx, px0, px1, fx0, fx1⟩ := S.out.cx
  obtain ⟨ly, py0, py1, fy0, fy1⟩ := S.out.cy
  have qab := S.out.ab
  have qbx := S.out.bx
  have qxy := S.out.xy
  have S := Bx.mk (S.out.putX x2 y2)
  go_wp2_with fail
  refine (G2.out _).mono ?_
  rintro e w7 ⟨rfl, hb⟩
  have S := Bx.mk (S.out.call hb)
  clear hb
  clear la pa0 pa1 fa0 fa1 lb pb0 pb1 fb0 fb1
  clear lx px0 px1 fx0 fx1 ly py0 py1 fy0 fy1 qab qbx qxy
  obtain ⟨la, pa0, pa1, fa0, fa1⟩ := S.out.ca
  obtain ⟨lb, pb0, pb1, fb0, fb1⟩ := S.out.cb
  obtain ⟨lx, px0, px1, fx0, fx1⟩ := S.out.cx
  obtain ⟨ly, py0, py1, fy0, fy1⟩ := S.out.cy
  have qab := S.out.ab
  have qbx := S.out.bx
  have qxy := S.out.xy
  have S := Bx.mk (S.out.putY x2 y2)
  go_wp2_with fail
  refine (H3.out _).mono ?_
  rintro e w8 ⟨rfl, hb⟩
  have S := Bx.mk (S.out.call hb)
  clear hb
  clear la pa0 pa1 fa0 fa1 lb pb0 pb1 fb0 fb1
  clear lx px0 px1 fx0 fx1 ly py0 py1 fy0 fy1 qab qbx qxy
  obtain ⟨la, pa0, pa1, fa0, fa1⟩ := S.out.ca
  obtain ⟨lb, pb0, pb1, fb0, fb1⟩ := S.out.cb
  obtain ⟨lx, px0, px1, fx0, fx1⟩ := S.out.cx
  obtain ⟨ly, py0, py1, fy0, fy1⟩ := S.out.cy
  have qab := S.out.ab
  have qbx := S.out.bx
  have qxy := S.out.xy
  have S := Bx.mk (S.out.putX x3 y3)
  go_wp2_with fail
  refine (G3.out _).mono ?_
  rintro e w9 ⟨rfl, hb⟩
  have S := Bx.mk (S.out.call hb)
  clear hb
  clear la pa0 pa1 fa0 fa1 lb pb0 pb1 fb0 fb1
  clear lx px0 px1 fx0 fx1 ly py0 py1 fy0 fy1 qab qbx qxy
  obtain ⟨la, pa0, pa1, fa0, fa1⟩ := S.out.ca
  obtain ⟨lb, pb0, pb1, fb0, fb1⟩ := S.out.cb
  obtain ⟨lx, px0, px1, fx0, fx1⟩ := S.out.cx
  obtain ⟨ly, py0, py1, fy0, fy1⟩ := S.out.cy
  have qab := S.out.ab
  have qbx := S.out.bx
  have qxy := S.out.xy
  have S := Bx.mk (S.out.putY x3 y3)
  go_wp2_with fail
  refine (H4.out _).mono ?_
  rintro e w10 ⟨rfl, hb⟩
  have S := Bx.mk (S.out.call hb)
  clear hb
  clear la pa0 pa1 fa0 fa1 lb pb0 pb1 fb0 fb1
  clear lx px0 px1 fx0 fx1 ly py0 py1 fy0 fy1 qab qbx qxy
  obtain ⟨la, pa0, pa1, fa0, fa1⟩ := S.out.ca
  obtain ⟨lb, pb0, pb1, fb0, fb1⟩ := S.out.cb
  obtain ⟨lx, px0, px1, fx0, fx1⟩ := S.out.cx
  obtain ⟨ly, py0, py1, fy0, fy1⟩ := S.out.cy
  have qab := S.out.ab
  have qbx := S.out.bx
  have qxy := S.out.xy
  have S := Bx.mk (S.out.putX x4 y4)
  go_wp2_with fail
  refine (G4.out _).mono ?_
  rintro e w11 ⟨rfl, hb⟩
  have S := Bx.mk (S.out.call hb)
  clear hb
  clear la pa0 pa1 fa0 fa1 lb pb0 pb1 fb0 fb1
  clear lx px0 px1 fx0 fx1 ly py0 py1 fy0 fy1 qab qbx qxy
  obtain ⟨la, pa0, pa1, fa0, fa1⟩ := S.out.ca
  obtain ⟨lb, pb0, pb1, fb0, fb1⟩ := S.out.cb
  obtain ⟨lx, px0, px1, fx0, fx1⟩ := S.out.cx
  obtain ⟨ly, py0, py1, fy0, fy1⟩ := S.out.cy
  have qab := S.out.ab
  have qbx := S.out.bx
  have qxy := S.out.xy
  have S := Bx.mk (S.out.putY x4 y4)
  go_wp2_with fail
  refine (H5.out _).mono ?_
  rintro e w12 ⟨rfl, hb⟩
  have S := Bx.mk (S.out.call hb)
  clear hb
  clear la pa0 pa1 fa0 fa1 lb pb0 pb1 fb0 fb1
  clear lx px0 px1 fx0 fx1 ly py0 py1 fy0 fy1 qab qbx qxy
  obtain ⟨la, pa0, pa1, fa0, fa1⟩ := S.out.ca
  obtain ⟨lb, pb0, pb1, fb0, fb1⟩ := S.out.cb
  obtain ⟨lx, px0, px1, fx0, fx1⟩ := S.out.cx
  obtain ⟨ly, py0, py1, fy0, fy1⟩ := S.out.cy
  have qab := S.out.ab
  have qbx := S.out.bx
  have qxy := S.out.xy
  have S := Bx.mk (S.out.putX x5 y5)
  go_wp2_with fail
  refine (G5.out _).mono ?_
  rintro e w13 ⟨rfl, hb⟩
  have S := Bx.mk (S.out.call hb)
  clear hb
  clear la pa0 pa1 fa0 fa1 lb pb0 pb1 fb0 fb1
  clear lx px0 px1 fx0 fx1 ly py0 py1 fy0 fy1 qab qbx qxy
  obtain ⟨la, pa0, pa1, fa0, fa1⟩ := S.out.ca
  obtain ⟨lb, pb0, pb1, fb0, fb1⟩ := S.out.cb
  obtain ⟨lx, px0, px1, fx0, fx1⟩ := S.out.cx
  obtain ⟨ly, py0, py1, fy0, fy1⟩ := S.out.cy
  have qab := S.out.ab
  have qbx := S.out.bx
  have qxy := S.out.xy
  have S := Bx.mk (S.out.putY x5 y5)
  go_wp2_with fail
  refine (H6.out _).mono ?_
  rintro e w14 ⟨rfl, hb⟩
  have S := Bx.mk (S.out.call hb)
  clear hb
  clear la pa0 pa1 fa0 fa1 lb pb0 pb1 fb0 fb1
  clear lx px0 px1 fx0 fx1 ly py0 py1 fy0 fy1 qab qbx qxy
  obtain ⟨la, pa0, pa1, fa0, fa1⟩ := S.out.ca
  obtain ⟨lb, pb0, pb1, fb0, fb1⟩ := S.out.cb
  obtain ⟨lx, px0, px1, fx0, fx1⟩ := S.out.cx
  obtain ⟨ly, py0, py1, fy0, fy1⟩ := S.out.cy
  have qab := S.out.ab
  have qbx := S.out.bx
  have qxy := S.out.xy
  have S := Bx.mk (S.out.putX x6 y6)
  go_wp2_with fail
  refine (G6.out _).mono ?_
  rintro e w15 ⟨rfl, hb⟩
  have S := Bx.mk (S.out.call hb)
  clear hb
  clear la pa0 pa1 fa0 fa1 lb pb0 pb1 fb0 fb1
  clear lx px0 px1 fx0 fx1 ly py0 py1 fy0 fy1 qab qbx qxy
  obtain ⟨la, pa0, pa1, fa0, fa1⟩ := S.out.ca
  obtain ⟨lb, pb0, pb1, fb0, fb1⟩ := S.out.cb
  obtain ⟨lx, px0, px1, fx0, fx1⟩ := S.out.cx
  obtain ⟨ly, py0, py1, fy0, fy1⟩ := S.out.cy
  have qab := S.out.ab
  have qbx := S.out.bx
  have qxy := S.out.xy
  have S := Bx.mk (S.out.putY x6 y6)
  go_wp2_with fail
  refine (H7.out _ S.out.tv).mono ?_
  rintro e w16 ⟨rfl, hb⟩
  have S := Bx.mk (S.out.call hb)
  clear hb
  clear la pa0 pa1 fa0 fa1 lb pb0 pb1 fb0 fb1
  clear lx px0 px1 fx0 fx1 ly py0 py1 fy0 fy1 qab qbx qxy
  obtain ⟨la, pa0, pa1, fa0, fa1⟩ := S.out.ca
  obtain ⟨lb, pb0, pb1, fb0, fb1⟩ := S.out.cb
  obtain ⟨lx, px0, px1, fx0, fx1⟩ := S.out.cx
  obtain ⟨ly, py0, py1, fy0, fy1⟩ := S.out.cy
  have qab := S.out.ab
  have qbx := S.out.bx
  have qxy := S.out.xy
  have S := Bx.mk (S.out.putX x7 y7)
  go_wp2_with fail
  refine (G7.out _).mono ?_
  rintro e w17 ⟨rfl, hb⟩
  have S := Bx.mk (S.out.call hb)
  clear hb
  clear la pa0 pa1 fa0 fa1 lb pb0 pb1 fb0 fb1
  clear lx px0 px1 fx0 fx1 ly py0 py1 fy0 fy1 qab qbx qxy
  obtain ⟨la, pa0, pa1, fa0, fa1⟩ := S.out.ca
  obtain ⟨lb, pb0, pb1, fb0, fb1⟩ := S.out.cb
  obtain ⟨lx, px0, px1, fx0, fx1⟩ := S.out.cx
  obtain ⟨ly, py0, py1, fy0, fy1⟩ := S.out.cy
  have qab := S.out.ab
  have qbx := S.out.bx
  have qxy := S.out.xy
  have S := Bx.mk (S.out.putY x7 y7)
  go_wp2_with fail
  refine (HC.out _).mono ?_
  rintro e w18 ⟨rfl, hb⟩
  have S := Bx.mk (S.out.call hb)
  clear hb
  clear la pa0 pa1 fa0 fa1 lb pb0 pb1 fb0 fb1
  clear lx px0 px1 fx0 fx1 ly py0 py1 fy0 fy1 qab qbx qxy
  obtain ⟨la, pa0, pa1, fa0, fa1⟩ := S.out.ca
  obtain ⟨lb, pb0, pb1, fb0, fb1⟩ := S.out.cb
  obtain ⟨lx, px0, px1, fx0, fx1⟩ := S.out.cx
  obtain ⟨ly, py0, py1, fy0, fy1⟩ := S.out.cy
  have qab := S.out.ab
  have qbx := S.out.bx
  have qxy := S.out.xy
  go_wp2_with fail
  refine (GC.out _).mono ?_
  rintro e w19 ⟨rfl, hb⟩
  have S := Bx.mk (S.out.call hb)
  clear hb
  clear la pa0 pa1 fa0 fa1 lb pb0 pb1 fb0 fb1
  clear lx px0 px1 fx0 fx1 ly py0 py1 fy0 fy1 qab qbx qxy
  obtain ⟨la, pa0, pa1, fa0, fa1⟩ := S.out.ca
  obtain ⟨lb, pb0, pb1, fb0, fb1⟩ := S.out.cb
  obtain ⟨lx, px0, px1, fx0, fx1⟩ := S.out.cx
  obtain ⟨ly, py0, py1, fy0, fy1⟩ := S.out.cy
  have qab := S.out.ab
  have qbx := S.out.bx
  have qxy := S.out.xy
  go_wp2_with fail
  refine (HF.out _).mono ?_
  rintro e w20 ⟨rfl, hb⟩
  have S := Bx.mk (S.out.call hb)
  clear hb
  clear la pa0 pa1 fa0 fa1 lb pb0 pb1 fb0 fb1
  clear lx px0 px1 fx0 fx1 ly py0 py1 fy0 fy1 qab qbx qxy
  obtain ⟨la, pa0, pa1, fa0, fa1⟩ := S.out.ca
  obtain ⟨lb, pb0, pb1, fb0, fb1⟩ := S.out.cb
  obtain ⟨lx, px0, px1, fx0, fx1⟩ := S.out.cx
  obtain ⟨ly, py0, py1, fy0, fy1⟩ := S.out.cy
  have qab := S.out.ab
  have qbx := S.out.bx
  have qxy := S.out.xy
  go_wp2_with fail
  refine (GF.out _).mono ?_
  rintro e w21 ⟨rfl, hb⟩
  have S := Bx.mk (S.out.call hb)
  clear hb
  clear la pa0 pa1 fa0 fa1 lb pb0 pb1 fb0 fb1
  clear lx px0 px1 fx0 fx1 ly py0 py1 fy0 fy1 qab qbx qxy
  obtain ⟨la, pa0, pa1, fa0, fa1⟩ := S.out.ca
  obtain ⟨lb, pb0, pb1, fb0, fb1⟩ := S.out.cb
  obtain ⟨lx, px0, px1, fx0, fx1⟩ := S.out.cx
  obtain ⟨ly, py0, py1, fy0, fy1⟩ := S.out.cy
  have qab := S.out.ab
  have qbx := S.out.bx
  have qxy := S.out.xy
  go_wp2_with fail
  refine (HT.out _ S.out.tv.tb).mono ?_
  rintro e w22 ⟨rfl, hb⟩
  have S := Bx.mk (S.out.call hb)
  clear hb
  clear la pa0 pa1 fa0 fa1 lb pb0 pb1 fb0 fb1
  clear lx px0 px1 fx0 fx1 ly py0 py1 fy0 fy1 qab qbx qxy
  obtain ⟨la, pa0, pa1, fa0, fa1⟩ := S.out.ca
  obtain ⟨lb, pb0, pb1, fb0, fb1⟩ := S.out.cb
  obtain ⟨lx, px0, px1, fx0, fx1⟩ := S.out.cx
  obtain ⟨ly, py0, py1, fy0, fy1⟩ := S.out.cy
  have qab := S.out.ab
  have qbx := S.out.bx
  have qxy := S.out.xy
  go_wp2_with fail
  refine (GT.out _).mono ?_
  rintro e w23 ⟨rfl, hb⟩
  have S := Bx.mk (S.out.call hb)
  clear hb
  clear la pa0 pa1 fa0 fa1 lb pb0 pb1 fb0 fb1
  clear lx px0 px1 fx0 fx1 ly py0 py1 fy0 fy1 qab qbx qxy
  obtain ⟨la, pa0, pa1, fa0, fa1⟩ := S.out.ca
  obtain ⟨lb, pb0, pb1, fb0, fb1⟩ := S.out.cb
  obtain ⟨lx, px0, px1, fx0, fx1⟩ := S.out.cx
  obtain ⟨ly, py0, py1, fy0, fy1⟩ := S.out.cy
  have qab := S.out.ab
  have qbx := S.out.bx
  have qxy := S.out.xy
  go_wp2
  go_ret
  exact ⟨rfl, S.out.bl⟩
end Go.Proofs.YthfpkjeobdajiabGreatDoor

/- Temper: the head of the laws. -/
import Derived.Test.YtnbamjoadankmaaZH
namespace Go.Proofs.Ytnbamjoadankmaa
open Go.RowKit D
/-- What the head has in memory. -/
structure HW (w : World) (a g : Option Addr) (k : Nat) (W : World) : Prop where
  a1 : CV W (some ⟨w.heap.size, 0, none⟩) 1 (lm txA)
  b1 : Boxed W (w.heap.size + 1) 57 (.slice (some ⟨w.heap.size, 0, none⟩) 1 1)
  m : CV W a 2 (lm exH)
  g : CV W g 2 (lm txG)
  mb : Boxed W k 57 (.slice a 2 2)
  b : Below w.heap.size w W
theorem HW.keep {w : World} {a g : Option Addr} {k : Nat} {W W' : World} (h : HW w a g k W) (hb : Below W.heap.size W W') : HW w a g k W' := ⟨h.a1.keep hb, (hb.block _ h.b1.lt).trans h.b1, h.m.keep hb, h.g.keep hb, (hb.block _ h.mb.lt).trans h.mb, h.b.trans (hb.mono h.b.size)⟩
theorem HW.more {w : World} {a g : Option Addr} {k : Nat} {W W' : World} {o : Obj} (h : HW w a g k W) (hb : Below (W.alloc o).heap.size (W.alloc o) W') : HW w a g k W' := h.keep (below_new hb)
theorem HW.start (w w1 : World) (a g : Option Addr) (hm : CV w1 a 2 (lm exH)) (hg : CV w1 g 2 (lm txG)) (hb : Below ((w.alloc (.cells (txA.map (Value.int .i64)).toArray 36)).alloc (.cells #[.slice (some ⟨w.heap.size, 0, none⟩) 1 1] 57)).heap.size ((w.alloc (.cells (txA.map (Value.int .i64)).toArray 36)).alloc (.cells #[.slice (some ⟨w.heap.size, 0, none⟩) 1 1] 57)) w1) : HW w a g w1.heap.size (w1.alloc (.cells #[.slice a 2 2] 57)) := by
  have c := cv_lit w txA 1 36 rfl
  have x := Boxed.new (w.alloc (.cells (txA.map (Value.int .i64)).toArray 36)) 57 (.slice (some ⟨w.heap.size, 0, none⟩) 1 1)
  have b1 := above_new w (.cells (txA.map (Value.int .i64)).toArray 36)
  have b2 := above_new (w.alloc (.cells (txA.map (Value.int .i64)).toArray 36)) (.cells #[.slice (some ⟨w.heap.size, 0, none⟩) 1 1] 57)
  have hl := x.lt
  have b3 := above_new w1 (.cells #[.slice a 2 2] 57)
  have x1 := (hb.block _ hl).trans x
  have hl1 : (w.alloc (.cells (txA.map (Value.int .i64)).toArray 36)).heap.size < w1.heap.size := Nat.lt_of_lt_of_le hl hb.size
  have x2 := (b3.block _ hl1).trans x1
  rw [World.size_alloc] at x2
  have bw := b1.trans (b2.mono b1.size)
  have bw2 := bw.trans (hb.mono bw.size)
  exact ⟨((c.keep b2).keep hb).keep b3, x2, hm.keep b3, hg.keep b3, Boxed.new w1 57 (.slice a 2 2), bw2.trans (b3.mono bw2.size)⟩
set_option maxRecDepth 100000 in
set_option maxHeartbeats 16000000 in
theorem thead_any (w : World) : Calls Try.prog 46 #[] w fun e w' => e = .returned (.bool true) ∧ Below w.heap.size w w' := by
  have M1 : Bx True := ⟨trivial⟩
  have M2 : Bx True := ⟨trivial⟩
  have M3 : Bx True := ⟨trivial⟩
  have M4 : Bx True := ⟨trivial⟩
  have M5 : Bx True := ⟨trivial⟩
  have M6 : Bx True := ⟨trivial⟩
  have M7 : Bx True := ⟨trivial⟩
  have M8 : Bx True := ⟨trivial⟩
  have M9 : Bx True := ⟨trivial⟩
  have M10 : Bx True := ⟨trivial⟩
  have M11 : Bx True := ⟨trivial⟩
  have M12 : Bx True := ⟨trivial⟩
  have E6 : ∀ w, (Op.equalIn 10000 65 (.agg #[.int .i64 0, .int .i64 0, .int .i64 3, .int .i64 0, .int .i64 0, .int .i64 0]) (.agg #[.int .i64 0, .int .i64 0, .int .i64 3, .int .i64 0, .int .i64 0, .int .i64 0])).run Try.prog w = .ok true w := eq6_is 65 Try.underlying65 (lm [0, 0, 3, 0, 0, 0] 0) (lm [0, 0, 3, 0, 0, 0] 0) true (by simp)
  go_enter Try.func46, Try.ntmps46
  go_wp2_with (first
    | (clear M1; go_at_call 98; refine (mean_any _).mono ?_; rintro e w1 ⟨a, g, rfl, CM, CG, B1⟩
       have X1 := Bx.mk (HW.start w w1 a g CM.out CG.out B1.out)
       have p1 := X1.out.b1.cell
       have q1 := X1.out.mb.cell)
    | (clear M2; go_at_call 49; refine (imgX _ _ X1.out.a1).mono ?_; rintro e w2 ⟨l2, c2, rfl, k2, n2, C2, B2⟩
       have X2 := Bx.mk (X1.out.keep B2.out)
       have p2 := X2.out.b1.cell
       clear p1 q1)
    | (clear M3; go_at_call 52; refine (tmpX _ _ X2.out.a1).mono ?_; rintro e w3 ⟨rfl, B3⟩
       have X3 := Bx.mk (X2.out.keep B3.out)
       have D3 := Bx.mk (C2.out.keep B3.out)
       clear p2)
    | (clear M4; go_at_call 57; refine (frC _ _ (cv_lit w3 txC 4 36 rfl)).mono ?_; rintro e w4 ⟨l4, c4, rfl, k4, n4, C4, B4⟩
       have A4 := Bx.mk (above_new w4 (.cells #[.slice l4 2 c4] 57))
       have F4 := Bx.mk (Boxed.new w4 57 (.slice l4 2 c4))
       have X4 := Bx.mk ((X3.out.more B4.out).keep A4.out)
       have D4 := Bx.mk ((D3.out.keep (below_new B4.out)).keep A4.out)
       have E4 := Bx.mk (C4.out.keep A4.out))
    | (clear M5; go_at_call 57; have c5 := cv_lit (w4.alloc (.cells #[.slice l4 2 c4] 57)) txS 1 36 rfl; rw [World.size_alloc] at c5; refine (frS _ _ c5).mono ?_; rintro e w5 ⟨rfl, B5⟩
       have A5 := Bx.mk (above_new w5 (.cells #[.slice none 0 0] 57))
       have X5 := Bx.mk ((X4.out.more B5.out).keep A5.out)
       have D5 := Bx.mk ((D4.out.keep (below_new B5.out)).keep A5.out)
       have E5 := Bx.mk ((E4.out.keep (below_new B5.out)).keep A5.out)
       have F5 := Bx.mk ((A5.out.block _ (Nat.lt_of_lt_of_le F4.out.lt (below_new B5.out).size)).trans (((below_new B5.out).block _ F4.out.lt).trans F4.out))
       have q5 := X5.out.mb.cell)
    | (clear M6; go_at_call 54; refine (kerX _ _ X5.out.m).mono ?_; rintro e w6 ⟨l6, c6, rfl, k6, n6, C6, B6⟩
       have X6 := Bx.mk (X5.out.keep B6.out)
       have D6 := Bx.mk (D5.out.keep B6.out)
       have E6' := Bx.mk (E5.out.keep B6.out)
       have F6 : Bx (Boxed w6 w4.heap.size 57 (.slice l4 2 c4)) := ⟨(B6.out.block _ (Boxed.lt F5.out)).trans F5.out⟩
       have q6 := X6.out.mb.cell
       clear q5)
    | (clear M7; go_at_call 59; refine (tuneX _ _ _ X6.out.m X6.out.g).mono ?_; rintro e w7 ⟨rfl, B7⟩
       have A7 := Bx.mk (above_new w7 (.cells #[.int .i64 0, .int .i64 0, .int .i64 3, .int .i64 0, .int .i64 0, .int .i64 0] 65))
       have X7 := Bx.mk ((X6.out.keep B7.out).keep A7.out)
       have D7 := Bx.mk ((D6.out.keep B7.out).keep A7.out)
       have E7 := Bx.mk ((E6'.out.keep B7.out).keep A7.out)
       have G7 := Bx.mk ((C6.out.keep B7.out).keep A7.out)
       have F7 : Bx (Boxed (w7.alloc (.cells #[.int .i64 0, .int .i64 0, .int .i64 3, .int .i64 0, .int .i64 0, .int .i64 0] 65)) w4.heap.size 57 (.slice l4 2 c4)) := ⟨(A7.out.block _ (Nat.lt_of_lt_of_le F6.out.lt B7.out.size)).trans ((B7.out.block _ F6.out.lt).trans F6.out)⟩
       have P7 := Bx.mk (VT.new w7 65 (lm [0, 0, 3, 0, 0, 0] 0))
       have q7 := X7.out.mb.cell
       clear q6)
    | (clear M8; go_at_call 61; refine (pureX1 _ _ _ X7.out.m X7.out.g).mono ?_; rintro e w8 ⟨rfl, B8⟩
       have X8 := Bx.mk (X7.out.keep B8.out)
       have D8 := Bx.mk (D7.out.keep B8.out)
       have E8 := Bx.mk (E7.out.keep B8.out)
       have G8 := Bx.mk (G7.out.keep B8.out)
       have F8 : Bx (Boxed w8 w4.heap.size 57 (.slice l4 2 c4)) := ⟨(B8.out.block _ F7.out.lt).trans F7.out⟩
       have P8 := Bx.mk (P7.out.keep (B8.out.block _ P7.out.lt))
       have q8 := X8.out.mb.cell
       clear q7)
    | (clear M9; go_at_call 61; refine (pureX2 _ _ _ X8.out.m X8.out.g).mono ?_; rintro e w9 ⟨rfl, B9⟩
       have X9 := Bx.mk (X8.out.keep B9.out)
       have D9 := Bx.mk (D8.out.keep B9.out)
       have E9 := Bx.mk (E8.out.keep B9.out)
       have G9 := Bx.mk (G8.out.keep B9.out)
       have F9 : Bx (Boxed w9 w4.heap.size 57 (.slice l4 2 c4)) := ⟨(B9.out.block _ F8.out.lt).trans F8.out⟩
       have P9 := Bx.mk (P8.out.keep (B9.out.block _ P8.out.lt))
       clear q8)
    | (clear M10; go_at_call 51; refine (ints7_any _ _ _ _ 1 1 [7] [7] _ rfl rfl k2 n2 (Nat.le_refl _) (by decide) (D9.out.keep (above_new w9 _)) (ci_lit w9 [7] 3) true (by simp)).mono ?_; rintro e w10 ⟨rfl, B10⟩
       have X10 := Bx.mk (X9.out.more B10)
       have E10 := Bx.mk (E9.out.keep (below_new B10))
       have G10 := Bx.mk (G9.out.keep (below_new B10))
       have F10 : Bx (Boxed w10 w4.heap.size 57 (.slice l4 2 c4)) := ⟨((below_new B10).block _ F9.out.lt).trans F9.out⟩
       have P10 := Bx.mk (P9.out.keep ((below_new B10).block _ P9.out.lt))
       have q10 := X10.out.mb.cell
       have r10 := F10.out.cell
       clear B10)
    | (clear M11; go_at_call 56; refine (same7_any _ _ _ _ 2 2 (lm exH) (lm exH) _ k4 n4 (Nat.le_refl _) (by decide) E10.out X10.out.m true (by simp)).mono ?_; rintro e w11 ⟨rfl, B11⟩
       have X11 := Bx.mk (X10.out.keep B11)
       have G11 := Bx.mk (G10.out.keep B11)
       have V11 := P10.out.keep (B11.block _ P10.out.lt)
       have u0 : w11.cell? ⟨w7.heap.size, 0, none⟩ = some (.int .i64 0) := V11.c0
       have u1 : w11.cell? ⟨w7.heap.size, 1, none⟩ = some (.int .i64 0) := V11.c1
       have u2 : w11.cell? ⟨w7.heap.size, 2, none⟩ = some (.int .i64 3) := V11.c2
       have u3 : w11.cell? ⟨w7.heap.size, 3, none⟩ = some (.int .i64 0) := V11.c3
       have u4 : w11.cell? ⟨w7.heap.size, 4, none⟩ = some (.int .i64 0) := V11.c4
       have u5 : w11.cell? ⟨w7.heap.size, 5, none⟩ = some (.int .i64 0) := V11.c5
       clear V11 q10 r10 B11)
    | (clear M12; go_at_call 56; refine (same7_any _ _ _ _ 4 4 (lm exK) (lm exK) _ k6 n6 (Nat.le_refl _) (by decide) (G11.out.keep (above_new w11 _)) (cv_lit w11 exK 4 36 rfl) true (by simp)).mono ?_; rintro e w12 ⟨rfl, B12⟩
       have X12 := Bx.mk (X11.out.more B12)))
  go_ret
  exact ⟨rfl, X12.out.b⟩
end Go.Proofs.Ytnbamjoadankmaa

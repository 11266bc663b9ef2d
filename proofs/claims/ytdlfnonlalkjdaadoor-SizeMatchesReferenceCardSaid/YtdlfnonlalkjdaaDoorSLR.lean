/- SizeMatchesReference, walked. -/
import Derived.Test.YtdlfnonlalkjdaaDoorSH
import Derived.Test.YtdlfnonlalkjdaaDoorSR5
namespace Go.Proofs.YtdlfnonlalkjdaaDoor
open Go.RowKit M
theorem ref_all {w W : World} {a0 a1 b0 b1 : Int} {p q : Nat → Int} (h : SS w W [(w.heap.size + 1 + 1 + 1, 25, #[.int .i64 (q 0), .int .i64 (q 1), .int .i64 (q 2), .int .i64 (q 3), .int .i64 (q 4), .int .i64 (q 5)]), (w.heap.size + 1 + 1, 25, #[.int .i64 (p 0), .int .i64 (p 1), .int .i64 (p 2), .int .i64 (p 3), .int .i64 (p 4), .int .i64 (p 5)]), (w.heap.size + 1, 23, #[.int .i64 b0, .int .i64 b1]), (w.heap.size, 23, #[.int .i64 a0, .int .i64 a1])]) : SS w W [(w.heap.size + 1 + 1 + 1, 25, #[.int .i64 (q 0), .int .i64 (q 1), .int .i64 (q 2), .int .i64 (q 3), .int .i64 (q 4), .int .i64 (q 5)]), (w.heap.size + 1 + 1, 25, #[.int .i64 (p 0), .int .i64 (p 1), .int .i64 (p 2), .int .i64 (p 3), .int .i64 (p 4), .int .i64 (p 5)]), (w.heap.size + 1, 23, #[.int .i64 b0, .int .i64 b1]), (w.heap.size, 23, #[.int .i64 a0, .int .i64 a1])] ∧ W.cell? ⟨w.heap.size, 0, none⟩ = some (.int .i64 a0) ∧ W.cell? ⟨w.heap.size, 1, none⟩ = some (.int .i64 a1) :=
  have k := h.two w.heap.size 23 (.int .i64 a0) (.int .i64 a1) (List.mem_cons_of_mem _ (List.mem_cons_of_mem _ (List.mem_cons_of_mem _ List.mem_cons_self)))
  ⟨h, k.1, k.2.1⟩
set_option maxRecDepth 20000 in
set_option maxHeartbeats 16000000 in
theorem sref_ok (a0 a1 b0 b1 : Int) (p q : Nat → Int) (n m : Int) (w : World) (hl : Lm w) (v : Bool) (V1 : Hx (∀ w, Calls Tryd.prog 13 #[SV a0 a1] w fun e w' => e = .returned (.bool v) ∧ Below w.heap.size w w')) (V2 : Hx (∀ w, Calls Tryd.prog 14 #[SV a0 a1] w fun e w' => e = .returned (.bool v) ∧ Below w.heap.size w w')) (o0 o1 oc : Int) (O1 : Hx (∀ w, Lm w → Calls Tryd.prog 15 #[PV p] w (OutZ w (o0) (o1) (oc)))) (O2 : Hx (∀ w, Calls Tryd.prog 16 #[PV p] w (OutZ w (o0) (o1) (oc)))) (g0 g1 gc : Int) (G1 : Hx (∀ w, Lm w → Calls Tryd.prog 17 #[PV p, PV q] w (OutZ w (g0) (g1) (gc)))) (G2 : Hx (∀ w, Calls Tryd.prog 18 #[PV p, PV q] w (OutZ w (g0) (g1) (gc)))) (s0 s1 sc : Int) (S1 : Hx (∀ w, Calls Tryd.prog 19 #[SV a0 a1, SV b0 b1] w (OutZ w (s0) (s1) (sc)))) (S2 : Hx (∀ w, Calls Tryd.prog 20 #[SV a0 a1, SV b0 b1] w (OutZ w (s0) (s1) (sc)))) (d0 d1 dc : Int) (D1 : Hx (∀ w, Calls Tryd.prog 21 #[SV a0 a1, SV b0 b1] w (OutZ w (d0) (d1) (dc)))) (D2 : Hx (∀ w, Calls Tryd.prog 22 #[SV a0 a1, SV b0 b1] w (OutZ w (d0) (d1) (dc)))) (t0 t1 tc : Int) (T1 : Hx (∀ w, Calls Tryd.prog 23 #[SV a0 a1, .int .i64 n] w (OutZ w (t0) (t1) (tc)))) (T2 : Hx (∀ w, Calls Tryd.prog 24 #[SV a0 a1, .int .i64 n] w (OutZ w (t0) (t1) (tc)))) (u0 u1 uc : Int) (U1 : Hx (∀ w, Calls Tryd.prog 25 #[SV a0 a1, SV b0 b1] w (OutZ w (u0) (u1) (uc)))) (U2 : Hx (∀ w, Calls Tryd.prog 26 #[SV a0 a1, SV b0 b1] w (OutZ w (u0) (u1) (uc)))) (i0 ic : Int) (I1 : Hx (∀ w, Calls Tryd.prog 27 #[SV a0 a1, SV b0 b1] w (OutI w (i0) (ic)))) (I2 : Hx (∀ w, Calls Tryd.prog 28 #[SV a0 a1, SV b0 b1] w (OutI w (i0) (ic)))) (j0 jc : Int) (J1 : Hx (∀ w, Calls Tryd.prog 29 #[SV a0 a1, .int .i64 n, .int .i64 m] w (OutI w (j0) (jc)))) (J2 : Hx (∀ w, Calls Tryd.prog 30 #[SV a0 a1, .int .i64 n, .int .i64 m] w (OutI w (j0) (jc)))) (k0 kc : Int) (K1 : Hx (∀ w, Lm w → Calls Tryd.prog 31 #[PV p, PV q, .int .i64 n] w (OutI w (k0) (kc)))) (K2 : Hx (∀ w, Calls Tryd.prog 32 #[PV p, PV q, .int .i64 n] w (OutI w (k0) (kc)))) :
    Calls Tryd.prog 3 #[SV a0 a1, SV b0 b1, PV p, PV q, .int .i64 n, .int .i64 m] w fun e w' => e = .returned (.bool true) ∧ Below w.heap.size w w' := by
  have S : Bx (SS w w []) := ⟨SS.start w hl⟩
  replace S := Bx.mk (S.out.push #[.int .i64 a0, .int .i64 a1] 23)
  replace S := Bx.mk (S.out.push #[.int .i64 b0, .int .i64 b1] 23)
  replace S := Bx.mk (S.out.push #[.int .i64 (p 0), .int .i64 (p 1), .int .i64 (p 2), .int .i64 (p 3), .int .i64 (p 4), .int .i64 (p 5)] 25)
  replace S := Bx.mk (S.out.push #[.int .i64 (q 0), .int .i64 (q 1), .int .i64 (q 2), .int .i64 (q 3), .int .i64 (q 4), .int .i64 (q 5)] 25)
  simp only [World.size_alloc] at S
  go_enter Tryd.func3, Tryd.ntmps3
  have HS0 := ref_all S.out
  have HS1 := ref_all S.out.drew
  clear S
  go_wp2_with fail
  go_region_held3 (fun W' => SS w W' [(w.heap.size + 1 + 1 + 1, 25, #[.int .i64 (q 0), .int .i64 (q 1), .int .i64 (q 2), .int .i64 (q 3), .int .i64 (q 4), .int .i64 (q 5)]), (w.heap.size + 1 + 1, 25, #[.int .i64 (p 0), .int .i64 (p 1), .int .i64 (p 2), .int .i64 (p 3), .int .i64 (p 4), .int .i64 (p 5)]), (w.heap.size + 1, 23, #[.int .i64 b0, .int .i64 b1]), (w.heap.size, 23, #[.int .i64 a0, .int .i64 a1])] ∧ W'.cell? ⟨w.heap.size, 0, none⟩ = some (.int .i64 a0) ∧ W'.cell? ⟨w.heap.size, 1, none⟩ = some (.int .i64 a1))
    (first | (with_reducible assumption) | (refine ref_all ?_; with_reducible assumption) | (refine ref_all (SS.drew ?_); with_reducible assumption))
    (first | (go_at_call 12; refine (shead_any _ (SS.lm (w0 := w) (R := [(w.heap.size + 1 + 1 + 1, 25, #[.int .i64 (q 0), .int .i64 (q 1), .int .i64 (q 2), .int .i64 (q 3), .int .i64 (q 4), .int .i64 (q 5)]), (w.heap.size + 1 + 1, 25, #[.int .i64 (p 0), .int .i64 (p 1), .int .i64 (p 2), .int .i64 (p 3), .int .i64 (p 4), .int .i64 (p 5)]), (w.heap.size + 1, 23, #[.int .i64 b0, .int .i64 b1]), (w.heap.size, 23, #[.int .i64 a0, .int .i64 a1])]) (And.left (by assumption)))).mono ?_; rintro e w' ⟨rfl, hb1⟩; have hS' := SS.call (And.left (by assumption)) hb1) | (go_at_call 13; refine (V1.out _).mono ?_; rintro e w' ⟨rfl, hb1⟩; have hS' := SS.call (And.left (by assumption)) hb1) | (go_at_call 14; refine (V2.out _).mono ?_; rintro e w' ⟨rfl, hb1⟩; have hS' := SS.call (And.left (by assumption)) hb1))
  have S := Bx.mk hS'
  clear HS0 HS1 hS' hb1
  obtain ⟨c1_0, c1_1, c1_2, c1_3, c1_4, c1_5, z1⟩ := S.out.six (w.heap.size + 1 + 1) 25 (.int .i64 (p 0)) (.int .i64 (p 1)) (.int .i64 (p 2)) (.int .i64 (p 3)) (.int .i64 (p 4)) (.int .i64 (p 5)) (List.mem_cons_of_mem _ List.mem_cons_self)
  go_wp2_with fail
  refine (O1.out _ S.out.lm).mono ?_
  rintro e w1 ⟨rfl, hb⟩
  replace S := Bx.mk (S.out.call hb)
  clear hb
  clear c1_0 c1_1 c1_2 c1_3 c1_4 c1_5 z1
  replace S := Bx.mk (S.out.push #[.int .i64 o0, .int .i64 o1] 23)
  obtain ⟨c2_0, c2_1, c2_2, c2_3, c2_4, c2_5, z2⟩ := S.out.six (w.heap.size + 1 + 1) 25 (.int .i64 (p 0)) (.int .i64 (p 1)) (.int .i64 (p 2)) (.int .i64 (p 3)) (.int .i64 (p 4)) (.int .i64 (p 5)) (List.mem_cons_of_mem _ (List.mem_cons_of_mem _ List.mem_cons_self))
  go_wp2_with fail
  refine (O2.out _).mono ?_
  rintro e w2 ⟨rfl, hb⟩
  replace S := Bx.mk (S.out.call hb)
  clear hb
  clear c2_0 c2_1 c2_2 c2_3 c2_4 c2_5 z2
  replace S := Bx.mk (S.out.push #[.int .i64 o0, .int .i64 o1] 23)
  obtain ⟨c3_0, c3_1, f3_0, f3_1, z3⟩ := S.out.two w2.heap.size 23 (.int .i64 o0) (.int .i64 o1) List.mem_cons_self
  obtain ⟨c4_0, c4_1, f4_0, f4_1, z4⟩ := S.out.two w1.heap.size 23 (.int .i64 o0) (.int .i64 o1) (List.mem_cons_of_mem _ List.mem_cons_self)
  obtain ⟨c5_0, c5_1, c5_2, c5_3, c5_4, c5_5, z5⟩ := S.out.six (w.heap.size + 1 + 1 + 1) 25 (.int .i64 (q 0)) (.int .i64 (q 1)) (.int .i64 (q 2)) (.int .i64 (q 3)) (.int .i64 (q 4)) (.int .i64 (q 5)) (List.mem_cons_of_mem _ (List.mem_cons_of_mem _ List.mem_cons_self))
  obtain ⟨c6_0, c6_1, c6_2, c6_3, c6_4, c6_5, z6⟩ := S.out.six (w.heap.size + 1 + 1) 25 (.int .i64 (p 0)) (.int .i64 (p 1)) (.int .i64 (p 2)) (.int .i64 (p 3)) (.int .i64 (p 4)) (.int .i64 (p 5)) (List.mem_cons_of_mem _ (List.mem_cons_of_mem _ (List.mem_cons_of_mem _ List.mem_cons_self)))
  go_wp2_with fail
  refine (G1.out _ S.out.lm).mono ?_
  rintro e w3 ⟨rfl, hb⟩
  replace S := Bx.mk (S.out.call hb)
  clear hb
  clear c3_0 c3_1 f3_0 f3_1 z3 c4_0 c4_1 f4_0 f4_1 z4 c5_0 c5_1 c5_2 c5_3 c5_4 c5_5 z5 c6_0 c6_1 c6_2 c6_3 c6_4 c6_5 z6
  obtain ⟨c7_0, c7_1, f7_0, f7_1, z7⟩ := S.out.two w1.heap.size 23 (.int .i64 o0) (.int .i64 o1) (List.mem_cons_of_mem _ List.mem_cons_self)
  replace S := Bx.mk (SS.put2 (L := [(w2.heap.size, 23, #[.int .i64 o0, .int .i64 o1])]) (M := [(w.heap.size + 1 + 1 + 1, 25, #[.int .i64 (q 0), .int .i64 (q 1), .int .i64 (q 2), .int .i64 (q 3), .int .i64 (q 4), .int .i64 (q 5)]), (w.heap.size + 1 + 1, 25, #[.int .i64 (p 0), .int .i64 (p 1), .int .i64 (p 2), .int .i64 (p 3), .int .i64 (p 4), .int .i64 (p 5)]), (w.heap.size + 1, 23, #[.int .i64 b0, .int .i64 b1]), (w.heap.size, 23, #[.int .i64 a0, .int .i64 a1])]) (b := w1.heap.size) (t := 23) S.out (.int .i64 g0) (.int .i64 g1))
  simp only [List.cons_append, List.nil_append] at S
  obtain ⟨c8_0, c8_1, c8_2, c8_3, c8_4, c8_5, z8⟩ := S.out.six (w.heap.size + 1 + 1 + 1) 25 (.int .i64 (q 0)) (.int .i64 (q 1)) (.int .i64 (q 2)) (.int .i64 (q 3)) (.int .i64 (q 4)) (.int .i64 (q 5)) (List.mem_cons_of_mem _ (List.mem_cons_of_mem _ List.mem_cons_self))
  obtain ⟨c9_0, c9_1, c9_2, c9_3, c9_4, c9_5, z9⟩ := S.out.six (w.heap.size + 1 + 1) 25 (.int .i64 (p 0)) (.int .i64 (p 1)) (.int .i64 (p 2)) (.int .i64 (p 3)) (.int .i64 (p 4)) (.int .i64 (p 5)) (List.mem_cons_of_mem _ (List.mem_cons_of_mem _ (List.mem_cons_of_mem _ List.mem_cons_self)))
  go_wp2_with fail
  refine (G2.out _).mono ?_
  rintro e w4 ⟨rfl, hb⟩
  replace S := Bx.mk (S.out.call hb)
  clear hb
  clear c7_0 c7_1 f7_0 f7_1 z7 c8_0 c8_1 c8_2 c8_3 c8_4 c8_5 z8 c9_0 c9_1 c9_2 c9_3 c9_4 c9_5 z9
  obtain ⟨c10_0, c10_1, f10_0, f10_1, z10⟩ := S.out.two w2.heap.size 23 (.int .i64 o0) (.int .i64 o1) List.mem_cons_self
  replace S := Bx.mk (SS.put2 (L := []) (M := [(w1.heap.size, 23, #[.int .i64 g0, .int .i64 g1]), (w.heap.size + 1 + 1 + 1, 25, #[.int .i64 (q 0), .int .i64 (q 1), .int .i64 (q 2), .int .i64 (q 3), .int .i64 (q 4), .int .i64 (q 5)]), (w.heap.size + 1 + 1, 25, #[.int .i64 (p 0), .int .i64 (p 1), .int .i64 (p 2), .int .i64 (p 3), .int .i64 (p 4), .int .i64 (p 5)]), (w.heap.size + 1, 23, #[.int .i64 b0, .int .i64 b1]), (w.heap.size, 23, #[.int .i64 a0, .int .i64 a1])]) (b := w2.heap.size) (t := 23) S.out (.int .i64 g0) (.int .i64 g1))
  simp only [List.nil_append] at S
  obtain ⟨c11_0, c11_1, f11_0, f11_1, z11⟩ := S.out.two w2.heap.size 23 (.int .i64 g0) (.int .i64 g1) List.mem_cons_self
  obtain ⟨c12_0, c12_1, f12_0, f12_1, z12⟩ := S.out.two w1.heap.size 23 (.int .i64 g0) (.int .i64 g1) (List.mem_cons_of_mem _ List.mem_cons_self)
  obtain ⟨c13_0, c13_1, f13_0, f13_1, z13⟩ := S.out.two (w.heap.size + 1) 23 (.int .i64 b0) (.int .i64 b1) (List.mem_cons_of_mem _ (List.mem_cons_of_mem _ (List.mem_cons_of_mem _ (List.mem_cons_of_mem _ List.mem_cons_self))))
  obtain ⟨c14_0, c14_1, f14_0, f14_1, z14⟩ := S.out.two w.heap.size 23 (.int .i64 a0) (.int .i64 a1) (List.mem_cons_of_mem _ (List.mem_cons_of_mem _ (List.mem_cons_of_mem _ (List.mem_cons_of_mem _ (List.mem_cons_of_mem _ List.mem_cons_self)))))
  go_wp2_with fail
  refine (S1.out _).mono ?_
  rintro e w5 ⟨rfl, hb⟩
  replace S := Bx.mk (S.out.call hb)
  clear hb
  clear c11_0 c11_1 f11_0 f11_1 z11 c12_0 c12_1 f12_0 f12_1 z12 c13_0 c13_1 f13_0 f13_1 z13 c14_0 c14_1 f14_0 f14_1 z14
  obtain ⟨c15_0, c15_1, f15_0, f15_1, z15⟩ := S.out.two w1.heap.size 23 (.int .i64 g0) (.int .i64 g1) (List.mem_cons_of_mem _ List.mem_cons_self)
  replace S := Bx.mk (SS.put2 (L := [(w2.heap.size, 23, #[.int .i64 g0, .int .i64 g1])]) (M := [(w.heap.size + 1 + 1 + 1, 25, #[.int .i64 (q 0), .int .i64 (q 1), .int .i64 (q 2), .int .i64 (q 3), .int .i64 (q 4), .int .i64 (q 5)]), (w.heap.size + 1 + 1, 25, #[.int .i64 (p 0), .int .i64 (p 1), .int .i64 (p 2), .int .i64 (p 3), .int .i64 (p 4), .int .i64 (p 5)]), (w.heap.size + 1, 23, #[.int .i64 b0, .int .i64 b1]), (w.heap.size, 23, #[.int .i64 a0, .int .i64 a1])]) (b := w1.heap.size) (t := 23) S.out (.int .i64 s0) (.int .i64 s1))
  simp only [List.cons_append, List.nil_append] at S
  obtain ⟨c16_0, c16_1, f16_0, f16_1, z16⟩ := S.out.two (w.heap.size + 1) 23 (.int .i64 b0) (.int .i64 b1) (List.mem_cons_of_mem _ (List.mem_cons_of_mem _ (List.mem_cons_of_mem _ (List.mem_cons_of_mem _ List.mem_cons_self))))
  obtain ⟨c17_0, c17_1, f17_0, f17_1, z17⟩ := S.out.two w.heap.size 23 (.int .i64 a0) (.int .i64 a1) (List.mem_cons_of_mem _ (List.mem_cons_of_mem _ (List.mem_cons_of_mem _ (List.mem_cons_of_mem _ (List.mem_cons_of_mem _ List.mem_cons_self)))))
  go_wp2_with fail
  refine (S2.out _).mono ?_
  rintro e w6 ⟨rfl, hb⟩
  replace S := Bx.mk (S.out.call hb)
  clear hb
  clear c15_0 c15_1 f15_0 f15_1 z15 c16_0 c16_1 f16_0 f16_1 z16 c17_0 c17_1 f17_0 f17_1 z17
  obtain ⟨c18_0, c18_1, f18_0, f18_1, z18⟩ := S.out.two w2.heap.size 23 (.int .i64 g0) (.int .i64 g1) List.mem_cons_self
  replace S := Bx.mk (SS.put2 (L := []) (M := [(w1.heap.size, 23, #[.int .i64 s0, .int .i64 s1]), (w.heap.size + 1 + 1 + 1, 25, #[.int .i64 (q 0), .int .i64 (q 1), .int .i64 (q 2), .int .i64 (q 3), .int .i64 (q 4), .int .i64 (q 5)]), (w.heap.size + 1 + 1, 25, #[.int .i64 (p 0), .int .i64 (p 1), .int .i64 (p 2), .int .i64 (p 3), .int .i64 (p 4), .int .i64 (p 5)]), (w.heap.size + 1, 23, #[.int .i64 b0, .int .i64 b1]), (w.heap.size, 23, #[.int .i64 a0, .int .i64 a1])]) (b := w2.heap.size) (t := 23) S.out (.int .i64 s0) (.int .i64 s1))
  simp only [List.nil_append] at S
  obtain ⟨c19_0, c19_1, f19_0, f19_1, z19⟩ := S.out.two w2.heap.size 23 (.int .i64 s0) (.int .i64 s1) List.mem_cons_self
  obtain ⟨c20_0, c20_1, f20_0, f20_1, z20⟩ := S.out.two w1.heap.size 23 (.int .i64 s0) (.int .i64 s1) (List.mem_cons_of_mem _ List.mem_cons_self)
  obtain ⟨c21_0, c21_1, f21_0, f21_1, z21⟩ := S.out.two (w.heap.size + 1) 23 (.int .i64 b0) (.int .i64 b1) (List.mem_cons_of_mem _ (List.mem_cons_of_mem _ (List.mem_cons_of_mem _ (List.mem_cons_of_mem _ List.mem_cons_self))))
  obtain ⟨c22_0, c22_1, f22_0, f22_1, z22⟩ := S.out.two w.heap.size 23 (.int .i64 a0) (.int .i64 a1) (List.mem_cons_of_mem _ (List.mem_cons_of_mem _ (List.mem_cons_of_mem _ (List.mem_cons_of_mem _ (List.mem_cons_of_mem _ List.mem_cons_self)))))
  go_wp2_with fail
  refine (D1.out _).mono ?_
  rintro e w7 ⟨rfl, hb⟩
  replace S := Bx.mk (S.out.call hb)
  clear hb
  clear c19_0 c19_1 f19_0 f19_1 z19 c20_0 c20_1 f20_0 f20_1 z20 c21_0 c21_1 f21_0 f21_1 z21 c22_0 c22_1 f22_0 f22_1 z22
  obtain ⟨c23_0, c23_1, f23_0, f23_1, z23⟩ := S.out.two w1.heap.size 23 (.int .i64 s0) (.int .i64 s1) (List.mem_cons_of_mem _ List.mem_cons_self)
  replace S := Bx.mk (SS.put2 (L := [(w2.heap.size, 23, #[.int .i64 s0, .int .i64 s1])]) (M := [(w.heap.size + 1 + 1 + 1, 25, #[.int .i64 (q 0), .int .i64 (q 1), .int .i64 (q 2), .int .i64 (q 3), .int .i64 (q 4), .int .i64 (q 5)]), (w.heap.size + 1 + 1, 25, #[.int .i64 (p 0), .int .i64 (p 1), .int .i64 (p 2), .int .i64 (p 3), .int .i64 (p 4), .int .i64 (p 5)]), (w.heap.size + 1, 23, #[.int .i64 b0, .int .i64 b1]), (w.heap.size, 23, #[.int .i64 a0, .int .i64 a1])]) (b := w1.heap.size) (t := 23) S.out (.int .i64 d0) (.int .i64 d1))
  simp only [List.cons_append, List.nil_append] at S
  obtain ⟨c24_0, c24_1, f24_0, f24_1, z24⟩ := S.out.two (w.heap.size + 1) 23 (.int .i64 b0) (.int .i64 b1) (List.mem_cons_of_mem _ (List.mem_cons_of_mem _ (List.mem_cons_of_mem _ (List.mem_cons_of_mem _ List.mem_cons_self))))
  obtain ⟨c25_0, c25_1, f25_0, f25_1, z25⟩ := S.out.two w.heap.size 23 (.int .i64 a0) (.int .i64 a1) (List.mem_cons_of_mem _ (List.mem_cons_of_mem _ (List.mem_cons_of_mem _ (List.mem_cons_of_mem _ (List.mem_cons_of_mem _ List.mem_cons_self)))))
  go_wp2_with fail
  refine (D2.out _).mono ?_
  rintro e w8 ⟨rfl, hb⟩
  replace S := Bx.mk (S.out.call hb)
  clear hb
  clear c23_0 c23_1 f23_0 f23_1 z23 c24_0 c24_1 f24_0 f24_1 z24 c25_0 c25_1 f25_0 f25_1 z25
  obtain ⟨c26_0, c26_1, f26_0, f26_1, z26⟩ := S.out.two w2.heap.size 23 (.int .i64 s0) (.int .i64 s1) List.mem_cons_self
  replace S := Bx.mk (SS.put2 (L := []) (M := [(w1.heap.size, 23, #[.int .i64 d0, .int .i64 d1]), (w.heap.size + 1 + 1 + 1, 25, #[.int .i64 (q 0), .int .i64 (q 1), .int .i64 (q 2), .int .i64 (q 3), .int .i64 (q 4), .int .i64 (q 5)]), (w.heap.size + 1 + 1, 25, #[.int .i64 (p 0), .int .i64 (p 1), .int .i64 (p 2), .int .i64 (p 3), .int .i64 (p 4), .int .i64 (p 5)]), (w.heap.size + 1, 23, #[.int .i64 b0, .int .i64 b1]), (w.heap.size, 23, #[.int .i64 a0, .int .i64 a1])]) (b := w2.heap.size) (t := 23) S.out (.int .i64 d0) (.int .i64 d1))
  simp only [List.nil_append] at S
  obtain ⟨c27_0, c27_1, f27_0, f27_1, z27⟩ := S.out.two w2.heap.size 23 (.int .i64 d0) (.int .i64 d1) List.mem_cons_self
  obtain ⟨c28_0, c28_1, f28_0, f28_1, z28⟩ := S.out.two w1.heap.size 23 (.int .i64 d0) (.int .i64 d1) (List.mem_cons_of_mem _ List.mem_cons_self)
  obtain ⟨c29_0, c29_1, f29_0, f29_1, z29⟩ := S.out.two w.heap.size 23 (.int .i64 a0) (.int .i64 a1) (List.mem_cons_of_mem _ (List.mem_cons_of_mem _ (List.mem_cons_of_mem _ (List.mem_cons_of_mem _ (List.mem_cons_of_mem _ List.mem_cons_self)))))
  go_wp2_with fail
  refine (T1.out _).mono ?_
  rintro e w9 ⟨rfl, hb⟩
  replace S := Bx.mk (S.out.call hb)
  clear hb
  clear c27_0 c27_1 f27_0 f27_1 z27 c28_0 c28_1 f28_0 f28_1 z28 c29_0 c29_1 f29_0 f29_1 z29
  obtain ⟨c30_0, c30_1, f30_0, f30_1, z30⟩ := S.out.two w1.heap.size 23 (.int .i64 d0) (.int .i64 d1) (List.mem_cons_of_mem _ List.mem_cons_self)
  replace S := Bx.mk (SS.put2 (L := [(w2.heap.size, 23, #[.int .i64 d0, .int .i64 d1])]) (M := [(w.heap.size + 1 + 1 + 1, 25, #[.int .i64 (q 0), .int .i64 (q 1), .int .i64 (q 2), .int .i64 (q 3), .int .i64 (q 4), .int .i64 (q 5)]), (w.heap.size + 1 + 1, 25, #[.int .i64 (p 0), .int .i64 (p 1), .int .i64 (p 2), .int .i64 (p 3), .int .i64 (p 4), .int .i64 (p 5)]), (w.heap.size + 1, 23, #[.int .i64 b0, .int .i64 b1]), (w.heap.size, 23, #[.int .i64 a0, .int .i64 a1])]) (b := w1.heap.size) (t := 23) S.out (.int .i64 t0) (.int .i64 t1))
  simp only [List.cons_append, List.nil_append] at S
  obtain ⟨c31_0, c31_1, f31_0, f31_1, z31⟩ := S.out.two w.heap.size 23 (.int .i64 a0) (.int .i64 a1) (List.mem_cons_of_mem _ (List.mem_cons_of_mem _ (List.mem_cons_of_mem _ (List.mem_cons_of_mem _ (List.mem_cons_of_mem _ List.mem_cons_self)))))
  go_wp2_with fail
  refine (T2.out _).mono ?_
  rintro e w10 ⟨rfl, hb⟩
  replace S := Bx.mk (S.out.call hb)
  clear hb
  clear c30_0 c30_1 f30_0 f30_1 z30 c31_0 c31_1 f31_0 f31_1 z31
  obtain ⟨c32_0, c32_1, f32_0, f32_1, z32⟩ := S.out.two w2.heap.size 23 (.int .i64 d0) (.int .i64 d1) List.mem_cons_self
  replace S := Bx.mk (SS.put2 (L := []) (M := [(w1.heap.size, 23, #[.int .i64 t0, .int .i64 t1]), (w.heap.size + 1 + 1 + 1, 25, #[.int .i64 (q 0), .int .i64 (q 1), .int .i64 (q 2), .int .i64 (q 3), .int .i64 (q 4), .int .i64 (q 5)]), (w.heap.size + 1 + 1, 25, #[.int .i64 (p 0), .int .i64 (p 1), .int .i64 (p 2), .int .i64 (p 3), .int .i64 (p 4), .int .i64 (p 5)]), (w.heap.size + 1, 23, #[.int .i64 b0, .int .i64 b1]), (w.heap.size, 23, #[.int .i64 a0, .int .i64 a1])]) (b := w2.heap.size) (t := 23) S.out (.int .i64 t0) (.int .i64 t1))
  simp only [List.nil_append] at S
  obtain ⟨c33_0, c33_1, f33_0, f33_1, z33⟩ := S.out.two w2.heap.size 23 (.int .i64 t0) (.int .i64 t1) List.mem_cons_self
  obtain ⟨c34_0, c34_1, f34_0, f34_1, z34⟩ := S.out.two w1.heap.size 23 (.int .i64 t0) (.int .i64 t1) (List.mem_cons_of_mem _ List.mem_cons_self)
  obtain ⟨c35_0, c35_1, f35_0, f35_1, z35⟩ := S.out.two (w.heap.size + 1) 23 (.int .i64 b0) (.int .i64 b1) (List.mem_cons_of_mem _ (List.mem_cons_of_mem _ (List.mem_cons_of_mem _ (List.mem_cons_of_mem _ List.mem_cons_self))))
  obtain ⟨c36_0, c36_1, f36_0, f36_1, z36⟩ := S.out.two w.heap.size 23 (.int .i64 a0) (.int .i64 a1) (List.mem_cons_of_mem _ (List.mem_cons_of_mem _ (List.mem_cons_of_mem _ (List.mem_cons_of_mem _ (List.mem_cons_of_mem _ List.mem_cons_self)))))
  go_wp2_with fail
  refine (U1.out _).mono ?_
  rintro e w11 ⟨rfl, hb⟩
  replace S := Bx.mk (S.out.call hb)
  clear hb
  clear c33_0 c33_1 f33_0 f33_1 z33 c34_0 c34_1 f34_0 f34_1 z34 c35_0 c35_1 f35_0 f35_1 z35 c36_0 c36_1 f36_0 f36_1 z36
  obtain ⟨c37_0, c37_1, f37_0, f37_1, z37⟩ := S.out.two w1.heap.size 23 (.int .i64 t0) (.int .i64 t1) (List.mem_cons_of_mem _ List.mem_cons_self)
  replace S := Bx.mk (SS.put2 (L := [(w2.heap.size, 23, #[.int .i64 t0, .int .i64 t1])]) (M := [(w.heap.size + 1 + 1 + 1, 25, #[.int .i64 (q 0), .int .i64 (q 1), .int .i64 (q 2), .int .i64 (q 3), .int .i64 (q 4), .int .i64 (q 5)]), (w.heap.size + 1 + 1, 25, #[.int .i64 (p 0), .int .i64 (p 1), .int .i64 (p 2), .int .i64 (p 3), .int .i64 (p 4), .int .i64 (p 5)]), (w.heap.size + 1, 23, #[.int .i64 b0, .int .i64 b1]), (w.heap.size, 23, #[.int .i64 a0, .int .i64 a1])]) (b := w1.heap.size) (t := 23) S.out (.int .i64 u0) (.int .i64 u1))
  simp only [List.cons_append, List.nil_append] at S
  obtain ⟨c38_0, c38_1, f38_0, f38_1, z38⟩ := S.out.two (w.heap.size + 1) 23 (.int .i64 b0) (.int .i64 b1) (List.mem_cons_of_mem _ (List.mem_cons_of_mem _ (List.mem_cons_of_mem _ (List.mem_cons_of_mem _ List.mem_cons_self))))
  obtain ⟨c39_0, c39_1, f39_0, f39_1, z39⟩ := S.out.two w.heap.size 23 (.int .i64 a0) (.int .i64 a1) (List.mem_cons_of_mem _ (List.mem_cons_of_mem _ (List.mem_cons_of_mem _ (List.mem_cons_of_mem _ (List.mem_cons_of_mem _ List.mem_cons_self)))))
  go_wp2_with fail
  refine (U2.out _).mono ?_
  rintro e w12 ⟨rfl, hb⟩
  replace S := Bx.mk (S.out.call hb)
  clear hb
  clear c37_0 c37_1 f37_0 f37_1 z37 c38_0 c38_1 f38_0 f38_1 z38 c39_0 c39_1 f39_0 f39_1 z39
  obtain ⟨c40_0, c40_1, f40_0, f40_1, z40⟩ := S.out.two w2.heap.size 23 (.int .i64 t0) (.int .i64 t1) List.mem_cons_self
  replace S := Bx.mk (SS.put2 (L := []) (M := [(w1.heap.size, 23, #[.int .i64 u0, .int .i64 u1]), (w.heap.size + 1 + 1 + 1, 25, #[.int .i64 (q 0), .int .i64 (q 1), .int .i64 (q 2), .int .i64 (q 3), .int .i64 (q 4), .int .i64 (q 5)]), (w.heap.size + 1 + 1, 25, #[.int .i64 (p 0), .int .i64 (p 1), .int .i64 (p 2), .int .i64 (p 3), .int .i64 (p 4), .int .i64 (p 5)]), (w.heap.size + 1, 23, #[.int .i64 b0, .int .i64 b1]), (w.heap.size, 23, #[.int .i64 a0, .int .i64 a1])]) (b := w2.heap.size) (t := 23) S.out (.int .i64 u0) (.int .i64 u1))
  simp only [List.nil_append] at S
  obtain ⟨c41_0, c41_1, f41_0, f41_1, z41⟩ := S.out.two (w.heap.size + 1) 23 (.int .i64 b0) (.int .i64 b1) (List.mem_cons_of_mem _ (List.mem_cons_of_mem _ (List.mem_cons_of_mem _ (List.mem_cons_of_mem _ List.mem_cons_self))))
  obtain ⟨c42_0, c42_1, f42_0, f42_1, z42⟩ := S.out.two w.heap.size 23 (.int .i64 a0) (.int .i64 a1) (List.mem_cons_of_mem _ (List.mem_cons_of_mem _ (List.mem_cons_of_mem _ (List.mem_cons_of_mem _ (List.mem_cons_of_mem _ List.mem_cons_self)))))
  obtain ⟨c43_0, c43_1, f43_0, f43_1, z43⟩ := S.out.two w2.heap.size 23 (.int .i64 u0) (.int .i64 u1) List.mem_cons_self
  obtain ⟨c44_0, c44_1, f44_0, f44_1, z44⟩ := S.out.two w1.heap.size 23 (.int .i64 u0) (.int .i64 u1) (List.mem_cons_of_mem _ List.mem_cons_self)
  go_wp2_with fail
  refine (I1.out _).mono ?_
  rintro e w13 ⟨rfl, hb⟩
  replace S := Bx.mk (S.out.call hb)
  clear hb
  clear c41_0 c41_1 f41_0 f41_1 z41 c42_0 c42_1 f42_0 f42_1 z42 c43_0 c43_1 f43_0 f43_1 z43 c44_0 c44_1 f44_0 f44_1 z44
  obtain ⟨c45_0, c45_1, f45_0, f45_1, z45⟩ := S.out.two (w.heap.size + 1) 23 (.int .i64 b0) (.int .i64 b1) (List.mem_cons_of_mem _ (List.mem_cons_of_mem _ (List.mem_cons_of_mem _ (List.mem_cons_of_mem _ List.mem_cons_self))))
  obtain ⟨c46_0, c46_1, f46_0, f46_1, z46⟩ := S.out.two w.heap.size 23 (.int .i64 a0) (.int .i64 a1) (List.mem_cons_of_mem _ (List.mem_cons_of_mem _ (List.mem_cons_of_mem _ (List.mem_cons_of_mem _ (List.mem_cons_of_mem _ List.mem_cons_self)))))
  go_wp2_with fail
  refine (I2.out _).mono ?_
  rintro e w14 ⟨rfl, hb⟩
  replace S := Bx.mk (S.out.call hb)
  clear hb
  clear c45_0 c45_1 f45_0 f45_1 z45 c46_0 c46_1 f46_0 f46_1 z46
  obtain ⟨c47_0, c47_1, f47_0, f47_1, z47⟩ := S.out.two w.heap.size 23 (.int .i64 a0) (.int .i64 a1) (List.mem_cons_of_mem _ (List.mem_cons_of_mem _ (List.mem_cons_of_mem _ (List.mem_cons_of_mem _ (List.mem_cons_of_mem _ List.mem_cons_self)))))
  go_wp2_with fail
  refine (J1.out _).mono ?_
  rintro e w15 ⟨rfl, hb⟩
  replace S := Bx.mk (S.out.call hb)
  clear hb
  clear c47_0 c47_1 f47_0 f47_1 z47
  obtain ⟨c48_0, c48_1, f48_0, f48_1, z48⟩ := S.out.two w.heap.size 23 (.int .i64 a0) (.int .i64 a1) (List.mem_cons_of_mem _ (List.mem_cons_of_mem _ (List.mem_cons_of_mem _ (List.mem_cons_of_mem _ (List.mem_cons_of_mem _ List.mem_cons_self)))))
  go_wp2_with fail
  refine (J2.out _).mono ?_
  rintro e w16 ⟨rfl, hb⟩
  replace S := Bx.mk (S.out.call hb)
  clear hb
  clear c48_0 c48_1 f48_0 f48_1 z48
  obtain ⟨c49_0, c49_1, c49_2, c49_3, c49_4, c49_5, z49⟩ := S.out.six (w.heap.size + 1 + 1 + 1) 25 (.int .i64 (q 0)) (.int .i64 (q 1)) (.int .i64 (q 2)) (.int .i64 (q 3)) (.int .i64 (q 4)) (.int .i64 (q 5)) (List.mem_cons_of_mem _ (List.mem_cons_of_mem _ List.mem_cons_self))
  obtain ⟨c50_0, c50_1, c50_2, c50_3, c50_4, c50_5, z50⟩ := S.out.six (w.heap.size + 1 + 1) 25 (.int .i64 (p 0)) (.int .i64 (p 1)) (.int .i64 (p 2)) (.int .i64 (p 3)) (.int .i64 (p 4)) (.int .i64 (p 5)) (List.mem_cons_of_mem _ (List.mem_cons_of_mem _ (List.mem_cons_of_mem _ List.mem_cons_self)))
  go_wp2_with fail
  refine (K1.out _ S.out.lm).mono ?_
  rintro e w17 ⟨rfl, hb⟩
  replace S := Bx.mk (S.out.call hb)
  clear hb
  clear c49_0 c49_1 c49_2 c49_3 c49_4 c49_5 z49 c50_0 c50_1 c50_2 c50_3 c50_4 c50_5 z50
  obtain ⟨c51_0, c51_1, c51_2, c51_3, c51_4, c51_5, z51⟩ := S.out.six (w.heap.size + 1 + 1 + 1) 25 (.int .i64 (q 0)) (.int .i64 (q 1)) (.int .i64 (q 2)) (.int .i64 (q 3)) (.int .i64 (q 4)) (.int .i64 (q 5)) (List.mem_cons_of_mem _ (List.mem_cons_of_mem _ List.mem_cons_self))
  obtain ⟨c52_0, c52_1, c52_2, c52_3, c52_4, c52_5, z52⟩ := S.out.six (w.heap.size + 1 + 1) 25 (.int .i64 (p 0)) (.int .i64 (p 1)) (.int .i64 (p 2)) (.int .i64 (p 3)) (.int .i64 (p 4)) (.int .i64 (p 5)) (List.mem_cons_of_mem _ (List.mem_cons_of_mem _ (List.mem_cons_of_mem _ List.mem_cons_self)))
  go_wp2_with fail
  refine (K2.out _).mono ?_
  rintro e w18 ⟨rfl, hb⟩
  replace S := Bx.mk (S.out.call hb)
  clear hb
  clear c51_0 c51_1 c51_2 c51_3 c51_4 c51_5 z51 c52_0 c52_1 c52_2 c52_3 c52_4 c52_5 z52
  go_wp2_with fail
  go_ret
  exact ⟨rfl, S.out.bl⟩
end Go.Proofs.YtdlfnonlalkjdaaDoor

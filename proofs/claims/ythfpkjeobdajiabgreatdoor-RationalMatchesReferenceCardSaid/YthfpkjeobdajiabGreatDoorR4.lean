/- nearest; between; simplest. -/
import Derived.Test.YthfpkjeobdajiabGreatDoorR3
namespace Go.Proofs.YthfpkjeobdajiabGreatDoor
open Go.RowKit M
theorem kc {B : Nat} {w w' : World} {p : Addr} {v : Value} (h : Below B w w') (hc : w.cell? p = some v) (hp : p.block < B) : w'.cell? p = some v := by rw [h.cell hp, hc]
theorem kf {B : Nat} {w w' : World} {p : Addr} (h : Below B w w') (hc : w.frozen? p = false) (hp : p.block < B) : w'.frozen? p = false := by rw [h.frozen hp, hc]
theorem nbs_bd {A D m : Int} {l h : Side} (H : NbS A D m l h) (hb : BdQ A D) (hm : m < D) (hc : Int.gcd A D = 1) : BdS l ∧ BdS h := by
  have b := H.nb.bounds hc hm hb.lo hb.hi
  have s := H.nb.sum
  have l1 := H.nb.l1
  have l2 := H.nb.h1
  have l3 := H.nb.lm
  have l4 := H.nb.hm
  have o1 := H.nb.lo
  have o2 := H.nb.hi
  have e1 := H.lo
  have e2 := H.ho
  have t := hb.top
  rw [← e1, ← e2] at s
  rw [← e1] at o1
  rw [← e2] at o2
  have g1 := Int.mul_le_mul_of_nonneg_left l2 (show 0 ≤ l.off by omega)
  have g2 := Int.mul_le_mul_of_nonneg_left l1 (show 0 ≤ h.off by omega)
  exact ⟨⟨b.1.1, b.1.2, l1, by omega, o1, by omega⟩, ⟨b.2.1, b.2.2, l2, by omega, o2, by omega⟩⟩
/-- The two sides in memory. -/
structure Sides (A D : Int) (k B : Nat) (l h : Side) (w : World) : Prop where
  a0 : w.cell? ⟨k, 0, none⟩ = some (.int .i64 A)
  a1 : w.cell? ⟨k, 1, none⟩ = some (.int .i64 D)
  l0 : w.cell? ⟨B, 0, none⟩ = some (.int .i64 l.n)
  l1 : w.cell? ⟨B, 1, none⟩ = some (.int .i64 l.d)
  l2 : w.cell? ⟨B, 2, none⟩ = some (.int .i64 l.off)
  h0 : w.cell? ⟨B + 1, 0, none⟩ = some (.int .i64 h.n)
  h1 : w.cell? ⟨B + 1, 1, none⟩ = some (.int .i64 h.d)
  h2 : w.cell? ⟨B + 1, 2, none⟩ = some (.int .i64 h.off)
  fl0 : w.frozen? ⟨B, 0, none⟩ = false
  fl1 : w.frozen? ⟨B, 1, none⟩ = false
  fl2 : w.frozen? ⟨B, 2, none⟩ = false
  fh0 : w.frozen? ⟨B + 1, 0, none⟩ = false
  fh1 : w.frozen? ⟨B + 1, 1, none⟩ = false
  fh2 : w.frozen? ⟨B + 1, 2, none⟩ = false
  z0 : w.cell? ⟨k + 1, 0, none⟩ = some (.int .i64 0)
  z1 : w.cell? ⟨k + 1, 1, none⟩ = some (.int .i64 0)
  fz0 : w.frozen? ⟨k + 1, 0, none⟩ = false
  fz1 : w.frozen? ⟨k + 1, 1, none⟩ = false
theorem Sides.keep {A D : Int} {k B C : Nat} {l h : Side} {w w' : World} (H : Sides A D k B l h w) (hb : Below C w w') (hk : k + 1 < C) (hB : B + 1 < C) : Sides A D k B l h w' :=
  ⟨kc hb H.a0 (by show k < C; omega), kc hb H.a1 (by show k < C; omega), kc hb H.l0 (by show B < C; omega), kc hb H.l1 (by show B < C; omega), kc hb H.l2 (by show B < C; omega), kc hb H.h0 hB, kc hb H.h1 hB, kc hb H.h2 hB,
   kf hb H.fl0 (by show B < C; omega), kf hb H.fl1 (by show B < C; omega), kf hb H.fl2 (by show B < C; omega), kf hb H.fh0 hB, kf hb H.fh1 hB, kf hb H.fh2 hB, kc hb H.z0 hk, kc hb H.z1 hk, kf hb H.fz0 hk, kf hb H.fz1 hk⟩
theorem Sides.low {A D : Int} {k B : Nat} {l h : Side} {w : World} (H : Sides A D k B l h w) (hk : k + 1 < B) (s : Side) :
    Sides A D k B s h (((w.setCell ⟨B, 0, none⟩ (.int .i64 s.n)).setCell ⟨B, 1, none⟩ (.int .i64 s.d)).setCell ⟨B, 2, none⟩ (.int .i64 s.off)) := by
  obtain ⟨s0, s1, s2, s3, s4, s5, s6, s7, s8, s9, s10, s11, s12, s13, s14, s15, s16, s17⟩ := H
  have hne : k ≠ B := by omega
  have hne2 : k + 1 ≠ B := by omega
  constructor <;> simp [go_sem, *]
theorem Sides.high {A D : Int} {k B : Nat} {l h : Side} {w : World} (H : Sides A D k B l h w) (hk : k + 1 < B) (s : Side) :
    Sides A D k B l s (((w.setCell ⟨B + 1, 0, none⟩ (.int .i64 s.n)).setCell ⟨B + 1, 1, none⟩ (.int .i64 s.d)).setCell ⟨B + 1, 2, none⟩ (.int .i64 s.off)) := by
  obtain ⟨s0, s1, s2, s3, s4, s5, s6, s7, s8, s9, s10, s11, s12, s13, s14, s15, s16, s17⟩ := H
  have hne : k ≠ B + 1 := by omega
  have hne2 : ¬ k = B := by omega
  have hne' : k ≠ B := by omega
  constructor <;> simp [go_sem, *]
theorem nearest_same (A D m : Int) (w : World) (h : D ≤ m) : Calls Tryz.prog 44 #[RV A D, .int .i64 m] w fun e w' => e = .returned (RV A D) ∧ Below w.heap.size w w' := by
  go_enter Tryz.func44, Tryz.ntmps44
  go_wp2
  (try simp only [Exit.inBlock, Exit.then])
  refine bodyPost_ret_by (v := RV A D) (by simp [results, Tryz.results44, go_sem]) rfl ?_
  exact ⟨rfl, by repeat (first | exact Below.refl _ _ | apply below_drewN | refine Below.setCell ?_ (by simp <;> omega) _ | refine Below.alloc ?_ (by simp <;> omega) _)⟩
theorem nearest_off (A D m : Int) (w : World) (hb : BdQ A D) (h1 : 1 ≤ m) (h : m < D) (hc : Int.gcd A D = 1) : Calls Tryz.prog 44 #[RV A D, .int .i64 m] w fun e w' => ∃ x y, nearP A D m x y ∧ e = .returned (RV x y) ∧ Below w.heap.size w w' := by
  have HF := Bx.mk (fun w => floor_any A D w hb)
  have hb' := hb
  obtain ⟨b1, b2, b3, b4⟩ := hb
  have N0 := NbS.first (show 1 < D by omega) hc h1
  obtain ⟨q, hq⟩ : ∃ q, A / D = q := ⟨_, rfl⟩
  rw [hq] at N0 HF
  obtain ⟨bl, bh⟩ := nbs_bd N0 hb' h hc
  obtain ⟨x, hx⟩ : ∃ x, q * D = x := ⟨_, rfl⟩
  obtain ⟨y, hy⟩ : ∃ y, (q + 1) * D = y := ⟨_, rfl⟩
  have hxy : y = x + D := by rw [← hx, ← hy, Int.add_mul]; omega
  simp only [hx, hy] at N0 bl bh
  obtain ⟨q1, q2, _, _, q3, q4⟩ := bl
  obtain ⟨q5, q6, _, _, q7, q8⟩ := bh
  simp only at q1 q2 q3 q4 q5 q6 q7 q8
  have HC := Bx.mk hc
  have HB := Bx.mk hb'
  have HN := Bx.mk N0
  clear hc hb' N0 hq
  go_enter Tryz.func44, Tryz.ntmps44
  go_wp2_with fail
  refine (HF.out _).mono ?_
  rintro e w2 ⟨rfl, hb2⟩
  have k0 : w2.cell? ⟨w.heap.size, 0, none⟩ = some (.int .i64 A) := kc hb2 (by simp [go_sem]) (by simp <;> omega)
  have k1 : w2.cell? ⟨w.heap.size, 1, none⟩ = some (.int .i64 D) := kc hb2 (by simp [go_sem]) (by simp <;> omega)
  have k2 : w2.cell? ⟨w.heap.size + 1, 0, none⟩ = some (.int .i64 0) := kc hb2 (by simp [go_sem]) (by simp <;> omega)
  have k3 : w2.cell? ⟨w.heap.size + 1, 1, none⟩ = some (.int .i64 0) := kc hb2 (by simp [go_sem]) (by simp <;> omega)
  have k4 : w2.frozen? ⟨w.heap.size + 1, 0, none⟩ = false := kf hb2 (by simp [go_sem]) (by simp <;> omega)
  have k5 : w2.frozen? ⟨w.heap.size + 1, 1, none⟩ = false := kf hb2 (by simp [go_sem]) (by simp <;> omega)
  have hlt2 : w.heap.size + 1 < w2.heap.size := by have := hb2.size; simp at this; omega
  have hsz : w.heap.size + 2 ≤ w2.heap.size := by simpa using hb2.size
  have HW : Below w.heap.size w w2 := Below.trans (b := (w.alloc (.cells #[.int .i64 A, .int .i64 D] 23)).alloc (.cells #[.int .i64 0, .int .i64 0] 23)) (by repeat (first | exact Below.refl _ _ | apply below_drewN | refine Below.setCell ?_ (by simp <;> omega) _ | refine Below.alloc ?_ (by simp <;> omega) _)) (hb2.mono (by simp <;> omega))
  have hlt : w.heap.size < w2.heap.size := by omega
  have HW := Bx.mk HW
  clear hb2 HF
  go_wp2_with fail
  obtain ⟨B, hB⟩ : ∃ B, B = w2.heap.size := ⟨_, rfl⟩
  go_loopw [] (fun wr => ∃ l h : Side, Bx (NbS A D m l h) ∧ Bx (Sides A D w.heap.size B l h wr) ∧ B + 2 ≤ wr.heap.size ∧ Bx (Below w.heap.size w wr)) (fun wr => ((2 * m) - intOf ((wr.cell? ⟨B, 1, none⟩).getD undef) - intOf ((wr.cell? ⟨B + 1, 1, none⟩).getD undef)).toNat)
  case atStart =>
    subst hxy
    refine ⟨⟨q, 1, A - x⟩, ⟨q + 1, 1, x + D - A⟩, HN, Bx.mk ?_, by simp <;> omega, Bx.mk ?_⟩
    · subst hB
      constructor <;> simp [go_sem, World.cell?_alloc_past, World.frozen?_alloc_past, hlt, hlt2, k0, k1, k2, k3, k4, k5]
    · exact ((HW.out).alloc (by omega) _).alloc (by simp <;> omega) _
  case round =>
    obtain ⟨l, h', HN, HS, hwz, HWB⟩ := hrel
    have hw1 : w.heap.size + 1 < B := by omega
    have hw0 : w.heap.size < B := by omega
    subst hB
    clear k0 k1 k2 k3 k4 k5 hlt2 hx hxy q1 q2 q3 q4 q5 q6 q7 q8 hlt hsz HW
    obtain ⟨s0, s1, s2, s3, s4, s5, s6, s7, s8, s9, s10, s11, s12, s13, s14, s15, s16, s17⟩ := HS.out
    obtain ⟨Bl, Bh⟩ := nbs_bd HN.out HB.out h HC.out
    have e1 := Bl.d1
    have e2 := Bl.d2
    have e3 := Bh.d1
    have e4 := Bh.d2
    by_cases hle : l.d + h'.d ≤ m
    · have N1 := HN.out.low HC.out h
      have N2 := N1.high HC.out h
      have C1 := nbs_bd N1 HB.out h HC.out
      have C2 := nbs_bd N2 HB.out h HC.out
      have HG := Bx.mk (HN.out.grows HC.out h hle)
      have T1 := Bx.mk (fun w => toward_any l h' m w Bl Bh h1 (by omega) HN.out.nb.lm ⟨C1.1.n1, C1.1.n2⟩)
      have T2 := Bx.mk (fun w => toward_any h' (toward l h' m) m w Bh C1.1 h1 (by omega) HN.out.nb.hm ⟨C2.2.n1, C2.2.n2⟩)
      have hm1 := N2.nb.lm
      have hm2 := N2.nb.hm
      have N2 := Bx.mk N2
      clear C1 C2 N1 Bl Bh
      generalize toward l h' m = l1 at *
      generalize toward h' l1 m = h2 at *
      go_wp2_with fail
      refine (T1.out _).mono ?_
      rintro e w3 ⟨rfl, hb3⟩
      have S3 := HS.out.keep hb3 (by omega) (by omega)
      have z3 := hb3.size
      have S4 := Bx.mk (S3.low hw1 l1)
      have HB3 := Bx.mk ((HWB.out.trans (hb3.mono (HWB.out.size))))
      obtain ⟨r0, r1, r2, r3, r4, r5, r6, r7, r8, r9, r10, r11, r12, r13, r14, r15, r16, r17⟩ := S3
      clear s0 s1 s2 s3 s4 s5 s6 s7 s8 s9 s10 s11 s12 s13 s14 s15 s16 s17 hb3
      go_wp2_with fail
      refine (T2.out _).mono ?_
      rintro e w5 ⟨rfl, hb5⟩
      have S5 := S4.out.keep hb5 (by simp <;> omega) (by simp <;> omega)
      have z5 : w3.heap.size ≤ w5.heap.size := by simpa using hb5.size
      have S6 := Bx.mk (S5.high hw1 h2)
      have HB5 := Bx.mk (((((HB3.out.setCell (p := ⟨w2.heap.size, 0, none⟩) (by show _ ≤ w2.heap.size; omega) (.int .i64 l1.n)).setCell (p := ⟨w2.heap.size, 1, none⟩) (by show _ ≤ w2.heap.size; omega) (.int .i64 l1.d)).setCell (p := ⟨w2.heap.size, 2, none⟩) (by show _ ≤ w2.heap.size; omega) (.int .i64 l1.off)).trans (hb5.mono (by simp <;> (have := HB3.out.size; omega)))))
      obtain ⟨r0, r1, r2, r3, r4, r5, r6, r7, r8, r9, r10, r11, r12, r13, r14, r15, r16, r17⟩ := S5
      clear hb5
      go_wp2_with fail
      refine ⟨⟨l1, h2, N2, S6, by simp <;> omega, Bx.mk ?_⟩, ?_⟩
      · exact ((HB5.out.setCell (by show _ ≤ w2.heap.size + 1; omega) _).setCell (by show _ ≤ w2.heap.size + 1; omega) _).setCell (by show _ ≤ w2.heap.size + 1; omega) _
      · have g1 := S6.out.l1
        have g2 := S6.out.h1
        have g3 := HS.out.l1
        have g4 := HS.out.h1
        have g5 := HG.out
        rw [g1, g2, g3, g4]
        simp only [Option.getD_some, intOf]
        omega
    · have e := HN.out
      have hR : nearP A D m (nearer l h').1 (nearer l h').2 := .inr ⟨h, l, h', e, by omega, rfl⟩
      have T := Bx.mk (fun w => nearer_any l h' w Bl Bh)
      have hR := Bx.mk hR
      clear e
      go_wp2_with fail
      refine (T.out _).mono ?_
      rintro e w3 ⟨rfl, hb3⟩
      have HB3 := Bx.mk ((HWB.out.trans (hb3.mono (HWB.out.size))))
      have S3 := HS.out.keep hb3 (by omega) (by omega)
      obtain ⟨r0, r1, r2, r3, r4, r5, r6, r7, r8, r9, r10, r11, r12, r13, r14, r15, r16, r17⟩ := S3
      clear s0 s1 s2 s3 s4 s5 s6 s7 s8 s9 s10 s11 s12 s13 s14 s15 s16 s17 hb3
      go_wp2_with fail
      (try simp only [Exit.inBlock, Exit.then])
      refine bodyPost_ret_by (v := RV (nearer l h').1 (nearer l h').2) (by simp [results, Tryz.results44, go_sem, *]) rfl ?_
      exact ⟨_, _, hR.out, rfl, (HB3.out.setCell (by show _ ≤ w.heap.size + 1; omega) _).setCell (by show _ ≤ w.heap.size + 1; omega) _⟩
end Go.Proofs.YthfpkjeobdajiabGreatDoor

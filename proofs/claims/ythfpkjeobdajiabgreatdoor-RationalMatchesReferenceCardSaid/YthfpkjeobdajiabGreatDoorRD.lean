/- the reference's Near. -/
import Derived.Test.YthfpkjeobdajiabGreatDoorRB
import Derived.Test.YthfpkjeobdajiabGreatDoorRN
namespace Go.Proofs.YthfpkjeobdajiabGreatDoor
open Go.RowKit M
theorem Plc.drewN {w : World} {k : Nat} (h : Plc w k) (n : Nat) : Plc (w.drewN n) k := by
  obtain ⟨p0, p1, p2, p3, p4⟩ := h
  constructor <;> simp [go_sem, *]
set_option maxRecDepth 20000 in
set_option maxHeartbeats 4000000 in
theorem refNear_walk (A D m : Int) (w : World) (hv : validQ A D = true) (h1 : 1 ≤ m) (hm : m ≤ 1000000000) (hmD : m < D) : Calls Tryz.prog 18 #[RV A D, .int .i64 m] w (fun e w' => ∃ x y, nearP A D m x y ∧ OutR ⟨x, y, 0⟩ w e w') := by
  obtain ⟨b1, b2, b3, b4⟩ := validQ_bd _ _ hv
  have HF := Bx.mk (fun w => refFloor_any A D w ⟨by omega, by omega⟩ ⟨by omega, by omega⟩)
  have HC := Bx.mk (show Int.gcd A D = 1 from validQ_gcd hv)
  rw [show floorQ A D = (A / D, 0) from by simp [floorQ, hv]] at HF
  obtain ⟨f, hf⟩ : ∃ f, A / D = f := ⟨_, rfl⟩
  rw [hf] at HF
  obtain ⟨r, hr⟩ : ∃ r, A - f * D = r := ⟨_, rfl⟩
  have em := Int.mul_ediv_add_emod A D
  have r0 := Int.emod_nonneg A (show D ≠ 0 by omega)
  have r1 := Int.emod_lt_of_pos A (show 0 < D by omega)
  rw [hf, Int.mul_comm] at em
  have r2 : 0 ≤ r := by omega
  have r3 : r < D := by omega
  have f0 : -1000000000 ≤ f := by rw [← hf]; exact (Int.le_ediv_iff_mul_le (by omega)).2 (by omega)
  have f1 : f ≤ 1000000000 := by
    have : f < 1000000001 := by rw [← hf]; exact (Int.ediv_lt_iff_lt_mul (by omega)).2 (by omega)
    omega
  have g1 : -1000000000000000001 ≤ f * D := by omega
  have g2 : f * D ≤ 1000000000 := by omega
  have HC' := Bx.mk (show Int.gcd r D = 1 from by rw [← hr]; exact gcd_shift HC.out)
  have N0 := Bx.mk (show Nb r D m 0 1 1 1 from by
    have := Nb.first (show 1 < D by omega) HC'.out h1
    rwa [Int.ediv_eq_zero_of_lt r2 r3] at this)
  have HA := Bx.mk (show A = f * D + r by omega)
  have HA' := Bx.mk (show r = A - f * D by omega)
  have HV := Bx.mk hv
  have hW : Below w.heap.size w ((w.alloc (.cells #[.int .i64 A, .int .i64 D] 23)).alloc (.cells #[.int .i64 0, .int .i64 0] 23)) := by repeat (first | exact Below.refl _ _ | apply below_drewN | refine Below.setCell ?_ (by simp <;> omega) _ | refine Below.alloc ?_ (by simp <;> omega) _)
  have K1 : Cap ((w.alloc (.cells #[.int .i64 A, .int .i64 D] 23)).alloc (.cells #[.int .i64 0, .int .i64 0] 23)) w.heap.size A D := ⟨by simp <;> omega, by simp [go_sem], by simp [go_sem]⟩
  have P : Plc ((w.alloc (.cells #[.int .i64 A, .int .i64 D] 23)).alloc (.cells #[.int .i64 0, .int .i64 0] 23)) (w.heap.size + 1) := ⟨by simp <;> omega, by simp [go_sem], by simp [go_sem], by simp [go_sem], by simp [go_sem]⟩
  clear hf em r0 r1 hv
  go_enter Tryz.func18, Tryz.ntmps18
  go_wp2_with fail
  refine (HF.out _).mono ?_
  rintro e w2 ⟨rfl, hb⟩
  have hB := Bx.mk (hW.trans (hb.mono hW.size))
  have K1 := K1.keep hb
  have P := P.keep hb
  clear hb hW HF
  obtain ⟨k0, k1, k2⟩ := id K1
  go_wp2_with fail
  go_loopw [9, 10, 11, 12] (fun a b c d wr => ∃ lp lq hp hq : Int, a = .int .i64 lp ∧ b = .int .i64 lq ∧ c = .int .i64 hp ∧ d = .int .i64 hq ∧ Bx (Nb r D m lp lq hp hq) ∧ Quiet w2 wr) (fun _ b _ d _ => ((2 * m) - intOf b - intOf d).toNat)
  case atStart => exact ⟨0, 1, 1, 1, rfl, rfl, rfl, rfl, N0, Quiet.refl w2⟩
  case round =>
    clear N0 hr g1 g2
    obtain ⟨lp, lq, hp, hq, rfl, rfl, rfl, rfl, HN, nq, rfl⟩ := hrel
    have N := HN.out
    have hC := HC'.out
    have B := N.bounds (B := 1000000000) hC hmD (by omega) (by omega)
    obtain ⟨⟨l1, l2⟩, l3, l4⟩ := B
    have l5 := N.l1
    have l6 := N.lm
    have l7 := N.h1
    have l8 := N.hm
    have o1 := N.lo
    have o2 := N.hi
    have x1 := prod_bd (show -1000000000 ≤ r by omega) (show r ≤ 1000000000 by omega) (show -1000000000 ≤ lq by omega) (show lq ≤ 1000000000 by omega)
    have x2 := prod_bd l1 l2 (show -1000000000 ≤ D by omega) (show D ≤ 1000000000 by omega)
    have x3 := prod_bd l3 l4 (show -1000000000 ≤ D by omega) (show D ≤ 1000000000 by omega)
    have x4 := prod_bd (show -1000000000 ≤ r by omega) (show r ≤ 1000000000 by omega) (show -1000000000 ≤ hq by omega) (show hq ≤ 1000000000 by omega)
    have T := rtimes_bounds o1 o2 l6 l7
    have N1 := N.low hC hmD T.1 T.2.1 T.2.2
    have S1 := N.stop hC hmD
    obtain ⟨up, e1⟩ : ∃ z, r * lq - lp * D = z := ⟨_, rfl⟩
    obtain ⟨dn, e2⟩ : ∃ z, hp * D - r * hq = z := ⟨_, rfl⟩
    rw [e1, e2] at T N1 S1
    rw [e1] at o1
    rw [e2] at o2
    obtain ⟨t, ht⟩ : ∃ t, rtimes up dn lq hq m = t := ⟨_, rfl⟩
    rw [ht] at T N1 S1
    obtain ⟨t0, t1, t2⟩ := T
    have t3 : t ≤ 1000000000 := by
      have := Int.mul_le_mul_of_nonneg_left l7 t0; omega
    have x5 := prod_bd (show -1000000000 ≤ t by omega) t3 l3 l4
    have x6 : 0 ≤ t * hq := Int.mul_nonneg t0 (by omega)
    obtain ⟨lp', e3⟩ : ∃ z, lp + t * hp = z := ⟨_, rfl⟩
    obtain ⟨lq', e4⟩ : ∃ z, lq + t * hq = z := ⟨_, rfl⟩
    rw [e3, e4] at N1
    have B' := N1.bounds (B := 1000000000) hC hmD (by omega) (by omega)
    obtain ⟨⟨m1, m2⟩, -, -⟩ := B'
    have m5 := N1.l1
    have m6 := N1.lm
    have o3 := N1.lo
    have x7 := prod_bd (show -1000000000 ≤ r by omega) (show r ≤ 1000000000 by omega) (show -1000000000 ≤ lq' by omega) (show lq' ≤ 1000000000 by omega)
    have x8 := prod_bd m1 m2 (show -1000000000 ≤ D by omega) (show D ≤ 1000000000 by omega)
    obtain ⟨up', e5⟩ : ∃ z, r * lq' - lp' * D = z := ⟨_, rfl⟩
    have T' := rtimes_bounds (o1 := hp * D - r * hq) (o2 := r * lq' - lp' * D) N1.hi N1.lo N1.hm N1.l1
    have N2 := N1.high hC hmD T'.1 T'.2.1 T'.2.2
    rw [e2, e5] at T' N2
    rw [e5] at o3
    obtain ⟨t', ht'⟩ : ∃ t, rtimes dn up' hq lq' m = t := ⟨_, rfl⟩
    rw [ht'] at T' N2
    obtain ⟨s0, s1, s2⟩ := T'
    have s3 : t' ≤ 1000000000 := by
      have := Int.mul_le_mul_of_nonneg_left m5 s0; omega
    have x9 := prod_bd (show -1000000000 ≤ t' by omega) s3 m1 m2
    have x10 : 0 ≤ t' * lq' := Int.mul_nonneg s0 (by omega)
    obtain ⟨hp', e6⟩ : ∃ z, hp + t' * lp' = z := ⟨_, rfl⟩
    obtain ⟨hq', e7⟩ : ∃ z, hq + t' * lq' = z := ⟨_, rfl⟩
    rw [e6, e7] at N2
    have B'' := N2.bounds (B := 1000000000) hC hmD (by omega) (by omega)
    obtain ⟨-, n1, n2⟩ := B''
    have n5 := N2.h1
    have n6 := N2.hm
    have st : t = 0 → t' = 0 → m < lq' + hq' := by
      intro z z'
      subst z
      simp only [Int.zero_mul, Int.add_zero] at e3 e4
      subst e3 e4
      rw [e1] at e5
      subst e5
      have := S1 (by omega) (by omega)
      omega
    have gr : ¬ (t = 0 ∧ t' = 0) → lq + hq < lq' + hq' := by
      intro h
      have a1 := Int.mul_le_mul_of_nonneg_left l7 t0
      have a2 := Int.mul_le_mul_of_nonneg_left m5 s0
      omega
    have x11 := prod_bd n1 n2 (show -1000000000 ≤ D by omega) (show D ≤ 1000000000 by omega)
    have x12 := prod_bd (show -1000000000 ≤ r by omega) (show r ≤ 1000000000 by omega) (show -1000000000 ≤ hq' by omega) (show hq' ≤ 1000000000 by omega)
    have x13 := prod_bd f0 f1 (show -1000000000 ≤ lq' by omega) (show lq' ≤ 1000000000 by omega)
    have x14 := prod_bd f0 f1 (show -1000000000 ≤ hq' by omega) (show hq' ≤ 1000000000 by omega)
    have sm := N2.sum
    have N3 : Nb A D m (f * lq' + lp') lq' (f * hq' + hp') hq' := Nb.shift (by rw [← HA'.out]; exact N2)
    have o4 := N2.hi
    obtain ⟨dn', e8⟩ : ∃ z, hp' * D - r * hq' = z := ⟨_, rfl⟩
    rw [e5, e8] at sm
    rw [e8] at o4
    have y1 : 0 < up' * hq' := Int.mul_pos (by omega) (by omega)
    have y2 : 0 < dn' * lq' := Int.mul_pos (by omega) (by omega)
    have B3 := N3.bounds (B := 1000000000) HC.out hmD (by omega) (by omega)
    have HPL := Bx.mk (fun (hs : m < lq' + hq') (hc : up' * hq' < dn' * lq' ∨ up' * hq' = dn' * lq' ∧ lq' ≤ hq') => (show nearP A D m (f * lq' + lp') lq' from .inr ⟨hmD, ⟨f * lq' + lp', lq', up'⟩, ⟨f * hq' + hp', hq', dn'⟩, ⟨N3, by have := HA.out; grind, by have := HA.out; grind⟩, hs, by simp only [nearer]; rw [if_pos hc]⟩))
    have HPH := Bx.mk (fun (hs : m < lq' + hq') (hc : ¬ (up' * hq' < dn' * lq' ∨ up' * hq' = dn' * lq' ∧ lq' ≤ hq')) => (show nearP A D m (f * hq' + hp') hq' from .inr ⟨hmD, ⟨f * lq' + lp', lq', up'⟩, ⟨f * hq' + hp', hq', dn'⟩, ⟨N3, by have := HA.out; grind, by have := HA.out; grind⟩, hs, by simp only [nearer]; rw [if_neg hc]⟩))
    have HML := Bx.mk (fun w => refMake_any (f * lq' + lp') lq' ⟨f * lq' + lp', lq', 0⟩ w ⟨by omega, by omega⟩ ⟨by omega, by omega⟩ (makeQ_self (validQ_of ⟨B3.1.1, B3.1.2, by omega, by omega⟩ N3.cop_low)))
    have HMH := Bx.mk (fun w => refMake_any (f * hq' + hp') hq' ⟨f * hq' + hp', hq', 0⟩ w ⟨by omega, by omega⟩ ⟨by omega, by omega⟩ (makeQ_self (validQ_of ⟨B3.2.1, B3.2.2, by omega, by omega⟩ N3.cop_high)))
    obtain ⟨X, eX⟩ : ∃ z, f * lq' + lp' = z := ⟨_, rfl⟩
    obtain ⟨Y, eY⟩ : ∃ z, f * hq' + hp' = z := ⟨_, rfl⟩
    obtain ⟨c1, ec1⟩ : ∃ z, up' * hq' = z := ⟨_, rfl⟩
    obtain ⟨c2, ec2⟩ : ∃ z, dn' * lq' = z := ⟨_, rfl⟩
    rw [eX] at HPL HML
    rw [eY] at HPH HMH
    rw [ec1, ec2] at HPL HPH sm
    rw [ec1] at y1
    rw [ec2] at y2
    have z5 : ∃ b : Bool, (t == 0) = b ∧ ∃ b' : Bool, (t' == 0) = b' ∧ ((b = true ∧ b' = true ∧ t = 0 ∧ t' = 0) ∨ ((b = false ∨ b' = false) ∧ ¬ (t = 0 ∧ t' = 0))) := by
      refine ⟨_, rfl, _, rfl, ?_⟩
      by_cases ha : t = 0 <;> by_cases hb : t' = 0 <;> simp [ha, hb]
    obtain ⟨bt, z5, bt', z6, z7⟩ := z5
    have z7 := Bx.mk z7
    clear B3 N3
    have N2 := Bx.mk N2
    have st := Bx.mk st
    have gr := Bx.mk gr
    clear S1 N1 N HN hC
    have u0 : 0 ≤ (up - 1) / dn := Int.ediv_nonneg (by omega) (by omega)
    have v0 : 0 ≤ (m - lq) / hq := Int.ediv_nonneg (by omega) (by omega)
    have u0' : 0 ≤ (dn - 1) / up' := Int.ediv_nonneg (by omega) (by omega)
    have v0' : 0 ≤ (m - hq) / lq' := Int.ediv_nonneg (by omega) (by omega)
    unfold rtimes at ht ht'
    obtain ⟨u, q1⟩ : ∃ u, (up - 1) / dn = u := ⟨_, rfl⟩
    obtain ⟨v, q2⟩ : ∃ u, (m - lq) / hq = u := ⟨_, rfl⟩
    obtain ⟨u', q3⟩ : ∃ u, (dn - 1) / up' = u := ⟨_, rfl⟩
    obtain ⟨v', q4⟩ : ∃ u, (m - hq) / lq' = u := ⟨_, rfl⟩
    have z1 : (dn == 0) = false := beq_eq_false_iff_ne.2 (by omega)
    have z2 : (hq == 0) = false := beq_eq_false_iff_ne.2 (by omega)
    have z3 : (up' == 0) = false := beq_eq_false_iff_ne.2 (by omega)
    have z4 : (lq' == 0) = false := beq_eq_false_iff_ne.2 (by omega)
    rw [q1] at u0 ht
    rw [q2] at v0 ht
    rw [q3] at u0' ht'
    rw [q4] at v0' ht'
    have u9 : u ≤ 2000000000000000000 := by rw [← q1]; have := Int.ediv_le_self dn (show 0 ≤ up - 1 by omega); omega
    have v9 : v ≤ 2000000000000000000 := by rw [← q2]; have := Int.ediv_le_self hq (show 0 ≤ m - lq by omega); omega
    have u9' : u' ≤ 2000000000000000000 := by rw [← q3]; have := Int.ediv_le_self up' (show 0 ≤ dn - 1 by omega); omega
    have v9' : v' ≤ 2000000000000000000 := by rw [← q4]; have := Int.ediv_le_self lq' (show 0 ≤ m - hq by omega); omega
    all_goals
      go_wp2_with fail
      go_quiet (fail)
      go_wp2_with fail
      go_quiet (fail)
      cases bt
      · go_wp2_with fail
        refine ⟨⟨lp', lq', hp', hq', rfl, rfl, rfl, rfl, N2, by repeat (first | exact Quiet.refl w2 | apply Quiet.drewN)⟩, ?_⟩
        have := gr.out (by rcases z7.out with h | h <;> simp_all)
        simp only [intOf]
        omega
      cases bt'
      · go_wp2_with fail
        refine ⟨⟨lp', lq', hp', hq', rfl, rfl, rfl, rfl, N2, by repeat (first | exact Quiet.refl w2 | apply Quiet.drewN)⟩, ?_⟩
        have := gr.out (by rcases z7.out with h | h <;> simp_all)
        simp only [intOf]
        omega
      have hs : m < lq' + hq' := by rcases z7.out with h | h <;> simp_all
      have HPL := Bx.mk (HPL.out hs)
      have HPH := Bx.mk (HPH.out hs)
      have hp0 := P.lt
      clear z7 gr st N2 HC HC' HA HA' HV
      rcases Int.lt_trichotomy c1 c2 with hc | hc | hc
      · go_wp2_with fail
        refine (HML.out _).mono ?_
        rintro e w3 ⟨rfl, hb⟩
        have HB3 : Below w.heap.size w w3 := Below.trans (by repeat (first | exact hB.out | apply below_drewN)) (hb.mono (by simpa using hB.out.size))
        have P3 := Plc.keep (by repeat (first | exact P | apply Plc.drewN)) hb
        obtain ⟨p0, p1, p2, p3, p4⟩ := P3
        have hB := Bx.mk HB3
        clear hb HB3
        go_wp2
        (try simp only [Exit.inBlock, Exit.then])
        refine bodyPost_ret_by (v := .tuple #[RV X lq', .int .i64 0]) (by simp [results, Tryz.results18, go_sem, p0, p1, p2]) rfl ?_
        exact ⟨X, lq', HPL.out (.inl hc), rfl, by repeat (first | exact hB.out | apply below_drewN | refine Below.setCell ?_ (by first | omega | (simp <;> omega)) _ | refine Below.alloc ?_ (by first | omega | (simp <;> omega)) _)⟩
      · have hc' : (c1 == c2) = true := beq_iff_eq.2 hc
        have HQ := Bx.mk hc
        clear hc
        have hc2 : ¬ c1 < c2 := by have := HQ.out; omega
        rcases Int.lt_or_le hq' lq' with hd | hd
        · go_wp2_with fail
          refine (HMH.out _).mono ?_
          rintro e w3 ⟨rfl, hb⟩
          have HB3 : Below w.heap.size w w3 := Below.trans (by repeat (first | exact hB.out | apply below_drewN)) (hb.mono (by simpa using hB.out.size))
          have P3 := Plc.keep (by repeat (first | exact P | apply Plc.drewN)) hb
          obtain ⟨p0, p1, p2, p3, p4⟩ := P3
          have hB := Bx.mk HB3
          clear hb HB3
          go_wp2
          (try simp only [Exit.inBlock, Exit.then])
          refine bodyPost_ret_by (v := .tuple #[RV Y hq', .int .i64 0]) (by simp [results, Tryz.results18, go_sem, p0, p1, p2]) rfl ?_
          exact ⟨Y, hq', HPH.out (by have := HQ.out; omega), rfl, by repeat (first | exact hB.out | apply below_drewN | refine Below.setCell ?_ (by first | omega | (simp <;> omega)) _ | refine Below.alloc ?_ (by first | omega | (simp <;> omega)) _)⟩
        · go_wp2_with fail
          refine (HML.out _).mono ?_
          rintro e w3 ⟨rfl, hb⟩
          have HB3 : Below w.heap.size w w3 := Below.trans (by repeat (first | exact hB.out | apply below_drewN)) (hb.mono (by simpa using hB.out.size))
          have P3 := Plc.keep (by repeat (first | exact P | apply Plc.drewN)) hb
          obtain ⟨p0, p1, p2, p3, p4⟩ := P3
          have hB := Bx.mk HB3
          clear hb HB3
          go_wp2
          (try simp only [Exit.inBlock, Exit.then])
          refine bodyPost_ret_by (v := .tuple #[RV X lq', .int .i64 0]) (by simp [results, Tryz.results18, go_sem, p0, p1, p2]) rfl ?_
          exact ⟨X, lq', HPL.out (.inr ⟨HQ.out, hd⟩), rfl, by repeat (first | exact hB.out | apply below_drewN | refine Below.setCell ?_ (by first | omega | (simp <;> omega)) _ | refine Below.alloc ?_ (by first | omega | (simp <;> omega)) _)⟩
      · have hc' : (c1 == c2) = false := beq_eq_false_iff_ne.2 (by omega)
        go_wp2_with fail
        refine (HMH.out _).mono ?_
        rintro e w3 ⟨rfl, hb⟩
        have HB3 : Below w.heap.size w w3 := Below.trans (by repeat (first | exact hB.out | apply below_drewN)) (hb.mono (by simpa using hB.out.size))
        have P3 := Plc.keep (by repeat (first | exact P | apply Plc.drewN)) hb
        obtain ⟨p0, p1, p2, p3, p4⟩ := P3
        have hB := Bx.mk HB3
        clear hb HB3
        go_wp2
        (try simp only [Exit.inBlock, Exit.then])
        refine bodyPost_ret_by (v := .tuple #[RV Y hq', .int .i64 0]) (by simp [results, Tryz.results18, go_sem, p0, p1, p2]) rfl ?_
        exact ⟨Y, hq', HPH.out (by omega), rfl, by repeat (first | exact hB.out | apply below_drewN | refine Below.setCell ?_ (by first | omega | (simp <;> omega)) _ | refine Below.alloc ?_ (by first | omega | (simp <;> omega)) _)⟩
end Go.Proofs.YthfpkjeobdajiabGreatDoor

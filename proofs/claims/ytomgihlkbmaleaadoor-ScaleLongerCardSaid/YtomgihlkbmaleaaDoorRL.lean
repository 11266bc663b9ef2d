/- ScaleLonger: the chains are compared. -/
import Derived.Test.YtomgihlkbmaleaaDoorQZ
namespace Go.Proofs.YtomgihlkbmaleaaDoor
open Go.RowKit M
/-- How many pitches of A were met among the first i of B. -/
def kk (d i : Nat) : Nat := if i ≤ d then i else i - 1
set_option maxRecDepth 100000 in
set_option maxHeartbeats 16000000 in
theorem slong_ok (g : Nat → Int) (w : World) (hs : Sm w) (m : Nat) (Q : Nat → Nat → Int) (h0 : 0 < m) (h1 : ¬ (m : Int) < 1) (h2 : ¬ 15 < (m : Int)) (H1 : Hx (∀ w, Sm w → Calls Tryd.prog 13 #[PV g, .int .i64 ((m : Int) + 1)] w (ChainR w (m + 1) Q))) (H2 : Hx (∀ w, Sm w → Calls Tryd.prog 13 #[PV g, .int .i64 (m)] w (ChainR w (m) Q))) :
    Calls Tryd.prog 8 #[PV g, .int .i64 m] w fun e w' => e = .returned (.bool true) ∧ Below w.heap.size w w' := by
  have S : Bx (SS w w []) := ⟨SS.start w hs⟩
  replace S := Bx.mk (S.out.push #[.int .i64 (g 0), .int .i64 (g 1), .int .i64 (g 2), .int .i64 (g 3), .int .i64 (g 4), .int .i64 (g 5)] 23)
  go_enter Tryd.func8, Tryd.ntmps8
  go_wp2_with fail
  refine (shead_any _ S.out.sm).mono ?_
  rintro e w1 ⟨rfl, hb⟩
  replace S := Bx.mk (S.out.call hb)
  clear hb
  obtain ⟨c0_0, c0_1, c0_2, c0_3, c0_4, c0_5, z0⟩ := S.out.six w.heap.size 23 (.int .i64 (g 0)) (.int .i64 (g 1)) (.int .i64 (g 2)) (.int .i64 (g 3)) (.int .i64 (g 4)) (.int .i64 (g 5)) List.mem_cons_self
  go_wp2_with fail
  refine (H1.out _ S.out.sm).mono ?_
  rintro e w2 ⟨g1, c1, N, rfl, k1, m1, CN, PN, LN, hb⟩
  replace S := Bx.mk (S.out.call hb)
  clear hb
  clear c0_0 c0_1 c0_2 c0_3 c0_4 c0_5 z0
  have HN := Bx.mk CN
  have HPN := Bx.mk PN
  have HLN := Bx.mk LN
  clear CN PN LN
  obtain ⟨c0_0, c0_1, c0_2, c0_3, c0_4, c0_5, z0⟩ := S.out.six w.heap.size 23 (.int .i64 (g 0)) (.int .i64 (g 1)) (.int .i64 (g 2)) (.int .i64 (g 3)) (.int .i64 (g 4)) (.int .i64 (g 5)) List.mem_cons_self
  go_wp2_with fail
  refine (H2.out _ S.out.sm).mono ?_
  rintro e w3 ⟨g2, c2, M, rfl, k2, m2, CM, PM, LM, hb⟩
  replace HN := Bx.mk (HN.out.keep hb)
  replace S := Bx.mk (S.out.call hb)
  clear hb
  clear c0_0 c0_1 c0_2 c0_3 c0_4 c0_5 z0
  obtain ⟨d, hd⟩ := chain_less PM HPN.out LM HLN.out
  obtain ⟨b2, o2, e2, hb2, hc2⟩ := CM (by omega)
  cases e2
  obtain ⟨b1, o1, e1, hb1, hc1⟩ := HN.out (by omega)
  cases e1
  have HL := Bx.mk HLN.out
  have HD := Bx.mk hd
  have C1 := Bx.mk hc1
  have C2 := Bx.mk hc2
  have hbl := Bx.mk S.out.bl
  have dn := hd.le
  clear HN HPN HLN CM PM LM hd hc1 hc2 S H1 H2
  obtain ⟨W, hW⟩ : ∃ W, w3 = W := ⟨_, rfl⟩
  rw [hW] at C1 C2 hb1 hb2 hbl ⊢
  have e0 : (((m + 1 : Nat) : Int) == (m : Int) + 1) = true := by simp
  go_wp2_with fail
  go_loopw [10, 57] (fun kx ix wr => ∃ i : Nat, i ≤ m + 1 ∧ kx = .int .i64 (kk d i : Nat) ∧ ix = .int .i64 i ∧ Bx (Below W.heap.size W wr)) (fun _ ix _ => m + 1 - (intOf ix).toNat)
  case atStart => exact ⟨0, by omega, by simp [kk], rfl, ⟨Below.refl _ _⟩⟩
  case round =>
    obtain ⟨i, hi, rfl, rfl, HW⟩ := hrel
    by_cases hin : i < m + 1
    · have hin' : (i : Int) < ((m + 1 : Nat) : Int) := by omega
      obtain ⟨a0, a1, a2, a3, a4, a5⟩ := row_six C1.out hb1 HW.out hin
      obtain ⟨x, hx⟩ : ∃ x, N i = x := ⟨_, rfl⟩
      rw [hx] at a0 a1 a2 a3 a4 a5
      simp only [Nat.zero_add] at a0 a1 a2 a3 a4 a5
      obtain ⟨k, hk⟩ : ∃ k, kk d i = k := ⟨_, rfl⟩
      have HKK := Bx.mk hk
      have HX := Bx.mk hx
      rw [hk]
      clear hx
      have hkd : k = if i ≤ d then i else i - 1 := by rw [← hk]; rfl
      have hki : kk d (i + 1) = if i = d then k else k + 1 := by unfold kk; rw [hkd]; have := HD.out.le; split <;> split <;> split <;> omega
      have HKI := Bx.mk hki
      by_cases hkm : k < m
      · have hkm' : (k : Int) < (m : Int) := by omega
        obtain ⟨y, hy⟩ : ∃ y, M k = y := ⟨_, rfl⟩
        have HE : i = d → ¬ ∀ j, j < 6 → y j = x j := fun e h => by
          subst e
          rw [if_pos (Nat.le_refl _)] at hkd
          have := HL.out i (i + 1) (by omega) (by omega)
          rw [← HD.out.hi i (Nat.le_refl _) (by omega)] at this
          rw [HX.out, ← hkd, hy, show sg (subV x y) = 0 from sg_zero.2 fun j hj => by simp only [subV]; rw [h j hj]; omega] at this
          omega
        have HT : i ≠ d → y = x := fun e => by
          rw [← hy, ← HX.out]
          rcases Nat.lt_or_ge i d with h | h
          · rw [if_pos (by omega)] at hkd; rw [hkd]; exact HD.out.lo i h
          · rw [if_neg (by omega)] at hkd; rw [hkd, HD.out.hi (i - 1) (by omega) (by omega)]; congr 1; omega
        have HY := Bx.mk hy
        have HE' := Bx.mk HE
        have HT' := Bx.mk HT
        clear hy HE HT hkd hki hk
        go_wp2_with fail
        clear a0 a1 a2 a3 a4 a5
        generalize hW1 : World.alloc wr _ = W1
        have b1 : Below W.heap.size W W1 := hW1 ▸ HW.out.alloc HW.out.size _
        have p1 : ∀ k, k < 6 → W1.cell? ⟨wr.heap.size, k, none⟩ = some (.int .i64 (x k)) := by
          subst hW1
          exact six (by simp) (by simp) (by simp) (by simp) (by simp) (by simp)
        have x0 := p1 0 (by omega)
        have x1 := p1 1 (by omega)
        have x2 := p1 2 (by omega)
        have x3 := p1 3 (by omega)
        have x4 := p1 4 (by omega)
        have x5 := p1 5 (by omega)
        have hb1' := Bx.mk b1
        obtain ⟨y0, y1, y2, y3, y4, y5⟩ := row_six C2.out hb2 b1 hkm
        rw [HY.out] at y0 y1 y2 y3 y4 y5
        simp only [Nat.zero_add] at y0 y1 y2 y3 y4 y5
        clear hW1 p1 b1
        by_cases hid : i = d
        · have E := eq6_is 23 und_pitch y x false ⟨(fun h => by cases h), fun h => absurd h (HE'.out hid)⟩
          unfold PV at E
          go_quiet (fail)
          go_wp2_with fail
          exact ⟨⟨i + 1, by omega, by rw [HKI.out, if_pos hid], by go_num, ⟨below_drewN hb1'.out _⟩⟩, by simp [intOf]; omega⟩
        · have E := eq6_is 23 und_pitch y x true ⟨(fun _ j _ => by rw [HT'.out hid]), fun _ => rfl⟩
          unfold PV at E
          go_quiet (fail)
          go_wp2_with fail
          exact ⟨⟨i + 1, by omega, by rw [HKI.out, if_neg hid]; go_num, by go_num, ⟨below_drewN hb1'.out _⟩⟩, by simp [intOf]; omega⟩
      · have hkm' : decide ((k : Int) < (m : Int)) = false := by simp; omega
        have hid : Bx (i = d) := ⟨by have := HD.out.le; rw [hkd] at hkm; split at hkm <;> omega⟩
        clear hkd hki hk
        go_wp2_with fail
        clear a0 a1 a2 a3 a4 a5
        generalize hW1 : World.alloc wr _ = W1
        have b1 : Below W.heap.size W W1 := hW1 ▸ HW.out.alloc HW.out.size _
        have hb1' := Bx.mk b1
        clear hW1 b1
        go_quiet (fail)
        go_wp2_with fail
        exact ⟨⟨i + 1, by omega, by rw [HKI.out, if_pos hid.out], by go_num, ⟨below_drewN hb1'.out _⟩⟩, by simp [intOf]; omega⟩
    · obtain rfl : i = m + 1 := by omega
      have e1 : kk d (m + 1) = m := by unfold kk; have := HD.out.le; split <;> omega
      rw [e1]
      go_wp2_with fail
      go_ret
      exact ⟨rfl, hbl.out.trans (HW.out.mono hbl.out.size)⟩
theorem slonger_all (g : Nat → Int) (n : Int) (hn : -9223372036854775808 ≤ n ∧ n ≤ 9223372036854775807) (w : World) (hs : Sm w) :
    Calls Tryd.prog 8 #[PV g, .int .i64 n] w fun e w' => e = .returned (.bool true) ∧ Below w.heap.size w w' := by
  by_cases h1 : n < 1
  · exact slong_lo g w hs n h1
  by_cases h2 : 15 < n
  · exact slong_hi g w hs n h1 h2
  cases chain_any g (n + 1) with
  | err c hc H => exact slong_err g w hs n c h1 h2 hc ⟨H⟩
  | ok m' Q e h0 h64 hg hok hd =>
    obtain ⟨m, rfl⟩ := Int.eq_ofNat_of_zero_le (show 0 ≤ n by omega)
    obtain rfl : m' = m + 1 := by omega
    have C := fun w hs => chain_ok g (m + 1) Q w hs hg h0 h64 hok hd
    rw [e.symm] at C
    exact slong_ok g w hs m Q (by omega) h1 h2 ⟨C⟩ ⟨fun w hs => chain_ok g m Q w hs hg (by omega) (by omega) (fun i hi => hok i (by omega)) fun i j hij hj => hd i j hij (by omega)⟩
end Go.Proofs.YtomgihlkbmaleaaDoor

/- eliminate: one row alone is left with an element above 0 in a column. -/
import Derived.Test.YtnbamjoadankmaaKD
namespace Go.Proofs.Ytnbamjoadankmaa
open Go.RowKit D
/-- What is known in the midst of a pass over the rows. -/
def Pas (n c : Nat) (d : Int) (M : Nat → Nat → Int) (l k : Nat) (a : Bool) (N : Nat → Nat → Int) : Prop :=
  Els n c d M N ∧ N l = M l ∧ (∀ i, k ≤ i → i < n → N i = M i) ∧ ((a = true ∧ N = M ∧ ∀ i, i < k → i ≠ l → M i c ≤ 0) ∨ (a = false ∧ tot N c n < tot M c n))
theorem Pas.start (n c : Nat) (d : Int) (M : Nat → Nat → Int) (l : Nat) : Pas n c d M l 0 true M := ⟨.refl, rfl, fun _ _ _ => rfl, .inl ⟨rfl, rfl, fun i hi => by omega⟩⟩
theorem Pas.skip {n c l k : Nat} {d : Int} {M N : Nat → Nat → Int} {a : Bool} (h : Pas n c d M l k a N) (hk : k = l ∨ M k c ≤ 0) : Pas n c d M l (k + 1) a N :=
  ⟨h.1, h.2.1, fun i hi => h.2.2.1 i (by omega), h.2.2.2.imp (fun ⟨h1, h2, h3⟩ => ⟨h1, h2, fun i hi hne => if e : i = k then by subst e; exact hk.elim (fun e => absurd e hne) id else h3 i (by omega) hne⟩) id⟩
theorem Pas.step {n c l k : Nat} {d : Int} {M N : Nat → Nat → Int} {a : Bool} (h : Pas n c d M l k a N) (hk : k < n) (hl : l < n) (hne : k ≠ l) (h0 : 0 < M l c) (hle : M l c ≤ M k c) (hd : M l c ≤ d) : Pas n c d M l (k + 1) false (updR N k (low (M k) (M l) c d)) := by
  obtain ⟨h1, h2, h3, h4⟩ := h
  have ek := h3 k (Nat.le_refl _) hk
  refine ⟨?_, ?_, fun i hi hin => ?_, .inr ⟨rfl, ?_⟩⟩
  · have := Els.step k l h1 hk hl hne (by rw [h2]; exact h0) (by rw [h2, ek]; exact hle)
    rwa [h2, ek] at this
  · funext j; unfold updR; rw [if_neg (Ne.symm hne), h2]
  · funext j; unfold updR; rw [if_neg (by omega), h3 i (by omega) hin]
  · have a1 := tot_upd (M := N) (c := c) hk (low (M k) (M l) c d)
    rw [low_at (by omega) h0 hd, ek] at a1
    have a2 := Int.emod_lt_of_pos (M k c) h0
    have a3 := Int.emod_nonneg (M k c) (show M l c ≠ 0 by omega)
    have a4 : tot N c n ≤ tot M c n := by
      rcases h4 with ⟨_, e, _⟩ | ⟨_, e⟩
      · rw [e]; exact Nat.le_refl _
      · omega
    omega
theorem Els.pos {n c : Nat} {d : Int} {M N : Nat → Nat → Int} (k : Els n c d M N) (h : ∃ i, i < n ∧ 0 < M i c) : ∃ i, i < n ∧ 0 < N i c := by
  cases k with
  | refl => exact h
  | step i l _ h1 h2 h3 h4 h5 => exact ⟨l, h2, by unfold updR; rw [if_neg (Ne.symm h3)]; exact h4⟩
set_option maxRecDepth 100000 in
set_option maxHeartbeats 8000000 in
theorem eliminate_any (b n c1 c : Nat) (d : Int) (M : Nat → Nat → Int) (w : World) (hn : n ≤ 1000) (hc : c < 6) (hd : 0 < d) (hd2 : d ≤ 1000000000) (hR : RB w b n c1 M) (hM : Okd n c d M) (hp : ∃ i, i < n ∧ 0 < M i c) :
    Calls Try.prog 146 #[.slice (some ⟨b, 0, none⟩) n c1, .int .i64 c, .int .i64 d] w fun e w' => ∃ (f : Nat) (N : Nat → Nat → Int), e = .returned (.int .i64 f) ∧ f < n ∧ 0 < N f c ∧ (∀ i, i < n → i ≠ f → N i c = 0) ∧ Els n c d M N ∧ RB w' b n c1 N ∧ But b w w' := by
  have hmx : Try.prog.follows .mixedOrders = true := by kernel_rfl
  have hc1 : n ≤ c1 := by obtain ⟨_, _, _, h, _⟩ := hR; exact h
  have hbw := hR.lt
  have HR := Bx.mk hR
  have HM := Bx.mk hM
  have HP := Bx.mk hp
  clear hR hM hp
  go_enter Try.func146, Try.ntmps146
  go_wp2_with fail
  go_loopw [] (fun wr => ∃ N : Nat → Nat → Int, Bx (Els n c d M N) ∧ Bx (RB wr b n c1 N) ∧ Bx (But b w wr) ∧ wr.cell? ⟨w.heap.size, 0, none⟩ = some (.int .i64 c) ∧ w.heap.size < wr.heap.size) (fun wr => csum b c wr n)
  case atStart => exact ⟨M, ⟨.refl⟩, ⟨HR.out.below ((Below.refl w.heap.size w).alloc (Nat.le_refl _) _) hbw⟩, ⟨But.of_below ((Below.refl _ w).alloc (Nat.le_refl _) _)⟩, by simp [go_sem], by simp⟩
  case round =>
    obtain ⟨N, HE, HN, HB, hcc, hws⟩ := hrel
    have LA := Bx.mk (fun (w' : World) (hb : Below wr.heap.size wr w') => least_any (some ⟨b, 0, none⟩) n c1 c w.heap.size N w' hn hc1 hc ((HN.out.below hb HN.out.lt).cv) (Nat.lt_of_lt_of_le hws hb.size) (by rw [hb.cell (p := ⟨w.heap.size, 0, none⟩) hws]; exact hcc))
    go_wp2_with fail
    refine (LA.out _ (Below.refl _ _)).mono ?_
    rintro e w2 ⟨f, rfl, hf, hb2⟩
    clear LA
    have hpos := HE.out.pos HP.out
    rcases hf with ⟨_, hf⟩ | ⟨l, rfl, hl, hl0, hmin⟩
    · obtain ⟨i, hi, h0⟩ := hpos
      have := hf i hi; omega
    have HMIN := Bx.mk hmin
    have HO := Bx.mk (HE.out.okd HM.out hd hd2 hc)
    have hcc2 : w2.cell? ⟨w.heap.size, 0, none⟩ = some (.int .i64 c) := by rw [hb2.cell (p := ⟨w.heap.size, 0, none⟩) hws]; exact hcc
    have hws2 : w.heap.size < w2.heap.size := Nat.lt_of_lt_of_le hws hb2.size
    have HN2 := Bx.mk (HN.out.below hb2 HN.out.lt)
    have HB2 := Bx.mk (HB.out.trans (But.of_below hb2))
    have HM0 := Bx.mk (HN.out.csum hc n (Nat.le_refl _))
    clear hmin hpos hcc hws hb2 HN HB
    go_wp2_with fail
    go_loopw [8, 16] (fun al ix wr => ∃ (k : Nat) (a : Bool) (K : Nat → Nat → Int), k ≤ n ∧ ix = .int .i64 k ∧ al = .bool a ∧ Bx (Pas n c d N l k a K) ∧ Bx (RB wr b n c1 K) ∧ Bx (But b w wr) ∧ wr.cell? ⟨w.heap.size, 0, none⟩ = some (.int .i64 c) ∧ w.heap.size < wr.heap.size) (fun _ ix _ => n - (intOf ix).toNat)
    case atStart => exact ⟨0, true, N, by omega, rfl, rfl, ⟨Pas.start n c d N l⟩, HN2, HB2, hcc2, hws2⟩
    case round =>
      obtain ⟨k, a, K, hk, rfl, rfl, HPS, HK, HB3, hcc3, hws3⟩ := hrel
      by_cases hlt : k < n
      · have ek : K k = N k := HPS.out.2.2.1 k (Nat.le_refl _) hlt
        have el : K l = N l := HPS.out.2.1
        have a0 := HK.out.cell hlt (j := 0) (by omega)
        have a1 := HK.out.cell hlt (j := 1) (by omega)
        have a2 := HK.out.cell hlt (j := 2) (by omega)
        have a3 := HK.out.cell hlt (j := 3) (by omega)
        have a4 := HK.out.cell hlt (j := 4) (by omega)
        have a5 := HK.out.cell hlt (j := 5) (by omega)
        have l0 := HK.out.cell hl (j := 0) (by omega)
        have l1 := HK.out.cell hl (j := 1) (by omega)
        have l2 := HK.out.cell hl (j := 2) (by omega)
        have l3 := HK.out.cell hl (j := 3) (by omega)
        have l4 := HK.out.cell hl (j := 4) (by omega)
        have l5 := HK.out.cell hl (j := 5) (by omega)
        rw [ek] at a0 a1 a2 a3 a4 a5
        rw [el] at l0 l1 l2 l3 l4 l5
        rw [Nat.add_zero] at a0 l0
        have bc := box_cell wr (N k) 36 c hc
        have hlW := HK.out.lt
        clear ek el
        by_cases hkl : k = l
        · subst hkl
          have hne : ((k : Int) != (k : Int)) = false := by simp
          go_wp2_with fail
          go_roundw
          case rel => exact ⟨k + 1, a, K, by omega, by go_num, rfl, ⟨HPS.out.skip (.inl rfl)⟩, ⟨HK.out.below ((Below.refl wr.heap.size wr).alloc (Nat.le_refl _) _) hlW⟩, ⟨HB3.out.trans (But.of_below ((Below.refl _ _).alloc (Nat.le_refl _) _))⟩, by rw [((Below.refl wr.heap.size wr).alloc (Nat.le_refl _) _).cell (p := ⟨w.heap.size, 0, none⟩) hws3]; exact hcc3, by simp; omega⟩
          case measure => simp [intOf]; omega
        · have hne : ((k : Int) != (l : Int)) = true := by simp; omega
          by_cases h0 : 0 < N k c
          · have LW := Bx.mk (fun w' => lowered_any (N k) (N l) c d w' hc hd hd2 hl0 (HO.out k hlt).2 (HO.out l hl).2)
            have HST := Bx.mk (HPS.out.step hlt hl hkl hl0 (HMIN.out k hlt h0) (HO.out l hl).1)
            unfold PV at LW
            obtain ⟨v, hv⟩ : ∃ v, low (N k) (N l) c d = v := ⟨_, rfl⟩
            rw [hv] at LW HST
            clear hv
            go_wp2_with fail
            go_region_with (go_at_call 148; refine (LW.out _).mono ?_; rintro e w3 ⟨rfl, hb3⟩
                            have hbx : Below wr.heap.size wr w3 := Below.trans (by repeat (first | with_reducible exact Below.refl _ _ | (with_reducible refine Below.alloc ?_ ?side _; case side => (first | omega | (simp <;> omega))) | with_reducible apply below_drewN | with_reducible apply below_drew)) (Below.mono hb3 (by simp))
                            have HK3 := Bx.mk (HK.out.below hbx hlW)
                            have s0 := HK3.out.cell hlt (j := 0) (by omega)
                            have s1 := HK3.out.cell hlt (j := 1) (by omega)
                            have s2 := HK3.out.cell hlt (j := 2) (by omega)
                            have s3 := HK3.out.cell hlt (j := 3) (by omega)
                            have s4 := HK3.out.cell hlt (j := 4) (by omega)
                            have s5 := HK3.out.cell hlt (j := 5) (by omega)
                            rw [Nat.add_zero] at s0
                            have z0 := HK3.out.frozen (k * 6)
                            have z1 := HK3.out.frozen (k * 6 + 1)
                            have z2 := HK3.out.frozen (k * 6 + 2)
                            have z3 := HK3.out.frozen (k * 6 + 3)
                            have z4 := HK3.out.frozen (k * 6 + 4)
                            have z5 := HK3.out.frozen (k * 6 + 5)
                            have HBX := Bx.mk hbx
                            clear hbx hb3)
            all_goals go_wp2_with fail
            all_goals
              go_roundw
              case rel =>
                have hb6 := But.six6 (b := b) w3 (k * 6) v
                exact ⟨k + 1, false, _, by omega, by go_num, rfl, HST, ⟨HK3.out.row hlt v⟩, ⟨(HB3.out.trans (But.of_below HBX.out)).trans hb6⟩, (hb6.cell (k := 0) (Nat.lt_of_lt_of_le hws3 HBX.out.size) (by omega)).trans (by rw [HBX.out.cell (p := ⟨w.heap.size, 0, none⟩) hws3]; exact hcc3), Nat.lt_of_lt_of_le (Nat.lt_of_lt_of_le hws3 HBX.out.size) hb6.size⟩
              case measure => simp [intOf]; omega
          · have h0' : N k c ≤ 0 := by omega
            go_wp2_with fail
            go_roundw
            case rel => exact ⟨k + 1, a, K, by omega, by go_num, rfl, ⟨HPS.out.skip (.inr h0')⟩, ⟨HK.out.below ((Below.refl wr.heap.size wr).alloc (Nat.le_refl _) _) hlW⟩, ⟨HB3.out.trans (But.of_below ((Below.refl _ _).alloc (Nat.le_refl _) _))⟩, by rw [((Below.refl wr.heap.size wr).alloc (Nat.le_refl _) _).cell (p := ⟨w.heap.size, 0, none⟩) hws3]; exact hcc3, by simp; omega⟩
            case measure => simp [intOf]; omega
      · obtain rfl : k = n := by omega
        cases a with
        | true =>
          have HFI := Bx.mk HPS.out
          go_wp2_with fail
          go_ret
          obtain ⟨p1, p2, p3, p4⟩ := HFI.out
          rcases p4 with ⟨_, e, hz⟩ | ⟨e, _⟩
          · subst e
            exact ⟨l, K, rfl, hl, hl0, fun i hi hne => by have := hz i hi hne; have := ((HO.out i hi).2 c (Nat.le_refl _) hc).1; omega, HE.out, HK.out, HB3.out⟩
          · cases e
        | false =>
          have hlt2 : tot K c k < tot N c k := by
            obtain ⟨p1, p2, p3, p4⟩ := HPS.out
            rcases p4 with ⟨e, _⟩ | ⟨_, e⟩
            · cases e
            · exact e
          have HTT := Bx.mk hlt2
          clear hlt2
          go_wp2_with fail
          go_roundw
          case rel => exact ⟨K, ⟨HE.out.trans HPS.out.1⟩, HK, HB3, hcc3, hws3⟩
          case measure => rw [HM0.out, HK.out.csum hc k (Nat.le_refl _)]; exact HTT.out
end Go.Proofs.Ytnbamjoadankmaa

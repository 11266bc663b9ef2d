/- the reference's Divisor. -/
import Derived.Test.YtnbamjoadankmaaR13
namespace Go.Proofs.Ytnbamjoadankmaa
open Go.RowKit D
def gcd1 (f : List Nat → Nat) (g : Nat) (J : List (List Nat)) : Nat := J.foldl (fun g j => Nat.gcd g (f j)) g
def gcd2 (f : List Nat → List Nat → Nat) (g : Nat) (I J : List (List Nat)) : Nat := I.foldl (fun g i => gcd1 (f i) g J) g
theorem gcd1_dvd (f : List Nat → Nat) (g : Nat) (J : List (List Nat)) (d : Nat) : d ∣ gcd1 f g J ↔ d ∣ g ∧ ∀ j ∈ J, d ∣ f j := by
  induction J generalizing g with
  | nil => simp [gcd1]
  | cons x L ih =>
    show d ∣ gcd1 f (Nat.gcd g (f x)) L ↔ _
    rw [ih, Nat.dvd_gcd_iff]
    constructor
    · rintro ⟨⟨a, b⟩, c⟩
      exact ⟨a, fun i hi => (List.mem_cons.1 hi).elim (fun e => by rw [e]; exact b) (c i)⟩
    · rintro ⟨a, b⟩
      exact ⟨⟨a, b x (by simp)⟩, fun i hi => b i (by simp [hi])⟩
theorem gcd2_dvd (f : List Nat → List Nat → Nat) (g : Nat) (I J : List (List Nat)) (d : Nat) : d ∣ gcd2 f g I J ↔ d ∣ g ∧ ∀ i ∈ I, ∀ j ∈ J, d ∣ f i j := by
  induction I generalizing g with
  | nil => simp [gcd2]
  | cons x L ih =>
    show d ∣ gcd2 f (gcd1 (f x) g J) L J ↔ _
    rw [ih, gcd1_dvd]
    constructor
    · rintro ⟨⟨a, b⟩, c⟩
      exact ⟨a, fun i hi => (List.mem_cons.1 hi).elim (fun e => by rw [e]; exact b) (c i)⟩
    · rintro ⟨a, b⟩
      exact ⟨⟨a, b x (by simp)⟩, fun i hi => b i (by simp [hi])⟩
/-- What Divisor returns: minors are counted modulo 2^64. -/
def divW (M : Nat → Nat → Int) (n k : Nat) : Nat := gcd2 (fun is js => (wrap64 (mn (is.map M) js)).natAbs) 0 (subs n k) (subs 6 k)
theorem gcd_le {a b B : Nat} (ha : a ≤ B) (hb : b ≤ B) : Nat.gcd a b ≤ B := by
  rcases Nat.eq_zero_or_pos b with rfl | h
  · simpa using ha
  · exact Nat.le_trans (Nat.gcd_le_right a h) hb
theorem gcd1_snoc (f : List Nat → Nat) (g : Nat) (J : List (List Nat)) (j : List Nat) : gcd1 f g (J ++ [j]) = Nat.gcd (gcd1 f g J) (f j) := by simp [gcd1]
theorem gcd2_snoc (f : List Nat → List Nat → Nat) (g : Nat) (I J : List (List Nat)) (i : List Nat) : gcd2 f g (I ++ [i]) J = gcd1 (f i) (gcd2 f g I J) J := by simp [gcd2]
theorem take_snoc {L : List (List Nat)} {t : Nat} (h : t < L.length) : L.take (t + 1) = L.take t ++ [L.getD t []] := by
  rw [List.take_succ_eq_append_getElem h, List.getD_eq_getElem?_getD, List.getElem?_eq_getElem h]; rfl
theorem getD_memL {L : List (List Nat)} {t : Nat} (h : t < L.length) : L.getD t [] ∈ L := by
  rw [List.getD_eq_getElem?_getD, List.getElem?_eq_getElem h]; exact List.getElem_mem h
theorem wrap64_bd (n : Int) : -9223372036854775808 ≤ wrap64 n ∧ wrap64 n ≤ 9223372036854775807 := by unfold wrap64; omega
set_option maxHeartbeats 8000000 in
theorem divisor_any (ao : Option Addr) (n c1 k : Nat) (M : Nat → Nat → Int) (w : World) (hn : n ≤ 8) (hk : k ≤ 10) (hc1 : n ≤ c1) (hR : CV w ao n M) :
    Calls Try.prog 80 #[.slice ao n c1, .int .i64 k] w fun e w' => e = .returned (.int .u64 (divW M n k : Nat)) ∧ Below w.heap.size w w' := by
  have S1 := Bx.mk (fun w => subsets_any n k w (by omega) hk)
  have S2 := Bx.mk (fun w => subsets_any 6 k w (by omega) hk)
  obtain ⟨p1, hp1⟩ : ∃ p1, (subs n k).length = p1 := ⟨_, rfl⟩
  obtain ⟨m, hm⟩ : ∃ m, (subs 6 k).length = m := ⟨_, rfl⟩
  have hp1b : p1 ≤ 1024 := by
    have h1 := subs_len n k
    have h2 : 2 ^ n ≤ 2 ^ 10 := Nat.pow_le_pow_right (by omega) (by omega)
    simp at h2; omega
  have hmb : m ≤ 1024 := by have h1 := subs_len 6 k; simp at h1; omega
  have HP1 := Bx.mk hp1
  have HM := Bx.mk hm
  clear hp1 hm
  go_enter Try.func80, Try.ntmps80
  go_wp2_with fail
  refine (S1.out _).mono ?_
  rintro e w1 ⟨v1, xs1, rfl, HO1, HI1, hb1⟩
  rw [HP1.out] at HO1
  have HB1 := Bx.mk hb1
  clear hb1
  go_wp2_with fail
  refine (S2.out _).mono ?_
  rintro e w2 ⟨v2, xs2, rfl, HO2, HI2, hb2⟩
  rw [HM.out] at HO2
  have HB2 : Bx (Below w.heap.size w w2) := ⟨HB1.out.trans (hb2.mono HB1.out.size)⟩
  have HG := Bx.mk (grown_of_below hb2)
  have HO1' : Bx (w2.ownsRow w.heap.size 29 1 v1 p1 xs1) := ⟨World.ownsRow.kept HO1.out HG.out (by cases h : v1.ownBlock with | none => exact Or.inl rfl | some k => exact Or.inr (by simp))⟩
  have HI1' : Bx (Inns w2 xs1 (subs n k)) := ⟨HI1.out.keep HG.out (fun k hk => by cases hk)⟩
  clear hb2 HO1 HI1 HG HB1 S1 S2
  obtain ⟨ao1, d1, rfl, HS1⟩ : ∃ ao1 d1, v1 = .slice ao1 p1 d1 ∧ Bx (0 < p1 → ∃ g, ao1 = some ⟨g, 0, none⟩ ∧ g < w2.heap.size) := by
    rcases HO1'.out.2 with ⟨rfl, h0⟩ | ⟨g, cap, cur, rfl, hb, hg, _⟩
    · exact ⟨none, 0, by rw [h0], ⟨fun h => by omega⟩⟩
    · exact ⟨_, cap, rfl, ⟨fun _ => ⟨g, rfl, (Array.getElem?_eq_some_iff.1 hg).1⟩⟩⟩
  obtain ⟨ao2, d2, rfl, HS2⟩ : ∃ ao2 d2, v2 = .slice ao2 m d2 ∧ Bx (0 < m → ∃ g, ao2 = some ⟨g, 0, none⟩ ∧ g < w2.heap.size) := by
    rcases HO2.out.2 with ⟨rfl, h0⟩ | ⟨g, cap, cur, rfl, hb, hg, _⟩
    · exact ⟨none, 0, by rw [h0], ⟨fun h => by omega⟩⟩
    · exact ⟨_, cap, rfl, ⟨fun _ => ⟨g, rfl, (Array.getElem?_eq_some_iff.1 hg).1⟩⟩⟩
  have HR2 := Bx.mk (hR.keep HB2.out)
  go_wp2_with fail
  go_loopw [7, 8] (fun g i wr => ∃ t G : Nat, t ≤ p1 ∧ g = .int .u64 (G : Int) ∧ i = .int .i64 t ∧ Bx (G = gcd2 (fun is js => (wrap64 (mn (is.map M) js)).natAbs) 0 ((subs n k).take t) (subs 6 k)) ∧ G ≤ 9223372036854775808 ∧ Bx (Below w2.heap.size w2 wr)) (fun _ i _ => p1 - (intOf i).toNat)
  case atStart => exact ⟨0, 0, by omega, rfl, rfl, ⟨by simp [gcd2]⟩, by omega, ⟨Below.refl _ _⟩⟩
  case round =>
    obtain ⟨t, G, ht, rfl, rfl, HGd, hG, HB⟩ := hrel
    by_cases htp : t < p1
    · go_wp2_with fail
      go_loopw [7, 9] (fun g i wr => ∃ s G : Nat, s ≤ m ∧ g = .int .u64 (G : Int) ∧ i = .int .i64 s ∧ Bx (G = gcd1 (fun js => (wrap64 (mn (((subs n k).getD t []).map M) js)).natAbs) (gcd2 (fun is js => (wrap64 (mn (is.map M) js)).natAbs) 0 ((subs n k).take t) (subs 6 k)) ((subs 6 k).take s)) ∧ G ≤ 9223372036854775808 ∧ Bx (Below w2.heap.size w2 wr)) (fun _ i _ => m - (intOf i).toNat)
      case atStart => exact ⟨0, G, by omega, rfl, rfl, ⟨by simp [gcd1]; exact HGd.out⟩, hG, HB⟩
      case round =>
        obtain ⟨s, G2, hs, rfl, rfl, HGe, hG2, HB4⟩ := hrel
        by_cases hsm : s < m
        · obtain ⟨g1, rfl, hg1⟩ := HS1.out (by omega)
          obtain ⟨g2, rfl, hg2⟩ := HS2.out (by omega)
          obtain ⟨x, hx, hin⟩ := HI1'.out t (by rw [HP1.out]; exact htp)
          obtain ⟨y, hy, hjn⟩ := HI2.out s (by rw [HM.out]; exact hsm)
          have hcx := World.ownsRow.cellAt HO1'.out t (by omega)
          have hcy := World.ownsRow.cellAt HO2.out s (by omega)
          rw [hx] at hcx; rw [hy] at hcy
          have hi1 := getD_memL (L := subs n k) (t := t) (by rw [HP1.out]; exact htp)
          have hj1 := getD_memL (L := subs 6 k) (t := s) (by rw [HM.out]; exact hsm)
          obtain ⟨I, hI⟩ : ∃ I, (subs n k).getD t [] = I := ⟨_, rfl⟩
          obtain ⟨J, hJ⟩ : ∃ J, (subs 6 k).getD s [] = J := ⟨_, rfl⟩
          rw [hI] at hin hi1; rw [hJ] at hjn hj1
          obtain ⟨ai, ci, rfl, hci, hcm, HCI⟩ := hin.cn
          obtain ⟨aj, cj, rfl, hcj, hcm2, HCJ⟩ := hjn.cn
          obtain ⟨i1, _, i3⟩ := subs_mem hi1
          obtain ⟨j1, _, j3⟩ := subs_mem hj1
          have hkx := HB4.out.cell (p := ⟨g1, t, none⟩) hg1
          have hky := HB4.out.cell (p := ⟨g2, s, none⟩) hg2
          rw [hcx, i1] at hkx; rw [hcy, j1] at hky
          have HMN := Bx.mk (fun w' (hw : Below w2.heap.size w2 w') => minor_any ao n c1 M (by omega) hc1 I J ai aj ci cj w' (HR2.out.keep hw) (HCI.keep hw) (HCJ.keep hw) i3 j3 (by omega) (by omega) (by omega) (by omega))
          obtain ⟨X, hX⟩ : ∃ X, wrap64 (mn (I.map M) J) = X := ⟨_, rfl⟩
          have hXb := wrap64_bd (mn (I.map M) J)
          rw [hX] at hXb HMN
          rw [i1, j1] at HMN
          have HX := Bx.mk hX
          have HSZ := Bx.mk (fun w => rsize_any X w hXb.1 hXb.2)
          obtain ⟨Y, hY⟩ : ∃ Y, X.natAbs = Y := ⟨_, rfl⟩
          have hYb : Y ≤ 9223372036854775808 := by omega
          have HY := Bx.mk hY
          rw [hY] at HSZ
          obtain ⟨Z, hZ⟩ : ∃ Z, Nat.gcd G2 Y = Z := ⟨_, rfl⟩
          have HGC := Bx.mk (fun w => rgcd_any G2 Y Z w (by omega) (by omega) hZ)
          have hZb : Z ≤ 9223372036854775808 := by rw [← hZ]; exact gcd_le hG2 hYb
          have HZ := Bx.mk hZ
          have HI := Bx.mk hI
          have HJ := Bx.mk hJ
          clear hx hy hcx hcy hi1 hj1 hin hjn HCI HCJ i1 i3 j1 j3 hX hY hZ hI hJ hXb hci hcm hcj hcm2
          go_wp2_with fail
          go_region_with (first
            | (go_at_call 70; with_reducible refine (HMN.out _ (by first | exact HB4.out | exact below_drew HB4.out)).mono ?_; rintro e w5 ⟨rfl, hb5⟩)
            | (go_at_call 124; with_reducible refine (HSZ.out _).mono ?_; rintro e w6 ⟨rfl, hb6⟩)
            | (go_at_call 123; with_reducible refine (HGC.out _).mono ?_; rintro e w7 ⟨rfl, hb7⟩))
          all_goals
            have HB7 : Bx (Below w2.heap.size w2 w7) := ⟨(((below_drew HB4.out).trans (hb5.mono HB4.out.size)).trans (hb6.mono (Nat.le_trans HB4.out.size hb5.size))).trans (hb7.mono (Nat.le_trans HB4.out.size (Nat.le_trans hb5.size hb6.size)))⟩
            have HE : Bx (Z = gcd1 (fun js => (wrap64 (mn (((subs n k).getD t []).map M) js)).natAbs) (gcd2 (fun is js => (wrap64 (mn (is.map M) js)).natAbs) 0 ((subs n k).take t) (subs 6 k)) ((subs 6 k).take (s + 1))) := ⟨by
              rw [take_snoc (by rw [HM.out]; exact hsm), gcd1_snoc, ← HGe.out, HI.out, HJ.out, HX.out, HY.out, HZ.out]⟩
            clear hb5 hb6 hb7
            go_wp2_with fail
            exact ⟨⟨s + 1, Z, by omega, rfl, by go_num, HE, hZb, HB7⟩, by simp [intOf]; omega⟩
        · obtain rfl : s = m := by omega
          have HE : Bx (G2 = gcd2 (fun is js => (wrap64 (mn (is.map M) js)).natAbs) 0 ((subs n k).take (t + 1)) (subs 6 k)) := ⟨by
            have e : (subs 6 k).take s = subs 6 k := List.take_of_length_le (by have := HM.out; omega)
            rw [take_snoc (by rw [HP1.out]; exact htp), gcd2_snoc, HGe.out, e]⟩
          go_wp2_with fail
          exact ⟨⟨t + 1, G2, by omega, rfl, by go_num, HE, hG2, HB4⟩, by simp [intOf]; omega⟩
    · obtain rfl : t = p1 := by omega
      have HE : Bx (G = divW M n k) := ⟨by
        have e : (subs n k).take t = subs n k := List.take_of_length_le (by have := HP1.out; omega)
        rw [HGd.out, e]; rfl⟩
      go_wp2_with fail
      go_ret
      exact ⟨by rw [← HE.out]; rfl, HB2.out.trans (HB.out.mono HB2.out.size)⟩
end Go.Proofs.Ytnbamjoadankmaa

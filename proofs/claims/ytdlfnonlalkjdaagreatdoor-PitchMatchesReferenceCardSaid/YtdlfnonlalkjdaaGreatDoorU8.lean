/- the reference's term. -/
import Derived.Test.YtdlfnonlalkjdaaGreatDoorU7
namespace Go.Proofs.YtdlfnonlalkjdaaGreatDoor
open Go.RowKit M
theorem digs_size (u : Nat) (h : u ≤ 1000000000) : (strL (Lib.decDigits u)).size ≤ 10 := by
  rw [strL_len]; exact digits_len u h
theorem refTerm_12 (p : Nat) (w : World) (hp : p ≤ 13) : Calls Tryz.prog 42 #[.int .i64 (p : Int), .int .i64 12] w fun e w' => e = .returned (.string (strL (termL p 12))) ∧ Below w.heap.size w w' := by
  have H1 := Hx.mk (fun w => refDigits_any p w (by omega))
  have e : termL p 12 = Lib.decDigits p := by simp [termL, tailL, itoa_nat]
  rw [e]
  clear e
  go_enter Tryz.func42, Tryz.ntmps42
  go_wp2_with fail
  refine (H1.out _).mono ?_
  rintro e w1 ⟨rfl, hb⟩
  have HB := Hx.mk hb
  clear hb
  go_wp2_with fail
  go_ret
  exact ⟨rfl, HB.out⟩
set_option maxHeartbeats 1000000 in
theorem refTerm_poswhole (p m : Nat) (w : World) (hp : p ≤ 13) (hm1 : 1 ≤ m) (hm2 : m ≤ 576) (hne : m ≠ 12) (hg : Nat.gcd m 12 = 12) : Calls Tryz.prog 42 #[.int .i64 (p : Int), .int .i64 (m : Int)] w fun e w' => e = .returned (.string (strL (termL p (m : Int)))) ∧ Below w.heap.size w w' := by
  obtain ⟨g, hgg⟩ : ∃ g, Nat.gcd m 12 = g := ⟨_, rfl⟩
  have hgE : gE (m : Int) = g := by rw [← hgg]; unfold gE; first | rfl | (congr 1; omega)
  have hgd : g ∣ m := by rw [← hgg]; exact Nat.gcd_dvd_left _ _
  have hg12 : g ∣ 12 := by rw [← hgg]; exact Nat.gcd_dvd_right _ _
  have hgp : 0 < g := Nat.pos_of_dvd_of_pos hgd (by omega)
  rw [hgg] at hg
  obtain ⟨q, rfl⟩ := hgd
  obtain ⟨r, hr⟩ := hg12
  have hq0 : 0 < q := by
    rcases Nat.eq_zero_or_pos q with e | e
    · subst e; omega
    · exact e
  have hqle : q ≤ g * q := Nat.le_mul_of_pos_left _ hgp
  have hrle : r ≤ 12 := by rw [hr]; exact Nat.le_mul_of_pos_left _ hgp
  have t1 : ((g * q : Nat) : Int).tdiv (g : Int) = (q : Int) := by push_cast; exact Int.mul_tdiv_cancel_left _ (by omega)
  have t2 : ((g * q : Nat) : Int) / (g : Int) = (q : Int) := by push_cast; exact Int.mul_ediv_cancel_left _ (by omega)
  have t3 : (12 : Int).tdiv (g : Int) = (r : Int) := by
    rw [show (12 : Int) = (g : Int) * (r : Int) by exact_mod_cast hr]; exact Int.mul_tdiv_cancel_left _ (by omega)
  have t4 : (12 : Int) / (g : Int) = (r : Int) := by
    rw [show (12 : Int) = (g : Int) * (r : Int) by exact_mod_cast hr]; exact Int.mul_ediv_cancel_left _ (by omega)
  have n4 : 12 / g = r := by rw [hr]; exact Nat.mul_div_cancel_left _ hgp
  have H1 := Hx.mk (fun w => refDigits_any p w (by omega))
  have H2 := Hx.mk (fun w => refDigits_any q w (by omega))
  have H3 := Hx.mk (fun w => refDigits_any r w (by omega))
  have HC := Hx.mk (fun w => refCommon_any (g * q) g w hm1 (by omega) hgg)
  have z1 := digs_size p (by omega)
  have z2 := digs_size q (by omega)
  have z3 := digs_size r (by omega)
  have hz : (((g * q : Nat) : Int) == 12) = false := beq_eq_false_iff_ne.2 (by omega)
  have hit : Lib.itoa (((g * q : Nat) : Int) / (gE ((g * q : Nat) : Int) : Int)) = Lib.decDigits q := by rw [hgE, t2, itoa_nat]
  have hit2 := hit
  rw [hgE] at hit2
  have HT : Hx (strL (termL p ((g * q : Nat) : Int)) = strL (Lib.decDigits p) ++ strL [94] ++ strL (Lib.decDigits q)) := ⟨by
    have e1 : termL p ((g * q : Nat) : Int) = Lib.decDigits p ++ [94] ++ Lib.decDigits q := by
      simp only [termL, tailL, if_neg (show ¬ ((g * q : Nat) : Int) = 12 by omega), hit2, itoa_nat, hgE, if_neg (show ¬ g < 12 by omega)]; simp
    rw [e1]; simp only [strL_append]⟩
  have hc1 : ((g : Int) == 12) = true := by rw [beq_iff_eq]; omega
  have hc2 : ((g : Int) != 12) = false := by rw [bne_eq_false_iff_eq]; omega
  obtain ⟨sp, hsp⟩ : ∃ s, strL (Lib.decDigits p) = s := ⟨_, rfl⟩
  obtain ⟨sq, hsq⟩ : ∃ s, strL (Lib.decDigits q) = s := ⟨_, rfl⟩
  obtain ⟨sr, hsr⟩ : ∃ s, strL (Lib.decDigits r) = s := ⟨_, rfl⟩
  obtain ⟨m, hm⟩ : ∃ m, g * q = m := ⟨_, rfl⟩
  rw [hsp] at z1 H1 HT
  rw [hsq] at z2 H2 HT
  rw [hsr] at z3 H3
  rw [hm] at HT HC hz t1 t2 hm1 hm2 hqle ⊢
  have y1 : ¬ 9223372036854775807 < sp.size + 1 := by omega
  have y3 : ¬ 9223372036854775807 < sp.size + 1 + sq.size := by omega
  clear hsp hsq hsr hgE hit hit2 hr hgg n4 hm hg
  go_enter Tryz.func42, Tryz.ntmps42
  go_wp2_with fail
  refine (H1.out _).mono ?_
  rintro e w1 ⟨rfl, hb⟩
  have HB := Hx.mk hb
  clear hb
  go_wp2_with fail
  refine (HC.out _).mono ?_
  rintro e w2 ⟨rfl, hb⟩
  have HB := Hx.mk (HB.out.trans (hb.mono HB.out.size))
  clear hb
  go_wp2_with fail
  refine (H2.out _).mono ?_
  rintro e w3 ⟨rfl, hb⟩
  have HB := Hx.mk (HB.out.trans (hb.mono HB.out.size))
  clear hb
  go_wp2_with fail
  go_ret
  refine ⟨?_, HB.out⟩
  rw [HT.out]
  rfl
set_option maxHeartbeats 1000000 in
theorem refTerm_pospart (p m : Nat) (w : World) (hp : p ≤ 13) (hm1 : 1 ≤ m) (hm2 : m ≤ 576) (hne : m ≠ 12) (hg : Nat.gcd m 12 < 12) : Calls Tryz.prog 42 #[.int .i64 (p : Int), .int .i64 (m : Int)] w fun e w' => e = .returned (.string (strL (termL p (m : Int)))) ∧ Below w.heap.size w w' := by
  obtain ⟨g, hgg⟩ : ∃ g, Nat.gcd m 12 = g := ⟨_, rfl⟩
  have hgE : gE (m : Int) = g := by rw [← hgg]; unfold gE; first | rfl | (congr 1; omega)
  have hgd : g ∣ m := by rw [← hgg]; exact Nat.gcd_dvd_left _ _
  have hg12 : g ∣ 12 := by rw [← hgg]; exact Nat.gcd_dvd_right _ _
  have hgp : 0 < g := Nat.pos_of_dvd_of_pos hgd (by omega)
  rw [hgg] at hg
  obtain ⟨q, rfl⟩ := hgd
  obtain ⟨r, hr⟩ := hg12
  have hq0 : 0 < q := by
    rcases Nat.eq_zero_or_pos q with e | e
    · subst e; omega
    · exact e
  have hqle : q ≤ g * q := Nat.le_mul_of_pos_left _ hgp
  have hrle : r ≤ 12 := by rw [hr]; exact Nat.le_mul_of_pos_left _ hgp
  have t1 : ((g * q : Nat) : Int).tdiv (g : Int) = (q : Int) := by push_cast; exact Int.mul_tdiv_cancel_left _ (by omega)
  have t2 : ((g * q : Nat) : Int) / (g : Int) = (q : Int) := by push_cast; exact Int.mul_ediv_cancel_left _ (by omega)
  have t3 : (12 : Int).tdiv (g : Int) = (r : Int) := by
    rw [show (12 : Int) = (g : Int) * (r : Int) by exact_mod_cast hr]; exact Int.mul_tdiv_cancel_left _ (by omega)
  have t4 : (12 : Int) / (g : Int) = (r : Int) := by
    rw [show (12 : Int) = (g : Int) * (r : Int) by exact_mod_cast hr]; exact Int.mul_ediv_cancel_left _ (by omega)
  have n4 : 12 / g = r := by rw [hr]; exact Nat.mul_div_cancel_left _ hgp
  have H1 := Hx.mk (fun w => refDigits_any p w (by omega))
  have H2 := Hx.mk (fun w => refDigits_any q w (by omega))
  have H3 := Hx.mk (fun w => refDigits_any r w (by omega))
  have HC := Hx.mk (fun w => refCommon_any (g * q) g w hm1 (by omega) hgg)
  have z1 := digs_size p (by omega)
  have z2 := digs_size q (by omega)
  have z3 := digs_size r (by omega)
  have hz : (((g * q : Nat) : Int) == 12) = false := beq_eq_false_iff_ne.2 (by omega)
  have hit : Lib.itoa (((g * q : Nat) : Int) / (gE ((g * q : Nat) : Int) : Int)) = Lib.decDigits q := by rw [hgE, t2, itoa_nat]
  have hit2 := hit
  rw [hgE] at hit2
  have HT : Hx (strL (termL p ((g * q : Nat) : Int)) = strL (Lib.decDigits p) ++ strL [94] ++ strL (Lib.decDigits q) ++ strL [47] ++ strL (Lib.decDigits r)) := ⟨by
    have e1 : termL p ((g * q : Nat) : Int) = Lib.decDigits p ++ [94] ++ Lib.decDigits q ++ [47] ++ Lib.decDigits r := by
      simp only [termL, tailL, if_neg (show ¬ ((g * q : Nat) : Int) = 12 by omega), hit2, itoa_nat, hgE, if_pos hg, n4]; simp
    rw [e1]; simp only [strL_append]⟩
  have hc1 : ((g : Int) == 12) = false := beq_eq_false_iff_ne.2 (by omega)
  have hc2 : ((g : Int) != 12) = true := by rw [bne_iff_ne]; omega
  obtain ⟨sp, hsp⟩ : ∃ s, strL (Lib.decDigits p) = s := ⟨_, rfl⟩
  obtain ⟨sq, hsq⟩ : ∃ s, strL (Lib.decDigits q) = s := ⟨_, rfl⟩
  obtain ⟨sr, hsr⟩ : ∃ s, strL (Lib.decDigits r) = s := ⟨_, rfl⟩
  obtain ⟨m, hm⟩ : ∃ m, g * q = m := ⟨_, rfl⟩
  rw [hsp] at z1 H1 HT
  rw [hsq] at z2 H2 HT
  rw [hsr] at z3 H3 HT
  rw [hm] at HT HC hz t1 t2 hm1 hm2 hqle ⊢
  have y1 : ¬ 9223372036854775807 < sp.size + 1 := by omega
  have y3 : ¬ 9223372036854775807 < sp.size + 1 + sq.size := by omega
  have y4 : ¬ 9223372036854775807 < sp.size + 1 + sq.size + 1 := by omega
  have y5 : ¬ 9223372036854775807 < sp.size + 1 + sq.size + 1 + sr.size := by omega
  clear hsp hsq hsr hgE hit hit2 hr hgg n4 hm hg
  go_enter Tryz.func42, Tryz.ntmps42
  go_wp2_with fail
  refine (H1.out _).mono ?_
  rintro e w1 ⟨rfl, hb⟩
  have HB := Hx.mk hb
  clear hb
  go_wp2_with fail
  refine (HC.out _).mono ?_
  rintro e w2 ⟨rfl, hb⟩
  have HB := Hx.mk (HB.out.trans (hb.mono HB.out.size))
  clear hb
  go_wp2_with fail
  refine (H2.out _).mono ?_
  rintro e w3 ⟨rfl, hb⟩
  have HB := Hx.mk (HB.out.trans (hb.mono HB.out.size))
  clear hb
  go_wp2_with fail
  refine (H3.out _).mono ?_
  rintro e w4 ⟨rfl, hb⟩
  have HB := Hx.mk (HB.out.trans (hb.mono HB.out.size))
  clear hb
  go_wp2_with fail
  go_ret
  refine ⟨?_, HB.out⟩
  rw [HT.out]
  rfl
set_option maxHeartbeats 1000000 in
theorem refTerm_negwhole (p m : Nat) (w : World) (hp : p ≤ 13) (hm1 : 1 ≤ m) (hm2 : m ≤ 576) (hg : Nat.gcd m 12 = 12) : Calls Tryz.prog 42 #[.int .i64 (p : Int), .int .i64 (-(m : Int))] w fun e w' => e = .returned (.string (strL (termL p (-(m : Int))))) ∧ Below w.heap.size w w' := by
  obtain ⟨g, hgg⟩ : ∃ g, Nat.gcd m 12 = g := ⟨_, rfl⟩
  have hgE : gE (-(m : Int)) = g := by rw [← hgg]; unfold gE; first | rfl | (congr 1; omega)
  have hgd : g ∣ m := by rw [← hgg]; exact Nat.gcd_dvd_left _ _
  have hg12 : g ∣ 12 := by rw [← hgg]; exact Nat.gcd_dvd_right _ _
  have hgp : 0 < g := Nat.pos_of_dvd_of_pos hgd (by omega)
  rw [hgg] at hg
  obtain ⟨q, rfl⟩ := hgd
  obtain ⟨r, hr⟩ := hg12
  have hq0 : 0 < q := by
    rcases Nat.eq_zero_or_pos q with e | e
    · subst e; omega
    · exact e
  have hqle : q ≤ g * q := Nat.le_mul_of_pos_left _ hgp
  have hrle : r ≤ 12 := by rw [hr]; exact Nat.le_mul_of_pos_left _ hgp
  have t1 : ((g * q : Nat) : Int).tdiv (g : Int) = (q : Int) := by push_cast; exact Int.mul_tdiv_cancel_left _ (by omega)
  have t2 : ((g * q : Nat) : Int) / (g : Int) = (q : Int) := by push_cast; exact Int.mul_ediv_cancel_left _ (by omega)
  have t3 : (12 : Int).tdiv (g : Int) = (r : Int) := by
    rw [show (12 : Int) = (g : Int) * (r : Int) by exact_mod_cast hr]; exact Int.mul_tdiv_cancel_left _ (by omega)
  have t4 : (12 : Int) / (g : Int) = (r : Int) := by
    rw [show (12 : Int) = (g : Int) * (r : Int) by exact_mod_cast hr]; exact Int.mul_ediv_cancel_left _ (by omega)
  have n4 : 12 / g = r := by rw [hr]; exact Nat.mul_div_cancel_left _ hgp
  have H1 := Hx.mk (fun w => refDigits_any p w (by omega))
  have H2 := Hx.mk (fun w => refDigits_any q w (by omega))
  have H3 := Hx.mk (fun w => refDigits_any r w (by omega))
  have HC := Hx.mk (fun w => refCommon_any (g * q) g w hm1 (by omega) hgg)
  have z1 := digs_size p (by omega)
  have z2 := digs_size q (by omega)
  have z3 := digs_size r (by omega)
  have hz : ((-((g * q : Nat) : Int)) == 12) = false := beq_eq_false_iff_ne.2 (by omega)
  have hit : Lib.itoa ((-((g * q : Nat) : Int)) / (gE (-((g * q : Nat) : Int)) : Int)) = 45 :: Lib.decDigits q := by
    have e1 : (-((g * q : Nat) : Int)) / (gE (-((g * q : Nat) : Int)) : Int) = -(q : Int) := by
      rw [hgE, show (-((g * q : Nat) : Int)) = (g : Int) * (-(q : Int)) by push_cast; rw [Int.mul_neg]]
      exact Int.mul_ediv_cancel_left _ (by omega)
    rw [e1, itoa_neg (by omega), Int.natAbs_neg, Int.natAbs_natCast]
  have hit2 := hit
  rw [hgE] at hit2
  have HT : Hx (strL (termL p (-((g * q : Nat) : Int))) = strL (Lib.decDigits p) ++ strL [94] ++ strL [45] ++ strL (Lib.decDigits q)) := ⟨by
    have e1 : termL p (-((g * q : Nat) : Int)) = Lib.decDigits p ++ [94] ++ [45] ++ Lib.decDigits q := by
      simp only [termL, tailL, if_neg (show ¬ (-((g * q : Nat) : Int)) = 12 by omega), hit2, itoa_nat, hgE, if_neg (show ¬ g < 12 by omega)]; simp
    rw [e1]; simp only [strL_append]⟩
  have hc1 : ((g : Int) == 12) = true := by rw [beq_iff_eq]; omega
  have hc2 : ((g : Int) != 12) = false := by rw [bne_eq_false_iff_eq]; omega
  obtain ⟨sp, hsp⟩ : ∃ s, strL (Lib.decDigits p) = s := ⟨_, rfl⟩
  obtain ⟨sq, hsq⟩ : ∃ s, strL (Lib.decDigits q) = s := ⟨_, rfl⟩
  obtain ⟨sr, hsr⟩ : ∃ s, strL (Lib.decDigits r) = s := ⟨_, rfl⟩
  obtain ⟨m, hm⟩ : ∃ m, g * q = m := ⟨_, rfl⟩
  rw [hsp] at z1 H1 HT
  rw [hsq] at z2 H2 HT
  rw [hsr] at z3 H3
  rw [hm] at HT HC hz t1 t2 hm1 hm2 hqle ⊢
  have y1 : ¬ 9223372036854775807 < sp.size + 1 := by omega
  have y2 : ¬ 9223372036854775807 < sp.size + 1 + 1 := by omega
  have y3 : ¬ 9223372036854775807 < sp.size + 1 + 1 + sq.size := by omega
  clear hsp hsq hsr hgE hit hit2 hr hgg n4 hm hg
  go_enter Tryz.func42, Tryz.ntmps42
  go_wp2_with fail
  refine (H1.out _).mono ?_
  rintro e w1 ⟨rfl, hb⟩
  have HB := Hx.mk hb
  clear hb
  go_wp2_with fail
  refine (HC.out _).mono ?_
  rintro e w2 ⟨rfl, hb⟩
  have HB := Hx.mk (HB.out.trans (hb.mono HB.out.size))
  clear hb
  go_wp2_with fail
  refine (H2.out _).mono ?_
  rintro e w3 ⟨rfl, hb⟩
  have HB := Hx.mk (HB.out.trans (hb.mono HB.out.size))
  clear hb
  go_wp2_with fail
  go_ret
  refine ⟨?_, HB.out⟩
  rw [HT.out]
  rfl
set_option maxHeartbeats 1000000 in
theorem refTerm_negpart (p m : Nat) (w : World) (hp : p ≤ 13) (hm1 : 1 ≤ m) (hm2 : m ≤ 576) (hg : Nat.gcd m 12 < 12) : Calls Tryz.prog 42 #[.int .i64 (p : Int), .int .i64 (-(m : Int))] w fun e w' => e = .returned (.string (strL (termL p (-(m : Int))))) ∧ Below w.heap.size w w' := by
  obtain ⟨g, hgg⟩ : ∃ g, Nat.gcd m 12 = g := ⟨_, rfl⟩
  have hgE : gE (-(m : Int)) = g := by rw [← hgg]; unfold gE; first | rfl | (congr 1; omega)
  have hgd : g ∣ m := by rw [← hgg]; exact Nat.gcd_dvd_left _ _
  have hg12 : g ∣ 12 := by rw [← hgg]; exact Nat.gcd_dvd_right _ _
  have hgp : 0 < g := Nat.pos_of_dvd_of_pos hgd (by omega)
  rw [hgg] at hg
  obtain ⟨q, rfl⟩ := hgd
  obtain ⟨r, hr⟩ := hg12
  have hq0 : 0 < q := by
    rcases Nat.eq_zero_or_pos q with e | e
    · subst e; omega
    · exact e
  have hqle : q ≤ g * q := Nat.le_mul_of_pos_left _ hgp
  have hrle : r ≤ 12 := by rw [hr]; exact Nat.le_mul_of_pos_left _ hgp
  have t1 : ((g * q : Nat) : Int).tdiv (g : Int) = (q : Int) := by push_cast; exact Int.mul_tdiv_cancel_left _ (by omega)
  have t2 : ((g * q : Nat) : Int) / (g : Int) = (q : Int) := by push_cast; exact Int.mul_ediv_cancel_left _ (by omega)
  have t3 : (12 : Int).tdiv (g : Int) = (r : Int) := by
    rw [show (12 : Int) = (g : Int) * (r : Int) by exact_mod_cast hr]; exact Int.mul_tdiv_cancel_left _ (by omega)
  have t4 : (12 : Int) / (g : Int) = (r : Int) := by
    rw [show (12 : Int) = (g : Int) * (r : Int) by exact_mod_cast hr]; exact Int.mul_ediv_cancel_left _ (by omega)
  have n4 : 12 / g = r := by rw [hr]; exact Nat.mul_div_cancel_left _ hgp
  have H1 := Hx.mk (fun w => refDigits_any p w (by omega))
  have H2 := Hx.mk (fun w => refDigits_any q w (by omega))
  have H3 := Hx.mk (fun w => refDigits_any r w (by omega))
  have HC := Hx.mk (fun w => refCommon_any (g * q) g w hm1 (by omega) hgg)
  have z1 := digs_size p (by omega)
  have z2 := digs_size q (by omega)
  have z3 := digs_size r (by omega)
  have hz : ((-((g * q : Nat) : Int)) == 12) = false := beq_eq_false_iff_ne.2 (by omega)
  have hit : Lib.itoa ((-((g * q : Nat) : Int)) / (gE (-((g * q : Nat) : Int)) : Int)) = 45 :: Lib.decDigits q := by
    have e1 : (-((g * q : Nat) : Int)) / (gE (-((g * q : Nat) : Int)) : Int) = -(q : Int) := by
      rw [hgE, show (-((g * q : Nat) : Int)) = (g : Int) * (-(q : Int)) by push_cast; rw [Int.mul_neg]]
      exact Int.mul_ediv_cancel_left _ (by omega)
    rw [e1, itoa_neg (by omega), Int.natAbs_neg, Int.natAbs_natCast]
  have hit2 := hit
  rw [hgE] at hit2
  have HT : Hx (strL (termL p (-((g * q : Nat) : Int))) = strL (Lib.decDigits p) ++ strL [94] ++ strL [45] ++ strL (Lib.decDigits q) ++ strL [47] ++ strL (Lib.decDigits r)) := ⟨by
    have e1 : termL p (-((g * q : Nat) : Int)) = Lib.decDigits p ++ [94] ++ [45] ++ Lib.decDigits q ++ [47] ++ Lib.decDigits r := by
      simp only [termL, tailL, if_neg (show ¬ (-((g * q : Nat) : Int)) = 12 by omega), hit2, itoa_nat, hgE, if_pos hg, n4]; simp
    rw [e1]; simp only [strL_append]⟩
  have hc1 : ((g : Int) == 12) = false := beq_eq_false_iff_ne.2 (by omega)
  have hc2 : ((g : Int) != 12) = true := by rw [bne_iff_ne]; omega
  obtain ⟨sp, hsp⟩ : ∃ s, strL (Lib.decDigits p) = s := ⟨_, rfl⟩
  obtain ⟨sq, hsq⟩ : ∃ s, strL (Lib.decDigits q) = s := ⟨_, rfl⟩
  obtain ⟨sr, hsr⟩ : ∃ s, strL (Lib.decDigits r) = s := ⟨_, rfl⟩
  obtain ⟨m, hm⟩ : ∃ m, g * q = m := ⟨_, rfl⟩
  rw [hsp] at z1 H1 HT
  rw [hsq] at z2 H2 HT
  rw [hsr] at z3 H3 HT
  rw [hm] at HT HC hz t1 t2 hm1 hm2 hqle ⊢
  have y1 : ¬ 9223372036854775807 < sp.size + 1 := by omega
  have y2 : ¬ 9223372036854775807 < sp.size + 1 + 1 := by omega
  have y3 : ¬ 9223372036854775807 < sp.size + 1 + 1 + sq.size := by omega
  have y4 : ¬ 9223372036854775807 < sp.size + 1 + 1 + sq.size + 1 := by omega
  have y5 : ¬ 9223372036854775807 < sp.size + 1 + 1 + sq.size + 1 + sr.size := by omega
  clear hsp hsq hsr hgE hit hit2 hr hgg n4 hm hg
  go_enter Tryz.func42, Tryz.ntmps42
  go_wp2_with fail
  refine (H1.out _).mono ?_
  rintro e w1 ⟨rfl, hb⟩
  have HB := Hx.mk hb
  clear hb
  go_wp2_with fail
  refine (HC.out _).mono ?_
  rintro e w2 ⟨rfl, hb⟩
  have HB := Hx.mk (HB.out.trans (hb.mono HB.out.size))
  clear hb
  go_wp2_with fail
  refine (H2.out _).mono ?_
  rintro e w3 ⟨rfl, hb⟩
  have HB := Hx.mk (HB.out.trans (hb.mono HB.out.size))
  clear hb
  go_wp2_with fail
  refine (H3.out _).mono ?_
  rintro e w4 ⟨rfl, hb⟩
  have HB := Hx.mk (HB.out.trans (hb.mono HB.out.size))
  clear hb
  go_wp2_with fail
  go_ret
  refine ⟨?_, HB.out⟩
  rw [HT.out]
  rfl
theorem refTerm_any (p : Nat) (e : Int) (w : World) (hp : p ≤ 13) (he0 : -576 ≤ e) (he1 : e ≤ 576) (hne : e ≠ 0) : Calls Tryz.prog 42 #[.int .i64 (p : Int), .int .i64 e] w fun e' w' => e' = .returned (.string (strL (termL p e))) ∧ Below w.heap.size w w' := by
  by_cases h12 : e = 12
  · subst h12; exact refTerm_12 p w hp
  · rcases Int.lt_or_lt_of_ne hne with h | h
    · obtain ⟨m, rfl⟩ : ∃ m : Nat, e = -(m : Int) := ⟨e.natAbs, by omega⟩
      rcases Nat.lt_or_eq_of_le (Nat.le_of_dvd (by omega) (Nat.gcd_dvd_right m 12)) with k | k
      · exact refTerm_negpart p m w hp (by omega) (by omega) k
      · exact refTerm_negwhole p m w hp (by omega) (by omega) k
    · obtain ⟨m, rfl⟩ := Int.eq_ofNat_of_zero_le (Int.le_of_lt h)
      rcases Nat.lt_or_eq_of_le (Nat.le_of_dvd (by omega) (Nat.gcd_dvd_right m 12)) with k | k
      · exact refTerm_pospart p m w hp (by omega) (by omega) (by omega) k
      · exact refTerm_poswhole p m w hp (by omega) (by omega) (by omega) k
end Go.Proofs.YtdlfnonlalkjdaaGreatDoor

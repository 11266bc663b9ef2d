/- plus, minus, times, over; compare; floor; the sides of an approach. -/
import Derived.Test.YthfpkjeobdajiabGreatDoorR2
namespace Go.Proofs.YthfpkjeobdajiabGreatDoor
open Go.RowKit M
theorem prod_bd {x y : Int} (h1 : -1000000000 ≤ x) (h2 : x ≤ 1000000000) (h3 : -1000000000 ≤ y) (h4 : y ≤ 1000000000) : -1000000000000000000 ≤ x * y ∧ x * y ≤ 1000000000000000000 := by
  have h : (x * y).natAbs ≤ 1000000000 * 1000000000 := by
    rw [Int.natAbs_mul]; exact Nat.mul_le_mul (by omega) (by omega)
  omega
theorem plus_any (a b c d : Int) (w : World) (h : BdQ a b) (h' : BdQ c d) : Calls Tryz.prog 38 #[RV a b, RV c d] w fun e w' => e = .returned (RV (a * d + c * b) (b * d)) ∧ Below w.heap.size w w' := by
  obtain ⟨h1, h2, h3, h4⟩ := h
  obtain ⟨h5, h6, h7, h8⟩ := h'
  have p0 := prod_bd h1 h2 (show -1000000000 ≤ d by omega) h8
  have p1 := prod_bd h5 h6 (show -1000000000 ≤ b by omega) h4
  have p2 := prod_bd (show -1000000000 ≤ b by omega) h4 (show -1000000000 ≤ d by omega) h8
  go_enter Tryz.func38, Tryz.ntmps38
  go_wp2
  (try simp only [Exit.inBlock, Exit.then])
  refine bodyPost_ret_by (v := RV (a * d + c * b) (b * d)) (by simp [results, Tryz.results38, go_sem]) rfl ?_
  exact ⟨rfl, by repeat (first | exact Below.refl _ _ | apply below_drewN | refine Below.setCell ?_ (by simp <;> omega) _ | refine Below.alloc ?_ (by simp <;> omega) _)⟩
theorem minus_any (a b c d : Int) (w : World) (h : BdQ a b) (h' : BdQ c d) : Calls Tryz.prog 39 #[RV a b, RV c d] w fun e w' => e = .returned (RV (a * d - c * b) (b * d)) ∧ Below w.heap.size w w' := by
  obtain ⟨h1, h2, h3, h4⟩ := h
  obtain ⟨h5, h6, h7, h8⟩ := h'
  have p0 := prod_bd h1 h2 (show -1000000000 ≤ d by omega) h8
  have p1 := prod_bd h5 h6 (show -1000000000 ≤ b by omega) h4
  have p2 := prod_bd (show -1000000000 ≤ b by omega) h4 (show -1000000000 ≤ d by omega) h8
  go_enter Tryz.func39, Tryz.ntmps39
  go_wp2
  (try simp only [Exit.inBlock, Exit.then])
  refine bodyPost_ret_by (v := RV (a * d - c * b) (b * d)) (by simp [results, Tryz.results39, go_sem]) rfl ?_
  exact ⟨rfl, by repeat (first | exact Below.refl _ _ | apply below_drewN | refine Below.setCell ?_ (by simp <;> omega) _ | refine Below.alloc ?_ (by simp <;> omega) _)⟩
theorem times_any (a b c d : Int) (w : World) (h : BdQ a b) (h' : BdQ c d) : Calls Tryz.prog 40 #[RV a b, RV c d] w fun e w' => e = .returned (RV (a * c) (b * d)) ∧ Below w.heap.size w w' := by
  obtain ⟨h1, h2, h3, h4⟩ := h
  obtain ⟨h5, h6, h7, h8⟩ := h'
  have p0 := prod_bd h1 h2 h5 h6
  have p1 := prod_bd (show -1000000000 ≤ b by omega) h4 (show -1000000000 ≤ d by omega) h8
  go_enter Tryz.func40, Tryz.ntmps40
  go_wp2
  (try simp only [Exit.inBlock, Exit.then])
  refine bodyPost_ret_by (v := RV (a * c) (b * d)) (by simp [results, Tryz.results40, go_sem]) rfl ?_
  exact ⟨rfl, by repeat (first | exact Below.refl _ _ | apply below_drewN | refine Below.setCell ?_ (by simp <;> omega) _ | refine Below.alloc ?_ (by simp <;> omega) _)⟩
theorem over_any (a b c d : Int) (w : World) (h : BdQ a b) (h' : BdQ c d) : Calls Tryz.prog 41 #[RV a b, RV c d] w fun e w' => e = .returned (RV (a * d) (b * c)) ∧ Below w.heap.size w w' := by
  obtain ⟨h1, h2, h3, h4⟩ := h
  obtain ⟨h5, h6, h7, h8⟩ := h'
  have p0 := prod_bd h1 h2 (show -1000000000 ≤ d by omega) h8
  have p1 := prod_bd (show -1000000000 ≤ b by omega) h4 h5 h6
  go_enter Tryz.func41, Tryz.ntmps41
  go_wp2
  (try simp only [Exit.inBlock, Exit.then])
  refine bodyPost_ret_by (v := RV (a * d) (b * c)) (by simp [results, Tryz.results41, go_sem]) rfl ?_
  exact ⟨rfl, by repeat (first | exact Below.refl _ _ | apply below_drewN | refine Below.setCell ?_ (by simp <;> omega) _ | refine Below.alloc ?_ (by simp <;> omega) _)⟩
theorem isnan_any (x : Int) (w : World) : Calls Tryz.prog 72 #[.int .i64 x] w fun e w' => e = .returned (.bool false) ∧ w' = w := by
  go_enter Tryz.func72, Tryz.ntmps72
  go_wp2
  go_ret
  exact ⟨rfl, rfl⟩
theorem cmp_any (x y : Int) (w : World) : Calls Tryz.prog 65 #[.int .i64 x, .int .i64 y] w fun e w' => e = .returned (.int .i64 (sgn x y)) ∧ w' = w := by
  have HX := Bx.mk (fun w => isnan_any x w)
  have HY := Bx.mk (fun w => isnan_any y w)
  rcases sgn_cases x y with ⟨h, e⟩ | ⟨h, e⟩ | ⟨h, e⟩
  rotate_left 1
  · rw [e]
    clear e
    subst h
    go_enter Tryz.func65, Tryz.ntmps65
    go_wp2_with fail
    refine (HX.out _).mono ?_
    rintro e w' ⟨rfl, rfl⟩
    go_wp2_with fail
    refine (HX.out _).mono ?_
    rintro e w' ⟨rfl, rfl⟩
    go_wp2
    go_ret
    exact ⟨rfl, rfl⟩
  all_goals
    rw [e]
    clear e
    go_enter Tryz.func65, Tryz.ntmps65
    go_wp2_with fail
    refine (HX.out _).mono ?_
    rintro e w' ⟨rfl, rfl⟩
    go_wp2_with fail
    refine (HY.out _).mono ?_
    rintro e w' ⟨rfl, rfl⟩
    go_wp2
    go_ret
    exact ⟨rfl, rfl⟩
theorem compare_any (a b c d : Int) (w : World) (h : BdQ a b) (h' : BdQ c d) : Calls Tryz.prog 46 #[RV a b, RV c d] w fun e w' => e = .returned (.int .i64 (sgn (a * d) (c * b))) ∧ Below w.heap.size w w' := by
  obtain ⟨h1, h2, h3, h4⟩ := h
  obtain ⟨h5, h6, h7, h8⟩ := h'
  have p0 := prod_bd h1 h2 (show -1000000000 ≤ d by omega) h8
  have p1 := prod_bd h5 h6 (show -1000000000 ≤ b by omega) h4
  have HC := Bx.mk (fun w => cmp_any (a * d) (c * b) w)
  go_enter Tryz.func46, Tryz.ntmps46
  go_wp2_with fail
  refine (HC.out _).mono ?_
  rintro e w' ⟨rfl, rfl⟩
  go_wp2
  go_ret
  exact ⟨rfl, by repeat (first | exact Below.refl _ _ | apply below_drewN | refine Below.setCell ?_ (by simp <;> omega) _ | refine Below.alloc ?_ (by simp <;> omega) _)⟩
theorem floor_cases (a b : Int) (hb : 1 ≤ b) : (a.tmod b < 0 ∧ a.tdiv b = a / b + 1) ∨ (0 ≤ a.tmod b ∧ a.tdiv b = a / b) := by
  have h1 := Int.tdiv_eq_ediv (a := a) (b := b)
  have h2 := Int.tmod_eq_emod (a := a) (b := b)
  have h3 := Int.emod_lt_of_pos a (show 0 < b by omega)
  have h4 := Int.emod_nonneg a (show b ≠ 0 by omega)
  rw [Int.sign_eq_one_of_pos (by omega)] at h1
  by_cases h : 0 ≤ a ∨ b ∣ a
  · rw [if_pos h] at h1 h2; right; omega
  · rw [if_neg h] at h1 h2; left; omega
theorem floor_any (a b : Int) (w : World) (h : BdQ a b) : Calls Tryz.prog 56 #[RV a b] w fun e w' => e = .returned (.int .i64 (a / b)) ∧ Below w.heap.size w w' := by
  obtain ⟨h1, h2, h3, h4⟩ := h
  have q1 : -1000000000 ≤ a / b := by
    have : -1000000000 * b ≤ -1000000000 := by omega
    exact (Int.le_ediv_iff_mul_le (by omega)).2 (by omega)
  have q2 : a / b ≤ 1000000000 := by
    have : a / b < 1000000001 := (Int.ediv_lt_iff_lt_mul (by omega)).2 (by omega)
    omega
  rcases floor_cases a b h3 with ⟨hr, hq⟩ | ⟨hr, hq⟩
  · obtain ⟨q, rfl⟩ : ∃ q, q = a / b := ⟨_, rfl⟩
    generalize a / b = q at *
    go_enter Tryz.func56, Tryz.ntmps56
    go_wp2
    go_ret
    exact ⟨by simp, by repeat (first | exact Below.refl _ _ | apply below_drewN | refine Below.setCell ?_ (by simp <;> omega) _ | refine Below.alloc ?_ (by simp <;> omega) _)⟩
  · generalize a / b = q at *
    go_enter Tryz.func56, Tryz.ntmps56
    go_wp2
    go_ret
    exact ⟨by simp, by repeat (first | exact Below.refl _ _ | apply below_drewN | refine Below.setCell ?_ (by simp <;> omega) _ | refine Below.alloc ?_ (by simp <;> omega) _)⟩
/-- A side. -/
abbrev SV (s : Side) : Value := .agg #[.int .i64 s.n, .int .i64 s.d, .int .i64 s.off]
structure BdS (s : Side) : Prop where
  n1 : -1000000000 ≤ s.n
  n2 : s.n ≤ 1000000000
  d1 : 1 ≤ s.d
  d2 : s.d ≤ 1000000000
  o1 : 1 ≤ s.off
  o2 : s.off ≤ 1000000000
theorem toward_any (s o : Side) (m : Int) (w : World) (hs : BdS s) (ho : BdS o) (h1 : 1 ≤ m) (h2 : m ≤ 1000000000) (hm : s.d ≤ m) (ht : -1000000000 ≤ (toward s o m).n ∧ (toward s o m).n ≤ 1000000000) :
    Calls Tryz.prog 63 #[SV s, SV o, .int .i64 m] w fun e w' => e = .returned (SV (toward s o m)) ∧ Below w.heap.size w w' := by
  obtain ⟨tb0, tb1, tb2⟩ := times_bounds hs.o1 ho.o1 hm ho.d1
  obtain ⟨sn, sd, so⟩ := s
  obtain ⟨on, od, oo⟩ := o
  obtain ⟨a1, a2, a3, a4, a5, a6⟩ := hs
  obtain ⟨b1, b2, b3, b4, b5, b6⟩ := ho
  simp only [toward] at ht tb0 tb1 tb2 a1 a2 a3 a4 a5 a6 b1 b2 b3 b4 b5 b6 hm ⊢
  generalize hT : times ⟨sn, sd, so⟩ ⟨on, od, oo⟩ m = t at *
  obtain ⟨u, hu⟩ : ∃ u, u = so / oo := ⟨_, rfl⟩
  obtain ⟨v, hv⟩ : ∃ v, v = (m - sd) / od := ⟨_, rfl⟩
  have hT : t = min u v := by rw [← hT, hu, hv]; rfl
  have u0 : 0 ≤ u := by rw [hu]; exact Int.ediv_nonneg (by omega) (by omega)
  have v0 : 0 ≤ v := by rw [hv]; exact Int.ediv_nonneg (by omega) (by omega)
  have u1 : u ≤ 1000000000 := by rw [hu]; have := Int.ediv_le_self oo (show 0 ≤ so by omega); omega
  have v1 : v ≤ 1000000000 := by rw [hv]; have := Int.ediv_le_self od (show 0 ≤ m - sd by omega); omega
  have q1 := hu.symm
  have q2 := hv.symm
  have z1 : (oo == 0) = false := beq_eq_false_iff_ne.2 (by omega)
  have z2 : (od == 0) = false := beq_eq_false_iff_ne.2 (by omega)
  clear hu hv
  have tn := prod_bd (show -1000000000 ≤ t by omega) (show t ≤ 1000000000 by omega) b1 b2
  have c1 : t * oo ≤ 1000000000 := by omega
  have c2 : 0 ≤ t * oo := Int.mul_nonneg tb0 (by omega)
  have c3 : 0 ≤ t * od := Int.mul_nonneg tb0 (by omega)
  rcases Int.lt_or_le v u with huv | huv
  · obtain rfl : t = v := by omega
    clear hT
    go_enter Tryz.func63, Tryz.ntmps63
    go_wp2_with fail
    go_quiet (fail)
    go_wp2
    (try simp only [Exit.inBlock, Exit.then])
    refine bodyPost_ret_by (v := SV ⟨sn + t * on, sd + t * od, so - t * oo⟩) (by simp [results, Tryz.results63, go_sem]) rfl ?_
    exact ⟨rfl, by repeat (first | exact Below.refl _ _ | apply below_drewN | refine Below.setCell ?_ (by simp <;> omega) _ | refine Below.alloc ?_ (by simp <;> omega) _)⟩
  · obtain rfl : t = u := by omega
    clear hT
    go_enter Tryz.func63, Tryz.ntmps63
    go_wp2_with fail
    go_quiet (fail)
    go_wp2
    (try simp only [Exit.inBlock, Exit.then])
    refine bodyPost_ret_by (v := SV ⟨sn + t * on, sd + t * od, so - t * oo⟩) (by simp [results, Tryz.results63, go_sem]) rfl ?_
    exact ⟨rfl, by repeat (first | exact Below.refl _ _ | apply below_drewN | refine Below.setCell ?_ (by simp <;> omega) _ | refine Below.alloc ?_ (by simp <;> omega) _)⟩
set_option maxHeartbeats 4000000 in
theorem nearer_any (l h : Side) (w : World) (hl : BdS l) (hh : BdS h) :
    Calls Tryz.prog 64 #[SV l, SV h] w fun e w' => e = .returned (RV (nearer l h).1 (nearer l h).2) ∧ Below w.heap.size w w' := by
  obtain ⟨ln, ld, lo⟩ := l
  obtain ⟨hn, hd, ho⟩ := h
  obtain ⟨a1, a2, a3, a4, a5, a6⟩ := hl
  obtain ⟨b1, b2, b3, b4, b5, b6⟩ := hh
  simp only at a1 a2 a3 a4 a5 a6 b1 b2 b3 b4 b5 b6
  have p1 := prod_bd (show -1000000000 ≤ lo by omega) a6 (show -1000000000 ≤ hd by omega) b4
  have p2 := prod_bd (show -1000000000 ≤ ho by omega) b6 (show -1000000000 ≤ ld by omega) a4
  obtain ⟨x, hx⟩ : ∃ x, lo * hd = x := ⟨_, rfl⟩
  obtain ⟨y, hy⟩ : ∃ y, ho * ld = y := ⟨_, rfl⟩
  simp only [nearer, hx, hy] at p1 p2 ⊢
  clear a1 a2 a3 a4 a5 a6 b1 b2 b3 b4 b5 b6
  by_cases c1 : x < y
  · rw [if_pos (.inl c1)]
    go_enter Tryz.func64, Tryz.ntmps64
    go_wp2
    go_quiet (fail)
    go_wp2
    (try simp only [Exit.inBlock, Exit.then])
    refine bodyPost_ret_by (v := RV ln ld) (by simp [results, Tryz.results64, go_sem]) rfl ?_
    exact ⟨rfl, by repeat (first | exact Below.refl _ _ | apply below_drewN | refine Below.setCell ?_ (by simp <;> omega) _ | refine Below.alloc ?_ (by simp <;> omega) _)⟩
  by_cases c2 : x = y ∧ ld ≤ hd
  · rw [if_pos (.inr c2)]
    obtain ⟨c2, c3⟩ := c2
    go_enter Tryz.func64, Tryz.ntmps64
    go_wp2
    go_quiet (fail)
    go_wp2
    (try simp only [Exit.inBlock, Exit.then])
    refine bodyPost_ret_by (v := RV ln ld) (by simp [results, Tryz.results64, go_sem]) rfl ?_
    exact ⟨rfl, by repeat (first | exact Below.refl _ _ | apply below_drewN | refine Below.setCell ?_ (by simp <;> omega) _ | refine Below.alloc ?_ (by simp <;> omega) _)⟩
  · rw [if_neg (by omega)]
    by_cases c3 : x = y
    · have c4 : hd < ld := by omega
      clear c2
      go_enter Tryz.func64, Tryz.ntmps64
      go_wp2
      go_quiet (fail)
      go_wp2
      (try simp only [Exit.inBlock, Exit.then])
      refine bodyPost_ret_by (v := RV hn hd) (by simp [results, Tryz.results64, go_sem]) rfl ?_
      exact ⟨rfl, by repeat (first | exact Below.refl _ _ | apply below_drewN | refine Below.setCell ?_ (by simp <;> omega) _ | refine Below.alloc ?_ (by simp <;> omega) _)⟩
    · have c4 : y < x := by omega
      clear c2
      go_enter Tryz.func64, Tryz.ntmps64
      go_wp2
      go_quiet (fail)
      go_wp2
      (try simp only [Exit.inBlock, Exit.then])
      refine bodyPost_ret_by (v := RV hn hd) (by simp [results, Tryz.results64, go_sem]) rfl ?_
      exact ⟨rfl, by repeat (first | exact Below.refl _ _ | apply below_drewN | refine Below.setCell ?_ (by simp <;> omega) _ | refine Below.alloc ?_ (by simp <;> omega) _)⟩
end Go.Proofs.YthfpkjeobdajiabGreatDoor

/- between; simplest. -/
import Derived.Test.YthfpkjeobdajiabGreatDoorR4
namespace Go.Proofs.YthfpkjeobdajiabGreatDoor
open Go.RowKit M
/-- What is bounded in a number above 0. -/
structure BdP (n d : Int) : Prop where
  n1 : 1 ≤ n
  n2 : n ≤ 1000000000
  d1 : 1 ≤ d
  d2 : d ≤ 1000000000
/-- What stays while between calls itself: both numbers, the place of what comes back. -/
structure BtS (k : Nat) (w0 : World) (b c d : Int) (w : World) : Prop where
  c1 : w.cell? ⟨k, 1, none⟩ = some (.int .i64 b)
  c2 : w.cell? ⟨k + 1, 0, none⟩ = some (.int .i64 c)
  c3 : w.cell? ⟨k + 1, 1, none⟩ = some (.int .i64 d)
  z0 : w.cell? ⟨k + 2, 0, none⟩ = some (.int .i64 0)
  z1 : w.cell? ⟨k + 2, 1, none⟩ = some (.int .i64 0)
  f0 : w.frozen? ⟨k + 2, 0, none⟩ = false
  f1 : w.frozen? ⟨k + 2, 1, none⟩ = false
  sz : k + 2 < w.heap.size
  bl : Below k w0 w
theorem BtS.call {k : Nat} {w0 : World} {b c d : Int} {w w' : World} (h : BtS k w0 b c d w) (hb : Below w.heap.size w w') : BtS k w0 b c d w' := by
  have hs := h.sz
  have h2 := hb.size
  exact ⟨kc hb h.c1 (by show k < _; omega), kc hb h.c2 (by show k + 1 < _; omega), kc hb h.c3 (by show k + 1 < _; omega), kc hb h.z0 hs, kc hb h.z1 hs, kf hb h.f0 hs, kf hb h.f1 hs, by omega, h.bl.trans (hb.mono (by omega))⟩
theorem BtS.call' {k : Nat} {w0 : World} {b c d : Int} {w w' : World} (hb : Below w.heap.size w w') (h : BtS k w0 b c d w) : BtS k w0 b c d w' := h.call hb
theorem BtS.alloc {k : Nat} {w0 : World} {b c d : Int} {w : World} (h : BtS k w0 b c d w) (o : Obj) : BtS k w0 b c d (w.alloc o) := h.call ((Below.refl _ _).alloc (Nat.le_refl _) o)
theorem BtS.drew {k : Nat} {w0 : World} {b c d : Int} {w : World} (h : BtS k w0 b c d w) : BtS k w0 b c d w.drew := h.call (Below.refl _ _).drew
theorem BtS.set {k : Nat} {w0 : World} {b c d : Int} {w : World} (h : BtS k w0 b c d w) (p : Addr) (hp : k + 2 < p.block) (v : Value) : BtS k w0 b c d (w.setCell p v) := by
  have hb : Below (k + 3) w (w.setCell p v) := (Below.refl _ _).setCell (by omega) v
  exact ⟨kc hb h.c1 (by show k < _; omega), kc hb h.c2 (by show k + 1 < _; omega), kc hb h.c3 (by show k + 1 < _; omega), kc hb h.z0 (by show k + 2 < _; omega), kc hb h.z1 (by show k + 2 < _; omega), kf hb h.f0 (by show k + 2 < _; omega), kf hb h.f1 (by show k + 2 < _; omega), by have := h.sz; simpa using this, h.bl.setCell (by omega) v⟩
theorem BtS.all {k : Nat} {w0 : World} {b c d : Int} {w : World} (h : BtS k w0 b c d w) : BtS k w0 b c d w ∧ w.cell? ⟨k, 1, none⟩ = some (.int .i64 b) ∧ w.cell? ⟨k + 1, 0, none⟩ = some (.int .i64 c) ∧ w.cell? ⟨k + 1, 1, none⟩ = some (.int .i64 d) := ⟨h, h.c1, h.c2, h.c3⟩
theorem BtS.allX {k : Nat} {w0 : World} {b c d : Int} {w : World} {X : Prop} (h : BtS k w0 b c d w ∧ X) : BtS k w0 b c d w ∧ w.cell? ⟨k, 1, none⟩ = some (.int .i64 b) ∧ w.cell? ⟨k + 1, 0, none⟩ = some (.int .i64 c) ∧ w.cell? ⟨k + 1, 1, none⟩ = some (.int .i64 d) := h.1.all
theorem BtS.allocX {k : Nat} {w0 : World} {b c d : Int} {w : World} {X : Prop} (h : BtS k w0 b c d w ∧ X) (o : Obj) : BtS k w0 b c d (w.alloc o) ∧ (w.alloc o).cell? ⟨k, 1, none⟩ = some (.int .i64 b) ∧ (w.alloc o).cell? ⟨k + 1, 0, none⟩ = some (.int .i64 c) ∧ (w.alloc o).cell? ⟨k + 1, 1, none⟩ = some (.int .i64 d) := (h.1.alloc o).all
set_option maxHeartbeats 1000000 in
theorem between_any (N : Nat) : ∀ (a b c d : Int) (w : World), b + d ≤ N → BdP a b → BdP c d → a * d ≤ c * b → ∃ p q, Simp a b c d p q ∧
    Calls Tryz.prog 66 #[RV a b, RV c d] w fun e w' => e = .returned (RV p q) ∧ Below w.heap.size w w' := by
  induction N with
  | zero => intro a b c d w h h1 h2; have := h1.d1; have := h2.d1; omega
  | succ N ih =>
  intro a b c d w hN ⟨a1, a2, b1, b2⟩ ⟨c1, c2, d1, d2⟩ hle
  obtain ⟨f, hf⟩ : ∃ f, a / b = f := ⟨_, rfl⟩
  obtain ⟨r, hr⟩ : ∃ r, a % b = r := ⟨_, rfl⟩
  obtain ⟨g, hg⟩ : ∃ g, c / d = g := ⟨_, rfl⟩
  obtain ⟨s, hs⟩ : ∃ s, c % d = s := ⟨_, rfl⟩
  have f0 : 0 ≤ f := by rw [← hf]; exact Int.ediv_nonneg (by omega) (by omega)
  have f1 : f ≤ 1000000000 := by rw [← hf]; have := Int.ediv_le_self b (show 0 ≤ a by omega); omega
  have g0 : 0 ≤ g := by rw [← hg]; exact Int.ediv_nonneg (by omega) (by omega)
  have g1 : g ≤ 1000000000 := by rw [← hg]; have := Int.ediv_le_self d (show 0 ≤ c by omega); omega
  have r0 : 0 ≤ r := by rw [← hr]; exact Int.emod_nonneg a (by omega)
  have r1 : r < b := by rw [← hr]; exact Int.emod_lt_of_pos a (by omega)
  have s0 : 0 ≤ s := by rw [← hs]; exact Int.emod_nonneg c (by omega)
  have s1 : s < d := by rw [← hs]; exact Int.emod_lt_of_pos c (by omega)
  have ea : a = f * b + r := by have := Int.mul_ediv_add_emod a b; rw [hf, hr] at this; grind
  have ec : c = g * d + s := by have := Int.mul_ediv_add_emod c d; rw [hg, hs] at this; grind
  have hfg : f ≤ g := by
    rw [← hg]
    refine (Int.le_ediv_iff_mul_le (by omega)).2 ?_
    have h1 : f * b * d ≤ a * d := Int.mul_le_mul_of_nonneg_right (by omega) (by omega)
    have h2 : b * (f * d) ≤ b * c := by grind
    exact Int.le_of_mul_le_mul_left h2 (by omega)
  have hb0 : (b == 0) = false := beq_eq_false_iff_ne.2 (by omega)
  have hd0 : (d == 0) = false := beq_eq_false_iff_ne.2 (by omega)
  by_cases hr0 : r = 0
  · subst hr0
    refine ⟨f, 1, simp_whole b1 d1 a1 hle (by omega), ?_⟩
    clear ih hN hle ea ec hfg
    go_enter Tryz.func66, Tryz.ntmps66
    go_wp2
    go_quiet (fail)
    go_wp2_with fail
    (try simp only [Exit.inBlock, Exit.then])
    refine bodyPost_ret_by (v := RV f 1) (by simp [results, Tryz.results66, go_sem, *]) rfl ?_
    exact ⟨rfl, by repeat (first | exact Below.refl _ _ | apply below_drewN | refine Below.setCell ?_ (by simp <;> omega) _ | refine Below.alloc ?_ (by simp <;> omega) _)⟩
  by_cases hgf : f < g
  · have hfd : (f + 1) * d ≤ c := by
      have : (f + 1) * d ≤ g * d := Int.mul_le_mul_of_nonneg_right (by omega) (by omega)
      omega
    refine ⟨f + 1, 1, simp_next b1 d1 a1 ea (by omega) r1 f0 hfd, ?_⟩
    clear ih hN hle ea ec hfg hfd
    go_enter Tryz.func66, Tryz.ntmps66
    go_wp2
    go_quiet (fail)
    go_wp2_with fail
    (try simp only [Exit.inBlock, Exit.then])
    refine bodyPost_ret_by (v := RV (f + 1) 1) (by simp [results, Tryz.results66, go_sem, *]) rfl ?_
    exact ⟨rfl, by repeat (first | exact Below.refl _ _ | apply below_drewN | refine Below.setCell ?_ (by simp <;> omega) _ | refine Below.alloc ?_ (by simp <;> omega) _)⟩
  obtain rfl : g = f := by omega
  have hrs : d * r ≤ b * s := by
    rw [ea, ec] at hle; grind
  have hs0 : 0 < s := by
    by_cases h0 : s = 0
    · subst h0
      have := Int.mul_le_mul_of_nonneg_left (show 1 ≤ r by omega) (show 0 ≤ d by omega); omega
    · omega
  have IH := fun w => ih d s b r w (by omega) ⟨d1, d2, hs0, by omega⟩ ⟨b1, b2, by omega, by omega⟩ hrs
  obtain ⟨p, q, hS, _⟩ := IH w
  have IH : ∀ w : World, Calls Tryz.prog 66 #[RV d s, RV b r] w fun e w' => e = .returned (RV p q) ∧ Below w.heap.size w w' := by
    intro w
    obtain ⟨p', q', hS', h⟩ := IH w
    obtain ⟨rfl, rfl⟩ := hS.unique hS'
    exact h
  have R := simp_step b1 d1 ea ec (by omega) hs0 f0 hS
  have hl := R.least a b b1 (by omega) hle
  have p1 := hS.p1
  have q1 := hS.q1
  refine ⟨_, _, R, ?_⟩
  have hgp : 0 ≤ g * p := Int.mul_nonneg f0 (by omega)
  have IH := Bx.mk IH
  clear ih hN hle ea ec hfg hrs hS R
  go_enter Tryz.func66, Tryz.ntmps66
  go_wp2
  go_quiet (fail)
  go_wp2_with fail
  have hdn : ¬ d = 0 := by omega
  have ht : c.tmod d = s := by rw [Int.tmod_eq_emod_of_nonneg (by omega)]; exact hs
  have HS : BtS w.heap.size w b c d ((((w.alloc (.cells #[.int .i64 a, .int .i64 b] 23)).alloc (.cells #[.int .i64 c, .int .i64 d] 23)).alloc (.cells #[.int .i64 0, .int .i64 0] 23)).drewN nq) :=
    ⟨by simp [go_sem], by simp [go_sem], by simp [go_sem], by simp [go_sem], by simp [go_sem], by simp [go_sem], by simp [go_sem], by simp, by repeat (first | exact Below.refl _ _ | apply below_drewN | refine Below.setCell ?_ (by simp <;> omega) _ | refine Below.alloc ?_ (by simp <;> omega) _)⟩
  have HS' := HS.all
  have HD := HS.drew.all
  obtain ⟨_, hc1, hc2, hc3⟩ := HS'
  generalize ((((w.alloc (.cells #[.int .i64 a, .int .i64 b] 23)).alloc (.cells #[.int .i64 c, .int .i64 d] 23)).alloc (.cells #[.int .i64 0, .int .i64 0] 23)).drewN nq) = W at *
  have hWs := HS.sz
  have hne1 : ¬ W.heap.size = w.heap.size + 1 + 1 := by have := HS.sz; omega
  have hne2 : ¬ w.heap.size + 1 + 1 = W.heap.size := by have := HS.sz; omega
  go_region_held3 (fun W' => BtS w.heap.size w b c d W' ∧ W'.cell? ⟨w.heap.size, 1, none⟩ = some (.int .i64 b) ∧ W'.cell? ⟨w.heap.size + 1, 0, none⟩ = some (.int .i64 c) ∧ W'.cell? ⟨w.heap.size + 1, 1, none⟩ = some (.int .i64 d))
    (first | (with_reducible assumption) | (refine BtS.all ?_; with_reducible assumption) | (refine BtS.allX ?_; with_reducible assumption) | (with_reducible (refine BtS.allocX ?_ _; assumption)) | (with_reducible (refine BtS.all (BtS.alloc ?_ _); assumption)) | (exact BtS.all (HS.alloc _).drew) | (refine BtS.all (BtS.set (BtS.set ?_ _ (by exact HS.sz) _) _ (by exact HS.sz) _); with_reducible assumption))
    (first | (go_at_call 66; refine (IH.out _).mono ?_; rintro e w' ⟨rfl, hb⟩; have hcc := @Below.cell _ _ _ hb; have hff := @Below.frozen _ _ _ hb; have hS' := BtS.call' hb (And.left (by assumption)); have e0 : w'.cell? ⟨w.heap.size + 1 + 1, 0, none⟩ = some (.int .i64 0) := hS'.z0; have e1 : w'.cell? ⟨w.heap.size + 1 + 1, 1, none⟩ = some (.int .i64 0) := hS'.z1; have e2 : w'.frozen? ⟨w.heap.size + 1 + 1, 0, none⟩ = false := hS'.f0; have e3 : w'.frozen? ⟨w.heap.size + 1 + 1, 1, none⟩ = false := hS'.f1; have e4 : w.heap.size + 1 + 1 < w'.heap.size := hS'.sz; have e5 := hS'.bl))
  all_goals
    (try simp only [Exit.inBlock, Exit.then])
    go_wp2_with fail
    (try simp only [Exit.inBlock, Exit.then])
    refine bodyPost_ret_by (v := RV (g * p + q) p) (by simp [results, Tryz.results66, go_sem, e0, e1, e4, hne1, hne2]) rfl ?_
    exact ⟨rfl, by repeat (first | exact e5 | refine Below.setCell ?_ (by simp <;> omega) _ | refine Below.alloc ?_ (by simp <;> omega) _)⟩
theorem simplest_any (a b c d : Int) (w : World) (h1 : BdQ a b) (h2 : BdQ c d) (hle : a * d ≤ c * b) : ∃ x y, simpleP a b c d x y ∧
    Calls Tryz.prog 47 #[RV a b, RV c d] w fun e w' => e = .returned (RV x y) ∧ Below w.heap.size w w' := by
  obtain ⟨a1, a2, b1, b2⟩ := h1
  obtain ⟨c1, c2, d1, d2⟩ := h2
  by_cases ha : 0 < a
  · have hc : 1 ≤ c := by
      have h3 : 0 < a * d := Int.mul_pos ha (by omega)
      by_cases h : c ≤ 0
      · have := Int.mul_le_mul_of_nonneg_right h (show 0 ≤ b by omega); omega
      · omega
    have IH := fun w => between_any _ a b c d w (show (b + d) ≤ ((b + d).toNat : Int) by omega) ⟨ha, a2, b1, b2⟩ ⟨hc, c2, d1, d2⟩ hle
    obtain ⟨p, q, hS, _⟩ := IH w
    have IH : ∀ w : World, Calls Tryz.prog 66 #[RV a b, RV c d] w fun e w' => e = .returned (RV p q) ∧ Below w.heap.size w w' := by
      intro w
      obtain ⟨p', q', hS', h⟩ := IH w
      obtain ⟨rfl, rfl⟩ := hS.unique hS'
      exact h
    refine ⟨p, q, .inl ⟨ha, hS⟩, ?_⟩
    have IH := Bx.mk IH
    clear hS hle
    go_enter Tryz.func47, Tryz.ntmps47
    go_wp2_with fail
    refine (IH.out _).mono ?_
    rintro e w2 ⟨rfl, hb⟩
    have e0 : w2.cell? ⟨w.heap.size + 1 + 1, 0, none⟩ = some (.int .i64 0) := kc hb (by simp [go_sem]) (by simp <;> omega)
    have e1 : w2.cell? ⟨w.heap.size + 1 + 1, 1, none⟩ = some (.int .i64 0) := kc hb (by simp [go_sem]) (by simp <;> omega)
    have e2 : w2.frozen? ⟨w.heap.size + 1 + 1, 0, none⟩ = false := kf hb (by simp [go_sem]) (by simp <;> omega)
    have e3 : w2.frozen? ⟨w.heap.size + 1 + 1, 1, none⟩ = false := kf hb (by simp [go_sem]) (by simp <;> omega)
    have e4 : w.heap.size + 1 + 1 < w2.heap.size := by have := hb.size; simp at this; omega
    have e5 : Below w.heap.size w w2 := Below.trans (b := ((w.alloc (.cells #[.int .i64 a, .int .i64 b] 23)).alloc (.cells #[.int .i64 c, .int .i64 d] 23)).alloc (.cells #[.int .i64 0, .int .i64 0] 23)) (by repeat (first | exact Below.refl _ _ | apply below_drewN | refine Below.setCell ?_ (by simp <;> omega) _ | refine Below.alloc ?_ (by simp <;> omega) _)) (hb.mono (by simp <;> omega))
    clear hb
    go_wp2_with fail
    (try simp only [Exit.inBlock, Exit.then])
    refine bodyPost_ret_by (v := RV p q) (by simp [results, Tryz.results47, go_sem, e0, e1, e4]) rfl ?_
    exact ⟨rfl, by repeat (first | exact e5 | refine Below.setCell ?_ (by simp <;> omega) _ | refine Below.alloc ?_ (by simp <;> omega) _)⟩
  by_cases hc : 0 ≤ c
  · refine ⟨0, 1, .inr (.inl ⟨by omega, hc, rfl, rfl⟩), ?_⟩
    clear hle
    go_enter Tryz.func47, Tryz.ntmps47
    go_wp2
    (try simp only [Exit.inBlock, Exit.then])
    refine bodyPost_ret_by (v := RV 0 1) (by simp [results, Tryz.results47, go_sem]) rfl ?_
    exact ⟨rfl, by repeat (first | exact Below.refl _ _ | apply below_drewN | refine Below.setCell ?_ (by simp <;> omega) _ | refine Below.alloc ?_ (by simp <;> omega) _)⟩
  · have ha' : a ≤ -1 := by
      by_cases h0 : a = 0
      · subst h0
        have := Int.mul_lt_mul_of_pos_right (show c < 0 by omega) (show 0 < b by omega); omega
      · omega
    have hle' : -c * b ≤ -a * d := by rw [Int.neg_mul, Int.neg_mul]; omega
    have IH := fun w => between_any _ (-c) d (-a) b w (show (d + b) ≤ ((d + b).toNat : Int) by omega) ⟨by omega, by omega, d1, d2⟩ ⟨by omega, by omega, b1, b2⟩ hle'
    obtain ⟨p, q, hS, _⟩ := IH w
    have IH : ∀ w : World, Calls Tryz.prog 66 #[RV (-c) d, RV (-a) b] w fun e w' => e = .returned (RV p q) ∧ Below w.heap.size w w' := by
      intro w
      obtain ⟨p', q', hS', h⟩ := IH w
      obtain ⟨rfl, rfl⟩ := hS.unique hS'
      exact h
    have hl := hS.least (-c) d d1 (Int.le_refl _) hle'
    have p1 := hS.p1
    refine ⟨-p, q, .inr (.inr ⟨by omega, by omega, by rw [Int.neg_neg]; exact hS⟩), ?_⟩
    have IH := Bx.mk IH
    clear hS hle hle'
    go_enter Tryz.func47, Tryz.ntmps47
    go_wp2_with fail
    refine (IH.out _).mono ?_
    rintro e w2 ⟨rfl, hb⟩
    have e0 : w2.cell? ⟨w.heap.size + 1 + 1, 0, none⟩ = some (.int .i64 0) := kc hb (by simp [go_sem]) (by simp <;> omega)
    have e1 : w2.cell? ⟨w.heap.size + 1 + 1, 1, none⟩ = some (.int .i64 0) := kc hb (by simp [go_sem]) (by simp <;> omega)
    have e2 : w2.frozen? ⟨w.heap.size + 1 + 1, 0, none⟩ = false := kf hb (by simp [go_sem]) (by simp <;> omega)
    have e3 : w2.frozen? ⟨w.heap.size + 1 + 1, 1, none⟩ = false := kf hb (by simp [go_sem]) (by simp <;> omega)
    have e4 : w.heap.size + 1 + 1 < w2.heap.size := by have := hb.size; simp at this; omega
    have e5 : Below w.heap.size w w2 := Below.trans (b := ((w.alloc (.cells #[.int .i64 a, .int .i64 b] 23)).alloc (.cells #[.int .i64 c, .int .i64 d] 23)).alloc (.cells #[.int .i64 0, .int .i64 0] 23)) (by repeat (first | exact Below.refl _ _ | apply below_drewN | refine Below.setCell ?_ (by simp <;> omega) _ | refine Below.alloc ?_ (by simp <;> omega) _)) (hb.mono (by simp <;> omega))
    clear hb
    go_wp2_with fail
    (try simp only [Exit.inBlock, Exit.then])
    refine bodyPost_ret_by (v := RV (-p) q) (by simp [results, Tryz.results47, go_sem, e0, e1, e4]) rfl ?_
    exact ⟨rfl, by repeat (first | exact e5 | refine Below.setCell ?_ (by simp <;> omega) _ | refine Below.alloc ?_ (by simp <;> omega) _)⟩
end Go.Proofs.YthfpkjeobdajiabGreatDoor

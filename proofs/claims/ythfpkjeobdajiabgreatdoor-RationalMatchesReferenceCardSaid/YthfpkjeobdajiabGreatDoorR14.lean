/- the head of the laws: the examples of the chapter. -/
import Derived.Test.YthfpkjeobdajiabGreatDoorR13
namespace Go.Proofs.YthfpkjeobdajiabGreatDoor
open Go.RowKit M
theorem q1 : makeQ 6 (-4) = ⟨-3, 2, 0⟩ := by kernel_rfl
theorem q2 : addQ 1 2 1 3 = ⟨5, 6, 0⟩ := by kernel_rfl
theorem q3 : floorQ (-3) 2 = (-2, 0) := by kernel_rfl
theorem q4 : NearR 584963 1000000 12 7 12 0 := by
  refine .inl ⟨by kernel_rfl, by omega, by omega, rfl, .inr ⟨by omega, ⟨7, 12, 19556⟩, ⟨3, 5, 75185⟩, ⟨⟨by decide, by decide, by decide, by decide, by decide, by decide, by decide⟩, by decide, by decide⟩, by decide, by kernel_rfl⟩⟩
theorem q5 : SimpR 29 50 59 100 7 12 0 := by
  refine .inl ⟨by kernel_rfl, by kernel_rfl, by omega, rfl, .inl ⟨by omega, ?_⟩⟩
  have h1 : Simp 8 5 18 5 2 1 := simp_next (f := 1) (r := 3) (by omega) (by omega) (by omega) (by omega) (by omega) (by omega) (by omega) (by omega)
  have h2 : Simp 41 18 21 8 5 2 := simp_step (f := 2) (r := 5) (s := 5) (by omega) (by omega) (by omega) (by omega) (by omega) (by omega) (by omega) h1
  have h3 : Simp 29 21 59 41 7 5 := simp_step (f := 1) (r := 8) (s := 18) (by omega) (by omega) (by omega) (by omega) (by omega) (by omega) (by omega) h2
  have h4 : Simp 100 59 50 29 12 7 := simp_step (f := 1) (r := 41) (s := 21) (by omega) (by omega) (by omega) (by omega) (by omega) (by omega) (by omega) h3
  exact simp_step (f := 0) (r := 29) (s := 59) (by omega) (by omega) (by omega) (by omega) (by omega) (by omega) (by omega) h4
theorem q6 : SimpR (-5) 2 (-4) 3 (-2) 1 0 := by
  refine .inl ⟨by kernel_rfl, by kernel_rfl, by omega, rfl, .inr (.inr ⟨by omega, by omega, ?_⟩)⟩
  exact simp_next (f := 1) (r := 1) (by omega) (by omega) (by omega) (by omega) (by omega) (by omega) (by omega) (by omega)
theorem q7 : txQ (-3) 2 = ⟨#[45, 51, 47, 50]⟩ := by
  have e : validQ (-3) 2 = true := by kernel_rfl
  simp [txQ, e, textL, Lib.itoa, Lib.decDigits, strL]
theorem q8 : txC (-3) 2 = 0 := by kernel_rfl
theorem q9 : makeQ 1 0 = ⟨0, 0, 7⟩ := by kernel_rfl
/-- What is kept since the start, and numbers that lie in variables. -/
structure St (w0 w : World) (L : List (Nat × Int × Int)) : Prop where
  bl : Below w0.heap.size w0 w
  tb : Tb w
  caps : ∀ t ∈ L, Cap w t.1 t.2.1 t.2.2
theorem St.call {w0 w w' : World} {L : List (Nat × Int × Int)} (h : St w0 w L) (hb : Below w.heap.size w w') : St w0 w' L :=
  ⟨h.bl.trans (hb.mono h.bl.size), h.tb.keep hb, fun t ht => (h.caps t ht).keep hb⟩
theorem St.push {w0 w : World} {L : List (Nat × Int × Int)} (h : St w0 w L) (n d : Int) : St w0 (w.alloc (.cells #[.int .i64 n, .int .i64 d] 23)) ((w.heap.size, n, d) :: L) :=
  ⟨(h.call ((Below.refl _ _).alloc (Nat.le_refl _) _)).bl, (h.call ((Below.refl _ _).alloc (Nat.le_refl _) _)).tb, fun t ht => by
    rcases List.mem_cons.1 ht with rfl | ht
    · exact Cap.fresh w n d
    · exact (h.caps t ht).alloc _⟩
theorem i64 (n : Int) (h1 : -9223372036854775808 ≤ n) (h2 : n ≤ 9223372036854775807) : I64 n := ⟨h1, h2⟩
/-- A constant number. -/
theorem const_any (n d : Int) (w : World) (h : validQ n d = true) : Calls Tryz.prog 29 #[.int .i64 n, .int .i64 d] w fun e w' => e = .returned (RV n d) ∧ Below w.heap.size w w' := by
  have b := validQ_bd _ _ h
  have h1 := b.lo
  have h2 := b.hi
  have h3 := b.pos
  have h4 := b.top
  have hq : makeQ n d = ⟨n, d, 0⟩ := by
    obtain ⟨r, hr, rfl, rfl⟩ := (validQ_iff _ _).1 h
    rw [makeQ_rat _ _ (den_ne r), Rat.divInt_ofNat, Rat.mkRat_self, rep_fits r hr]
  exact of_any n d _ w ⟨by omega, by omega⟩ ⟨by omega, by omega⟩ hq
theorem floor32 (w : World) : Calls Tryz.prog 25 #[RV (-3) 2] w fun e w' => e = .returned (.tuple #[.int .i64 (-2), .int .i64 0]) ∧ Below w.heap.size w w' := by
  have h := floorF_any (-3) 2 w (i64 (-3) (by omega) (by omega)) (i64 2 (by omega) (by omega))
  rw [q3] at h; exact h
theorem text32 (w : World) (ht : Tb w) : Calls Tryz.prog 27 #[RV (-3) 2] w fun e w' => e = .returned (.tuple #[.string ⟨#[45, 51, 47, 50]⟩, .int .i64 0]) ∧ Below w.heap.size w w' := by
  have h := textF_any (-3) 2 w (i64 (-3) (by omega) (by omega)) (i64 2 (by omega) (by omega)) ht
  rw [q7, q8] at h; exact h
theorem St.drew {w0 w : World} {L : List (Nat × Int × Int)} (h : St w0 w L) : St w0 w.drew L := h.call (Below.refl _ _).drew
theorem St.all {w0 w : World} {ba bb bd bx by_ : Nat} (h : St w0 w [(by_, -2, 1), (bx, 7, 12), (bd, 7, 12), (bb, 5, 6), (ba, -3, 2)]) : St w0 w [(by_, -2, 1), (bx, 7, 12), (bd, 7, 12), (bb, 5, 6), (ba, -3, 2)] ∧ w.cell? ⟨ba, 0, none⟩ = some (.int .i64 (-3)) ∧ w.cell? ⟨ba, 1, none⟩ = some (.int .i64 2) ∧ w.cell? ⟨bb, 0, none⟩ = some (.int .i64 (5)) ∧ w.cell? ⟨bb, 1, none⟩ = some (.int .i64 6) ∧ w.cell? ⟨bd, 0, none⟩ = some (.int .i64 (7)) ∧ w.cell? ⟨bd, 1, none⟩ = some (.int .i64 12) ∧ w.cell? ⟨bx, 0, none⟩ = some (.int .i64 (7)) ∧ w.cell? ⟨bx, 1, none⟩ = some (.int .i64 12) ∧ w.cell? ⟨by_, 0, none⟩ = some (.int .i64 (-2)) ∧ w.cell? ⟨by_, 1, none⟩ = some (.int .i64 1) :=
  ⟨h, (h.caps (ba, -3, 2) (by simp)).c0, (h.caps (ba, -3, 2) (by simp)).c1, (h.caps (bb, 5, 6) (by simp)).c0, (h.caps (bb, 5, 6) (by simp)).c1, (h.caps (bd, 7, 12) (by simp)).c0, (h.caps (bd, 7, 12) (by simp)).c1, (h.caps (bx, 7, 12) (by simp)).c0, (h.caps (bx, 7, 12) (by simp)).c1, (h.caps (by_, -2, 1) (by simp)).c0, (h.caps (by_, -2, 1) (by simp)).c1⟩
set_option maxHeartbeats 4000000 in
theorem head_any (w : World) (ht : Tb w) : Calls Tryz.prog 4 #[] w fun e w' => e = .returned (.bool true) ∧ Below w.heap.size w w' := by
  have S : Bx (St w w []) := ⟨⟨Below.refl _ _, ht, fun t h => by cases h⟩⟩
  go_enter Tryz.func4, Tryz.ntmps4
  go_wp2_with fail
  refine (make_any 6 (-4) _ _ (i64 6 (by omega) (by omega)) (i64 (-4) (by omega) (by omega)) q1).mono ?_
  rintro e w1 ⟨rfl, hb⟩
  have S := Bx.mk (S.out.call hb)
  clear hb
  have S := Bx.mk (S.out.push (-3) 2)
  go_wp2_with fail
  refine (const_any 1 2 _ (by kernel_rfl)).mono ?_
  rintro e w2 ⟨rfl, hb⟩
  have S := Bx.mk (S.out.call hb)
  clear hb
  go_wp2_with fail
  refine (const_any 1 3 _ (by kernel_rfl)).mono ?_
  rintro e w3 ⟨rfl, hb⟩
  have S := Bx.mk (S.out.call hb)
  clear hb
  go_wp2_with fail
  refine (add_any 1 2 1 3 _ _ (i64 1 (by omega) (by omega)) (i64 2 (by omega) (by omega)) (i64 1 (by omega) (by omega)) (i64 3 (by omega) (by omega)) q2).mono ?_
  rintro e w4 ⟨rfl, hb⟩
  have S := Bx.mk (S.out.call hb)
  clear hb
  have S := Bx.mk (S.out.push 5 6)
  go_wp2_with fail
  refine (const_any (-3) 2 _ (by kernel_rfl)).mono ?_
  rintro e w5 ⟨rfl, hb⟩
  have S := Bx.mk (S.out.call hb)
  clear hb
  go_wp2_with fail
  refine (floor32 _).mono ?_
  rintro e w6 ⟨rfl, hb⟩
  have S := Bx.mk (S.out.call hb)
  clear hb
  go_wp2_with fail
  refine (const_any 584963 1000000 _ (by kernel_rfl)).mono ?_
  rintro e w7 ⟨rfl, hb⟩
  have S := Bx.mk (S.out.call hb)
  clear hb
  go_wp2_with fail
  refine (near_any 584963 1000000 12 7 12 0 _ (i64 584963 (by omega) (by omega)) (i64 1000000 (by omega) (by omega)) q4).mono ?_
  rintro e w8 ⟨rfl, hb⟩
  have S := Bx.mk (S.out.call hb)
  clear hb
  have S := Bx.mk (S.out.push 7 12)
  go_wp2_with fail
  refine (const_any 29 50 _ (by kernel_rfl)).mono ?_
  rintro e w9 ⟨rfl, hb⟩
  have S := Bx.mk (S.out.call hb)
  clear hb
  go_wp2_with fail
  refine (const_any 59 100 _ (by kernel_rfl)).mono ?_
  rintro e w10 ⟨rfl, hb⟩
  have S := Bx.mk (S.out.call hb)
  clear hb
  go_wp2_with fail
  refine (simple_any 29 50 59 100 7 12 0 _ (i64 29 (by omega) (by omega)) (i64 50 (by omega) (by omega)) (i64 59 (by omega) (by omega)) (i64 100 (by omega) (by omega)) q5).mono ?_
  rintro e w11 ⟨rfl, hb⟩
  have S := Bx.mk (S.out.call hb)
  clear hb
  have S := Bx.mk (S.out.push 7 12)
  go_wp2_with fail
  refine (const_any (-5) 2 _ (by kernel_rfl)).mono ?_
  rintro e w12 ⟨rfl, hb⟩
  have S := Bx.mk (S.out.call hb)
  clear hb
  go_wp2_with fail
  refine (const_any (-4) 3 _ (by kernel_rfl)).mono ?_
  rintro e w13 ⟨rfl, hb⟩
  have S := Bx.mk (S.out.call hb)
  clear hb
  go_wp2_with fail
  refine (simple_any (-5) 2 (-4) 3 (-2) 1 0 _ (i64 (-5) (by omega) (by omega)) (i64 2 (by omega) (by omega)) (i64 (-4) (by omega) (by omega)) (i64 3 (by omega) (by omega)) q6).mono ?_
  rintro e w14 ⟨rfl, hb⟩
  have S := Bx.mk (S.out.call hb)
  clear hb
  have S := Bx.mk (S.out.push (-2) 1)
  go_wp2_with fail
  refine (const_any (-3) 2 _ (by kernel_rfl)).mono ?_
  rintro e w15 ⟨rfl, hb⟩
  have S := Bx.mk (S.out.call hb)
  clear hb
  go_wp2_with fail
  refine (text32 _ S.out.tb).mono ?_
  rintro e w16 ⟨rfl, hb⟩
  have S := Bx.mk (S.out.call hb)
  clear hb
  go_wp2_with fail
  refine (make_any 1 0 _ _ (i64 1 (by omega) (by omega)) (i64 0 (by omega) (by omega)) q9).mono ?_
  rintro e w17 ⟨rfl, hb⟩
  have S := Bx.mk (S.out.call hb)
  clear hb
  go_wp2_with fail
  have HS := S.out.call ((Below.refl _ _).alloc (Nat.le_refl _) (.cells #[.int .i64 0, .int .i64 0] 23))
  generalize (w17.alloc (.cells #[.int .i64 0, .int .i64 0] 23)) = W at *
  generalize w1.heap.size = ba at *
  generalize w4.heap.size = bb at *
  generalize w8.heap.size = bd at *
  generalize w11.heap.size = bx at *
  generalize w14.heap.size = by_ at *
  have HD := HS.drew.all
  have HA := HS.all
  obtain ⟨_, h1, h2, h3, h4, h5, h6, h7, h8, h9, h10⟩ := HA
  clear S
  go_region_held3 (fun W' => St w W' [(by_, -2, 1), (bx, 7, 12), (bd, 7, 12), (bb, 5, 6), (ba, -3, 2)] ∧ W'.cell? ⟨ba, 0, none⟩ = some (.int .i64 (-3)) ∧ W'.cell? ⟨ba, 1, none⟩ = some (.int .i64 2) ∧ W'.cell? ⟨bb, 0, none⟩ = some (.int .i64 (5)) ∧ W'.cell? ⟨bb, 1, none⟩ = some (.int .i64 6) ∧ W'.cell? ⟨bd, 0, none⟩ = some (.int .i64 (7)) ∧ W'.cell? ⟨bd, 1, none⟩ = some (.int .i64 12) ∧ W'.cell? ⟨bx, 0, none⟩ = some (.int .i64 (7)) ∧ W'.cell? ⟨bx, 1, none⟩ = some (.int .i64 12) ∧ W'.cell? ⟨by_, 0, none⟩ = some (.int .i64 (-2)) ∧ W'.cell? ⟨by_, 1, none⟩ = some (.int .i64 1))
    (first | (with_reducible assumption) | (refine St.all ?_; with_reducible assumption) | (refine St.all (And.left (b := _ ∧ _) ?_); with_reducible assumption))
    (first
      | (go_at_call 29; with_reducible refine (const_any (-3) 2 _ (by kernel_rfl)).mono ?_; rintro e w' ⟨rfl, hb⟩; have hS' := (And.left (by assumption) : St w _ [(by_, -2, 1), (bx, 7, 12), (bd, 7, 12), (bb, 5, 6), (ba, -3, 2)]).call hb)
      | (go_at_call 29; with_reducible refine (const_any 5 6 _ (by kernel_rfl)).mono ?_; rintro e w' ⟨rfl, hb⟩; have hS' := (And.left (by assumption) : St w _ [(by_, -2, 1), (bx, 7, 12), (bd, 7, 12), (bb, 5, 6), (ba, -3, 2)]).call hb)
      | (go_at_call 29; with_reducible refine (const_any 7 12 _ (by kernel_rfl)).mono ?_; rintro e w' ⟨rfl, hb⟩; have hS' := (And.left (by assumption) : St w _ [(by_, -2, 1), (bx, 7, 12), (bd, 7, 12), (bb, 5, 6), (ba, -3, 2)]).call hb)
      | (go_at_call 29; with_reducible refine (const_any (-2) 1 _ (by kernel_rfl)).mono ?_; rintro e w' ⟨rfl, hb⟩; have hS' := (And.left (by assumption) : St w _ [(by_, -2, 1), (bx, 7, 12), (bd, 7, 12), (bb, 5, 6), (ba, -3, 2)]).call hb))
  all_goals
    (try simp only [Exit.inBlock, Exit.then])
    go_wp2
    go_ret
    exact ⟨rfl, St.bl (by assumption)⟩
end Go.Proofs.YthfpkjeobdajiabGreatDoor

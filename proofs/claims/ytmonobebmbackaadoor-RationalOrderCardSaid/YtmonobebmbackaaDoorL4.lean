/- RationalOrder, all ways. -/
import Derived.Test.YtmonobebmbackaaDoorL4a1
import Derived.Test.YtmonobebmbackaaDoorL4a2
import Derived.Test.YtmonobebmbackaaDoorL4b1
import Derived.Test.YtmonobebmbackaaDoorL4b2
import Derived.Test.YtmonobebmbackaaDoorL4c
namespace Go.Proofs.YtmonobebmbackaaDoor
open Go.RowKit M
set_option maxRecDepth 20000 in
theorem order_err (a1 a2 b1 b2 c1 c2 : Int) (w : World) (ht : Tb w) (i1 : I64 a1) (i2 : I64 a2) (i3 : I64 b1) (i4 : I64 b2) (i5 : I64 c1) (i6 : I64 c2) (h1 : cmpQ a1 a2 b1 b2 = (0, 1)) (h2 : cmpQ b1 b2 a1 a2 = (0, 1)) :
    Calls Tryd.prog 6 #[RV a1 a2, RV b1 b2, RV c1 c2] w fun e w' => e = .returned (.bool true) ∧ Below w.heap.size w w' := by
  have S : Bx (St w (((w.alloc (.cells #[.int .i64 a1, .int .i64 a2] 25)).alloc (.cells #[.int .i64 b1, .int .i64 b2] 25)).alloc (.cells #[.int .i64 c1, .int .i64 c2] 25)) [(w.heap.size + 1 + 1, c1, c2), (w.heap.size + 1, b1, b2), (w.heap.size, a1, a2)]) := ⟨start3 w ht a1 a2 b1 b2 c1 c2⟩
  go_enter Tryd.func6, Tryd.ntmps6
  go_wp2_with fail
  refine (head_any _ S.out.tb).mono ?_
  rintro e w1 ⟨rfl, hb⟩
  have S := Bx.mk (S.out.call hb)
  clear hb
  obtain ⟨l0, p0, r0⟩ := S.out.caps (w.heap.size + 1 + 1, c1, c2) (by simp)
  obtain ⟨l1, p1, r1⟩ := S.out.caps (w.heap.size + 1, b1, b2) (by simp)
  obtain ⟨l2, p2, r2⟩ := S.out.caps (w.heap.size, a1, a2) (by simp)
  go_wp2_with fail
  refine (cmp_v a1 a2 b1 b2 0 1 _ i1 i2 i3 i4 h1).mono ?_
  rintro e w2 ⟨rfl, hb⟩
  have S := Bx.mk (S.out.call hb)
  clear hb
  clear l0 p0 r0 l1 p1 r1 l2 p2 r2
  obtain ⟨l0, p0, r0⟩ := S.out.caps (w.heap.size + 1 + 1, c1, c2) (by simp)
  obtain ⟨l1, p1, r1⟩ := S.out.caps (w.heap.size + 1, b1, b2) (by simp)
  obtain ⟨l2, p2, r2⟩ := S.out.caps (w.heap.size, a1, a2) (by simp)
  go_wp2_with fail
  refine (cmp_v b1 b2 a1 a2 0 1 _ i3 i4 i1 i2 h2).mono ?_
  rintro e w3 ⟨rfl, hb⟩
  have S := Bx.mk (S.out.call hb)
  clear hb
  clear l0 p0 r0 l1 p1 r1 l2 p2 r2
  obtain ⟨l0, p0, r0⟩ := S.out.caps (w.heap.size + 1 + 1, c1, c2) (by simp)
  obtain ⟨l1, p1, r1⟩ := S.out.caps (w.heap.size + 1, b1, b2) (by simp)
  obtain ⟨l2, p2, r2⟩ := S.out.caps (w.heap.size, a1, a2) (by simp)
  go_wp2_with fail
  go_ret
  exact ⟨rfl, S.out.bl⟩
theorem order_all (a1 a2 b1 b2 c1 c2 : Int) (w : World) (ht : Tb w) (i1 : I64 a1) (i2 : I64 a2) (i3 : I64 b1) (i4 : I64 b2) (i5 : I64 c1) (i6 : I64 c2) :
    Calls Tryd.prog 6 #[RV a1 a2, RV b1 b2, RV c1 c2] w fun e w' => e = .returned (.bool true) ∧ Below w.heap.size w w' := by
  rcases cmpQ_cases a1 a2 b1 b2 with ⟨h1, h2⟩ | ⟨r, s, ⟨hr, hs⟩, ⟨rfl, rfl⟩, ⟨rfl, rfl⟩, h1, h2⟩
  · exact order_err a1 a2 b1 b2 c1 c2 w ht i1 i2 i3 i4 i5 i6 h1 h2
  have vr := valid_rat r hr
  have vs := valid_rat s hs
  have B := validQ_bd _ _ vr
  have t3 := B.lo
  have t4 := B.hi
  have t5 := B.top
  have bp := B.pos
  have h4 : floorQ r.num r.den = (r.num / (r.den : Int), 0) := by simp [floorQ, vr]
  have em := Int.mul_ediv_add_emod r.num r.den
  have e0 := Int.emod_nonneg r.num (show (r.den : Int) ≠ 0 by omega)
  have e1 := Int.emod_lt_of_pos r.num (show 0 < (r.den : Int) by omega)
  have ec' : r.num / (r.den : Int) * (r.den : Int) = (r.den : Int) * (r.num / (r.den : Int)) := Int.mul_comm _ _
  have t1 : 0 ≤ r.num - r.num / (r.den : Int) * (r.den : Int) := by omega
  have t2 : r.num - r.num / (r.den : Int) * (r.den : Int) < (r.den : Int) := by omega
  obtain ⟨d1, d2, e3, h3⟩ := res_mk (subQ r.num r.den s.num s.den)
  have hd : e3 = 0 → d1 = (r - s).num := by
    rintro rfl
    rw [subQ_rat r s hr hs] at h3
    exact (rep_eq h3).2.1
  have hsg := sub_sign r s
  obtain ⟨pp1, pp2, e6, h7⟩ := res_mk (addQ r.num r.den c1 c2)
  obtain ⟨qq1, qq2, e7, h8⟩ := res_mk (addQ s.num s.den c1 c2)
  have h9 : e6 = 0 → e7 = 0 → cmpQ pp1 pp2 qq1 qq2 = (sgn (r.num * s.den) (s.num * r.den), 0) := by
    rintro rfl rfl
    obtain ⟨r', t, ⟨_, _, f1⟩, ⟨g1, g2⟩, ⟨g3, g4⟩, rfl, rfl⟩ := addQ_ok h7
    obtain ⟨s', t', ⟨_, _, f2⟩, ⟨k1, k2⟩, ⟨k3, k4⟩, rfl, rfl⟩ := addQ_ok h8
    obtain rfl := rat_eq g1 g2
    obtain rfl := rat_eq k1 k2
    obtain rfl := rat_eq (g3.symm.trans k3) (g4.symm.trans k4)
    rw [cmpQ_good (valid_rat _ f1) (valid_rat _ f2), add_sgn]
  obtain ⟨Z, W, ec, h5, h6, kk⟩ : ∃ Z W ec, cmpQ s.num s.den c1 c2 = (Z, ec) ∧ cmpQ r.num r.den c1 c2 = (W, ec) ∧ (ec = 0 → ∃ t : Rat, Z = sgn (s.num * t.den) (t.num * s.den) ∧ W = sgn (r.num * t.den) (t.num * r.den)) := by
    by_cases hc : validQ c1 c2 = true
    · obtain ⟨t, htt, rfl, rfl⟩ := (validQ_iff _ _).1 hc
      exact ⟨_, _, 0, cmpQ_good vs hc, cmpQ_good vr hc, fun _ => ⟨t, rfl, rfl⟩⟩
    · exact ⟨0, 0, 1, cmpQ_bad fun h => hc h.2, cmpQ_bad fun h => hc h.2, fun h => by cases h⟩
  have kt : sgn (r.num * s.den) (s.num * r.den) ≤ 0 → ec = 0 → Z ≤ 0 → W ≤ 0 ∧ (W < 0 ∨ sgn (r.num * s.den) (s.num * r.den) = 0 ∧ Z = 0) := by
    intro hx he hz
    obtain ⟨t, rfl, rfl⟩ := kk he
    exact sgn_trans r s t hx hz
  clear kk em e0 e1 ec' B bp vr vs
  rcases sgn_rat r s with ⟨hlt, e⟩ | ⟨heq, e⟩ | ⟨hlt, e⟩
  · rw [e] at h1 h2 h9 hsg kt
    have kw : ec = 0 → Z ≤ 0 → W < 0 := fun he hz => by have := kt (by omega) he hz; omega
    by_cases hne : r.num = s.num
    · have hne2 : ¬ (r.den : Int) = s.den := fun h => Rat.lt_irrefl ((rat_eq hne h) ▸ hlt)
      rw [← hne] at h1 h2 h3 h5 h8 i3 ⊢
      have hne := hne2
      by_cases k3 : e3 = 0
      · subst k3
        have hd := hd rfl
        exact order_lt2_d r.num r.den s.den c1 c2 w ht i1 i2 i5 i6 i4 hne _ _ d1 d2 Z W ec pp1 pp2 e6 qq1 qq2 e7 h1 h2 h3 (by simp only [decide_eq_false_iff_not]; omega) (by simp only [decide_eq_true_eq]; omega) h4 rfl t1 t2 t3 t4 t5 h5 h6 kw h7 h8 h9
      · exact order_lt2_n r.num r.den s.den c1 c2 w ht i1 i2 i5 i6 i4 hne _ _ d1 d2 e3 Z W ec pp1 pp2 e6 qq1 qq2 e7 h1 h2 h3 k3 h4 rfl t1 t2 t3 t4 t5 h5 h6 kw h7 h8 h9
    · by_cases k3 : e3 = 0
      · subst k3
        have hd := hd rfl
        exact order_lt1_d r.num r.den s.num s.den c1 c2 w ht i1 i2 i5 i6 i3 i4 hne _ _ d1 d2 Z W ec pp1 pp2 e6 qq1 qq2 e7 h1 h2 h3 (by simp only [decide_eq_false_iff_not]; omega) (by simp only [decide_eq_true_eq]; omega) h4 rfl t1 t2 t3 t4 t5 h5 h6 kw h7 h8 h9
      · exact order_lt1_n r.num r.den s.num s.den c1 c2 w ht i1 i2 i5 i6 i3 i4 hne _ _ d1 d2 e3 Z W ec pp1 pp2 e6 qq1 qq2 e7 h1 h2 h3 k3 h4 rfl t1 t2 t3 t4 t5 h5 h6 kw h7 h8 h9
  · subst heq
    rw [e] at h1 h2 h9 hsg kt
    have kw : ec = 0 → Z ≤ 0 → W < 0 ∨ Z = 0 ∧ W = 0 := fun he hz => by have := kt (by omega) he hz; omega
    by_cases k3 : e3 = 0
    · subst k3
      have hd := hd rfl
      exact order_eq_d r.num r.den c1 c2 w ht i1 i2 i5 i6 _ _ d1 d2 Z W ec pp1 pp2 e6 qq1 qq2 e7 h1 h2 h3 (by omega) h4 rfl t1 t2 t3 t4 t5 h5 h6 kw h7 h8 h9
    · exact order_eq_n r.num r.den c1 c2 w ht i1 i2 i5 i6 _ _ d1 d2 e3 Z W ec pp1 pp2 e6 qq1 qq2 e7 h1 h2 h3 k3 h4 rfl t1 t2 t3 t4 t5 h5 h6 kw h7 h8 h9
  · rw [e] at h1 h2 h9 hsg kt
    by_cases hne : r.num = s.num
    · have hne2 : ¬ (r.den : Int) = s.den := fun h => Rat.lt_irrefl ((rat_eq hne h) ▸ hlt)
      rw [← hne] at h1 h2 h3 h5 h8 i3 ⊢
      have hne := hne2
      by_cases k3 : e3 = 0
      · subst k3
        have hd := hd rfl
        exact order_gt2_d r.num r.den s.den c1 c2 w ht i1 i2 i5 i6 i4 hne _ _ d1 d2 Z W ec pp1 pp2 e6 qq1 qq2 e7 h1 h2 h3 (by simp only [decide_eq_true_eq]; omega) (by simp only [decide_eq_false_iff_not]; omega) h4 rfl t1 t2 t3 t4 t5 h5 h6 h7 h8 h9
      · exact order_gt2_n r.num r.den s.den c1 c2 w ht i1 i2 i5 i6 i4 hne _ _ d1 d2 e3 Z W ec pp1 pp2 e6 qq1 qq2 e7 h1 h2 h3 k3 h4 rfl t1 t2 t3 t4 t5 h5 h6 h7 h8 h9
    · by_cases k3 : e3 = 0
      · subst k3
        have hd := hd rfl
        exact order_gt1_d r.num r.den s.num s.den c1 c2 w ht i1 i2 i5 i6 i3 i4 hne _ _ d1 d2 Z W ec pp1 pp2 e6 qq1 qq2 e7 h1 h2 h3 (by simp only [decide_eq_true_eq]; omega) (by simp only [decide_eq_false_iff_not]; omega) h4 rfl t1 t2 t3 t4 t5 h5 h6 h7 h8 h9
      · exact order_gt1_n r.num r.den s.num s.den c1 c2 w ht i1 i2 i5 i6 i3 i4 hne _ _ d1 d2 e3 Z W ec pp1 pp2 e6 qq1 qq2 e7 h1 h2 h3 k3 h4 rfl t1 t2 t3 t4 t5 h5 h6 h7 h8 h9
end Go.Proofs.YtmonobebmbackaaDoor

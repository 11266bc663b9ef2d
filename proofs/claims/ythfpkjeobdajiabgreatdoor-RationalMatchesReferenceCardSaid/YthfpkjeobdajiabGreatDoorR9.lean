/- the closures of Cmp, Floor, Near, Simple. -/
import Derived.Test.YthfpkjeobdajiabGreatDoorR8
namespace Go.Proofs.YthfpkjeobdajiabGreatDoor
open Go.RowKit M
theorem closCmp_any (b1 b2 : Nat) (n1 d1 n2 d2 : Int) (w : World) (h1 : Cap w b1 n1 d1) (h2 : Cap w b2 n2 d2) (i1 : I64 n1) (i2 : I64 d1) (i3 : I64 n2) (i4 : I64 d2) :
    Calls Tryz.prog 53 #[.pointer (some ⟨b1, 0, none⟩), .pointer (some ⟨b2, 0, none⟩)] w (Gives (.int .i64 0) w (.int .i64 (cmpQ n1 d1 n2 d2).1) (cmpQ n1 d1 n2 d2).2) := by
  have k1 := h1
  have k2 := h2
  obtain ⟨z1, z2, z3⟩ := h1
  obtain ⟨z4, z5, z6⟩ := h2
  go_enter Tryz.func53, Tryz.ntmps53
  go_wp2_with fail
  refine (require2_any _ n1 d1 n2 d2 _ i1 i2 i3 i4 (by simp) (by simp [go_sem]) (by simp [go_sem]) (by simp [go_sem]) (by simp [go_sem])).mono ?_
  rintro e w2 ⟨hcase, hb⟩
  have hbb : Below w.heap.size w w2 := ((Below.refl _ _).alloc (Nat.le_refl _) _).trans (hb.mono (by simp <;> omega))
  have hB := Bx.mk hbb
  have k1 := k1.keep hbb
  have k2 := k2.keep hbb
  clear hb hbb
  rcases hcase with ⟨hok, rfl⟩ | ⟨hok, rfl⟩
  · rw [Bool.and_eq_true] at hok
    have B1 := validQ_bd _ _ hok.1
    have B2 := validQ_bd _ _ hok.2
    have HO := Bx.mk (fun w => compare_any n1 d1 n2 d2 w B1 B2)
    have HQ := Bx.mk (cmpQ_good hok.1 hok.2)
    obtain ⟨y0, y1, y2⟩ := k1
    obtain ⟨y3, y4, y5⟩ := k2
    clear hok B1 B2 i1 i2 i3 i4 z1 z2 z3 z4 z5 z6
    go_wp2_with fail
    refine (HO.out _).mono ?_
    rintro e w3 ⟨rfl, hb3⟩
    have hB4 := Bx.mk (hB.out.trans (hb3.mono hB.out.size))
    clear hb3
    go_wp2
    go_ret
    rw [HQ.out]
    exact ⟨.inl ⟨rfl, rfl⟩, hB4.out⟩
  · have e : cmpQ n1 d1 n2 d2 = (0, 1) := cmpQ_bad fun h => by rw [h.1, h.2] at hok; cases hok
    rw [e]
    exact ⟨rfl, .inr ⟨by decide, rfl, rfl⟩, hB.out⟩
/-- Floor: an int and an error. -/
def floorQ (n d : Int) : Int × Int := if validQ n d then (n / d, 0) else (0, 1)
theorem closFloor_any (b1 : Nat) (n1 d1 : Int) (w : World) (h1 : Cap w b1 n1 d1) (i1 : I64 n1) (i2 : I64 d1) :
    Calls Tryz.prog 55 #[.pointer (some ⟨b1, 0, none⟩)] w (Gives (.int .i64 0) w (.int .i64 (floorQ n1 d1).1) (floorQ n1 d1).2) := by
  have k1 := h1
  obtain ⟨z1, z2, z3⟩ := h1
  go_enter Tryz.func55, Tryz.ntmps55
  go_wp2_with fail
  refine (require1_any _ n1 d1 _ i1 i2 (by simp) (by simp [go_sem]) (by simp [go_sem])).mono ?_
  rintro e w2 ⟨hcase, hb⟩
  have hbb : Below w.heap.size w w2 := ((Below.refl _ _).alloc (Nat.le_refl _) _).trans (hb.mono (by simp <;> omega))
  have hB := Bx.mk hbb
  have k1 := k1.keep hbb
  clear hb hbb
  rcases hcase with ⟨hok, rfl⟩ | ⟨hok, rfl⟩
  · have B1 := validQ_bd _ _ hok
    have HO := Bx.mk (fun w => floor_any n1 d1 w B1)
    have HQ := Bx.mk (show floorQ n1 d1 = (n1 / d1, 0) from by simp [floorQ, hok])
    obtain ⟨y0, y1, y2⟩ := k1
    clear hok B1 i1 i2 z1 z2 z3
    go_wp2_with fail
    refine (HO.out _).mono ?_
    rintro e w3 ⟨rfl, hb3⟩
    have hB4 := Bx.mk (hB.out.trans (hb3.mono hB.out.size))
    clear hb3
    go_wp2
    go_ret
    rw [HQ.out]
    exact ⟨.inl ⟨rfl, rfl⟩, hB4.out⟩
  · have e : floorQ n1 d1 = (0, 1) := by simp [floorQ, hok]
    rw [e]
    exact ⟨rfl, .inr ⟨by decide, rfl, rfl⟩, hB.out⟩
/-- Near: a number and an error. -/
def NearR (A D m x y c : Int) : Prop := (validQ A D = true ∧ 1 ≤ m ∧ m ≤ 1000000000 ∧ c = 0 ∧ nearP A D m x y) ∨ ((validQ A D = false ∨ m < 1 ∨ 1000000000 < m) ∧ x = 0 ∧ y = 0 ∧ c = 1)
theorem NearR.unique {A D m x y c x' y' c' : Int} (h : NearR A D m x y c) (h' : NearR A D m x' y' c') : x = x' ∧ y = y' ∧ c = c' := by
  rcases h with ⟨h1, h2, h3, h4, h5⟩ | ⟨h1, h2, h3, h4⟩ <;> rcases h' with ⟨g1, g2, g3, g4, g5⟩ | ⟨g1, g2, g3, g4⟩
  · have := nearP_unique h5 g5; omega
  · rcases g1 with g | g | g
    · rw [h1] at g; cases g
    · omega
    · omega
  · rcases h1 with g | g | g
    · rw [g1] at g; cases g
    · omega
    · omega
  · omega
theorem nearest_any (A D m : Int) (w : World) (hv : validQ A D = true) (h1 : 1 ≤ m) : Calls Tryz.prog 44 #[RV A D, .int .i64 m] w fun e w' => ∃ x y, nearP A D m x y ∧ e = .returned (RV x y) ∧ Below w.heap.size w w' := by
  by_cases h : D ≤ m
  · exact (nearest_same A D m w h).mono fun e w' ⟨he, hb⟩ => ⟨A, D, .inl ⟨h, rfl, rfl⟩, he, hb⟩
  · exact nearest_off A D m w (validQ_bd _ _ hv) h1 (by omega) (validQ_gcd hv)
theorem closNear_any (b1 b2 : Nat) (n1 d1 m : Int) (w : World) (h1 : Cap w b1 n1 d1) (h2 : w.cell? ⟨b2, 0, none⟩ = some (.int .i64 m)) (l2 : b2 < w.heap.size) (i1 : I64 n1) (i2 : I64 d1) :
    Calls Tryz.prog 42 #[.pointer (some ⟨b1, 0, none⟩), .pointer (some ⟨b2, 0, none⟩)] w fun e w' => ∃ x y c, NearR n1 d1 m x y c ∧ Gives (RV 0 0) w (RV x y) c e w' := by
  have k1 := h1.alloc (.cells #[.int .i64 0, .int .i64 0] 23)
  have p := Plc.fresh w
  obtain ⟨z1, z2, z3⟩ := h1
  go_enter Tryz.func42, Tryz.ntmps42
  go_wp2_with fail
  refine (require1_any _ n1 d1 _ i1 i2 (by simp) (by simp [go_sem]) (by simp [go_sem])).mono ?_
  rintro e w2 ⟨hcase, hb⟩
  have hbb : Below (w.alloc (.cells #[.int .i64 0, .int .i64 0] 23)).heap.size (w.alloc (.cells #[.int .i64 0, .int .i64 0] 23)) w2 := ((Below.refl _ _).alloc (Nat.le_refl _) _).trans (hb.mono (by simp <;> omega))
  have hB := Bx.mk ((show Below w.heap.size w (w.alloc (.cells #[.int .i64 0, .int .i64 0] 23)) from by repeat (first | exact Below.refl _ _ | apply below_drewN | refine Below.setCell ?_ (by simp <;> omega) _ | refine Below.alloc ?_ (by simp <;> omega) _)).trans (hbb.mono (by simp <;> omega)))
  have k1 := k1.keep hbb
  have p := p.keep hbb
  have h2 : w2.cell? ⟨b2, 0, none⟩ = some (.int .i64 m) := kc hB.out h2 l2
  clear hb hbb
  rcases hcase with ⟨hok, rfl⟩ | ⟨hok, rfl⟩
  · obtain ⟨y0, y1, y2⟩ := k1
    have p := Bx.mk p
    have pz := p.out.lt
    clear i1 i2 z1 z2 z3
    by_cases m1 : m < 1
    · have HQ := Bx.mk (show NearR n1 d1 m 0 0 1 from .inr ⟨.inr (.inl m1), rfl, rfl, rfl⟩)
      go_wp2_with fail
      exact ⟨rfl, 0, 0, 1, HQ.out, .inr ⟨by decide, rfl, rfl⟩, hB.out⟩
    by_cases m2 : 1000000000 < m
    · have HQ := Bx.mk (show NearR n1 d1 m 0 0 1 from .inr ⟨.inr (.inr m2), rfl, rfl, rfl⟩)
      go_wp2_with fail
      exact ⟨rfl, 0, 0, 1, HQ.out, .inr ⟨by decide, rfl, rfl⟩, hB.out⟩
    have HO := Bx.mk (fun w => nearest_any n1 d1 m w hok (by omega))
    have HK := Bx.mk hok
    clear hok
    go_wp2_with fail
    refine (HO.out _).mono ?_
    rintro e w4 ⟨x, y, hn, rfl, hb4⟩
    have HQ := Bx.mk (show NearR n1 d1 m x y 0 from .inl ⟨HK.out, by omega, by omega, rfl, hn⟩)
    have hB4 := Bx.mk (hB.out.trans (hb4.mono hB.out.size))
    obtain ⟨p0, p1, p2, p3, p4⟩ := p.out.keep hb4
    clear hb4 hn
    go_wp2
    (try simp only [Exit.inBlock, Exit.then])
    refine bodyPost_ret_by (v := RV x y) (by simp [results, Tryz.results42, go_sem, p1, p2]) rfl ?_
    exact ⟨x, y, 0, HQ.out, .inl ⟨rfl, rfl⟩, (hB4.out.setCell (Nat.le_refl _) _).setCell (Nat.le_refl _) _⟩
  · exact ⟨rfl, 0, 0, 1, .inr ⟨.inl hok, rfl, rfl, rfl⟩, .inr ⟨by decide, rfl, rfl⟩, hB.out⟩
/-- Simple: a number and an error. -/
def SimpR (a b c d x y e : Int) : Prop := (validQ a b = true ∧ validQ c d = true ∧ a * d ≤ c * b ∧ e = 0 ∧ simpleP a b c d x y) ∨ ((¬ (validQ a b = true ∧ validQ c d = true) ∨ c * b < a * d) ∧ x = 0 ∧ y = 0 ∧ e = 1)
theorem SimpR.unique {a b c d x y e x' y' e' : Int} (h : SimpR a b c d x y e) (h' : SimpR a b c d x' y' e') : x = x' ∧ y = y' ∧ e = e' := by
  rcases h with ⟨h1, h2, h3, h4, h5⟩ | ⟨h1, h2, h3, h4⟩ <;> rcases h' with ⟨g1, g2, g3, g4, g5⟩ | ⟨g1, g2, g3, g4⟩
  · have := simpleP_unique h5 g5; omega
  · rcases g1 with g | g
    · exact absurd ⟨h1, h2⟩ g
    · omega
  · rcases h1 with g | g
    · exact absurd ⟨g1, g2⟩ g
    · omega
  · omega
theorem closSimple_any (b1 b2 : Nat) (n1 d1 n2 d2 : Int) (w : World) (h1 : Cap w b1 n1 d1) (h2 : Cap w b2 n2 d2) (i1 : I64 n1) (i2 : I64 d1) (i3 : I64 n2) (i4 : I64 d2) :
    Calls Tryz.prog 45 #[.pointer (some ⟨b1, 0, none⟩), .pointer (some ⟨b2, 0, none⟩)] w fun e w' => ∃ x y c, SimpR n1 d1 n2 d2 x y c ∧ Gives (RV 0 0) w (RV x y) c e w' := by
  have k1 := h1.alloc (.cells #[.int .i64 0, .int .i64 0] 23)
  have k2 := h2.alloc (.cells #[.int .i64 0, .int .i64 0] 23)
  have p := Plc.fresh w
  obtain ⟨z1, z2, z3⟩ := h1
  obtain ⟨z4, z5, z6⟩ := h2
  go_enter Tryz.func45, Tryz.ntmps45
  go_wp2_with fail
  refine (require2_any _ n1 d1 n2 d2 _ i1 i2 i3 i4 (by simp) (by simp [go_sem]) (by simp [go_sem]) (by simp [go_sem]) (by simp [go_sem])).mono ?_
  rintro e w2 ⟨hcase, hb⟩
  have hbb : Below (w.alloc (.cells #[.int .i64 0, .int .i64 0] 23)).heap.size (w.alloc (.cells #[.int .i64 0, .int .i64 0] 23)) w2 := ((Below.refl _ _).alloc (Nat.le_refl _) _).trans (hb.mono (by simp <;> omega))
  have hB := Bx.mk ((show Below w.heap.size w (w.alloc (.cells #[.int .i64 0, .int .i64 0] 23)) from by repeat (first | exact Below.refl _ _ | apply below_drewN | refine Below.setCell ?_ (by simp <;> omega) _ | refine Below.alloc ?_ (by simp <;> omega) _)).trans (hbb.mono (by simp <;> omega)))
  have k1 := k1.keep hbb
  have k2 := k2.keep hbb
  have p := p.keep hbb
  clear hb hbb
  rcases hcase with ⟨hok, rfl⟩ | ⟨hok, rfl⟩
  · rw [Bool.and_eq_true] at hok
    have B1 := validQ_bd _ _ hok.1
    have B2 := validQ_bd _ _ hok.2
    have HO := Bx.mk (fun w => compare_any n1 d1 n2 d2 w B1 B2)
    have HS := Bx.mk (fun w hle => simplest_any n1 d1 n2 d2 w B1 B2 hle)
    obtain ⟨y0, y1, y2⟩ := id k1
    obtain ⟨y3, y4, y5⟩ := id k2
    have HK := Bx.mk hok
    have K := Bx.mk (And.intro k1 k2)
    have p := Bx.mk p
    have pz := p.out.lt
    clear hok B1 B2 i1 i2 i3 i4 z1 z2 z3 z4 z5 z6 k1 k2
    go_wp2_with fail
    refine (HO.out _).mono ?_
    rintro e w3 ⟨rfl, hb3⟩
    have hB3 := Bx.mk (hB.out.trans (hb3.mono hB.out.size))
    have p := Bx.mk (p.out.keep hb3)
    have k := And.intro (K.out.1.keep hb3) (K.out.2.keep hb3)
    obtain ⟨⟨g0, g1, g2⟩, g3, g4, g5⟩ := k
    have pz := p.out.lt
    clear y0 y1 y2 y3 y4 y5 hb3
    rcases sgn_cases (n1 * d2) (n2 * d1) with ⟨hlt, e⟩ | ⟨hlt, e⟩ | ⟨hlt, e⟩
    · rw [e]
      clear e
      obtain ⟨x, y, hS, _⟩ := HS.out w3 (by omega)
      have HT : Bx (∀ w, Calls Tryz.prog 47 #[RV n1 d1, RV n2 d2] w fun e w' => e = .returned (RV x y) ∧ Below w.heap.size w w') := ⟨fun w => by
        obtain ⟨x', y', hS', h⟩ := HS.out w (by omega)
        obtain ⟨rfl, rfl⟩ := simpleP_unique hS hS'
        exact h⟩
      have HQ := Bx.mk (show SimpR n1 d1 n2 d2 x y 0 from .inl ⟨HK.out.1, HK.out.2, by omega, rfl, hS⟩)
      clear hS hlt
      go_wp2_with fail
      refine (HT.out _).mono ?_
      rintro e w4 ⟨rfl, hb4⟩
      have hB4 := Bx.mk (hB3.out.trans (hb4.mono hB3.out.size))
      obtain ⟨p0, p1, p2, p3, p4⟩ := p.out.keep hb4
      clear hb4
      go_wp2
      (try simp only [Exit.inBlock, Exit.then])
      refine bodyPost_ret_by (v := RV x y) (by simp [results, Tryz.results45, go_sem, p1, p2]) rfl ?_
      exact ⟨x, y, 0, HQ.out, .inl ⟨rfl, rfl⟩, (hB4.out.setCell (Nat.le_refl _) _).setCell (Nat.le_refl _) _⟩
    · rw [e]
      clear e
      obtain ⟨x, y, hS, _⟩ := HS.out w3 (by omega)
      have HT : Bx (∀ w, Calls Tryz.prog 47 #[RV n1 d1, RV n2 d2] w fun e w' => e = .returned (RV x y) ∧ Below w.heap.size w w') := ⟨fun w => by
        obtain ⟨x', y', hS', h⟩ := HS.out w (by omega)
        obtain ⟨rfl, rfl⟩ := simpleP_unique hS hS'
        exact h⟩
      have HQ := Bx.mk (show SimpR n1 d1 n2 d2 x y 0 from .inl ⟨HK.out.1, HK.out.2, by omega, rfl, hS⟩)
      clear hS hlt
      go_wp2_with fail
      refine (HT.out _).mono ?_
      rintro e w4 ⟨rfl, hb4⟩
      have hB4 := Bx.mk (hB3.out.trans (hb4.mono hB3.out.size))
      obtain ⟨p0, p1, p2, p3, p4⟩ := p.out.keep hb4
      clear hb4
      go_wp2
      (try simp only [Exit.inBlock, Exit.then])
      refine bodyPost_ret_by (v := RV x y) (by simp [results, Tryz.results45, go_sem, p1, p2]) rfl ?_
      exact ⟨x, y, 0, HQ.out, .inl ⟨rfl, rfl⟩, (hB4.out.setCell (Nat.le_refl _) _).setCell (Nat.le_refl _) _⟩
    · rw [e]
      have HQ := Bx.mk (show SimpR n1 d1 n2 d2 0 0 1 from .inr ⟨.inr hlt, rfl, rfl, rfl⟩)
      clear e hlt
      go_wp2_with fail
      exact ⟨rfl, 0, 0, 1, HQ.out, .inr ⟨by decide, rfl, rfl⟩, hB3.out⟩
  · exact ⟨rfl, 0, 0, 1, .inr ⟨.inl fun h => by (rw [h.1, h.2] at hok; cases hok), rfl, rfl, rfl⟩, .inr ⟨by decide, rfl, rfl⟩, hB.out⟩
end Go.Proofs.YthfpkjeobdajiabGreatDoor

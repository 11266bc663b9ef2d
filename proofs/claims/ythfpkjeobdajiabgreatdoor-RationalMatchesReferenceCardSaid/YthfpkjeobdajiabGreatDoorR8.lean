/- the closures of rational's exported functions. -/
import Derived.Test.YthfpkjeobdajiabGreatDoorR7
namespace Go.Proofs.YthfpkjeobdajiabGreatDoor
open Go.RowKit M
/-- A variable that holds a number's two integers. -/
structure Cap (w : World) (b : Nat) (n d : Int) : Prop where
  lt : b < w.heap.size
  c0 : w.cell? ⟨b, 0, none⟩ = some (.int .i64 n)
  c1 : w.cell? ⟨b, 1, none⟩ = some (.int .i64 d)
theorem Cap.keep {w w' : World} {b : Nat} {n d : Int} (h : Cap w b n d) (hb : Below w.heap.size w w') : Cap w' b n d := ⟨Nat.lt_of_lt_of_le h.lt hb.size, kc hb h.c0 h.lt, kc hb h.c1 h.lt⟩
/-- The place of what comes back. -/
structure Plc (w : World) (b : Nat) : Prop where
  lt : b < w.heap.size
  c0 : w.cell? ⟨b, 0, none⟩ = some (.int .i64 0)
  c1 : w.cell? ⟨b, 1, none⟩ = some (.int .i64 0)
  f0 : w.frozen? ⟨b, 0, none⟩ = false
  f1 : w.frozen? ⟨b, 1, none⟩ = false
theorem Plc.keep {w w' : World} {b : Nat} (h : Plc w b) (hb : Below w.heap.size w w') : Plc w' b := ⟨Nat.lt_of_lt_of_le h.lt hb.size, kc hb h.c0 h.lt, kc hb h.c1 h.lt, kf hb h.f0 h.lt, kf hb h.f1 h.lt⟩
theorem Plc.fresh (w : World) : Plc (w.alloc (.cells #[.int .i64 0, .int .i64 0] 23)) w.heap.size := ⟨by simp, by simp [go_sem], by simp [go_sem], by simp [go_sem], by simp [go_sem]⟩
theorem Cap.fresh (w : World) (n d : Int) : Cap (w.alloc (.cells #[.int .i64 n, .int .i64 d] 23)) w.heap.size n d := ⟨by simp, by simp [go_sem], by simp [go_sem]⟩
theorem Cap.alloc {w : World} {b : Nat} {n d : Int} (h : Cap w b n d) (o : Obj) : Cap (w.alloc o) b n d := h.keep ((Below.refl _ _).alloc (Nat.le_refl _) o)
theorem Plc.alloc {w : World} {b : Nat} (h : Plc w b) (o : Obj) : Plc (w.alloc o) b := h.keep ((Below.refl _ _).alloc (Nat.le_refl _) o)
theorem closMake_any (b1 b2 : Nat) (n d : Int) (q : Res) (w : World) (h1 : w.cell? ⟨b1, 0, none⟩ = some (.int .i64 n)) (h2 : w.cell? ⟨b2, 0, none⟩ = some (.int .i64 d)) (l1 : b1 < w.heap.size) (l2 : b2 < w.heap.size)
    (hn : I64 n) (hd : I64 d) (hq : makeQ n d = q) :
    Calls Tryz.prog 35 #[.pointer (some ⟨b1, 0, none⟩), .pointer (some ⟨b2, 0, none⟩)] w (Gives (RV 0 0) w (RV q.n q.d) q.e) := by
  have HR := Bx.mk (fun w => reduce_any n d q w hn hd hq)
  clear hn hd hq
  go_enter Tryz.func35, Tryz.ntmps35
  go_wp2_with fail
  refine (HR.out _).mono ?_
  rintro e w2 ⟨hcase, hb⟩
  have hB := Bx.mk ((show Below w.heap.size w (w.alloc (.cells #[.int .i64 0, .int .i64 0] 23)) from by repeat (first | exact Below.refl _ _ | apply below_drewN | refine Below.setCell ?_ (by simp <;> omega) _ | refine Below.alloc ?_ (by simp <;> omega) _)).trans (hb.mono (by simp <;> omega)))
  obtain ⟨p0, p1, p2, p3, p4⟩ := (Plc.fresh w).keep hb
  clear hb
  rcases hcase with ⟨hc, rfl⟩ | ⟨hc, hv, rfl⟩
  · go_wp2
    (try simp only [Exit.inBlock, Exit.then])
    refine bodyPost_ret_by (v := RV q.n q.d) (by simp [results, Tryz.results35, go_sem, p1, p2]) rfl ?_
    exact ⟨.inl ⟨hc, rfl⟩, (hB.out.setCell (Nat.le_refl _) _).setCell (Nat.le_refl _) _⟩
  · exact ⟨rfl, .inr ⟨hc, hv, rfl⟩, hB.out⟩
theorem closAdd_any (b1 b2 b3 : Nat) (n1 d1 n2 d2 : Int) (q : Res) (w : World) (h1 : Cap w b1 n1 d1) (h2 : Cap w b2 n2 d2) (h3 : w.cell? ⟨b3, 0, none⟩ = some (.func (Fn.func 38) #[] #[])) (l3 : b3 < w.heap.size)
    (i1 : I64 n1) (i2 : I64 d1) (i3 : I64 n2) (i4 : I64 d2) (hq : addQ n1 d1 n2 d2 = q) :
    Calls Tryz.prog 62 #[.pointer (some ⟨b1, 0, none⟩), .pointer (some ⟨b2, 0, none⟩), .pointer (some ⟨b3, 0, none⟩)] w (Gives (RV 0 0) w (RV q.n q.d) q.e) := by
  have k1 := h1.alloc (.cells #[.int .i64 0, .int .i64 0] 23)
  have k2 := h2.alloc (.cells #[.int .i64 0, .int .i64 0] 23)
  have p := Plc.fresh w
  obtain ⟨z1, z2, z3⟩ := h1
  obtain ⟨z4, z5, z6⟩ := h2
  go_enter Tryz.func62, Tryz.ntmps62
  go_wp2_with fail
  refine (require2_any _ n1 d1 n2 d2 _ i1 i2 i3 i4 (by simp) (by simp [go_sem]) (by simp [go_sem]) (by simp [go_sem]) (by simp [go_sem])).mono ?_
  rintro e w2 ⟨hcase, hb⟩
  have hbb : Below (w.alloc (.cells #[.int .i64 0, .int .i64 0] 23)).heap.size (w.alloc (.cells #[.int .i64 0, .int .i64 0] 23)) w2 := ((Below.refl _ _).alloc (Nat.le_refl _) _).trans (hb.mono (by simp <;> omega))
  have hB := Bx.mk ((show Below w.heap.size w (w.alloc (.cells #[.int .i64 0, .int .i64 0] 23)) from by repeat (first | exact Below.refl _ _ | apply below_drewN | refine Below.setCell ?_ (by simp <;> omega) _ | refine Below.alloc ?_ (by simp <;> omega) _)).trans (hbb.mono (by simp <;> omega)))
  have k1 := k1.keep hbb
  have k2 := k2.keep hbb
  have p := p.keep hbb
  have h3 : w2.cell? ⟨b3, 0, none⟩ = some (.func (Fn.func 38) #[] #[]) := kc hB.out h3 l3
  clear hb hbb
  rcases hcase with ⟨hok, rfl⟩ | ⟨hok, rfl⟩
  · rw [Bool.and_eq_true] at hok
    have B1 := validQ_bd _ _ hok.1
    have B2 := validQ_bd _ _ hok.2
    have HO := Bx.mk (fun w => plus_any n1 d1 n2 d2 w B1 B2)
    have HR := Bx.mk (fun w => reduce_any (n1 * d2 + n2 * d1) (d1 * d2) q w (by have h1 := prod_bd B1.lo B1.hi (show -1000000000 ≤ d2 by have := B2.pos; omega) B2.top; have h2 := prod_bd B2.lo B2.hi (show -1000000000 ≤ d1 by have := B1.pos; omega) B1.top; exact ⟨by omega, by omega⟩) (by have h1 := prod_bd (show -1000000000 ≤ d1 by have := B1.pos; omega) B1.top (show -1000000000 ≤ d2 by have := B2.pos; omega) B2.top; exact ⟨by omega, by omega⟩) (by rw [← hq, addQ, opQ, if_pos (by simp [hok])]))
    obtain ⟨y0, y1, y2⟩ := k1
    obtain ⟨y3, y4, y5⟩ := k2
    have p := Bx.mk p
    have pz := p.out.lt
    clear hok B1 B2 hq i1 i2 i3 i4 z1 z2 z3 z4 z5 z6
    go_wp2_with fail
    refine (HO.out _).mono ?_
    rintro e w3 ⟨rfl, hb3⟩
    go_wp2_with fail
    refine (HR.out _).mono ?_
    rintro e w4 ⟨hcase, hb4⟩
    have hB4 := Bx.mk (hB.out.trans ((hb3.trans (hb4.mono hb3.size)).mono hB.out.size))
    obtain ⟨p0, p1, p2, p3, p4⟩ := p.out.keep (hb3.trans (hb4.mono hb3.size))
    clear hb3 hb4
    rcases hcase with ⟨hc, rfl⟩ | ⟨hc, hv, rfl⟩
    · go_wp2
      (try simp only [Exit.inBlock, Exit.then])
      refine bodyPost_ret_by (v := RV q.n q.d) (by simp [results, Tryz.results62, go_sem, p1, p2]) rfl ?_
      exact ⟨.inl ⟨hc, rfl⟩, (hB4.out.setCell (Nat.le_refl _) _).setCell (Nat.le_refl _) _⟩
    · exact ⟨rfl, .inr ⟨hc, hv, rfl⟩, hB4.out⟩
  · have e : q = ⟨0, 0, 1⟩ := by
      rw [← hq, addQ]
      refine opQ_bad fun h => ?_
      rw [h.1, h.2] at hok; cases hok
    subst e
    exact ⟨rfl, .inr ⟨by decide, rfl, rfl⟩, hB.out⟩
theorem closSub_any (b1 b2 b3 : Nat) (n1 d1 n2 d2 : Int) (q : Res) (w : World) (h1 : Cap w b1 n1 d1) (h2 : Cap w b2 n2 d2) (h3 : w.cell? ⟨b3, 0, none⟩ = some (.func (Fn.func 39) #[] #[])) (l3 : b3 < w.heap.size)
    (i1 : I64 n1) (i2 : I64 d1) (i3 : I64 n2) (i4 : I64 d2) (hq : subQ n1 d1 n2 d2 = q) :
    Calls Tryz.prog 62 #[.pointer (some ⟨b1, 0, none⟩), .pointer (some ⟨b2, 0, none⟩), .pointer (some ⟨b3, 0, none⟩)] w (Gives (RV 0 0) w (RV q.n q.d) q.e) := by
  have k1 := h1.alloc (.cells #[.int .i64 0, .int .i64 0] 23)
  have k2 := h2.alloc (.cells #[.int .i64 0, .int .i64 0] 23)
  have p := Plc.fresh w
  obtain ⟨z1, z2, z3⟩ := h1
  obtain ⟨z4, z5, z6⟩ := h2
  go_enter Tryz.func62, Tryz.ntmps62
  go_wp2_with fail
  refine (require2_any _ n1 d1 n2 d2 _ i1 i2 i3 i4 (by simp) (by simp [go_sem]) (by simp [go_sem]) (by simp [go_sem]) (by simp [go_sem])).mono ?_
  rintro e w2 ⟨hcase, hb⟩
  have hbb : Below (w.alloc (.cells #[.int .i64 0, .int .i64 0] 23)).heap.size (w.alloc (.cells #[.int .i64 0, .int .i64 0] 23)) w2 := ((Below.refl _ _).alloc (Nat.le_refl _) _).trans (hb.mono (by simp <;> omega))
  have hB := Bx.mk ((show Below w.heap.size w (w.alloc (.cells #[.int .i64 0, .int .i64 0] 23)) from by repeat (first | exact Below.refl _ _ | apply below_drewN | refine Below.setCell ?_ (by simp <;> omega) _ | refine Below.alloc ?_ (by simp <;> omega) _)).trans (hbb.mono (by simp <;> omega)))
  have k1 := k1.keep hbb
  have k2 := k2.keep hbb
  have p := p.keep hbb
  have h3 : w2.cell? ⟨b3, 0, none⟩ = some (.func (Fn.func 39) #[] #[]) := kc hB.out h3 l3
  clear hb hbb
  rcases hcase with ⟨hok, rfl⟩ | ⟨hok, rfl⟩
  · rw [Bool.and_eq_true] at hok
    have B1 := validQ_bd _ _ hok.1
    have B2 := validQ_bd _ _ hok.2
    have HO := Bx.mk (fun w => minus_any n1 d1 n2 d2 w B1 B2)
    have HR := Bx.mk (fun w => reduce_any (n1 * d2 - n2 * d1) (d1 * d2) q w (by have h1 := prod_bd B1.lo B1.hi (show -1000000000 ≤ d2 by have := B2.pos; omega) B2.top; have h2 := prod_bd B2.lo B2.hi (show -1000000000 ≤ d1 by have := B1.pos; omega) B1.top; exact ⟨by omega, by omega⟩) (by have h1 := prod_bd (show -1000000000 ≤ d1 by have := B1.pos; omega) B1.top (show -1000000000 ≤ d2 by have := B2.pos; omega) B2.top; exact ⟨by omega, by omega⟩) (by rw [← hq, subQ, opQ, if_pos (by simp [hok])]))
    obtain ⟨y0, y1, y2⟩ := k1
    obtain ⟨y3, y4, y5⟩ := k2
    have p := Bx.mk p
    have pz := p.out.lt
    clear hok B1 B2 hq i1 i2 i3 i4 z1 z2 z3 z4 z5 z6
    go_wp2_with fail
    refine (HO.out _).mono ?_
    rintro e w3 ⟨rfl, hb3⟩
    go_wp2_with fail
    refine (HR.out _).mono ?_
    rintro e w4 ⟨hcase, hb4⟩
    have hB4 := Bx.mk (hB.out.trans ((hb3.trans (hb4.mono hb3.size)).mono hB.out.size))
    obtain ⟨p0, p1, p2, p3, p4⟩ := p.out.keep (hb3.trans (hb4.mono hb3.size))
    clear hb3 hb4
    rcases hcase with ⟨hc, rfl⟩ | ⟨hc, hv, rfl⟩
    · go_wp2
      (try simp only [Exit.inBlock, Exit.then])
      refine bodyPost_ret_by (v := RV q.n q.d) (by simp [results, Tryz.results62, go_sem, p1, p2]) rfl ?_
      exact ⟨.inl ⟨hc, rfl⟩, (hB4.out.setCell (Nat.le_refl _) _).setCell (Nat.le_refl _) _⟩
    · exact ⟨rfl, .inr ⟨hc, hv, rfl⟩, hB4.out⟩
  · have e : q = ⟨0, 0, 1⟩ := by
      rw [← hq, subQ]
      refine opQ_bad fun h => ?_
      rw [h.1, h.2] at hok; cases hok
    subst e
    exact ⟨rfl, .inr ⟨by decide, rfl, rfl⟩, hB.out⟩
theorem closMul_any (b1 b2 b3 : Nat) (n1 d1 n2 d2 : Int) (q : Res) (w : World) (h1 : Cap w b1 n1 d1) (h2 : Cap w b2 n2 d2) (h3 : w.cell? ⟨b3, 0, none⟩ = some (.func (Fn.func 40) #[] #[])) (l3 : b3 < w.heap.size)
    (i1 : I64 n1) (i2 : I64 d1) (i3 : I64 n2) (i4 : I64 d2) (hq : mulQ n1 d1 n2 d2 = q) :
    Calls Tryz.prog 62 #[.pointer (some ⟨b1, 0, none⟩), .pointer (some ⟨b2, 0, none⟩), .pointer (some ⟨b3, 0, none⟩)] w (Gives (RV 0 0) w (RV q.n q.d) q.e) := by
  have k1 := h1.alloc (.cells #[.int .i64 0, .int .i64 0] 23)
  have k2 := h2.alloc (.cells #[.int .i64 0, .int .i64 0] 23)
  have p := Plc.fresh w
  obtain ⟨z1, z2, z3⟩ := h1
  obtain ⟨z4, z5, z6⟩ := h2
  go_enter Tryz.func62, Tryz.ntmps62
  go_wp2_with fail
  refine (require2_any _ n1 d1 n2 d2 _ i1 i2 i3 i4 (by simp) (by simp [go_sem]) (by simp [go_sem]) (by simp [go_sem]) (by simp [go_sem])).mono ?_
  rintro e w2 ⟨hcase, hb⟩
  have hbb : Below (w.alloc (.cells #[.int .i64 0, .int .i64 0] 23)).heap.size (w.alloc (.cells #[.int .i64 0, .int .i64 0] 23)) w2 := ((Below.refl _ _).alloc (Nat.le_refl _) _).trans (hb.mono (by simp <;> omega))
  have hB := Bx.mk ((show Below w.heap.size w (w.alloc (.cells #[.int .i64 0, .int .i64 0] 23)) from by repeat (first | exact Below.refl _ _ | apply below_drewN | refine Below.setCell ?_ (by simp <;> omega) _ | refine Below.alloc ?_ (by simp <;> omega) _)).trans (hbb.mono (by simp <;> omega)))
  have k1 := k1.keep hbb
  have k2 := k2.keep hbb
  have p := p.keep hbb
  have h3 : w2.cell? ⟨b3, 0, none⟩ = some (.func (Fn.func 40) #[] #[]) := kc hB.out h3 l3
  clear hb hbb
  rcases hcase with ⟨hok, rfl⟩ | ⟨hok, rfl⟩
  · rw [Bool.and_eq_true] at hok
    have B1 := validQ_bd _ _ hok.1
    have B2 := validQ_bd _ _ hok.2
    have HO := Bx.mk (fun w => times_any n1 d1 n2 d2 w B1 B2)
    have HR := Bx.mk (fun w => reduce_any (n1 * n2) (d1 * d2) q w (by have h1 := prod_bd B1.lo B1.hi B2.lo B2.hi; exact ⟨by omega, by omega⟩) (by have h1 := prod_bd (show -1000000000 ≤ d1 by have := B1.pos; omega) B1.top (show -1000000000 ≤ d2 by have := B2.pos; omega) B2.top; exact ⟨by omega, by omega⟩) (by rw [← hq, mulQ, opQ, if_pos (by simp [hok])]))
    obtain ⟨y0, y1, y2⟩ := k1
    obtain ⟨y3, y4, y5⟩ := k2
    have p := Bx.mk p
    have pz := p.out.lt
    clear hok B1 B2 hq i1 i2 i3 i4 z1 z2 z3 z4 z5 z6
    go_wp2_with fail
    refine (HO.out _).mono ?_
    rintro e w3 ⟨rfl, hb3⟩
    go_wp2_with fail
    refine (HR.out _).mono ?_
    rintro e w4 ⟨hcase, hb4⟩
    have hB4 := Bx.mk (hB.out.trans ((hb3.trans (hb4.mono hb3.size)).mono hB.out.size))
    obtain ⟨p0, p1, p2, p3, p4⟩ := p.out.keep (hb3.trans (hb4.mono hb3.size))
    clear hb3 hb4
    rcases hcase with ⟨hc, rfl⟩ | ⟨hc, hv, rfl⟩
    · go_wp2
      (try simp only [Exit.inBlock, Exit.then])
      refine bodyPost_ret_by (v := RV q.n q.d) (by simp [results, Tryz.results62, go_sem, p1, p2]) rfl ?_
      exact ⟨.inl ⟨hc, rfl⟩, (hB4.out.setCell (Nat.le_refl _) _).setCell (Nat.le_refl _) _⟩
    · exact ⟨rfl, .inr ⟨hc, hv, rfl⟩, hB4.out⟩
  · have e : q = ⟨0, 0, 1⟩ := by
      rw [← hq, mulQ]
      refine opQ_bad fun h => ?_
      rw [h.1, h.2] at hok; cases hok
    subst e
    exact ⟨rfl, .inr ⟨by decide, rfl, rfl⟩, hB.out⟩
theorem closDiv_any (b1 b2 b3 : Nat) (n1 d1 n2 d2 : Int) (q : Res) (w : World) (h1 : Cap w b1 n1 d1) (h2 : Cap w b2 n2 d2) (h3 : w.cell? ⟨b3, 0, none⟩ = some (.func (Fn.func 41) #[] #[])) (l3 : b3 < w.heap.size)
    (i1 : I64 n1) (i2 : I64 d1) (i3 : I64 n2) (i4 : I64 d2) (hq : divQ n1 d1 n2 d2 = q) :
    Calls Tryz.prog 62 #[.pointer (some ⟨b1, 0, none⟩), .pointer (some ⟨b2, 0, none⟩), .pointer (some ⟨b3, 0, none⟩)] w (Gives (RV 0 0) w (RV q.n q.d) q.e) := by
  have k1 := h1.alloc (.cells #[.int .i64 0, .int .i64 0] 23)
  have k2 := h2.alloc (.cells #[.int .i64 0, .int .i64 0] 23)
  have p := Plc.fresh w
  obtain ⟨z1, z2, z3⟩ := h1
  obtain ⟨z4, z5, z6⟩ := h2
  go_enter Tryz.func62, Tryz.ntmps62
  go_wp2_with fail
  refine (require2_any _ n1 d1 n2 d2 _ i1 i2 i3 i4 (by simp) (by simp [go_sem]) (by simp [go_sem]) (by simp [go_sem]) (by simp [go_sem])).mono ?_
  rintro e w2 ⟨hcase, hb⟩
  have hbb : Below (w.alloc (.cells #[.int .i64 0, .int .i64 0] 23)).heap.size (w.alloc (.cells #[.int .i64 0, .int .i64 0] 23)) w2 := ((Below.refl _ _).alloc (Nat.le_refl _) _).trans (hb.mono (by simp <;> omega))
  have hB := Bx.mk ((show Below w.heap.size w (w.alloc (.cells #[.int .i64 0, .int .i64 0] 23)) from by repeat (first | exact Below.refl _ _ | apply below_drewN | refine Below.setCell ?_ (by simp <;> omega) _ | refine Below.alloc ?_ (by simp <;> omega) _)).trans (hbb.mono (by simp <;> omega)))
  have k1 := k1.keep hbb
  have k2 := k2.keep hbb
  have p := p.keep hbb
  have h3 : w2.cell? ⟨b3, 0, none⟩ = some (.func (Fn.func 41) #[] #[]) := kc hB.out h3 l3
  clear hb hbb
  rcases hcase with ⟨hok, rfl⟩ | ⟨hok, rfl⟩
  · rw [Bool.and_eq_true] at hok
    have B1 := validQ_bd _ _ hok.1
    have B2 := validQ_bd _ _ hok.2
    have HO := Bx.mk (fun w => over_any n1 d1 n2 d2 w B1 B2)
    have HR := Bx.mk (fun w => reduce_any (n1 * d2) (d1 * n2) q w (by have h1 := prod_bd B1.lo B1.hi (show -1000000000 ≤ d2 by have := B2.pos; omega) B2.top; exact ⟨by omega, by omega⟩) (by have h1 := prod_bd (show -1000000000 ≤ d1 by have := B1.pos; omega) B1.top B2.lo B2.hi; exact ⟨by omega, by omega⟩) (by rw [← hq, divQ, opQ, if_pos (by simp [hok])]))
    obtain ⟨y0, y1, y2⟩ := k1
    obtain ⟨y3, y4, y5⟩ := k2
    have p := Bx.mk p
    have pz := p.out.lt
    clear hok B1 B2 hq i1 i2 i3 i4 z1 z2 z3 z4 z5 z6
    go_wp2_with fail
    refine (HO.out _).mono ?_
    rintro e w3 ⟨rfl, hb3⟩
    go_wp2_with fail
    refine (HR.out _).mono ?_
    rintro e w4 ⟨hcase, hb4⟩
    have hB4 := Bx.mk (hB.out.trans ((hb3.trans (hb4.mono hb3.size)).mono hB.out.size))
    obtain ⟨p0, p1, p2, p3, p4⟩ := p.out.keep (hb3.trans (hb4.mono hb3.size))
    clear hb3 hb4
    rcases hcase with ⟨hc, rfl⟩ | ⟨hc, hv, rfl⟩
    · go_wp2
      (try simp only [Exit.inBlock, Exit.then])
      refine bodyPost_ret_by (v := RV q.n q.d) (by simp [results, Tryz.results62, go_sem, p1, p2]) rfl ?_
      exact ⟨.inl ⟨hc, rfl⟩, (hB4.out.setCell (Nat.le_refl _) _).setCell (Nat.le_refl _) _⟩
    · exact ⟨rfl, .inr ⟨hc, hv, rfl⟩, hB4.out⟩
  · have e : q = ⟨0, 0, 1⟩ := by
      rw [← hq, divQ]
      refine opQ_bad fun h => ?_
      rw [h.1, h.2] at hok; cases hok
    subst e
    exact ⟨rfl, .inr ⟨by decide, rfl, rfl⟩, hB.out⟩
end Go.Proofs.YthfpkjeobdajiabGreatDoor

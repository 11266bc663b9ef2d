/- The program's pitch: sums. -/
import Derived.Test.YtnbamjoadankmaaYF
namespace Go.Proofs.Ytnbamjoadankmaa
open Go.RowKit D
/-- Six whole numbers in a block of a type. -/
def VT (W : World) (b : Nat) (t : TypeId) (v : Nat → Int) : Prop := W.heap[b]? = some (.cells #[.int .i64 (v 0), .int .i64 (v 1), .int .i64 (v 2), .int .i64 (v 3), .int .i64 (v 4), .int .i64 (v 5)] t (0, 0))
theorem VT.lt {W : World} {b : Nat} {t : TypeId} {v : Nat → Int} (h : VT W b t v) : b < W.heap.size := (Array.getElem?_eq_some_iff.1 h).1
theorem VT.c0 {W : World} {b : Nat} {t : TypeId} {v : Nat → Int} (h : VT W b t v) : W.cell? ⟨b, 0, none⟩ = some (.int .i64 (v 0)) := by have h' : W.heap[b]? = _ := h; simp [World.cell?, h']
theorem VT.c1 {W : World} {b : Nat} {t : TypeId} {v : Nat → Int} (h : VT W b t v) : W.cell? ⟨b, 1, none⟩ = some (.int .i64 (v 1)) := by have h' : W.heap[b]? = _ := h; simp [World.cell?, h']
theorem VT.c2 {W : World} {b : Nat} {t : TypeId} {v : Nat → Int} (h : VT W b t v) : W.cell? ⟨b, 2, none⟩ = some (.int .i64 (v 2)) := by have h' : W.heap[b]? = _ := h; simp [World.cell?, h']
theorem VT.c3 {W : World} {b : Nat} {t : TypeId} {v : Nat → Int} (h : VT W b t v) : W.cell? ⟨b, 3, none⟩ = some (.int .i64 (v 3)) := by have h' : W.heap[b]? = _ := h; simp [World.cell?, h']
theorem VT.c4 {W : World} {b : Nat} {t : TypeId} {v : Nat → Int} (h : VT W b t v) : W.cell? ⟨b, 4, none⟩ = some (.int .i64 (v 4)) := by have h' : W.heap[b]? = _ := h; simp [World.cell?, h']
theorem VT.c5 {W : World} {b : Nat} {t : TypeId} {v : Nat → Int} (h : VT W b t v) : W.cell? ⟨b, 5, none⟩ = some (.int .i64 (v 5)) := by have h' : W.heap[b]? = _ := h; simp [World.cell?, h']
theorem VT.f {W : World} {b : Nat} {t : TypeId} {v : Nat → Int} (h : VT W b t v) (k : Nat) : W.frozen? ⟨b, k, none⟩ = false := by have h' : W.heap[b]? = _ := h; simp [World.frozen?, h']
theorem VT.keep {W W' : World} {b : Nat} {t : TypeId} {v : Nat → Int} (h : VT W b t v) (hk : W'.heap[b]? = W.heap[b]?) : VT W' b t v := hk.trans h
theorem VT.new (W : World) (t : TypeId) (v : Nat → Int) : VT (W.alloc (.cells #[.int .i64 (v 0), .int .i64 (v 1), .int .i64 (v 2), .int .i64 (v 3), .int .i64 (v 4), .int .i64 (v 5)] t)) W.heap.size t v := World.alloc_heap_new W _
theorem VT.drew {W : World} {b : Nat} {t : TypeId} {v : Nat → Int} (h : VT W b t v) : VT W.drew b t v := h
theorem VT.cellk {W : World} {b : Nat} {t : TypeId} {v : Nat → Int} (h : VT W b t v) {k : Nat} (hk : k < 6) : W.cell? ⟨b, k, none⟩ = some (.int .i64 (v k)) := by
  rcases six_cases' hk with rfl | rfl | rfl | rfl | rfl | rfl
  · exact h.c0
  · exact h.c1
  · exact h.c2
  · exact h.c3
  · exact h.c4
  · exact h.c5
theorem VT.setk {W : World} {b : Nat} {t : TypeId} {v : Nat → Int} (h : VT W b t v) {k : Nat} (hk : k < 6) (x : Int) : VT (W.setCell ⟨b, k, none⟩ (.int .i64 x)) b t (fun j => if j = k then x else v j) := by
  have h' : W.heap[b]? = _ := h
  have s := set_block (k := k) h' (.int .i64 x)
  unfold VT
  rw [s]
  rcases six_cases' hk with rfl | rfl | rfl | rfl | rfl | rfl <;> simp
theorem VT.congr {W : World} {b : Nat} {t : TypeId} {u v : Nat → Int} (h : VT W b t u) (e : ∀ j, j < 6 → u j = v j) : VT W b t v := by
  unfold VT at h ⊢
  rw [← e 0 (by omega), ← e 1 (by omega), ← e 2 (by omega), ← e 3 (by omega), ← e 4 (by omega), ← e 5 (by omega)]
  exact h
theorem VT.lit {W : World} {b : Nat} {t : TypeId} {y : Nat → Int} (h : VT W b t y) (v : Nat → Int) : VT ((((((W.setCell ⟨b, 0, none⟩ (.int .i64 (v 0))).setCell ⟨b, 1, none⟩ (.int .i64 (v 1))).setCell ⟨b, 2, none⟩ (.int .i64 (v 2))).setCell ⟨b, 3, none⟩ (.int .i64 (v 3))).setCell ⟨b, 4, none⟩ (.int .i64 (v 4))).setCell ⟨b, 5, none⟩ (.int .i64 (v 5))) b t v := by
  have h' : W.heap[b]? = _ := h
  have a0 := set_block (k := 0) h' (.int .i64 (v 0))
  have a1 := set_block (k := 1) a0 (.int .i64 (v 1))
  have a2 := set_block (k := 2) a1 (.int .i64 (v 2))
  have a3 := set_block (k := 3) a2 (.int .i64 (v 3))
  have a4 := set_block (k := 4) a3 (.int .i64 (v 4))
  have a5 := set_block (k := 5) a4 (.int .i64 (v 5))
  unfold VT
  simpa using a5
theorem sum_boxes (w : World) (a v : Nat → Int) : ∀ W, ((w.alloc (.cells #[.int .i64 (a 0), .int .i64 (a 1), .int .i64 (a 2), .int .i64 (a 3), .int .i64 (a 4), .int .i64 (a 5)] 35)).alloc (.cells #[.int .i64 (v 0), .int .i64 (v 1), .int .i64 (v 2), .int .i64 (v 3), .int .i64 (v 4), .int .i64 (v 5)] 35)).alloc (.cells #[.int .i64 0, .int .i64 0, .int .i64 0, .int .i64 0, .int .i64 0, .int .i64 0] 35) = W → VT W w.heap.size 35 a ∧ VT W (w.heap.size + 1) 35 v ∧ VT W (w.heap.size + 1 + 1) 35 (fun _ => 0) ∧ Below w.heap.size w W ∧ W.heap.size = w.heap.size + 3 := by
  rintro W rfl
  have h0 := VT.new w 35 a
  have h1 := VT.new (w.alloc (.cells #[.int .i64 (a 0), .int .i64 (a 1), .int .i64 (a 2), .int .i64 (a 3), .int .i64 (a 4), .int .i64 (a 5)] 35)) 35 v
  have h2 := VT.new ((w.alloc (.cells #[.int .i64 (a 0), .int .i64 (a 1), .int .i64 (a 2), .int .i64 (a 3), .int .i64 (a 4), .int .i64 (a 5)] 35)).alloc (.cells #[.int .i64 (v 0), .int .i64 (v 1), .int .i64 (v 2), .int .i64 (v 3), .int .i64 (v 4), .int .i64 (v 5)] 35)) 35 (fun _ => 0)
  simp only [World.size_alloc] at h1 h2
  have k1 := Below.refl (w.heap.size + 1) (w.alloc (.cells #[.int .i64 (a 0), .int .i64 (a 1), .int .i64 (a 2), .int .i64 (a 3), .int .i64 (a 4), .int .i64 (a 5)] 35)) |>.alloc (by simp) (.cells #[.int .i64 (v 0), .int .i64 (v 1), .int .i64 (v 2), .int .i64 (v 3), .int .i64 (v 4), .int .i64 (v 5)] 35)
  have k2 := Below.refl (w.heap.size + 1 + 1) ((w.alloc (.cells #[.int .i64 (a 0), .int .i64 (a 1), .int .i64 (a 2), .int .i64 (a 3), .int .i64 (a 4), .int .i64 (a 5)] 35)).alloc (.cells #[.int .i64 (v 0), .int .i64 (v 1), .int .i64 (v 2), .int .i64 (v 3), .int .i64 (v 4), .int .i64 (v 5)] 35)) |>.alloc (by simp) (.cells #[.int .i64 0, .int .i64 0, .int .i64 0, .int .i64 0, .int .i64 0, .int .i64 0] 35)
  exact ⟨(h0.keep (k1.block _ (by omega))).keep (k2.block _ (by omega)), h1.keep (k2.block _ (by omega)), h2, (((Below.refl _ w).alloc (Nat.le_refl _) _).alloc (by simp) _).alloc (by simp; omega) _, by simp⟩
/-- The exponents a and n times the exponents v. -/
def sv (a v : Nat → Int) (n : Int) (j : Nat) : Int := a j + n * v j
set_option maxRecDepth 100000 in
set_option maxHeartbeats 16000000 in
theorem sum_any (a v : Nat → Int) (n : Int) (w : World) (ha : ∀ j, j < 6 → (a j).natAbs ≤ 1000000) (hv : ∀ j, j < 6 → (v j).natAbs ≤ 1000000) (hn : n.natAbs ≤ 1000000) :
    Calls Try.prog 143 #[PV a, PV v, .int .i64 n] w fun e w' => e = .returned (PV (sv a v n)) ∧ Below w.heap.size w w' := by
  obtain ⟨w0, hw0⟩ : ∃ w0, ((w.alloc (.cells #[.int .i64 (a 0), .int .i64 (a 1), .int .i64 (a 2), .int .i64 (a 3), .int .i64 (a 4), .int .i64 (a 5)] 35)).alloc (.cells #[.int .i64 (v 0), .int .i64 (v 1), .int .i64 (v 2), .int .i64 (v 3), .int .i64 (v 4), .int .i64 (v 5)] 35)).alloc (.cells #[.int .i64 0, .int .i64 0, .int .i64 0, .int .i64 0, .int .i64 0, .int .i64 0] 35) = w0 := ⟨_, rfl⟩
  obtain ⟨hA, hV, hZ, hB, hs⟩ := sum_boxes w a v w0 hw0
  have v0 := hV.c0
  have v1 := hV.c1
  have v2 := hV.c2
  have v3 := hV.c3
  have v4 := hV.c4
  have v5 := hV.c5
  have HA := Bx.mk hA
  have HZ := Bx.mk hZ
  have HB := Bx.mk hB
  have HBa := Bx.mk ha
  have HBv := Bx.mk hv
  unfold PV
  clear hA hV hZ hB hs ha hv
  go_enter Try.func143, Try.ntmps143
  go_wp2_with fail
  try rw [hw0]
  clear hw0
  go_loopw [10] (fun jx wz => ∃ l : Nat, l ≤ 6 ∧ jx = .int .i64 l ∧ Bx (VT wz w.heap.size 35 (fun j => if j < l then sv a v n j else a j)) ∧ Bx (VT wz (w.heap.size + 1 + 1) 35 (fun _ => 0)) ∧ Bx (Below w.heap.size w wz)) (fun jx _ => 6 - (intOf jx).toNat)
  case atStart => exact ⟨0, by omega, rfl, ⟨HA.out.congr fun j _ => by simp⟩, HZ, HB⟩
  case round =>
    obtain ⟨l, hl, rfl, IA, IZ, IB⟩ := hrel
    by_cases hl6 : l < 6
    · have c0 := IA.out.cellk hl6
      simp only [Nat.lt_irrefl, if_false] at c0
      have f0 := IA.out.f l
      have hl6' : (l : Int) < 6 := by omega
      have hb1 := HBa.out l hl6
      have hb2 := HBv.out l hl6
      obtain ⟨r, hr⟩ : ∃ r, v l = r := ⟨_, rfl⟩
      have hix := index_six2 v hl6 r hr
      obtain ⟨x, hx⟩ : ∃ x, a l = x := ⟨_, rfl⟩
      rw [hx] at c0 hb1
      rw [hr] at hb2
      have hyr : (n * r).natAbs ≤ 1000000 * 1000000 := by rw [Int.natAbs_mul]; exact Nat.mul_le_mul hn hb2
      have HPS := Bx.mk (show sv a v n l = x + n * r by unfold sv; rw [hx, hr])
      obtain ⟨P, hP⟩ : ∃ P, n * r = P := ⟨_, rfl⟩
      rw [hP] at hyr HPS
      have q1 : IntKind.i64.wrap P = P := by rw [IntWalk.i64_in] <;> omega
      have q2 : wrap64 P = P := by unfold wrap64; omega
      have q3 : IntKind.i64.wrap (x + P) = x + P := by rw [IntWalk.i64_in] <;> omega
      have q4 : wrap64 (x + P) = x + P := by unfold wrap64; omega
      clear hx hr
      have K1 := Bx.mk ((IA.out.setk hl6 (x + P)).congr (v := fun j => if j < l + 1 then sv a v n j else a j) (fun j hj => by
        by_cases e : j = l
        · subst e; simp [HPS.out]
        · by_cases e2 : j < l
          · simp [e, e2, show j < l + 1 by omega]
          · simp [e, e2, show ¬ j < l + 1 by omega]))
      have K3 := Bx.mk (IZ.out.keep (setCell_heap_ne (W := wr) (b := w.heap.size) (k := l) (z := .int .i64 (x + P)) (by omega)))
      have K4 := Bx.mk (IB.out.setCell (p := ⟨w.heap.size, l, none⟩) (Nat.le_refl _) (.int .i64 (x + P)))
      go_wp2_with fail
      all_goals first
        | exact ⟨⟨l + 1, by omega, by go_num, K1, K3, K4⟩, by simp [intOf]; omega⟩
        | exact ⟨⟨l + 1, by omega, by go_num, ⟨K1.out.drew⟩, ⟨K3.out.drew⟩, ⟨below_drew K4.out⟩⟩, by simp [intOf]; omega⟩
    · obtain rfl : l = 6 := by omega
      have HU := Bx.mk (IA.out.congr (v := sv a v n) fun j hj => by simp [hj])
      obtain ⟨u, hu⟩ : ∃ u, sv a v n = u := ⟨_, rfl⟩
      rw [hu] at HU
      have HE := Bx.mk hu
      clear hu
      have c0 := HU.out.c0
      have c1 := HU.out.c1
      have c2 := HU.out.c2
      have c3 := HU.out.c3
      have c4 := HU.out.c4
      have c5 := HU.out.c5
      have g0 := IZ.out.c0
      have g1 := IZ.out.c1
      have g2 := IZ.out.c2
      have g3 := IZ.out.c3
      have g4 := IZ.out.c4
      have g5 := IZ.out.c5
      have z0 := IZ.out.f 0
      have z1 := IZ.out.f 1
      have z2 := IZ.out.f 2
      have z3 := IZ.out.f 3
      have z4 := IZ.out.f 4
      have z5 := IZ.out.f 5
      go_wp2_with fail
      have V6 := IZ.out.lit u
      have hb6 := but_lit (w.heap.size + 1 + 1) wr u
      have y0 := V6.c0
      have y1 := V6.c1
      have y2 := V6.c2
      have y3 := V6.c3
      have y4 := V6.c4
      have y5 := V6.c5
      have HBF := Bx.mk (IB.out.trans (but_below hb6 (n := w.heap.size) (by omega) IB.out.size))
      refine bodyPost_ret_by (v := .agg #[.int .i64 (u 0), .int .i64 (u 1), .int .i64 (u 2), .int .i64 (u 3), .int .i64 (u 4), .int .i64 (u 5)]) (by simp [results, Try.results143, go_sem, y0, y1, y2, y3, y4, y5]) rfl ?_
      exact ⟨by rw [HE.out], HBF.out⟩
end Go.Proofs.Ytnbamjoadankmaa
/- The program's pitch: Valid, Of. -/
namespace Go.Proofs.Ytnbamjoadankmaa
open Go.RowKit D
/-- A valid pitch. -/
def Pv (p : Nat → Int) : Prop := ∀ j, j < 6 → -576 ≤ p j ∧ p j ≤ 576
set_option maxHeartbeats 4000000 in
theorem pitchvalid_any (v : Nat → Int) (w : World) (b : Bool) (hb : b = true ↔ Pv v) : Calls Try.prog 108 #[PV v] w fun e w' => e = .returned (.bool b) ∧ Below w.heap.size w w' := by
  have PB' := Bx.mk (fun w => bounded_any v 576 w (by omega) b hb)
  unfold PV at PB' ⊢
  clear hb
  go_enter Try.func108, Try.ntmps108
  go_wp2_with (go_at_call 112; refine (PB'.out _).mono ?_; rintro e w2 ⟨rfl, b2⟩)
  go_ret
  exact ⟨rfl, below_new b2⟩
theorem two6 (w : World) (t u : TypeId) (x y : Nat → Int) : ∀ W, (w.alloc (.cells #[.int .i64 (x 0), .int .i64 (x 1), .int .i64 (x 2), .int .i64 (x 3), .int .i64 (x 4), .int .i64 (x 5)] t)).alloc (.cells #[.int .i64 (y 0), .int .i64 (y 1), .int .i64 (y 2), .int .i64 (y 3), .int .i64 (y 4), .int .i64 (y 5)] u) = W → VT W w.heap.size t x ∧ VT W (w.heap.size + 1) u y ∧ Below w.heap.size w W ∧ W.heap.size = w.heap.size + 2 := by
  rintro W rfl
  have h0 := VT.new w t x
  have h1 := VT.new (w.alloc (.cells #[.int .i64 (x 0), .int .i64 (x 1), .int .i64 (x 2), .int .i64 (x 3), .int .i64 (x 4), .int .i64 (x 5)] t)) u y
  simp only [World.size_alloc] at h1
  have k1 := Below.refl (w.heap.size + 1) (w.alloc (.cells #[.int .i64 (x 0), .int .i64 (x 1), .int .i64 (x 2), .int .i64 (x 3), .int .i64 (x 4), .int .i64 (x 5)] t)) |>.alloc (by simp) (.cells #[.int .i64 (y 0), .int .i64 (y 1), .int .i64 (y 2), .int .i64 (y 3), .int .i64 (y 4), .int .i64 (y 5)] u)
  exact ⟨h0.keep (k1.block _ (by omega)), h1, ((Below.refl _ w).alloc (Nat.le_refl _) _).alloc (by simp) _, by simp⟩
/-- What Of answers. -/
def OfOut (v : Nat → Int) (e : Ending) : Prop :=
  (Iv v ∧ e = .returned (.tuple #[PV (sv (fun _ => 0) v 12), .int .i64 0])) ∨ (¬ Iv v ∧ e = .returned (.tuple #[PV (fun _ => 0), .int .i64 1]))
set_option maxRecDepth 100000 in
set_option maxHeartbeats 16000000 in
theorem of_any (v : Nat → Int) (w : World) : Calls Try.prog 111 #[PV v] w fun e w' => OfOut v e ∧ Below w.heap.size w w' := by
  obtain ⟨W, hW⟩ : ∃ W, (w.alloc (.cells #[.int .i64 (v 0), .int .i64 (v 1), .int .i64 (v 2), .int .i64 (v 3), .int .i64 (v 4), .int .i64 (v 5)] 36)).alloc (.cells #[.int .i64 0, .int .i64 0, .int .i64 0, .int .i64 0, .int .i64 0, .int .i64 0] 65) = W := ⟨_, rfl⟩
  obtain ⟨hV, hZ, hB, hs⟩ := two6 w 36 65 v (fun _ => 0) W hW
  have v0 := hV.c0
  have v1 := hV.c1
  have v2 := hV.c2
  have v3 := hV.c3
  have v4 := hV.c4
  have v5 := hV.c5
  have hlV := hV.lt
  have hlZ := hZ.lt
  have HV := Bx.mk hV
  have HZ := Bx.mk hZ
  have HB := Bx.mk hB
  obtain ⟨b, hb⟩ := bool_of (Iv v)
  have HI := Bx.mk hb
  have H1 := Bx.mk (interval_any v W b hb)
  have H2 := Bx.mk (fun (h : Iv v) w => sum_any (fun _ => 0) v 12 w (fun j _ => by simp) (fun j hj => by have := h j hj; omega) (by decide))
  obtain ⟨u, hu⟩ : ∃ u, sv (fun _ => 0) v 12 = u := ⟨_, rfl⟩
  rw [hu] at H2
  have HE := Bx.mk hu
  unfold PV at H1 H2 ⊢
  simp only [] at H2
  clear hV hZ hB hs hb hu
  go_enter Try.func111, Try.ntmps111
  go_wp2_with (first
    | (go_at_call 63; refine H1.out.mono ?_; clear H1 hW; rintro e w1 ⟨rfl, k1⟩
       have B1 := Bx.mk (HB.out.trans (k1.mono HB.out.size))
       have V1 := HV.out.keep (k1.block _ hlV)
       have Z1 := HZ.out.keep (k1.block _ hlZ)
       have HZ1 := Bx.mk Z1
       have hl1 := Z1.lt
       have v0 := V1.c0
       have v1 := V1.c1
       have v2 := V1.c2
       have v3 := V1.c3
       have v4 := V1.c4
       have v5 := V1.c5
       have g0 := Z1.c0
       have g1 := Z1.c1
       have g2 := Z1.c2
       have g3 := Z1.c3
       have g4 := Z1.c4
       have g5 := Z1.c5
       have z0 := Z1.f 0
       have z1 := Z1.f 1
       have z2 := Z1.f 2
       have z3 := Z1.f 3
       have z4 := Z1.f 4
       have z5 := Z1.f 5
       clear k1 V1 Z1
       cases b)
    | (go_at_call 143; refine (H2.out (HI.out.1 (by simp)) w1).mono ?_; clear H2; rintro e w2 ⟨rfl, k2⟩
       have B2 := Bx.mk (B1.out.trans (k2.mono B1.out.size))
       have Z2 := HZ1.out.keep (k2.block _ hl1)
       have HZ2 := Bx.mk Z2
       have g0 := Z2.c0
       have g1 := Z2.c1
       have g2 := Z2.c2
       have g3 := Z2.c3
       have g4 := Z2.c4
       have g5 := Z2.c5
       have z0 := Z2.f 0
       have z1 := Z2.f 1
       have z2 := Z2.f 2
       have z3 := Z2.f 3
       have z4 := Z2.f 4
       have z5 := Z2.f 5
       clear k2 Z2))
  all_goals go_wp2_with fail
  ·
    have V6 := HZ1.out.lit (fun _ => 0)
    have hb6 := but_lit (w.heap.size + 1) w1 (fun _ => 0)
    have y0 := V6.c0
    have y1 := V6.c1
    have y2 := V6.c2
    have y3 := V6.c3
    have y4 := V6.c4
    have y5 := V6.c5
    have HBF := Bx.mk (B1.out.trans (but_below hb6 (n := w.heap.size) (by omega) B1.out.size))
    refine bodyPost_ret_by (v := .tuple #[.agg #[.int .i64 0, .int .i64 0, .int .i64 0, .int .i64 0, .int .i64 0, .int .i64 0], .int .i64 1]) (by simp [results, Try.results111, go_sem, y0, y1, y2, y3, y4, y5]) rfl ?_
    exact ⟨.inr ⟨fun h => Bool.noConfusion (HI.out.2 h), rfl⟩, HBF.out⟩
  ·
    have V6 := HZ2.out.lit u
    have hb6 := but_lit (w.heap.size + 1) w2 u
    have y0 := V6.c0
    have y1 := V6.c1
    have y2 := V6.c2
    have y3 := V6.c3
    have y4 := V6.c4
    have y5 := V6.c5
    have HBF := Bx.mk (B2.out.trans (but_below hb6 (n := w.heap.size) (by omega) B2.out.size))
    refine bodyPost_ret_by (v := .tuple #[.agg #[.int .i64 (u 0), .int .i64 (u 1), .int .i64 (u 2), .int .i64 (u 3), .int .i64 (u 4), .int .i64 (u 5)], .int .i64 0]) (by simp [results, Try.results111, go_sem, y0, y1, y2, y3, y4, y5]) rfl ?_
    exact ⟨.inl ⟨HI.out.1 (by simp), by rw [HE.out]⟩, HBF.out⟩
end Go.Proofs.Ytnbamjoadankmaa
/- The program's pitch: checked. -/
namespace Go.Proofs.Ytnbamjoadankmaa
open Go.RowKit D
/-- What checked answers. -/
def CkOut (v : Nat → Int) (e : Ending) : Prop :=
  (Pv v ∧ e = .returned (.tuple #[PV v, .int .i64 0])) ∨ (¬ Pv v ∧ e = .returned (.tuple #[PV (fun _ => 0), .int .i64 3]))
set_option maxRecDepth 100000 in
set_option maxHeartbeats 16000000 in
theorem checked_any (v : Nat → Int) (w : World) : Calls Try.prog 144 #[PV v] w fun e w' => CkOut v e ∧ Below w.heap.size w w' := by
  obtain ⟨W, hW⟩ : ∃ W, (w.alloc (.cells #[.int .i64 (v 0), .int .i64 (v 1), .int .i64 (v 2), .int .i64 (v 3), .int .i64 (v 4), .int .i64 (v 5)] 65)).alloc (.cells #[.int .i64 0, .int .i64 0, .int .i64 0, .int .i64 0, .int .i64 0, .int .i64 0] 65) = W := ⟨_, rfl⟩
  obtain ⟨hV, hZ, hB, hs⟩ := two6 w 65 65 v (fun _ => 0) W hW
  have v0 := hV.c0
  have v1 := hV.c1
  have v2 := hV.c2
  have v3 := hV.c3
  have v4 := hV.c4
  have v5 := hV.c5
  have hlV := hV.lt
  have hlZ := hZ.lt
  have HV := Bx.mk hV
  have HZ := Bx.mk hZ
  have HB := Bx.mk hB
  obtain ⟨b, hb⟩ := bool_of (Pv v)
  have HI := Bx.mk hb
  have H1 := Bx.mk (pitchvalid_any v W b hb)
  unfold PV at H1 ⊢
  clear hV hZ hB hs hb
  go_enter Try.func144, Try.ntmps144
  go_wp2_with (first
    | (go_at_call 108; refine H1.out.mono ?_; clear H1 hW; rintro e w1 ⟨rfl, k1⟩
       have B1 := Bx.mk (HB.out.trans (k1.mono HB.out.size))
       have V1 := HV.out.keep (k1.block _ hlV)
       have Z1 := HZ.out.keep (k1.block _ hlZ)
       have HZ1 := Bx.mk Z1
       have v0 := V1.c0
       have v1 := V1.c1
       have v2 := V1.c2
       have v3 := V1.c3
       have v4 := V1.c4
       have v5 := V1.c5
       have g0 := Z1.c0
       have g1 := Z1.c1
       have g2 := Z1.c2
       have g3 := Z1.c3
       have g4 := Z1.c4
       have g5 := Z1.c5
       have z0 := Z1.f 0
       have z1 := Z1.f 1
       have z2 := Z1.f 2
       have z3 := Z1.f 3
       have z4 := Z1.f 4
       have z5 := Z1.f 5
       clear k1 V1 Z1
       cases b))
  all_goals go_wp2_with fail
  ·
    have V6 := HZ1.out.lit (fun _ => 0)
    have hb6 := but_lit (w.heap.size + 1) w1 (fun _ => 0)
    have y0 := V6.c0
    have y1 := V6.c1
    have y2 := V6.c2
    have y3 := V6.c3
    have y4 := V6.c4
    have y5 := V6.c5
    have HBF := Bx.mk (B1.out.trans (but_below hb6 (n := w.heap.size) (by omega) B1.out.size))
    refine bodyPost_ret_by (v := .tuple #[.agg #[.int .i64 0, .int .i64 0, .int .i64 0, .int .i64 0, .int .i64 0, .int .i64 0], .int .i64 3]) (by simp [results, Try.results144, go_sem, y0, y1, y2, y3, y4, y5]) rfl ?_
    exact ⟨.inr ⟨fun h => Bool.noConfusion (HI.out.2 h), rfl⟩, HBF.out⟩
  ·
    have V6 := HZ1.out.lit v
    have hb6 := but_lit (w.heap.size + 1) w1 v
    have y0 := V6.c0
    have y1 := V6.c1
    have y2 := V6.c2
    have y3 := V6.c3
    have y4 := V6.c4
    have y5 := V6.c5
    have HBF := Bx.mk (B1.out.trans (but_below hb6 (n := w.heap.size) (by omega) B1.out.size))
    refine bodyPost_ret_by (v := .tuple #[.agg #[.int .i64 (v 0), .int .i64 (v 1), .int .i64 (v 2), .int .i64 (v 3), .int .i64 (v 4), .int .i64 (v 5)], .int .i64 0]) (by simp [results, Try.results144, go_sem, y0, y1, y2, y3, y4, y5]) rfl ?_
    exact ⟨.inl ⟨HI.out.1 (by simp), rfl⟩, HBF.out⟩
end Go.Proofs.Ytnbamjoadankmaa
/- The program's pitch: combine, Mul. -/
namespace Go.Proofs.Ytnbamjoadankmaa
open Go.RowKit D
theorem three6 (w : World) (t u s : TypeId) (x y z : Nat → Int) : ∀ W, ((w.alloc (.cells #[.int .i64 (x 0), .int .i64 (x 1), .int .i64 (x 2), .int .i64 (x 3), .int .i64 (x 4), .int .i64 (x 5)] t)).alloc (.cells #[.int .i64 (y 0), .int .i64 (y 1), .int .i64 (y 2), .int .i64 (y 3), .int .i64 (y 4), .int .i64 (y 5)] u)).alloc (.cells #[.int .i64 (z 0), .int .i64 (z 1), .int .i64 (z 2), .int .i64 (z 3), .int .i64 (z 4), .int .i64 (z 5)] s) = W → VT W w.heap.size t x ∧ VT W (w.heap.size + 1) u y ∧ VT W (w.heap.size + 1 + 1) s z ∧ Below w.heap.size w W ∧ W.heap.size = w.heap.size + 3 := by
  rintro W rfl
  have h0 := VT.new w t x
  have h1 := VT.new (w.alloc (.cells #[.int .i64 (x 0), .int .i64 (x 1), .int .i64 (x 2), .int .i64 (x 3), .int .i64 (x 4), .int .i64 (x 5)] t)) u y
  have h2 := VT.new ((w.alloc (.cells #[.int .i64 (x 0), .int .i64 (x 1), .int .i64 (x 2), .int .i64 (x 3), .int .i64 (x 4), .int .i64 (x 5)] t)).alloc (.cells #[.int .i64 (y 0), .int .i64 (y 1), .int .i64 (y 2), .int .i64 (y 3), .int .i64 (y 4), .int .i64 (y 5)] u)) s z
  simp only [World.size_alloc] at h1 h2
  have k1 := Below.refl (w.heap.size + 1) (w.alloc (.cells #[.int .i64 (x 0), .int .i64 (x 1), .int .i64 (x 2), .int .i64 (x 3), .int .i64 (x 4), .int .i64 (x 5)] t)) |>.alloc (by simp) (.cells #[.int .i64 (y 0), .int .i64 (y 1), .int .i64 (y 2), .int .i64 (y 3), .int .i64 (y 4), .int .i64 (y 5)] u)
  have k2 := Below.refl (w.heap.size + 1 + 1) ((w.alloc (.cells #[.int .i64 (x 0), .int .i64 (x 1), .int .i64 (x 2), .int .i64 (x 3), .int .i64 (x 4), .int .i64 (x 5)] t)).alloc (.cells #[.int .i64 (y 0), .int .i64 (y 1), .int .i64 (y 2), .int .i64 (y 3), .int .i64 (y 4), .int .i64 (y 5)] u)) |>.alloc (by simp) (.cells #[.int .i64 (z 0), .int .i64 (z 1), .int .i64 (z 2), .int .i64 (z 3), .int .i64 (z 4), .int .i64 (z 5)] s)
  exact ⟨(h0.keep (k1.block _ (by omega))).keep (k2.block _ (by omega)), h1.keep (k2.block _ (by omega)), h2, (((Below.refl _ w).alloc (Nat.le_refl _) _).alloc (by simp) _).alloc (by simp; omega) _, by simp⟩
/-- What combine answers. -/
def CoOut (a v : Nat → Int) (n : Int) (e : Ending) : Prop :=
  (Pv a ∧ Pv v ∧ CkOut (sv a v n) e) ∨ (¬ (Pv a ∧ Pv v) ∧ e = .returned (.tuple #[PV (fun _ => 0), .int .i64 1]))
set_option maxRecDepth 100000 in
set_option maxHeartbeats 16000000 in
theorem combine_any (a v : Nat → Int) (n : Int) (hn : n.natAbs ≤ 1000000) (w : World) : Calls Try.prog 113 #[PV a, PV v, .int .i64 n] w fun e w' => CoOut a v n e ∧ Below w.heap.size w w' := by
  obtain ⟨W, hW⟩ : ∃ W, ((w.alloc (.cells #[.int .i64 (a 0), .int .i64 (a 1), .int .i64 (a 2), .int .i64 (a 3), .int .i64 (a 4), .int .i64 (a 5)] 65)).alloc (.cells #[.int .i64 (v 0), .int .i64 (v 1), .int .i64 (v 2), .int .i64 (v 3), .int .i64 (v 4), .int .i64 (v 5)] 65)).alloc (.cells #[.int .i64 0, .int .i64 0, .int .i64 0, .int .i64 0, .int .i64 0, .int .i64 0] 65) = W := ⟨_, rfl⟩
  obtain ⟨hA, hV, hZ, hB, hs⟩ := three6 w 65 65 65 a v (fun _ => 0) W hW
  have a0 := hA.c0
  have a1 := hA.c1
  have a2 := hA.c2
  have a3 := hA.c3
  have a4 := hA.c4
  have a5 := hA.c5
  have v0 := hV.c0
  have v1 := hV.c1
  have v2 := hV.c2
  have v3 := hV.c3
  have v4 := hV.c4
  have v5 := hV.c5
  have hlA := hA.lt
  have hlV := hV.lt
  have hlZ := hZ.lt
  have HA := Bx.mk hA
  have HV := Bx.mk hV
  have HZ := Bx.mk hZ
  have HB := Bx.mk hB
  obtain ⟨ba, hba⟩ := bool_of (Pv a)
  obtain ⟨bv, hbv⟩ := bool_of (Pv v)
  have HIA := Bx.mk hba
  have HIV := Bx.mk hbv
  have H1 := Bx.mk (pitchvalid_any a W ba hba)
  have H2 := Bx.mk (fun w => pitchvalid_any v w bv hbv)
  have H3 := Bx.mk (fun (h : Pv a) (h' : Pv v) w => sum_any a v n w (fun j hj => by have := h j hj; omega) (fun j hj => by have := h' j hj; omega) hn)
  obtain ⟨u, hu⟩ : ∃ u, sv a v n = u := ⟨_, rfl⟩
  rw [hu] at H3
  have HE := Bx.mk hu
  have H4 := Bx.mk (fun w => checked_any u w)
  unfold PV at H1 H2 H3 H4 ⊢
  clear hA hV hZ hB hs hba hbv hu
  go_enter Try.func113, Try.ntmps113
  go_wp2_with (first
    | (go_at_call 108; refine H1.out.mono ?_; clear H1 hW; rintro e w1 ⟨rfl, k1⟩
       have B1 := Bx.mk (HB.out.trans (k1.mono HB.out.size))
       have A1 := HA.out.keep (k1.block _ hlA)
       have V1 := HV.out.keep (k1.block _ hlV)
       have Z1 := HZ.out.keep (k1.block _ hlZ)
       have HA1 := Bx.mk A1
       have HV1 := Bx.mk V1
       have HZ1 := Bx.mk Z1
       have hlA1 := A1.lt
       have hlV1 := V1.lt
       have hlZ1 := Z1.lt
       have a0 := A1.c0
       have a1 := A1.c1
       have a2 := A1.c2
       have a3 := A1.c3
       have a4 := A1.c4
       have a5 := A1.c5
       have v0 := V1.c0
       have v1 := V1.c1
       have v2 := V1.c2
       have v3 := V1.c3
       have v4 := V1.c4
       have v5 := V1.c5
       have g0 := Z1.c0
       have g1 := Z1.c1
       have g2 := Z1.c2
       have g3 := Z1.c3
       have g4 := Z1.c4
       have g5 := Z1.c5
       have z0 := Z1.f 0
       have z1 := Z1.f 1
       have z2 := Z1.f 2
       have z3 := Z1.f 3
       have z4 := Z1.f 4
       have z5 := Z1.f 5
       clear k1 A1 V1 Z1
       cases ba)
    | (go_at_call 108; refine (H2.out w1).mono ?_; clear H2; rintro e w2 ⟨rfl, k2⟩
       have B2 := Bx.mk (B1.out.trans (k2.mono B1.out.size))
       have A2 := HA1.out.keep (k2.block _ hlA1)
       have V2 := HV1.out.keep (k2.block _ hlV1)
       have Z2 := HZ1.out.keep (k2.block _ hlZ1)
       have HZ2 := Bx.mk Z2
       have hlZ2 := Z2.lt
       have a0 := A2.c0
       have a1 := A2.c1
       have a2 := A2.c2
       have a3 := A2.c3
       have a4 := A2.c4
       have a5 := A2.c5
       have v0 := V2.c0
       have v1 := V2.c1
       have v2 := V2.c2
       have v3 := V2.c3
       have v4 := V2.c4
       have v5 := V2.c5
       have g0 := Z2.c0
       have g1 := Z2.c1
       have g2 := Z2.c2
       have g3 := Z2.c3
       have g4 := Z2.c4
       have g5 := Z2.c5
       have z0 := Z2.f 0
       have z1 := Z2.f 1
       have z2 := Z2.f 2
       have z3 := Z2.f 3
       have z4 := Z2.f 4
       have z5 := Z2.f 5
       clear k2 A2 V2 Z2
       cases bv)
    | (go_at_call 143; refine (H3.out (HIA.out.1 (by simp)) (HIV.out.1 (by simp)) w2).mono ?_; clear H3; rintro e w3 ⟨rfl, k3⟩
       have B3 := Bx.mk (B2.out.trans (k3.mono B2.out.size))
       have Z3 := HZ2.out.keep (k3.block _ hlZ2)
       have HZ3 := Bx.mk Z3
       have hlZ3 := Z3.lt
       clear k3 Z3)
    | (go_at_call 144; refine (H4.out w3).mono ?_; clear H4; rintro e w4 ⟨ho, k4⟩
       have B4 := Bx.mk (B3.out.trans (k4.mono B3.out.size))
       have Z4 := HZ3.out.keep (k4.block _ hlZ3)
       have HZ4 := Bx.mk Z4
       have g0 := Z4.c0
       have g1 := Z4.c1
       have g2 := Z4.c2
       have g3 := Z4.c3
       have g4 := Z4.c4
       have g5 := Z4.c5
       have z0 := Z4.f 0
       have z1 := Z4.f 1
       have z2 := Z4.f 2
       have z3 := Z4.f 3
       have z4 := Z4.f 4
       have z5 := Z4.f 5
       clear k4 Z4
       have HCK := Bx.mk ho
       rcases ho with ⟨hp, rfl⟩ | ⟨hp, rfl⟩))
  all_goals go_wp2_with fail
  ·
    have V6 := HZ1.out.lit (fun _ => 0)
    have hb6 := but_lit (w.heap.size + 1 + 1) w1 (fun _ => 0)
    have y0 := V6.c0
    have y1 := V6.c1
    have y2 := V6.c2
    have y3 := V6.c3
    have y4 := V6.c4
    have y5 := V6.c5
    have HBF := Bx.mk (B1.out.trans (but_below hb6 (n := w.heap.size) (by omega) B1.out.size))
    refine bodyPost_ret_by (v := .tuple #[.agg #[.int .i64 0, .int .i64 0, .int .i64 0, .int .i64 0, .int .i64 0, .int .i64 0], .int .i64 1]) (by simp [results, Try.results113, go_sem, y0, y1, y2, y3, y4, y5]) rfl ?_
    exact ⟨.inr ⟨fun h => Bool.noConfusion (HIA.out.2 h.1), rfl⟩, HBF.out⟩
  ·
    have V6 := HZ2.out.lit (fun _ => 0)
    have hb6 := but_lit (w.heap.size + 1 + 1) w2 (fun _ => 0)
    have y0 := V6.c0
    have y1 := V6.c1
    have y2 := V6.c2
    have y3 := V6.c3
    have y4 := V6.c4
    have y5 := V6.c5
    have HBF := Bx.mk (B2.out.trans (but_below hb6 (n := w.heap.size) (by omega) B2.out.size))
    refine bodyPost_ret_by (v := .tuple #[.agg #[.int .i64 0, .int .i64 0, .int .i64 0, .int .i64 0, .int .i64 0, .int .i64 0], .int .i64 1]) (by simp [results, Try.results113, go_sem, y0, y1, y2, y3, y4, y5]) rfl ?_
    exact ⟨.inr ⟨fun h => Bool.noConfusion (HIV.out.2 h.2), rfl⟩, HBF.out⟩
  ·
    have V6 := HZ4.out.lit u
    have hb6 := but_lit (w.heap.size + 1 + 1) w4 u
    have y0 := V6.c0
    have y1 := V6.c1
    have y2 := V6.c2
    have y3 := V6.c3
    have y4 := V6.c4
    have y5 := V6.c5
    have HBF := Bx.mk (B4.out.trans (but_below hb6 (n := w.heap.size) (by omega) B4.out.size))
    refine bodyPost_ret_by (v := .tuple #[.agg #[.int .i64 (u 0), .int .i64 (u 1), .int .i64 (u 2), .int .i64 (u 3), .int .i64 (u 4), .int .i64 (u 5)], .int .i64 0]) (by simp [results, Try.results113, go_sem, y0, y1, y2, y3, y4, y5]) rfl ?_
    exact ⟨.inl ⟨HIA.out.1 (by simp), HIV.out.1 (by simp), by rw [HE.out]; exact .inl ⟨hp, rfl⟩⟩, HBF.out⟩
  ·
    have V6 := HZ4.out.lit (fun _ => 0)
    have hb6 := but_lit (w.heap.size + 1 + 1) w4 (fun _ => 0)
    have y0 := V6.c0
    have y1 := V6.c1
    have y2 := V6.c2
    have y3 := V6.c3
    have y4 := V6.c4
    have y5 := V6.c5
    have HBF := Bx.mk (B4.out.trans (but_below hb6 (n := w.heap.size) (by omega) B4.out.size))
    refine bodyPost_ret_by (v := .tuple #[.agg #[.int .i64 0, .int .i64 0, .int .i64 0, .int .i64 0, .int .i64 0, .int .i64 0], .int .i64 3]) (by simp [results, Try.results113, go_sem, y0, y1, y2, y3, y4, y5]) rfl ?_
    exact ⟨.inl ⟨HIA.out.1 (by simp), HIV.out.1 (by simp), by rw [HE.out]; exact .inr ⟨hp, rfl⟩⟩, HBF.out⟩
end Go.Proofs.Ytnbamjoadankmaa

/- The laws of temper: plus, inverse, dot. -/
import Derived.Test.YtnbamjoadankmaaYK
namespace Go.Proofs.Ytnbamjoadankmaa
open Go.RowKit D
theorem four6 (w : World) (t u s r : TypeId) (x y z q : Nat → Int) : ∀ W, (((w.alloc (.cells #[.int .i64 (x 0), .int .i64 (x 1), .int .i64 (x 2), .int .i64 (x 3), .int .i64 (x 4), .int .i64 (x 5)] t)).alloc (.cells #[.int .i64 (y 0), .int .i64 (y 1), .int .i64 (y 2), .int .i64 (y 3), .int .i64 (y 4), .int .i64 (y 5)] u)).alloc (.cells #[.int .i64 (z 0), .int .i64 (z 1), .int .i64 (z 2), .int .i64 (z 3), .int .i64 (z 4), .int .i64 (z 5)] s)).alloc (.cells #[.int .i64 (q 0), .int .i64 (q 1), .int .i64 (q 2), .int .i64 (q 3), .int .i64 (q 4), .int .i64 (q 5)] r) = W → VT W w.heap.size t x ∧ VT W (w.heap.size + 1) u y ∧ VT W (w.heap.size + 1 + 1) s z ∧ VT W (w.heap.size + 1 + 1 + 1) r q ∧ Below w.heap.size w W ∧ W.heap.size = w.heap.size + 4 := by
  obtain ⟨V, hV⟩ : ∃ V, ((w.alloc (.cells #[.int .i64 (x 0), .int .i64 (x 1), .int .i64 (x 2), .int .i64 (x 3), .int .i64 (x 4), .int .i64 (x 5)] t)).alloc (.cells #[.int .i64 (y 0), .int .i64 (y 1), .int .i64 (y 2), .int .i64 (y 3), .int .i64 (y 4), .int .i64 (y 5)] u)).alloc (.cells #[.int .i64 (z 0), .int .i64 (z 1), .int .i64 (z 2), .int .i64 (z 3), .int .i64 (z 4), .int .i64 (z 5)] s) = V := ⟨_, rfl⟩
  obtain ⟨h0, h1, h2, h3, h4⟩ := three6 w t u s x y z V hV
  rw [hV]
  clear hV
  rintro W rfl
  have k := VT.new V r q
  rw [h4] at k
  have kb := (Below.refl V.heap.size V).alloc (Nat.le_refl _) (.cells #[.int .i64 (q 0), .int .i64 (q 1), .int .i64 (q 2), .int .i64 (q 3), .int .i64 (q 4), .int .i64 (q 5)] r)
  exact ⟨h0.keep (kb.block _ (by omega)), h1.keep (kb.block _ (by omega)), h2.keep (kb.block _ (by omega)), k, h3.trans (kb.mono (by omega)), by simp; omega⟩
set_option maxRecDepth 100000 in
set_option maxHeartbeats 16000000 in
theorem tplus_any (a b : Nat → Int) (w : World) (ha : ∀ j, j < 6 → (a j).natAbs ≤ 1000000) (hb : ∀ j, j < 6 → (b j).natAbs ≤ 1000000) :
    Calls Try.prog 65 #[PV a, PV b] w fun e w' => e = .returned (PV (fun j => a j + b j)) ∧ Below w.heap.size w w' := by
  obtain ⟨w0, hw0⟩ : ∃ w0, ((w.alloc (.cells #[.int .i64 (a 0), .int .i64 (a 1), .int .i64 (a 2), .int .i64 (a 3), .int .i64 (a 4), .int .i64 (a 5)] 36)).alloc (.cells #[.int .i64 (b 0), .int .i64 (b 1), .int .i64 (b 2), .int .i64 (b 3), .int .i64 (b 4), .int .i64 (b 5)] 36)).alloc (.cells #[.int .i64 0, .int .i64 0, .int .i64 0, .int .i64 0, .int .i64 0, .int .i64 0] 36) = w0 := ⟨_, rfl⟩
  obtain ⟨hA, hB, hZ, hW, hs⟩ := three6 w 36 36 36 a b (fun _ => 0) w0 hw0
  have HSZ := Bx.mk hs
  have hk := above_new w0 (.cells #[.int .i64 0, .int .i64 0, .int .i64 0, .int .i64 0, .int .i64 0, .int .i64 0] 36)
  have hC := VT.new w0 36 (fun _ => 0)
  have HA := Bx.mk (hA.keep (hk.block _ hA.lt))
  have HB := Bx.mk (hB.keep (hk.block _ hB.lt))
  have HZ := Bx.mk (hZ.keep (hk.block _ hZ.lt))
  have HC := Bx.mk hC
  have HW := Bx.mk (hW.trans (hk.mono hW.size))
  have HBa := Bx.mk ha
  have HBb := Bx.mk hb
  unfold PV
  clear hA hB hZ hC hW hs hk ha hb
  go_enter Try.func65, Try.ntmps65
  go_wp2_with fail
  clear hw0
  obtain ⟨w1, hw1⟩ : ∃ w1, w0.alloc (.cells #[.int .i64 0, .int .i64 0, .int .i64 0, .int .i64 0, .int .i64 0, .int .i64 0] 36) = w1 := ⟨_, rfl⟩
  rw [hw1] at HA HZ HC HW
  rw [hw1] at HB
  try rw [hw1]
  clear hw1
  go_loopw [6] (fun jx wz => ∃ l : Nat, l ≤ 6 ∧ jx = .int .i64 l ∧ Bx (VT wz (w.heap.size) 36 a) ∧ Bx (VT wz (w.heap.size + 1) 36 b) ∧ Bx (VT wz (w.heap.size + 1 + 1) 36 (fun _ => 0)) ∧ Bx (VT wz (w0.heap.size) 36 (fun j => if j < l then a j + b j else 0)) ∧ Bx (Below w.heap.size w wz)) (fun jx _ => 6 - (intOf jx).toNat)
  case atStart => exact ⟨0, by omega, rfl, HA, HB, HZ, ⟨HC.out.congr fun j _ => by simp⟩, HW⟩
  case round =>
    obtain ⟨l, hl, rfl, IA, IB, IZ, IC, IW⟩ := hrel
    by_cases hl6 : l < 6
    · have hl6' : (l : Int) < 6 := by omega
      have a0 := IA.out.cellk hl6
      have b0 := IB.out.cellk hl6
      have f0 := IC.out.f l
      have c0 := IC.out.cellk hl6
      simp only [Nat.lt_irrefl, if_false] at c0
      have hb1 := HBa.out l hl6
      have hb2 := HBb.out l hl6
      obtain ⟨x, hx⟩ : ∃ x, a l = x := ⟨_, rfl⟩
      obtain ⟨y, hy⟩ : ∃ y, b l = y := ⟨_, rfl⟩
      rw [hx] at a0 hb1
      rw [hy] at b0 hb2
      obtain ⟨r, hr⟩ : ∃ r, x + y = r := ⟨_, rfl⟩
      have HR := Bx.mk (show a l + b l = r by rw [hx, hy]; exact hr)
      have q3 : IntKind.i64.wrap (x + y) = r := by rw [← hr, IntWalk.i64_in] <;> omega
      have q4 : wrap64 (x + y) = r := by unfold wrap64; omega
      clear hx hy hr
      have KC := Bx.mk ((IC.out.setk hl6 r).congr (v := fun j => if j < l + 1 then a j + b j else 0) (fun j hj => by
        by_cases e : j = l
        · subst e; simp [HR.out]
        · by_cases e2 : j < l
          · simp [e, e2, show j < l + 1 by omega]
          · simp [e, e2, show ¬ j < l + 1 by omega]))
      have KIA := Bx.mk (IA.out.keep (setCell_heap_ne (W := wr) (b := w0.heap.size) (k := l) (z := .int .i64 r) (by have := HSZ.out; omega)))
      have KIB := Bx.mk (IB.out.keep (setCell_heap_ne (W := wr) (b := w0.heap.size) (k := l) (z := .int .i64 r) (by have := HSZ.out; omega)))
      have KIZ := Bx.mk (IZ.out.keep (setCell_heap_ne (W := wr) (b := w0.heap.size) (k := l) (z := .int .i64 r) (by have := HSZ.out; omega)))
      have KW := Bx.mk (IW.out.setCell (p := ⟨w0.heap.size, l, none⟩) (show w.heap.size ≤ w0.heap.size by have := HSZ.out; omega) (.int .i64 r))
      clear IA IB IZ IC IW
      go_wp2_with fail
      go_region
      all_goals go_wp2_with fail
      all_goals first
        | exact ⟨⟨l + 1, by omega, by go_num, KIA, KIB, KIZ, KC, KW⟩, by simp [intOf]; omega⟩
        | exact ⟨⟨l + 1, by omega, by go_num, ⟨KIA.out.drew⟩, ⟨KIB.out.drew⟩, ⟨KIZ.out.drew⟩, ⟨KC.out.drew⟩, ⟨below_drew KW.out⟩⟩, by simp [intOf]; omega⟩
    · obtain rfl : l = 6 := by omega
      have HU := Bx.mk (IC.out.congr (v := fun j => a j + b j) fun j hj => by simp [hj])
      obtain ⟨u, hu⟩ : ∃ u : Nat → Int, (fun j => a j + b j) = u := ⟨_, rfl⟩
      rw [hu] at HU
      have HE := Bx.mk hu
      clear hu
      have c0 := HU.out.c0
      have c1 := HU.out.c1
      have c2 := HU.out.c2
      have c3 := HU.out.c3
      have c4 := HU.out.c4
      have c5 := HU.out.c5
      have g0 := IZ.out.c0
      have g1 := IZ.out.c1
      have g2 := IZ.out.c2
      have g3 := IZ.out.c3
      have g4 := IZ.out.c4
      have g5 := IZ.out.c5
      have z0 := IZ.out.f 0
      have z1 := IZ.out.f 1
      have z2 := IZ.out.f 2
      have z3 := IZ.out.f 3
      have z4 := IZ.out.f 4
      have z5 := IZ.out.f 5
      go_wp2_with fail
      have V6 := IZ.out.lit u
      have hb6 := but_lit (w.heap.size + 1 + 1) wr u
      have y0 := V6.c0
      have y1 := V6.c1
      have y2 := V6.c2
      have y3 := V6.c3
      have y4 := V6.c4
      have y5 := V6.c5
      have HBF := Bx.mk (IW.out.trans (but_below hb6 (n := w.heap.size) (by omega) IW.out.size))
      refine bodyPost_ret_by (v := .agg #[.int .i64 (u 0), .int .i64 (u 1), .int .i64 (u 2), .int .i64 (u 3), .int .i64 (u 4), .int .i64 (u 5)]) (by simp [results, Try.results65, go_sem, y0, y1, y2, y3, y4, y5]) rfl ?_
      exact ⟨by rw [← HE.out], HBF.out⟩

set_option maxRecDepth 100000 in
set_option maxHeartbeats 16000000 in
theorem tinverse_any (a : Nat → Int) (w : World) (ha : ∀ j, j < 6 → (a j).natAbs ≤ 1000000) :
    Calls Try.prog 64 #[PV a] w fun e w' => e = .returned (PV (fun j => -(a j))) ∧ Below w.heap.size w w' := by
  obtain ⟨w0, hw0⟩ : ∃ w0, (w.alloc (.cells #[.int .i64 (a 0), .int .i64 (a 1), .int .i64 (a 2), .int .i64 (a 3), .int .i64 (a 4), .int .i64 (a 5)] 36)).alloc (.cells #[.int .i64 0, .int .i64 0, .int .i64 0, .int .i64 0, .int .i64 0, .int .i64 0] 36) = w0 := ⟨_, rfl⟩
  obtain ⟨hA, hZ, hW, hs⟩ := two6 w 36 36 a (fun _ => 0) w0 hw0
  have HSZ := Bx.mk hs
  have hk := above_new w0 (.cells #[.int .i64 0, .int .i64 0, .int .i64 0, .int .i64 0, .int .i64 0, .int .i64 0] 36)
  have hC := VT.new w0 36 (fun _ => 0)
  have HA := Bx.mk (hA.keep (hk.block _ hA.lt))
  
  have HZ := Bx.mk (hZ.keep (hk.block _ hZ.lt))
  have HC := Bx.mk hC
  have HW := Bx.mk (hW.trans (hk.mono hW.size))
  have HBa := Bx.mk ha
  unfold PV
  clear hA hZ hC hW hs hk ha
  go_enter Try.func64, Try.ntmps64
  go_wp2_with fail
  clear hw0
  obtain ⟨w1, hw1⟩ : ∃ w1, w0.alloc (.cells #[.int .i64 0, .int .i64 0, .int .i64 0, .int .i64 0, .int .i64 0, .int .i64 0] 36) = w1 := ⟨_, rfl⟩
  rw [hw1] at HA HZ HC HW
  
  try rw [hw1]
  clear hw1
  go_loopw [4] (fun jx wz => ∃ l : Nat, l ≤ 6 ∧ jx = .int .i64 l ∧ Bx (VT wz (w.heap.size) 36 a) ∧ Bx (VT wz (w.heap.size + 1) 36 (fun _ => 0)) ∧ Bx (VT wz (w0.heap.size) 36 (fun j => if j < l then -(a j) else 0)) ∧ Bx (Below w.heap.size w wz)) (fun jx _ => 6 - (intOf jx).toNat)
  case atStart => exact ⟨0, by omega, rfl, HA, HZ, ⟨HC.out.congr fun j _ => by simp⟩, HW⟩
  case round =>
    obtain ⟨l, hl, rfl, IA, IZ, IC, IW⟩ := hrel
    by_cases hl6 : l < 6
    · have hl6' : (l : Int) < 6 := by omega
      have a0 := IA.out.cellk hl6
      
      have f0 := IC.out.f l
      have c0 := IC.out.cellk hl6
      simp only [Nat.lt_irrefl, if_false] at c0
      have hb1 := HBa.out l hl6
      obtain ⟨x, hx⟩ : ∃ x, a l = x := ⟨_, rfl⟩
      rw [hx] at a0 hb1
      obtain ⟨r, hr⟩ : ∃ r, -x = r := ⟨_, rfl⟩
      have HR := Bx.mk (show -(a l) = r by rw [hx]; exact hr)
      have q3 : IntKind.i64.wrap (-x) = r := by rw [← hr, IntWalk.i64_in] <;> omega
      have q4 : wrap64 (-x) = r := by unfold wrap64; omega
      clear hx hr
      have KC := Bx.mk ((IC.out.setk hl6 r).congr (v := fun j => if j < l + 1 then -(a j) else 0) (fun j hj => by
        by_cases e : j = l
        · subst e; simp [HR.out]
        · by_cases e2 : j < l
          · simp [e, e2, show j < l + 1 by omega]
          · simp [e, e2, show ¬ j < l + 1 by omega]))
      have KIA := Bx.mk (IA.out.keep (setCell_heap_ne (W := wr) (b := w0.heap.size) (k := l) (z := .int .i64 r) (by have := HSZ.out; omega)))
      have KIZ := Bx.mk (IZ.out.keep (setCell_heap_ne (W := wr) (b := w0.heap.size) (k := l) (z := .int .i64 r) (by have := HSZ.out; omega)))
      have KW := Bx.mk (IW.out.setCell (p := ⟨w0.heap.size, l, none⟩) (show w.heap.size ≤ w0.heap.size by have := HSZ.out; omega) (.int .i64 r))
      clear IA IZ IC IW
      go_wp2_with fail
      skip
      all_goals go_wp2_with fail
      all_goals first
        | exact ⟨⟨l + 1, by omega, by go_num, KIA, KIZ, KC, KW⟩, by simp [intOf]; omega⟩
        | exact ⟨⟨l + 1, by omega, by go_num, ⟨KIA.out.drew⟩, ⟨KIZ.out.drew⟩, ⟨KC.out.drew⟩, ⟨below_drew KW.out⟩⟩, by simp [intOf]; omega⟩
    · obtain rfl : l = 6 := by omega
      have HU := Bx.mk (IC.out.congr (v := fun j => -(a j)) fun j hj => by simp [hj])
      obtain ⟨u, hu⟩ : ∃ u : Nat → Int, (fun j => -(a j)) = u := ⟨_, rfl⟩
      rw [hu] at HU
      have HE := Bx.mk hu
      clear hu
      have c0 := HU.out.c0
      have c1 := HU.out.c1
      have c2 := HU.out.c2
      have c3 := HU.out.c3
      have c4 := HU.out.c4
      have c5 := HU.out.c5
      have g0 := IZ.out.c0
      have g1 := IZ.out.c1
      have g2 := IZ.out.c2
      have g3 := IZ.out.c3
      have g4 := IZ.out.c4
      have g5 := IZ.out.c5
      have z0 := IZ.out.f 0
      have z1 := IZ.out.f 1
      have z2 := IZ.out.f 2
      have z3 := IZ.out.f 3
      have z4 := IZ.out.f 4
      have z5 := IZ.out.f 5
      go_wp2_with fail
      have V6 := IZ.out.lit u
      have hb6 := but_lit (w.heap.size + 1) wr u
      have y0 := V6.c0
      have y1 := V6.c1
      have y2 := V6.c2
      have y3 := V6.c3
      have y4 := V6.c4
      have y5 := V6.c5
      have HBF := Bx.mk (IW.out.trans (but_below hb6 (n := w.heap.size) (by omega) IW.out.size))
      refine bodyPost_ret_by (v := .agg #[.int .i64 (u 0), .int .i64 (u 1), .int .i64 (u 2), .int .i64 (u 3), .int .i64 (u 4), .int .i64 (u 5)]) (by simp [results, Try.results64, go_sem, y0, y1, y2, y3, y4, y5]) rfl ?_
      exact ⟨by rw [← HE.out], HBF.out⟩

/-- The product of two rows, modulo 2^64. -/
theorem tdot_any (u v : Nat → Int) (w : World) : Calls Try.prog 66 #[PV u, PV v] w fun e w' => e = .returned (.int .i64 (wrap64 (dot 6 u v))) ∧ Below w.heap.size w w' := by
  obtain ⟨w0, hw0⟩ : ∃ w0, (w.alloc (.cells #[.int .i64 (u 0), .int .i64 (u 1), .int .i64 (u 2), .int .i64 (u 3), .int .i64 (u 4), .int .i64 (u 5)] 36)).alloc (.cells #[.int .i64 (v 0), .int .i64 (v 1), .int .i64 (v 2), .int .i64 (v 3), .int .i64 (v 4), .int .i64 (v 5)] 36) = w0 := ⟨_, rfl⟩
  obtain ⟨hU, hV, hW, hs⟩ := two6 w 36 36 u v w0 hw0
  have HU0 := Bx.mk hU
  have HV0 := Bx.mk hV
  have HW0 := Bx.mk hW
  unfold PV
  clear hU hV hW hs
  go_enter Try.func66, Try.ntmps66
  go_wp2_with fail
  try rw [hw0]
  clear hw0
  go_loopw [5, 6] (fun s i wr => ∃ (k : Nat) (S : Int), k ≤ 6 ∧ s = .int .i64 S ∧ i = .int .i64 k ∧ Bx (S = wrap64 (sm k fun j => u j * v j)) ∧ Bx (VT wr w.heap.size 36 u) ∧ Bx (VT wr (w.heap.size + 1) 36 v) ∧ Bx (Below w.heap.size w wr)) (fun _ i _ => 6 - (intOf i).toNat)
  case atStart => exact ⟨0, 0, by omega, rfl, rfl, ⟨by simp [sm, wrap64]⟩, HU0, HV0, HW0⟩
  case round =>
    obtain ⟨k, S, hk, rfl, rfl, HS, HU, HV, HB⟩ := hrel
    by_cases hlt : k < 6
    · have hlt' : (k : Int) < 6 := by omega
      have hcu := HU.out.cellk hlt
      have hcv := HV.out.cellk hlt
      obtain ⟨x, hx⟩ : ∃ x, u k = x := ⟨_, rfl⟩
      obtain ⟨y, hy⟩ : ∃ y, v k = y := ⟨_, rfl⟩
      rw [hx] at hcu; rw [hy] at hcv
      have HS' := Bx.mk (show wrap64 (S + wrap64 (x * y)) = wrap64 (sm (k + 1) fun j => u j * v j) by
        obtain ⟨q, hq⟩ := wrap64_mod (sm k fun j => u j * v j)
        obtain ⟨r, hr⟩ := wrap64_mod (x * y)
        rw [HS.out, hq, hr, sm, hx, hy]
        exact wrap64_of (q := q + r) (by omega))
      clear hx hy
      go_wp2_with fail
      go_region
      all_goals go_wp2_with fail
      all_goals first
        | exact ⟨⟨k + 1, _, by omega, rfl, by go_num, HS', HU, HV, HB⟩, by simp [intOf]; omega⟩
        | exact ⟨⟨k + 1, _, by omega, rfl, by go_num, HS', ⟨HU.out.drew⟩, ⟨HV.out.drew⟩, ⟨below_drew HB.out⟩⟩, by simp [intOf]; omega⟩
    · obtain rfl : k = 6 := by omega
      have HR := Bx.mk (show S = wrap64 (dot 6 u v) from HS.out)
      go_wp2_with fail
      go_ret
      exact ⟨by rw [← HR.out]; rfl, HB.out⟩
end Go.Proofs.Ytnbamjoadankmaa

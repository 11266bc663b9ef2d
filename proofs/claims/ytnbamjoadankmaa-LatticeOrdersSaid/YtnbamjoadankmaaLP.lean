/- Sums of multiples of rows (law06's plus). -/
import Derived.Test.YtnbamjoadankmaaLV
namespace Go.Proofs.Ytnbamjoadankmaa
open Go.RowKit D
/-- The multiple of a row. -/
def kk (bn : Nat) (f : Nat → Int) (i : Nat) : Int := if i < bn then Int.tmod (f i) 1001 else 0
/-- The vector with the multiples of the first rows. -/
def ps (M : Nat → Nat → Int) (k : Nat → Int) (v : Nat → Int) : Nat → Nat → Int
  | 0 => v
  | i + 1 => fun j => ps M k v i j + k i * M i j
theorem kk_bound (bn : Nat) (f : Nat → Int) (i : Nat) : -1000 ≤ kk bn f i ∧ kk bn f i ≤ 1000 := by
  unfold kk
  split
  · have h := Int.natAbs_tmod (f i) 1001
    have h2 : (f i).natAbs % (1001 : Int).natAbs < 1001 := Nat.mod_lt _ (by decide)
    omega
  · omega
theorem ps_bound {M : Nat → Nat → Int} {k v : Nat → Int} {n : Nat} (hk : ∀ i, -1000 ≤ k i ∧ k i ≤ 1000) (hM : ∀ i j, i < n → j < 6 → (M i j).natAbs ≤ 6000000000) (hv : Vv v) : ∀ i, i ≤ n → ∀ j, j < 6 → (ps M k v i j).natAbs ≤ 1000000000 + i * 6000000000000 := by
  intro i
  induction i with
  | zero => intro _ j hj; have := hv j hj; show (v j).natAbs ≤ _; omega
  | succ i ih =>
    intro hi j hj
    have h1 := ih (by omega) j hj
    have h2 : (k i * M i j).natAbs ≤ 1000 * 6000000000 := by rw [Int.natAbs_mul]; exact Nat.mul_le_mul (by have := hk i; omega) (hM i j (by omega) hj)
    show (ps M k v i j + k i * M i j).natAbs ≤ _
    omega
theorem ps_sp {M : Nat → Nat → Int} {k v : Nat → Int} {n : Nat} : ∀ i, i ≤ n → Sp M n 6 (fun j => ps M k v i j - v j) := by
  intro i
  induction i with
  | zero => intro _; exact Sp.zero.congr fun j _ => by show v j - v j = 0; omega
  | succ i ih =>
    intro hi
    exact ((ih (by omega)).add ((Sp.unit (M := M) (n := n) (m := 6) (p := i) (by omega)).mul (k i))).congr fun j _ => by
      show ps M k v i j + k i * M i j - v j = ps M k v i j - v j + k i * M i j
      omega
theorem VB.cellk {W : World} {b : Nat} {v : Nat → Int} (h : VB W b v) {k : Nat} (hk : k < 6) : W.cell? ⟨b, k, none⟩ = some (.int .i64 (v k)) := by
  rcases six_cases hk with rfl | rfl | rfl | rfl | rfl | rfl
  · exact h.c0
  · exact h.c1
  · exact h.c2
  · exact h.c3
  · exact h.c4
  · exact h.c5
theorem VB.setk {W : World} {b : Nat} {v : Nat → Int} (h : VB W b v) {k : Nat} (hk : k < 6) (x : Int) : VB (W.setCell ⟨b, k, none⟩ (.int .i64 x)) b (fun j => if j = k then x else v j) := by
  have h' : W.heap[b]? = _ := h
  have s := set_block (k := k) h' (.int .i64 x)
  unfold VB
  rw [s]
  rcases six_cases hk with rfl | rfl | rfl | rfl | rfl | rfl <;> simp
theorem VB.drew {W : World} {b : Nat} {v : Nat → Int} (h : VB W b v) : VB W.drew b v := h
theorem VB.congr {W : World} {b : Nat} {u v : Nat → Int} (h : VB W b u) (e : ∀ j, j < 6 → u j = v j) : VB W b v := by
  unfold VB at h ⊢
  rw [← e 0 (by omega), ← e 1 (by omega), ← e 2 (by omega), ← e 3 (by omega), ← e 4 (by omega), ← e 5 (by omega)]
  exact h
set_option maxRecDepth 100000 in
set_option maxHeartbeats 16000000 in
theorem lplus_any (ao bo : Option Addr) (n bn c1 c2 : Nat) (M : Nat → Nat → Int) (f v : Nat → Int) (w : World) (hn : n ≤ 8) (hc1 : n ≤ c1) (hc2 : bn ≤ c2) (hc2m : c2 ≤ maxLen) (hR : CV w ao n M) (hF : CS w bo bn f) (hM : ∀ i j, i < n → j < 6 → (M i j).natAbs ≤ 6000000000) (hv : Vv v) (b : Bool) (hb : b = true ↔ Vv (ps M (kk bn f) v n)) :
    Calls Try.prog 44 #[PV v, .slice ao n c1, .slice bo bn c2] w fun e w' => e = .returned (.tuple #[PV (ps M (kk bn f) v n), .bool b]) ∧ Below w.heap.size w w' := by
  unfold maxLen at hc2m
  have HPB := Bx.mk (fun i (hi : i ≤ n) j (hj : j < 6) => ps_bound (kk_bound bn f) hM hv i hi j hj)
  have HM := Bx.mk hM
  have HK := Bx.mk (kk_bound bn f)
  have HR := Bx.mk hR
  have HF := Bx.mk hF
  obtain ⟨hV0, hP0, hB0, hs0⟩ := two_vecs w v
  have HVE := Bx.mk (fun w' => rvector_any (ps M (kk bn f) v n) w' b hb)
  unfold PV at HVE ⊢
  clear hR hF hM hv hb
  go_enter Try.func44, Try.ntmps44
  go_wp2_with fail
  obtain ⟨w0, hw0⟩ : ∃ w0, ((w.alloc (.cells #[.int .i64 (v 0), .int .i64 (v 1), .int .i64 (v 2), .int .i64 (v 3), .int .i64 (v 4), .int .i64 (v 5)] 36)).alloc (.cells #[.int .i64 0, .int .i64 0, .int .i64 0, .int .i64 0, .int .i64 0, .int .i64 0] 36)) = w0 := ⟨_, rfl⟩
  rw [hw0] at hV0 hP0 hB0 hs0
  try rw [hw0]
  clear hw0
  have HV0 := Bx.mk hV0
  have HP0 := Bx.mk hP0
  have HB0 := Bx.mk hB0
  clear hV0 hP0 hB0
  go_loopw [14] (fun ix wr => ∃ i : Nat, i ≤ n ∧ ix = .int .i64 i ∧ Bx (VB wr w.heap.size (ps M (kk bn f) v i)) ∧ Bx (VB wr (w.heap.size + 1) (fun _ => 0)) ∧ Bx (Below w.heap.size w wr)) (fun ix _ => n - (intOf ix).toNat)
  case atStart => exact ⟨0, by omega, rfl, HV0, HP0, HB0⟩
  case round =>
    obtain ⟨i, hi, rfl, HV, HP, HB⟩ := hrel
    by_cases hlt : i < n
    · obtain ⟨b6, o6, rfl, hb6, hcr⟩ := HR.out (by omega)
      obtain ⟨a0, a1, a2, a3, a4, a5⟩ := row_six hcr hb6 HB.out hlt
      have hin : (i : Int) < (n : Int) := by omega
      clear hcr
      have HVr := Bx.mk (VB.new wr (M i))
      have HVa := Bx.mk (HV.out.keep ((above_new wr (.cells #[.int .i64 (M i 0), .int .i64 (M i 1), .int .i64 (M i 2), .int .i64 (M i 3), .int .i64 (M i 4), .int .i64 (M i 5)] 36)).block w.heap.size HV.out.lt))
      have HPa := Bx.mk (HP.out.keep ((above_new wr (.cells #[.int .i64 (M i 0), .int .i64 (M i 1), .int .i64 (M i 2), .int .i64 (M i 3), .int .i64 (M i 4), .int .i64 (M i 5)] 36)).block (w.heap.size + 1) HP.out.lt))
      have hlw := HP.out.lt
      have HBa := Bx.mk (HB.out.trans ((above_new wr (.cells #[.int .i64 (M i 0), .int .i64 (M i 1), .int .i64 (M i 2), .int .i64 (M i 3), .int .i64 (M i 4), .int .i64 (M i 5)] 36)).mono HB.out.size))
      by_cases hbn : i < bn
      · obtain ⟨b7, o7, rfl, hb7, hcf⟩ := HF.out (by omega)
        obtain ⟨hf0, hf1, hf2⟩ := hcf i hbn
        have hf := (HBa.out.cell (p := ⟨b7, o7 + i, none⟩) hb7).trans hf0
        have hib : (i : Int) < (bn : Int) := by omega
        obtain ⟨x, hx⟩ : ∃ x, f i = x := ⟨_, rfl⟩
        rw [hx] at hf hf1 hf2
        obtain ⟨y, hy⟩ : ∃ y, Int.tmod x 1001 = y := ⟨_, rfl⟩
        have HKY := Bx.mk (show kk bn f i = y by unfold kk; rw [if_pos hbn, hx, hy])
        have hyb := HK.out i
        rw [HKY.out] at hyb
        have hwx : IntKind.i64.wrap x = x := by rw [IntWalk.i64_in] <;> omega
        have hwx2 : wrap64 x = x := by unfold wrap64; omega
        have hwy : IntKind.i64.wrap y = y := by rw [IntWalk.i64_in] <;> omega
        have hwy2 : wrap64 y = y := by unfold wrap64; omega
        clear hcf hf0 hx
        obtain ⟨s, hs⟩ : ∃ s, wr.heap.size = s := ⟨_, rfl⟩
        have hws : w.heap.size + 1 < s := by omega
        rw [hs] at HVr
        go_wp2_with fail
        go_loopw [29] (fun jx wz => ∃ l : Nat, l ≤ 6 ∧ jx = .int .i64 l ∧ Bx (VB wz w.heap.size (fun j => if j < l then ps M (kk bn f) v (i + 1) j else ps M (kk bn f) v i j)) ∧ Bx (VB wz s (M i)) ∧ Bx (VB wz (w.heap.size + 1) (fun _ => 0)) ∧ Bx (Below w.heap.size w wz)) (fun jx _ => 6 - (intOf jx).toNat)
        case atStart => exact ⟨0, by omega, rfl, ⟨HVa.out.congr fun j _ => by simp⟩, HVr, HPa, HBa⟩
        case round =>
          obtain ⟨l, hl, rfl, IV, IR, IP, IB⟩ := hrel
          by_cases hl6 : l < 6
          · have c0 := IV.out.cellk hl6
            simp only [Nat.lt_irrefl, if_false] at c0
            have c1 := IR.out.cellk hl6
            have f0 := IV.out.f l
            have hl6' : (l : Int) < 6 := by omega
            have hb1 := HPB.out i (by omega) l hl6
            have hb2 := HM.out i l hlt hl6
            obtain ⟨a, ha⟩ : ∃ a, ps M (kk bn f) v i l = a := ⟨_, rfl⟩
            obtain ⟨r, hr⟩ : ∃ r, M i l = r := ⟨_, rfl⟩
            rw [ha] at c0 hb1
            rw [hr] at c1 hb2
            have hyr : (y * r).natAbs ≤ 1000 * 6000000000 := by rw [Int.natAbs_mul]; exact Nat.mul_le_mul (by omega) hb2
            have HPS := Bx.mk (show ps M (kk bn f) v (i + 1) l = a + y * r by
              show ps M (kk bn f) v i l + kk bn f i * M i l = a + y * r
              rw [ha, hr, HKY.out])
            obtain ⟨P, hP⟩ : ∃ P, y * r = P := ⟨_, rfl⟩
            rw [hP] at hyr HPS
            have q1 : IntKind.i64.wrap P = P := by rw [IntWalk.i64_in] <;> omega
            have q2 : wrap64 P = P := by unfold wrap64; omega
            have q3 : IntKind.i64.wrap (a + P) = a + P := by rw [IntWalk.i64_in] <;> omega
            have q4 : wrap64 (a + P) = a + P := by unfold wrap64; omega
            clear ha hr
            have K1 := Bx.mk ((IV.out.setk hl6 (a + P)).congr (v := fun j => if j < l + 1 then ps M (kk bn f) v (i + 1) j else ps M (kk bn f) v i j) (fun j hj => by
              by_cases e : j = l
              · subst e; simp [HPS.out]
              · by_cases e2 : j < l
                · simp [e, e2, show j < l + 1 by omega]
                · simp [e, e2, show ¬ j < l + 1 by omega]))
            have K2 := Bx.mk (IR.out.keep (setCell_heap_ne (W := wr) (b := w.heap.size) (k := l) (z := .int .i64 (a + P)) (by omega)))
            have K3 := Bx.mk (IP.out.keep (setCell_heap_ne (W := wr) (b := w.heap.size) (k := l) (z := .int .i64 (a + P)) (by omega)))
            have K4 := Bx.mk (IB.out.setCell (p := ⟨w.heap.size, l, none⟩) (Nat.le_refl _) (.int .i64 (a + P)))
            go_wp2_with fail
            go_region
            all_goals go_wp2_with fail
            all_goals first
              | exact ⟨⟨l + 1, by omega, by go_num, K1, K2, K3, K4⟩, by simp [intOf]; omega⟩
              | exact ⟨⟨l + 1, by omega, by go_num, ⟨K1.out.drew⟩, ⟨K2.out.drew⟩, ⟨K3.out.drew⟩, ⟨below_drew K4.out⟩⟩, by simp [intOf]; omega⟩
          · obtain rfl : l = 6 := by omega
            go_wp2_with fail
            exact ⟨⟨i + 1, by omega, by go_num, ⟨IV.out.congr fun j hj => by simp [hj]⟩, IP, IB⟩, by simp [intOf]; omega⟩
      · have hib : ¬ (i : Int) < (bn : Int) := by omega
        go_wp2_with fail
        exact ⟨⟨i + 1, by omega, by go_num, ⟨HVa.out.congr fun j _ => by
          show ps M (kk bn f) v i j = ps M (kk bn f) v i j + kk bn f i * M i j
          unfold kk
          rw [if_neg hbn, Int.zero_mul, Int.add_zero]⟩, HPa, HBa⟩, by simp [intOf]; omega⟩
    · obtain rfl : i = n := by omega
      have c0 := HV.out.c0
      have c1 := HV.out.c1
      have c2 := HV.out.c2
      have c3 := HV.out.c3
      have c4 := HV.out.c4
      have c5 := HV.out.c5
      obtain ⟨u, hu⟩ : ∃ u, ps M (kk bn f) v i = u := ⟨_, rfl⟩
      rw [hu] at c0 c1 c2 c3 c4 c5 HV HVE
      have HU := Bx.mk hu
      clear hu
      have hlz := HP.out.lt
      have hlv := HV.out.lt
      have p0 := HP.out.c0
      have hVr := HV.out
      go_wp2_with fail
      go_region_with (first
        | (go_at_call 45; refine (HVE.out _).mono ?_; rintro e w9 ⟨rfl, b9⟩
           have V9 := HV.out.keep (b9.block w.heap.size hlv)
           have P9 := HP.out.keep (b9.block (w.heap.size + 1) hlz)
           have HP9 := Bx.mk P9
           have HB9 := Bx.mk (HB.out.trans ((below_drew (Below.refl wr.heap.size wr)).trans b9 |>.mono HB.out.size))
           have d0 := V9.c0
           have d1 := V9.c1
           have d2 := V9.c2
           have d3 := V9.c3
           have d4 := V9.c4
           have d5 := V9.c5
           have g0 := P9.c0
           have g1 := P9.c1
           have g2 := P9.c2
           have g3 := P9.c3
           have g4 := P9.c4
           have g5 := P9.c5
           have z0 := P9.f 0
           have z1 := P9.f 1
           have z2 := P9.f 2
           have z3 := P9.f 3
           have z4 := P9.f 4
           have z5 := P9.f 5
           clear V9 P9 b9))
      all_goals go_wp2_with fail
      all_goals
        have V6 := HP9.out.lit u
        have hb6 := but_lit (w.heap.size + 1) w9 u
        have y0 := V6.c0
        have y1 := V6.c1
        have y2 := V6.c2
        have y3 := V6.c3
        have y4 := V6.c4
        have y5 := V6.c5
        have HBF := Bx.mk (HB9.out.trans (but_below hb6 (n := w.heap.size) (by omega) HB9.out.size))
        refine bodyPost_ret_by (v := .tuple #[.agg #[.int .i64 (u 0), .int .i64 (u 1), .int .i64 (u 2), .int .i64 (u 3), .int .i64 (u 4), .int .i64 (u 5)], .bool b]) (by simp [results, Try.results44, go_sem, y0, y1, y2, y3, y4, y5]) rfl ?_
        exact ⟨by rw [HU.out], HBF.out⟩
end Go.Proofs.Ytnbamjoadankmaa

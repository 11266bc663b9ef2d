/- The program's lattice: basisFor. -/
import Derived.Test.YtnbamjoadankmaaVI
import Derived.Test.YtnbamjoadankmaaVN
namespace Go.Proofs.Ytnbamjoadankmaa
open Go.RowKit D
/-- A basis stays where two cells of another block are written. -/
theorem BS.store {W : World} {fo co : Option Addr} {fc cc q : Nat} {O : Nat → Nat → Int} {p : Nat → Nat} (h : BS W fo fc co cc q O p) {b : Nat} (hp : PB W b (.slice none 0 0) (.slice none 0 0)) (x y : Value) : BS ((W.setCell ⟨b, 0, none⟩ x).setCell ⟨b, 1, none⟩ y) fo fc co cc q O p := by
  have h6 : W.heap[b]? = _ := hp
  refine ⟨fun hq => ?_, fun hl => ?_, h.lf, h.lc, h.six, h.lt, h.pos, h.ent, h.piv⟩
  · obtain ⟨c, o, e, hc, hcc⟩ := h.rows hq
    have hne : c ≠ b := fun e => by
      subst e
      have h5 := hcc 0 5 hq (by omega)
      simp only [World.cell?, h6] at h5
      rw [Array.getElem?_eq_none (by simp <;> omega)] at h5
      cases h5
    refine ⟨c, o, e, by simp [World.setCell]; exact hc, fun i j hi hj => ?_⟩
    rw [World.cell?_setCell_other _ _ _ _ (fun e => hne (congrArg Addr.block e).symm), World.cell?_setCell_other _ _ _ _ (fun e => hne (congrArg Addr.block e).symm)]
    exact hcc i j hi hj
  · obtain ⟨c, o, e, hc, hcc⟩ := h.cols hl
    have hne : c ≠ b := fun e => by
      subst e
      have h5 := hcc 0 (List.length_pos_iff.2 hl)
      rcases o with _ | _ | o
      · simp [World.cell?, h6] at h5
      · simp [World.cell?, h6] at h5
      · simp only [World.cell?, h6] at h5
        rw [Array.getElem?_eq_none (by simp <;> omega)] at h5
        cases h5
    refine ⟨c, o, e, by simp [World.setCell]; exact hc, fun i hi => ?_⟩
    rw [World.cell?_setCell_other _ _ _ _ (fun e => hne (congrArg Addr.block e).symm), World.cell?_setCell_other _ _ _ _ (fun e => hne (congrArg Addr.block e).symm)]
    exact hcc i hi
/-- The two boxes of basisFor. -/
theorem two_new (w : World) (v : Nat → Int) : PB ((w.alloc (.cells #[.int .i64 (v 0), .int .i64 (v 1), .int .i64 (v 2), .int .i64 (v 3), .int .i64 (v 4), .int .i64 (v 5)] 36)).alloc (.cells #[.slice none 0 0, .slice none 0 0] 100)) (w.heap.size + 1) (.slice none 0 0) (.slice none 0 0) ∧
    (∀ l, l < 6 → ((w.alloc (.cells #[.int .i64 (v 0), .int .i64 (v 1), .int .i64 (v 2), .int .i64 (v 3), .int .i64 (v 4), .int .i64 (v 5)] 36)).alloc (.cells #[.slice none 0 0, .slice none 0 0] 100)).cell? ⟨w.heap.size, l, none⟩ = some (.int .i64 (v l))) ∧
    Below w.heap.size w ((w.alloc (.cells #[.int .i64 (v 0), .int .i64 (v 1), .int .i64 (v 2), .int .i64 (v 3), .int .i64 (v 4), .int .i64 (v 5)] 36)).alloc (.cells #[.slice none 0 0, .slice none 0 0] 100)) ∧
    ((w.alloc (.cells #[.int .i64 (v 0), .int .i64 (v 1), .int .i64 (v 2), .int .i64 (v 3), .int .i64 (v 4), .int .i64 (v 5)] 36)).alloc (.cells #[.slice none 0 0, .slice none 0 0] 100)).heap.size = w.heap.size + 2 := by
  refine ⟨?_, fun l hl => ?_, ((Below.refl _ w).alloc (Nat.le_refl _) _).alloc (by simp) _, by simp⟩
  · have h := PB.new (w.alloc (.cells #[.int .i64 (v 0), .int .i64 (v 1), .int .i64 (v 2), .int .i64 (v 3), .int .i64 (v 4), .int .i64 (v 5)] 36)) (.slice none 0 0) (.slice none 0 0)
    rw [World.size_alloc] at h; exact h
  · exact (((Below.refl _ (w.alloc (.cells #[.int .i64 (v 0), .int .i64 (v 1), .int .i64 (v 2), .int .i64 (v 3), .int .i64 (v 4), .int .i64 (v 5)] 36))).alloc (Nat.le_refl _) _).cell (p := ⟨w.heap.size, l, none⟩) (by simp)).trans (box_cell w v 36 l hl)
set_option maxRecDepth 100000 in
set_option maxHeartbeats 8000000 in
theorem basisFor_vec (ao : Option Addr) (n c1 : Nat) (v : Nat → Int) (w : World) (hv : ¬ VV v) :
    Calls Try.prog 82 #[.slice ao n c1, PV v] w fun e w' => e = .returned (.tuple #[.agg #[.slice none 0 0, .slice none 0 0], .int .i64 1]) ∧ Below w.heap.size w w' := by
  have HL := Bx.mk (fun w' => lvalid_any v w' false (by simpa [VV] using hv))
  obtain ⟨hP0, hx, hB0, hs0⟩ := two_new w v
  have v0 := hx 0 (by omega)
  have v1 := hx 1 (by omega)
  have v2 := hx 2 (by omega)
  have v3 := hx 3 (by omega)
  have v4 := hx 4 (by omega)
  have v5 := hx 5 (by omega)
  have HP0 := Bx.mk hP0
  have HB0 := Bx.mk hB0
  unfold PV at HL ⊢
  clear hx hP0 hB0
  go_enter Try.func82, Try.ntmps82
  go_wp2_with (first
    | (go_at_call 126; refine (HL.out _).mono ?_; clear HL; rintro e w2 ⟨rfl, B2w⟩
       have B2 := Bx.mk (HB0.out.trans (B2w.mono (by omega)))
       have hs2 := B2w.size
       have P2 := HP0.out.keep (B2w.block (w.heap.size + 1) (by omega))
       have HP2 := Bx.mk P2
       have p0 := P2.c0
       have p1 := P2.c1
       have q0 := P2.f 0
       have q1 := P2.f 1
       have z := ((HP2.out.set0 (.slice none 0 0)).set1 (.slice none 0 0))
       have z0 := z.c0
       have z1 := z.c1
       have HBF := Bx.mk ((B2.out.setCell (p := ⟨w.heap.size + 1, 0, none⟩) (by simp) (.slice none 0 0)).setCell (p := ⟨w.heap.size + 1, 1, none⟩) (by simp) (.slice none 0 0))
       clear B2w P2))
  refine bodyPost_ret_by (v := .tuple #[.agg #[.slice none 0 0, .slice none 0 0], .int .i64 1]) (by simp [results, Try.results82, go_sem, p0, p1]) rfl ?_
  exact ⟨rfl, HBF.out⟩
set_option maxRecDepth 100000 in
set_option maxHeartbeats 8000000 in
theorem basisFor_bad (ao : Option Addr) (n c1 : Nat) (M : Nat → Nat → Int) (v : Nat → Int) (w : World) (hc1 : n ≤ c1) (hc2 : c1 ≤ maxLen) (hR : CV w ao n M) (hm : ¬ VM M n) (hv : VV v) :
    Calls Try.prog 82 #[.slice ao n c1, PV v] w fun e w' => e = .returned (.tuple #[.agg #[.slice none 0 0, .slice none 0 0], .int .i64 1]) ∧ Below w.heap.size w w' := by
  have HL := Bx.mk (fun w' => lvalid_any v w' true (by simpa [VV] using hv))
  have HBO := Bx.mk (fun w' (hb : Below w.heap.size w w') => basisOf_bad ao n c1 M w' hc1 hc2 (hR.keep hb) hm)
  obtain ⟨hP0, hx, hB0, hs0⟩ := two_new w v
  have v0 := hx 0 (by omega)
  have v1 := hx 1 (by omega)
  have v2 := hx 2 (by omega)
  have v3 := hx 3 (by omega)
  have v4 := hx 4 (by omega)
  have v5 := hx 5 (by omega)
  have HP0 := Bx.mk hP0
  have HB0 := Bx.mk hB0
  unfold PV at HL ⊢
  clear hx hP0 hB0
  go_enter Try.func82, Try.ntmps82
  go_wp2_with (first
    | (go_at_call 126; refine (HL.out _).mono ?_; clear HL; rintro e w2 ⟨rfl, B2w⟩
       have B2 := Bx.mk (HB0.out.trans (B2w.mono (by omega)))
       have hs2 := B2w.size
       have P2 := HP0.out.keep (B2w.block (w.heap.size + 1) (by omega))
       have HP2 := Bx.mk P2
       skip
       clear B2w P2)
    | (go_at_call 89; refine (HBO.out _ B2.out).mono ?_; clear HBO; rintro e w3 ⟨rfl, B3w⟩
       have P3 := HP2.out.keep (B3w.block (w.heap.size + 1) (by omega))
       have p0 := P3.c0
       have p1 := P3.c1
       have q0 := P3.f 0
       have q1 := P3.f 1
       have HBF := Bx.mk (((B2.out.trans (B3w.mono (by omega))).setCell (p := ⟨w.heap.size + 1, 0, none⟩) (by simp) (.slice none 0 0)).setCell (p := ⟨w.heap.size + 1, 1, none⟩) (by simp) (.slice none 0 0))
       clear B3w P3))
  refine bodyPost_ret_by (v := .tuple #[.agg #[.slice none 0 0, .slice none 0 0], .int .i64 1]) (by simp [results, Try.results82, go_sem, p0, p1]) rfl ?_
  exact ⟨rfl, HBF.out⟩
set_option maxRecDepth 100000 in
set_option maxHeartbeats 8000000 in
theorem basisFor_any (ao : Option Addr) (n c1 : Nat) (M : Nat → Nat → Int) (v : Nat → Int) (w : World) (hc1 : n ≤ c1) (hc2 : c1 ≤ maxLen) (hR : CV w ao n M) (hm : VM M n) (hv : VV v) :
    Calls Try.prog 82 #[.slice ao n c1, PV v] w fun e w' => ∃ (fo : Option Addr) (fc : Nat) (co : Option Addr) (cc q : Nat) (O : Nat → Nat → Int) (p : Nat → Nat), e = .returned (.tuple #[.agg #[.slice fo q fc, .slice co q cc], .int .i64 0]) ∧ Bx (BS w' fo fc co cc q O p) ∧ Bx (Hf O q 6 p ∧ (∀ t, t < n → Sp O q 6 (M t)) ∧ ∀ i, i < q → Sp M n 6 (O i)) ∧ fc ≤ maxLen ∧ Bx (Below w.heap.size w w') := by
  have HL := Bx.mk (fun w' => lvalid_any v w' true (by simpa [VV] using hv))
  have HBO := Bx.mk (fun w' (hb : Below w.heap.size w w') => basisOf_any ao n c1 M w' hc1 hc2 (hR.keep hb) hm)
  obtain ⟨hP0, hx, hB0, hs0⟩ := two_new w v
  have v0 := hx 0 (by omega)
  have v1 := hx 1 (by omega)
  have v2 := hx 2 (by omega)
  have v3 := hx 3 (by omega)
  have v4 := hx 4 (by omega)
  have v5 := hx 5 (by omega)
  have HP0 := Bx.mk hP0
  have HB0 := Bx.mk hB0
  unfold PV at HL ⊢
  clear hx hP0 hB0
  go_enter Try.func82, Try.ntmps82
  go_wp2_with (first
    | (go_at_call 126; refine (HL.out _).mono ?_; clear HL; rintro e w2 ⟨rfl, B2w⟩
       have B2 := Bx.mk (HB0.out.trans (B2w.mono (by omega)))
       have hs2 := B2w.size
       have P2 := HP0.out.keep (B2w.block (w.heap.size + 1) (by omega))
       have HP2 := Bx.mk P2
       skip
       clear B2w P2)
    | (go_at_call 89; refine (HBO.out _ B2.out).mono ?_; clear HBO; rintro e w3 ⟨fo, fc, co, cc, q, O, p, rfl, HS3, HH3, hfc, B3w⟩
       have P3 := HP2.out.keep (B3w.out.block (w.heap.size + 1) (by omega))
       have p0 := P3.c0
       have p1 := P3.c1
       have q0 := P3.f 0
       have q1 := P3.f 1
       have HSF := Bx.mk (HS3.out.store P3 (.slice fo q fc) (.slice co q cc))
       have HBF := Bx.mk (((B2.out.trans (B3w.out.mono (by omega))).setCell (p := ⟨w.heap.size + 1, 0, none⟩) (by simp) (.slice fo q fc)).setCell (p := ⟨w.heap.size + 1, 1, none⟩) (by simp) (.slice co q cc))
       clear B3w P3 HS3))
  refine bodyPost_ret_by (v := .tuple #[.agg #[.slice fo q fc, .slice co q cc], .int .i64 0]) (by simp [results, Try.results82, go_sem, p0, p1]) rfl ?_
  exact ⟨fo, fc, co, cc, q, O, p, rfl, HSF, HH3, hfc, HBF⟩
end Go.Proofs.Ytnbamjoadankmaa
/- The program's lattice: Reduce. -/
namespace Go.Proofs.Ytnbamjoadankmaa
open Go.RowKit D
theorem two_vecs (w : World) (v : Nat → Int) : VB ((w.alloc (.cells #[.int .i64 (v 0), .int .i64 (v 1), .int .i64 (v 2), .int .i64 (v 3), .int .i64 (v 4), .int .i64 (v 5)] 36)).alloc (.cells #[.int .i64 0, .int .i64 0, .int .i64 0, .int .i64 0, .int .i64 0, .int .i64 0] 36)) w.heap.size v ∧
    VB ((w.alloc (.cells #[.int .i64 (v 0), .int .i64 (v 1), .int .i64 (v 2), .int .i64 (v 3), .int .i64 (v 4), .int .i64 (v 5)] 36)).alloc (.cells #[.int .i64 0, .int .i64 0, .int .i64 0, .int .i64 0, .int .i64 0, .int .i64 0] 36)) (w.heap.size + 1) (fun _ => 0) ∧
    Below w.heap.size w ((w.alloc (.cells #[.int .i64 (v 0), .int .i64 (v 1), .int .i64 (v 2), .int .i64 (v 3), .int .i64 (v 4), .int .i64 (v 5)] 36)).alloc (.cells #[.int .i64 0, .int .i64 0, .int .i64 0, .int .i64 0, .int .i64 0, .int .i64 0] 36)) ∧
    ((w.alloc (.cells #[.int .i64 (v 0), .int .i64 (v 1), .int .i64 (v 2), .int .i64 (v 3), .int .i64 (v 4), .int .i64 (v 5)] 36)).alloc (.cells #[.int .i64 0, .int .i64 0, .int .i64 0, .int .i64 0, .int .i64 0, .int .i64 0] 36)).heap.size = w.heap.size + 2 := by
  refine ⟨?_, ?_, ((Below.refl _ w).alloc (Nat.le_refl _) _).alloc (by simp) _, by simp⟩
  · exact (VB.new w v).keep (((Below.refl _ _).alloc (Nat.le_refl _) _).block _ (by simp))
  · have h := VB.new (w.alloc (.cells #[.int .i64 (v 0), .int .i64 (v 1), .int .i64 (v 2), .int .i64 (v 3), .int .i64 (v 4), .int .i64 (v 5)] 36)) (fun _ => 0)
    rw [World.size_alloc] at h; exact h
set_option maxRecDepth 100000 in
set_option maxHeartbeats 8000000 in
theorem reduce_at (ao : Option Addr) (n c1 : Nat) (M : Nat → Nat → Int) (v : Nat → Int) (w : World) (hc1 : n ≤ c1) (hc2 : c1 ≤ maxLen) (hR : CV w ao n M) (hm : VM M n) (hv : VV v) :
    Calls Try.prog 34 #[.slice ao n c1, PV v] w fun e w' => ∃ (q : Nat) (O : Nat → Nat → Int) (p : Nat → Nat), (Hf O q 6 p ∧ (∀ t, t < n → Sp O q 6 (M t)) ∧ ∀ i, i < q → Sp M n 6 (O i)) ∧
      ((e = .returned (.tuple #[PV (rmd O p v q), .int .i64 0]) ∧ ∀ k, k ≤ q → Vv (rmd O p v k)) ∨ (e = .returned (.tuple #[PV fun _ => 0, .int .i64 3]) ∧ ∃ k, k ≤ q ∧ ¬ Vv (rmd O p v k))) ∧ Below w.heap.size w w' := by
  have HBF := Bx.mk (fun w' (hb : Below w.heap.size w w') => basisFor_any ao n c1 M v w' hc1 hc2 (hR.keep hb) hm hv)
  obtain ⟨hV0, hP0, hB0, hs0⟩ := two_vecs w v
  have HP0 := Bx.mk hP0
  have HV0 := Bx.mk hV0
  have HB0 := Bx.mk hB0
  have HVV := Bx.mk hv
  have v0 := hV0.c0
  have v1 := hV0.c1
  have v2 := hV0.c2
  have v3 := hV0.c3
  have v4 := hV0.c4
  have v5 := hV0.c5
  unfold PV at HBF ⊢
  clear hV0 hP0 hB0 hv
  go_enter Try.func34, Try.ntmps34
  go_wp2_with (first
    | (go_at_call 82; refine (HBF.out _ HB0.out).mono ?_; clear HBF; rintro e w2 ⟨fo, fc, co, cc, q, O, p, rfl, HS2, HH2, hfc, B2w⟩
       have hs2 := B2w.out.size
       have hBa := (Below.refl w2.heap.size w2).alloc (Nat.le_refl _) (.cells #[.slice fo q fc, .slice co q cc] 100)
       have hBW : Below w2.heap.size w2 ((w2.alloc (.cells #[.slice fo q fc, .slice co q cc] 100)).alloc (.cells #[(.func (.func 86) #[.agg #[.slice fo q fc, .slice co q cc]] #[])] 162)) := hBa.alloc (by simp) _
       have V2 := (HV0.out.keep (B2w.out.block w.heap.size (by omega))).keep (hBa.block w.heap.size (by omega))
       have hstep : ((w2.alloc (.cells #[.slice fo q fc, .slice co q cc] 100)).alloc (.cells #[(.func (.func 86) #[.agg #[.slice fo q fc, .slice co q cc]] #[])] 162)).cell? ⟨w2.heap.size + 1, 0, none⟩ = some (.func (.func 86) #[.agg #[.slice fo q fc, .slice co q cc]] #[]) := by
         have h := (Boxed.new (w2.alloc (.cells #[.slice fo q fc, .slice co q cc] 100)) 162 (.func (.func 86) #[.agg #[.slice fo q fc, .slice co q cc]] #[])).cell
         rw [World.size_alloc] at h; exact h
       have HLA := Bx.mk (last_one fo co fc cc q O p v (w2.heap.size + 1) 0 1 ((w2.alloc (.cells #[.slice fo q fc, .slice co q cc] 100)).alloc (.cells #[(.func (.func 86) #[.agg #[.slice fo q fc, .slice co q cc]] #[])] 162)) (HS2.out.keep hBW) hstep (by simp) HVV.out)
       have HBW := Bx.mk hBW
       unfold PV at HLA
       have P2 := HP0.out.keep (B2w.out.block (w.heap.size + 1) (by omega))
       have HP2 := Bx.mk P2
       have B2 := Bx.mk (HB0.out.trans (B2w.out.mono (by omega)))
       have d0 := V2.c0
       have d1 := V2.c1
       have d2 := V2.c2
       have d3 := V2.c3
       have d4 := V2.c4
       have d5 := V2.c5
       have ne1 : w.heap.size ≠ w2.heap.size := by omega
       have ne2 : w2.heap.size ≠ w.heap.size := by omega
       clear B2w V2 P2 hBa hBW hstep HS2)
    | (go_at_call 85; refine HLA.out.mono ?_; clear HLA; rintro e w4 ⟨hr, B4⟩
       have P4 := (HP2.out.keep (HBW.out.block (w.heap.size + 1) (by omega))).keep (B4.block (w.heap.size + 1) (by have := HBW.out.size; omega))
       have HP4 := Bx.mk P4
       have HB4 := Bx.mk (B2.out.trans ((HBW.out.mono (by omega)).trans (B4.mono (by have := HBW.out.size; omega))))
       have hs4 : w.heap.size + 1 < w4.heap.size := P4.lt
       have g0 := P4.c0
       have g1 := P4.c1
       have g2 := P4.c2
       have g3 := P4.c3
       have g4 := P4.c4
       have g5 := P4.c5
       have f0 := P4.f 0
       have f1 := P4.f 1
       have f2 := P4.f 2
       have f3 := P4.f 3
       have f4 := P4.f 4
       have f5 := P4.f 5
       clear P4 B4
       rcases hr with ⟨rfl, hk⟩ | ⟨rfl, hk⟩))
  · have hb6 : But (w.heap.size + 1) w4 ((((((w4.setCell ⟨w.heap.size + 1, 0, none⟩ (.int .i64 (rmd O p v q 0))).setCell ⟨w.heap.size + 1, 1, none⟩ (.int .i64 (rmd O p v q 1))).setCell ⟨w.heap.size + 1, 2, none⟩ (.int .i64 (rmd O p v q 2))).setCell ⟨w.heap.size + 1, 3, none⟩ (.int .i64 (rmd O p v q 3))).setCell ⟨w.heap.size + 1, 4, none⟩ (.int .i64 (rmd O p v q 4))).setCell ⟨w.heap.size + 1, 5, none⟩ (.int .i64 (rmd O p v q 5))) := but_lit (w.heap.size + 1) w4 (rmd O p v q)
    have V6 : VB ((((((w4.setCell ⟨w.heap.size + 1, 0, none⟩ (.int .i64 (rmd O p v q 0))).setCell ⟨w.heap.size + 1, 1, none⟩ (.int .i64 (rmd O p v q 1))).setCell ⟨w.heap.size + 1, 2, none⟩ (.int .i64 (rmd O p v q 2))).setCell ⟨w.heap.size + 1, 3, none⟩ (.int .i64 (rmd O p v q 3))).setCell ⟨w.heap.size + 1, 4, none⟩ (.int .i64 (rmd O p v q 4))).setCell ⟨w.heap.size + 1, 5, none⟩ (.int .i64 (rmd O p v q 5))) (w.heap.size + 1) (rmd O p v q) := HP4.out.lit (rmd O p v q)
    have e0 := V6.c0
    have e1 := V6.c1
    have e2 := V6.c2
    have e3 := V6.c3
    have e4 := V6.c4
    have e5 := V6.c5
    have HBB := Bx.mk (HB4.out.trans (but_below hb6 (n := w.heap.size) (by omega) (by omega)))
    refine bodyPost_ret_by (v := .tuple #[.agg #[.int .i64 (rmd O p v q 0), .int .i64 (rmd O p v q 1), .int .i64 (rmd O p v q 2), .int .i64 (rmd O p v q 3), .int .i64 (rmd O p v q 4), .int .i64 (rmd O p v q 5)], .int .i64 0]) (by simp [results, Try.results34, go_sem, e0, e1, e2, e3, e4, e5]) rfl ?_
    exact ⟨q, O, p, HH2.out, .inl ⟨rfl, hk⟩, HBB.out⟩
  · have hb6 : But (w.heap.size + 1) w4 ((((((w4.setCell ⟨w.heap.size + 1, 0, none⟩ (.int .i64 0)).setCell ⟨w.heap.size + 1, 1, none⟩ (.int .i64 0)).setCell ⟨w.heap.size + 1, 2, none⟩ (.int .i64 0)).setCell ⟨w.heap.size + 1, 3, none⟩ (.int .i64 0)).setCell ⟨w.heap.size + 1, 4, none⟩ (.int .i64 0)).setCell ⟨w.heap.size + 1, 5, none⟩ (.int .i64 0)) := but_lit (w.heap.size + 1) w4 (fun _ => 0)
    have V6 : VB ((((((w4.setCell ⟨w.heap.size + 1, 0, none⟩ (.int .i64 0)).setCell ⟨w.heap.size + 1, 1, none⟩ (.int .i64 0)).setCell ⟨w.heap.size + 1, 2, none⟩ (.int .i64 0)).setCell ⟨w.heap.size + 1, 3, none⟩ (.int .i64 0)).setCell ⟨w.heap.size + 1, 4, none⟩ (.int .i64 0)).setCell ⟨w.heap.size + 1, 5, none⟩ (.int .i64 0)) (w.heap.size + 1) (fun _ => 0) := HP4.out.lit (fun _ => 0)
    have e0 := V6.c0
    have e1 := V6.c1
    have e2 := V6.c2
    have e3 := V6.c3
    have e4 := V6.c4
    have e5 := V6.c5
    have HBB := Bx.mk (HB4.out.trans (but_below hb6 (n := w.heap.size) (by omega) (by omega)))
    refine bodyPost_ret_by (v := .tuple #[.agg #[.int .i64 0, .int .i64 0, .int .i64 0, .int .i64 0, .int .i64 0, .int .i64 0], .int .i64 3]) (by simp [results, Try.results34, go_sem, e0, e1, e2, e3, e4, e5]) rfl ?_
    exact ⟨q, O, p, HH2.out, .inr ⟨rfl, hk⟩, HBB.out⟩
end Go.Proofs.Ytnbamjoadankmaa
/- The program's lattice: Reduce where the rows or the vector are not valid. -/
namespace Go.Proofs.Ytnbamjoadankmaa
open Go.RowKit D
set_option maxRecDepth 100000 in
set_option maxHeartbeats 8000000 in
theorem reduce_bad (ao : Option Addr) (n c1 : Nat) (M : Nat → Nat → Int) (v : Nat → Int) (w : World) (hc1 : n ≤ c1) (hc2 : c1 ≤ maxLen) (hR : CV w ao n M) (h : ¬ (VM M n ∧ VV v)) :
    Calls Try.prog 34 #[.slice ao n c1, PV v] w fun e w' => e = .returned (.tuple #[PV fun _ => 0, .int .i64 1]) ∧ Below w.heap.size w w' := by
  have HBF : Bx (∀ w', Below w.heap.size w w' → Calls Try.prog 82 #[.slice ao n c1, PV v] w' fun e w'' => e = .returned (.tuple #[.agg #[.slice none 0 0, .slice none 0 0], .int .i64 1]) ∧ Below w'.heap.size w' w'') := ⟨fun w' hb => by
    by_cases hv : VV v
    · exact basisFor_bad ao n c1 M v w' hc1 hc2 (hR.keep hb) (fun hm => h ⟨hm, hv⟩) hv
    · exact basisFor_vec ao n c1 v w' hv⟩
  obtain ⟨hV0, hP0, hB0, hs0⟩ := two_vecs w v
  have HP0 := Bx.mk hP0
  have HB0 := Bx.mk hB0
  have v0 := hV0.c0
  have v1 := hV0.c1
  have v2 := hV0.c2
  have v3 := hV0.c3
  have v4 := hV0.c4
  have v5 := hV0.c5
  unfold PV at HBF ⊢
  clear hV0 hP0 hB0
  go_enter Try.func34, Try.ntmps34
  go_wp2_with (first
    | (go_at_call 82; refine (HBF.out _ HB0.out).mono ?_; clear HBF; rintro e w2 ⟨rfl, B2w⟩
       have hs2 := B2w.size
       have hBa := (Below.refl w2.heap.size w2).alloc (Nat.le_refl _) (.cells #[.slice none 0 0, .slice none 0 0] 100)
       have P4 := (HP0.out.keep (B2w.block (w.heap.size + 1) (by omega))).keep (hBa.block (w.heap.size + 1) (by omega))
       have HP4 := Bx.mk P4
       have HB4 := Bx.mk ((HB0.out.trans (B2w.mono (by omega))).trans (hBa.mono (by omega)))
       have hs4 := P4.lt
       have g0 := P4.c0
       have g1 := P4.c1
       have g2 := P4.c2
       have g3 := P4.c3
       have g4 := P4.c4
       have g5 := P4.c5
       have f0 := P4.f 0
       have f1 := P4.f 1
       have f2 := P4.f 2
       have f3 := P4.f 3
       have f4 := P4.f 4
       have f5 := P4.f 5
       clear B2w P4 hBa))
  have hb6 : But (w.heap.size + 1) (w2.alloc (.cells #[.slice none 0 0, .slice none 0 0] 100)) (((((((w2.alloc (.cells #[.slice none 0 0, .slice none 0 0] 100)).setCell ⟨w.heap.size + 1, 0, none⟩ (.int .i64 0)).setCell ⟨w.heap.size + 1, 1, none⟩ (.int .i64 0)).setCell ⟨w.heap.size + 1, 2, none⟩ (.int .i64 0)).setCell ⟨w.heap.size + 1, 3, none⟩ (.int .i64 0)).setCell ⟨w.heap.size + 1, 4, none⟩ (.int .i64 0)).setCell ⟨w.heap.size + 1, 5, none⟩ (.int .i64 0)) := but_lit (w.heap.size + 1) _ (fun _ => 0)
  have V6 : VB (((((((w2.alloc (.cells #[.slice none 0 0, .slice none 0 0] 100)).setCell ⟨w.heap.size + 1, 0, none⟩ (.int .i64 0)).setCell ⟨w.heap.size + 1, 1, none⟩ (.int .i64 0)).setCell ⟨w.heap.size + 1, 2, none⟩ (.int .i64 0)).setCell ⟨w.heap.size + 1, 3, none⟩ (.int .i64 0)).setCell ⟨w.heap.size + 1, 4, none⟩ (.int .i64 0)).setCell ⟨w.heap.size + 1, 5, none⟩ (.int .i64 0)) (w.heap.size + 1) (fun _ => 0) := HP4.out.lit (fun _ => 0)
  have e0 := V6.c0
  have e1 := V6.c1
  have e2 := V6.c2
  have e3 := V6.c3
  have e4 := V6.c4
  have e5 := V6.c5
  have HBB := Bx.mk (HB4.out.trans (but_below hb6 (n := w.heap.size) (by omega) (by omega)))
  refine bodyPost_ret_by (v := .tuple #[.agg #[.int .i64 0, .int .i64 0, .int .i64 0, .int .i64 0, .int .i64 0, .int .i64 0], .int .i64 1]) (by simp [results, Try.results34, go_sem, e0, e1, e2, e3, e4, e5]) rfl ?_
  exact ⟨rfl, HBB.out⟩
end Go.Proofs.Ytnbamjoadankmaa

/- The program's scale: Octave. -/
import Derived.Test.YtomgihlkbmaleaaDoorQD
import Derived.Test.YtomgihlkbmaleaaDoorQS
namespace Go.Proofs.YtomgihlkbmaleaaDoor
open Go.RowKit M
/-- q is p within the octave, o octaves lower. -/
structure Oct (p q : Nat → Int) (o : Int) : Prop where
  val : bdB q 576 = true
  in1 : In1 q
  eq : ∀ i, i < 6 → q i = p i + oc (-o) i
theorem Oct.one {p q r : Nat → Int} {o u : Int} (h : Oct p q o) (k : Oct p r u) : o = u := by
  have := h.in1.one k.in1 (n := u - o) fun i hi => by rw [h.eq i hi, k.eq i hi]; unfold oc; split <;> omega
  omega
theorem Oct.same {p q r : Nat → Int} {o u : Int} (h : Oct p q o) (k : Oct p r u) : ∀ i, i < 6 → q i = r i := by
  have := h.one k; subst this
  intro i hi; rw [h.eq i hi, k.eq i hi]
theorem octI_eq (p : Nat → Int) {l m : Int} (hl : (p 0 - 576).tdiv 12 = l) (hm : (p 0 + 576).tdiv 12 = m) : octI p = l + ((List.range (m - l + 1).toNat).countP fun i => !hiP p l i : Nat) := by
  unfold octI; rw [hl, hm]
theorem oct_bd (p : Nat → Int) (hp : bdB p 576 = true) : -96 ≤ octI p ∧ octI p ≤ 97 := by
  obtain ⟨l, hl⟩ : ∃ l, (p 0 - 576).tdiv 12 = l := ⟨_, rfl⟩
  obtain ⟨m, hm⟩ : ∃ m, (p 0 + 576).tdiv 12 = m := ⟨_, rfl⟩
  have b := lm_bd hp hl hm
  rw [octI_eq p hl hm]
  have := List.countP_le_length (p := fun i => !hiP p l i) (l := List.range (m - l + 1).toNat)
  simp at this
  omega
/-- What the count leads to is within the octave, if it is a pitch that is not lower than the unison. -/
theorem oct_in {p q : Nat → Int} (hp : bdB p 576 = true) (hq : ∀ i, i < 6 → q i = p i + oc (-octI p) i) (hv : bdB q 576 = true) (h0 : 0 ≤ sg q) : Oct p q (octI p) := by
  refine ⟨hv, ⟨h0, ?_⟩, hq⟩
  obtain ⟨l, hl⟩ : ∃ l, (p 0 - 576).tdiv 12 = l := ⟨_, rfl⟩
  obtain ⟨m, hm⟩ : ∃ m, (p 0 + 576).tdiv 12 = m := ⟨_, rfl⟩
  obtain ⟨c, h1, h2, h3, h4⟩ := count_mono (fun i => hiP p l i) (m - l + 1).toNat fun a b hab hb h => hiP_mono hp hl hm a b hab hb h
  have e := octI_eq p hl hm
  rw [h1] at e
  have b := lm_bd hp hl hm
  by_cases hc : c < (m - l + 1).toNat
  · have k := h4 hc
    rw [hiP_eq hp hl hm hc, decide_eq_true_eq] at k
    rw [sg_congr (v := subV (fun k => p k + oc (-l - (c : Int)) k) (oc 1)) fun i hi => by simp only [subV]; rw [hq i hi, e]; unfold oc; split <;> omega]
    exact k
  · exfalso
    have b0 := bdB_yes.1 hv 0 (by omega)
    have p0 := bdB_yes.1 hp 0 (by omega)
    rw [hq 0 (by omega), e] at b0
    have d1 := Int.tdiv_eq_ediv_of_nonneg (a := p 0 + 576) (b := 12) (by omega)
    simp only [oc, if_pos] at b0
    omega
/-- The count finds what is within the octave. -/
theorem oct_find {p q : Nat → Int} {o : Int} (hp : bdB p 576 = true) (h : Oct p q o) : octI p = o := by
  obtain ⟨l, hl⟩ : ∃ l, (p 0 - 576).tdiv 12 = l := ⟨_, rfl⟩
  obtain ⟨m, hm⟩ : ∃ m, (p 0 + 576).tdiv 12 = m := ⟨_, rfl⟩
  obtain ⟨c, h1, h2, h3, h4⟩ := count_mono (fun i => hiP p l i) (m - l + 1).toNat fun a b hab hb h => hiP_mono hp hl hm a b hab hb h
  have e := octI_eq p hl hm
  rw [h1] at e
  have p0 := bdB_yes.1 hp 0 (by omega)
  have q0 := bdB_yes.1 h.val 0 (by omega)
  have hq0 := h.eq 0 (by omega)
  simp only [oc, if_pos] at hq0
  have d1 := Int.tdiv_eq_ediv_of_nonneg (a := p 0 + 576) (b := 12) (by omega)
  have d2 : (p 0 - 576).tdiv 12 = -((576 - p 0).tdiv 12) := by rw [← Int.neg_tdiv]; congr 1; omega
  have d3 := Int.tdiv_eq_ediv_of_nonneg (a := 576 - p 0) (b := 12) (by omega)
  obtain ⟨i, hi⟩ : ∃ i : Nat, o = l + (i : Int) := ⟨(o - l).toNat, by omega⟩
  have hin : i < (m - l + 1).toNat := by omega
  have hiP' : hiP p l i = true := by
    rw [hiP_eq hp hl hm hin, decide_eq_true_eq]
    rw [sg_congr (v := subV q (oc 1)) fun j hj => by simp only [subV]; rw [h.eq j hj, hi]; unfold oc; split <;> omega]
    exact h.in1.hi
  have hci : ¬ i < c := fun hlt => by rw [h3 i hlt] at hiP'; cases hiP'
  have hic : ¬ c < i := fun hlt => by
    have k := h4 (by omega)
    rw [hiP_eq hp hl hm (by omega), decide_eq_true_eq] at k
    have h2 : 0 ≤ sg (oc ((i : Int) - c - 1)) := by
      by_cases e1 : (i : Int) - c - 1 = 0
      · rw [e1]; exact Int.le_of_eq (sg_zero.2 fun i _ => by unfold oc; split <;> rfl).symm
      · rw [sg_oc (by omega)]; decide
    have h3 := sg_ge_sum (w := subV (fun k => p k + oc (-l - (c : Int)) k) (oc 1)) h.in1.lo h2 fun j hj => by simp only [subV]; rw [h.eq j hj, hi]; unfold oc; split <;> omega
    omega
  omega
set_option maxRecDepth 100000 in
theorem octave_bad (p : Nat → Int) (hp : bdB p 576 = false) (w : World) : Calls Tryd.prog 10 #[PV p] w fun e w' => e = .returned (.tuple #[PV (fun _ => 0), .int .i64 0, .int .i64 1]) ∧ Below w.heap.size w w' := by
  have H1 := Hx.mk (fun w => pvalid_any p w false hp)
  clear hp
  go_enter Tryd.func10, Tryd.ntmps10
  go_wp2_with fail
  refine (H1.out _).mono ?_
  rintro e w1 ⟨rfl, hb⟩
  obtain ⟨hc1, hf1⟩ := bcell hb
  have hz1 := hb.size
  (try simp at hz1)
  have hB : Hx (Below w.heap.size w w1) := ⟨Below.trans (by repeat (first | with_reducible exact hB.out | with_reducible exact Below.refl _ _ | (with_reducible refine Below.setCell ?_ ?side _; case side => (first | omega | (simp <;> omega))) | (with_reducible refine Below.alloc ?_ ?side _; case side => (first | omega | (simp <;> omega))) | with_reducible apply below_drewN)) (hb.mono (by first | omega | (simp <;> omega)))⟩
  clear hb
  have hy1_0 : w.heap.size < w1.heap.size := by omega
  have hy1_1 : w.heap.size + 1 < w1.heap.size := by omega
  go_wp2_with fail
  refine bodyPost_ret_by (v := .tuple #[PV (fun _ => 0), .int .i64 0, .int .i64 1]) (by simp [results, Tryd.results10, go_sem, hc1, hf1, hz1, hy1_0, hy1_1]) rfl ?_
  exact ⟨rfl, (by repeat (first | with_reducible exact hB.out | with_reducible exact Below.refl _ _ | (with_reducible refine Below.setCell ?_ ?side _; case side => (first | omega | (simp <;> omega))) | (with_reducible refine Below.alloc ?_ ?side _; case side => (first | omega | (simp <;> omega))) | with_reducible apply below_drewN))⟩
set_option maxRecDepth 100000 in
set_option maxHeartbeats 4000000 in
theorem octave_inv (p q : Nat → Int) (o : Int) (hp : bdB p 576 = true) (ho : octI p = o) (hq : ∀ i, i < 6 → q i = p i + oc (-o) i) (hv : bdB q 576 = false) (w : World) (hs : Sm w) : Calls Tryd.prog 10 #[PV p] w fun e w' => e = .returned (.tuple #[PV (fun _ => 0), .int .i64 0, .int .i64 3]) ∧ Below w.heap.size w w' := by
  have H1 := Hx.mk (fun w => pvalid_any p w true hp)
  have H2 := Hx.mk (octaves_any p o hp ho)
  have ob := oct_bd p hp
  have pb := bdB_yes.1 hp 0 (by omega)
  rw [ho] at ob
  have H3 := Hx.mk (qraised_any p q (-o) hq (by omega) (by omega) (by omega) (by omega))
  have H4 := Hx.mk (fun w => pvalid_any q w false hv)
  have hS := Hx.mk hs
  obtain ⟨ob0, ob1⟩ := ob
  clear hp ho hq hv hs pb
  have S : Bx (SS w w []) := ⟨SS.start w hS.out⟩
  replace S := Bx.mk (S.out.push #[.int .i64 (p 0), .int .i64 (p 1), .int .i64 (p 2), .int .i64 (p 3), .int .i64 (p 4), .int .i64 (p 5)] 23)
  replace S := Bx.mk (S.out.push #[.int .i64 0, .int .i64 0, .int .i64 0, .int .i64 0, .int .i64 0, .int .i64 0] 23)
  simp only [World.size_alloc] at S
  go_enter Tryd.func10, Tryd.ntmps10
  obtain ⟨c1_0, c1_1, c1_2, c1_3, c1_4, c1_5, z1⟩ := S.out.six w.heap.size 23 (.int .i64 (p 0)) (.int .i64 (p 1)) (.int .i64 (p 2)) (.int .i64 (p 3)) (.int .i64 (p 4)) (.int .i64 (p 5)) (List.mem_cons_of_mem _ List.mem_cons_self)
  go_wp2_with fail
  refine (H1.out _).mono ?_
  rintro e w1 ⟨rfl, hb⟩
  replace S := Bx.mk (S.out.call hb)
  clear hb
  clear c1_0 c1_1 c1_2 c1_3 c1_4 c1_5 z1
  obtain ⟨c1_0, c1_1, c1_2, c1_3, c1_4, c1_5, z1⟩ := S.out.six w.heap.size 23 (.int .i64 (p 0)) (.int .i64 (p 1)) (.int .i64 (p 2)) (.int .i64 (p 3)) (.int .i64 (p 4)) (.int .i64 (p 5)) (List.mem_cons_of_mem _ List.mem_cons_self)
  go_wp2_with fail
  refine (H2.out _ (S.out.sm)).mono ?_
  rintro e w2 ⟨rfl, hb⟩
  replace S := Bx.mk (S.out.call hb)
  clear hb
  clear c1_0 c1_1 c1_2 c1_3 c1_4 c1_5 z1
  obtain ⟨c1_0, c1_1, c1_2, c1_3, c1_4, c1_5, z1⟩ := S.out.six w.heap.size 23 (.int .i64 (p 0)) (.int .i64 (p 1)) (.int .i64 (p 2)) (.int .i64 (p 3)) (.int .i64 (p 4)) (.int .i64 (p 5)) (List.mem_cons_of_mem _ List.mem_cons_self)
  go_wp2_with fail
  refine (H3.out _ (S.out.sm)).mono ?_
  rintro e w3 ⟨rfl, hb⟩
  replace S := Bx.mk (S.out.call hb)
  clear hb
  clear c1_0 c1_1 c1_2 c1_3 c1_4 c1_5 z1
  replace S := Bx.mk (S.out.push #[.int .i64 (q 0), .int .i64 (q 1), .int .i64 (q 2), .int .i64 (q 3), .int .i64 (q 4), .int .i64 (q 5)] 23)
  obtain ⟨c0_0, c0_1, c0_2, c0_3, c0_4, c0_5, z0⟩ := S.out.six w3.heap.size 23 (.int .i64 (q 0)) (.int .i64 (q 1)) (.int .i64 (q 2)) (.int .i64 (q 3)) (.int .i64 (q 4)) (.int .i64 (q 5)) List.mem_cons_self
  go_wp2_with fail
  refine (H4.out _).mono ?_
  rintro e w4 ⟨rfl, hb⟩
  replace S := Bx.mk (S.out.call hb)
  clear hb
  clear c0_0 c0_1 c0_2 c0_3 c0_4 c0_5 z0
  obtain ⟨c0_0, c0_1, c0_2, c0_3, c0_4, c0_5, z0⟩ := S.out.six w3.heap.size 23 (.int .i64 (q 0)) (.int .i64 (q 1)) (.int .i64 (q 2)) (.int .i64 (q 3)) (.int .i64 (q 4)) (.int .i64 (q 5)) List.mem_cons_self
  obtain ⟨c1_0, c1_1, c1_2, c1_3, c1_4, c1_5, z1⟩ := S.out.six (w.heap.size + 1) 23 (.int .i64 0) (.int .i64 0) (.int .i64 0) (.int .i64 0) (.int .i64 0) (.int .i64 0) (List.mem_cons_of_mem _ List.mem_cons_self)
  obtain ⟨fz1_0, fz1_1, fz1_2, fz1_3, fz1_4, fz1_5⟩ := S.out.fz6 (w.heap.size + 1) 23 #[.int .i64 0, .int .i64 0, .int .i64 0, .int .i64 0, .int .i64 0, .int .i64 0] (List.mem_cons_of_mem _ List.mem_cons_self)
  have hBL := S.out.bl
  clear S
  go_wp2_with fail
  refine bodyPost_ret_by (v := .tuple #[PV (fun _ => 0), .int .i64 0, .int .i64 3]) (by simp [results, Tryd.results10, go_sem, c0_0, c0_1, c0_2, c0_3, c0_4, c0_5, z0, c1_0, c1_1, c1_2, c1_3, c1_4, c1_5, z1, fz1_0, fz1_1, fz1_2, fz1_3, fz1_4, fz1_5]) rfl ?_
  exact ⟨rfl, by repeat (first | with_reducible exact hBL | (with_reducible refine Below.setCell ?_ ?side _; case side => (first | omega | (simp <;> omega))))⟩
set_option maxRecDepth 100000 in
set_option maxHeartbeats 4000000 in
theorem octave_low (p q : Nat → Int) (o : Int) (hp : bdB p 576 = true) (ho : octI p = o) (hq : ∀ i, i < 6 → q i = p i + oc (-o) i) (hv : bdB q 576 = true) (hl : decide (cm q (fun _ => 0) < 0) = true) (w : World) (hs : Sm w) : Calls Tryd.prog 10 #[PV p] w fun e w' => e = .returned (.tuple #[PV (fun _ => 0), .int .i64 0, .int .i64 3]) ∧ Below w.heap.size w w' := by
  have H1 := Hx.mk (fun w => pvalid_any p w true hp)
  have H2 := Hx.mk (octaves_any p o hp ho)
  have ob := oct_bd p hp
  have pb := bdB_yes.1 hp 0 (by omega)
  rw [ho] at ob
  have H3 := Hx.mk (qraised_any p q (-o) hq (by omega) (by omega) (by omega) (by omega))
  have H4 := Hx.mk (fun w => pvalid_any q w true hv)
  have H5 : Hx (∀ w, Sm w → Calls Tryd.prog 24 #[PV q, .agg #[.int .i64 0, .int .i64 0, .int .i64 0, .int .i64 0, .int .i64 0, .int .i64 0]] w fun e w' => e = .returned (.bool true) ∧ Below w.heap.size w w') := ⟨fun w hs => qlow_any q (fun _ => 0) _ hl w hs⟩
  have hS := Hx.mk hs
  obtain ⟨ob0, ob1⟩ := ob
  clear hp ho hq hv hs pb hl
  have S : Bx (SS w w []) := ⟨SS.start w hS.out⟩
  replace S := Bx.mk (S.out.push #[.int .i64 (p 0), .int .i64 (p 1), .int .i64 (p 2), .int .i64 (p 3), .int .i64 (p 4), .int .i64 (p 5)] 23)
  replace S := Bx.mk (S.out.push #[.int .i64 0, .int .i64 0, .int .i64 0, .int .i64 0, .int .i64 0, .int .i64 0] 23)
  simp only [World.size_alloc] at S
  go_enter Tryd.func10, Tryd.ntmps10
  obtain ⟨c1_0, c1_1, c1_2, c1_3, c1_4, c1_5, z1⟩ := S.out.six w.heap.size 23 (.int .i64 (p 0)) (.int .i64 (p 1)) (.int .i64 (p 2)) (.int .i64 (p 3)) (.int .i64 (p 4)) (.int .i64 (p 5)) (List.mem_cons_of_mem _ List.mem_cons_self)
  go_wp2_with fail
  refine (H1.out _).mono ?_
  rintro e w1 ⟨rfl, hb⟩
  replace S := Bx.mk (S.out.call hb)
  clear hb
  clear c1_0 c1_1 c1_2 c1_3 c1_4 c1_5 z1
  obtain ⟨c1_0, c1_1, c1_2, c1_3, c1_4, c1_5, z1⟩ := S.out.six w.heap.size 23 (.int .i64 (p 0)) (.int .i64 (p 1)) (.int .i64 (p 2)) (.int .i64 (p 3)) (.int .i64 (p 4)) (.int .i64 (p 5)) (List.mem_cons_of_mem _ List.mem_cons_self)
  go_wp2_with fail
  refine (H2.out _ (S.out.sm)).mono ?_
  rintro e w2 ⟨rfl, hb⟩
  replace S := Bx.mk (S.out.call hb)
  clear hb
  clear c1_0 c1_1 c1_2 c1_3 c1_4 c1_5 z1
  obtain ⟨c1_0, c1_1, c1_2, c1_3, c1_4, c1_5, z1⟩ := S.out.six w.heap.size 23 (.int .i64 (p 0)) (.int .i64 (p 1)) (.int .i64 (p 2)) (.int .i64 (p 3)) (.int .i64 (p 4)) (.int .i64 (p 5)) (List.mem_cons_of_mem _ List.mem_cons_self)
  go_wp2_with fail
  refine (H3.out _ (S.out.sm)).mono ?_
  rintro e w3 ⟨rfl, hb⟩
  replace S := Bx.mk (S.out.call hb)
  clear hb
  clear c1_0 c1_1 c1_2 c1_3 c1_4 c1_5 z1
  replace S := Bx.mk (S.out.push #[.int .i64 (q 0), .int .i64 (q 1), .int .i64 (q 2), .int .i64 (q 3), .int .i64 (q 4), .int .i64 (q 5)] 23)
  obtain ⟨c0_0, c0_1, c0_2, c0_3, c0_4, c0_5, z0⟩ := S.out.six w3.heap.size 23 (.int .i64 (q 0)) (.int .i64 (q 1)) (.int .i64 (q 2)) (.int .i64 (q 3)) (.int .i64 (q 4)) (.int .i64 (q 5)) List.mem_cons_self
  go_wp2_with fail
  refine (H4.out _).mono ?_
  rintro e w4 ⟨rfl, hb⟩
  replace S := Bx.mk (S.out.call hb)
  clear hb
  clear c0_0 c0_1 c0_2 c0_3 c0_4 c0_5 z0
  obtain ⟨c0_0, c0_1, c0_2, c0_3, c0_4, c0_5, z0⟩ := S.out.six w3.heap.size 23 (.int .i64 (q 0)) (.int .i64 (q 1)) (.int .i64 (q 2)) (.int .i64 (q 3)) (.int .i64 (q 4)) (.int .i64 (q 5)) List.mem_cons_self
  have gu0 := S.out.sm.u0
  have gu1 := S.out.sm.u1
  have gu2 := S.out.sm.u2
  have gu3 := S.out.sm.u3
  have gu4 := S.out.sm.u4
  have gu5 := S.out.sm.u5
  go_wp2_with fail
  refine (H5.out _ (S.out.sm)).mono ?_
  rintro e w5 ⟨rfl, hb⟩
  replace S := Bx.mk (S.out.call hb)
  clear hb
  clear c0_0 c0_1 c0_2 c0_3 c0_4 c0_5 z0 gu0 gu1 gu2 gu3 gu4 gu5
  obtain ⟨c0_0, c0_1, c0_2, c0_3, c0_4, c0_5, z0⟩ := S.out.six w3.heap.size 23 (.int .i64 (q 0)) (.int .i64 (q 1)) (.int .i64 (q 2)) (.int .i64 (q 3)) (.int .i64 (q 4)) (.int .i64 (q 5)) List.mem_cons_self
  obtain ⟨c1_0, c1_1, c1_2, c1_3, c1_4, c1_5, z1⟩ := S.out.six (w.heap.size + 1) 23 (.int .i64 0) (.int .i64 0) (.int .i64 0) (.int .i64 0) (.int .i64 0) (.int .i64 0) (List.mem_cons_of_mem _ List.mem_cons_self)
  obtain ⟨fz1_0, fz1_1, fz1_2, fz1_3, fz1_4, fz1_5⟩ := S.out.fz6 (w.heap.size + 1) 23 #[.int .i64 0, .int .i64 0, .int .i64 0, .int .i64 0, .int .i64 0, .int .i64 0] (List.mem_cons_of_mem _ List.mem_cons_self)
  have hBL := S.out.bl
  clear S
  go_wp2_with fail
  refine bodyPost_ret_by (v := .tuple #[PV (fun _ => 0), .int .i64 0, .int .i64 3]) (by simp [results, Tryd.results10, go_sem, c0_0, c0_1, c0_2, c0_3, c0_4, c0_5, z0, c1_0, c1_1, c1_2, c1_3, c1_4, c1_5, z1, fz1_0, fz1_1, fz1_2, fz1_3, fz1_4, fz1_5]) rfl ?_
  exact ⟨rfl, by repeat (first | with_reducible exact hBL | (with_reducible refine Below.setCell ?_ ?side _; case side => (first | omega | (simp <;> omega))))⟩
set_option maxRecDepth 100000 in
set_option maxHeartbeats 4000000 in
theorem octave_ok (p q : Nat → Int) (o : Int) (hp : bdB p 576 = true) (ho : octI p = o) (hq : ∀ i, i < 6 → q i = p i + oc (-o) i) (hv : bdB q 576 = true) (hl : decide (cm q (fun _ => 0) < 0) = false) (w : World) (hs : Sm w) : Calls Tryd.prog 10 #[PV p] w fun e w' => e = .returned (.tuple #[PV q, .int .i64 o, .int .i64 0]) ∧ Below w.heap.size w w' := by
  have H1 := Hx.mk (fun w => pvalid_any p w true hp)
  have H2 := Hx.mk (octaves_any p o hp ho)
  have ob := oct_bd p hp
  have pb := bdB_yes.1 hp 0 (by omega)
  rw [ho] at ob
  have H3 := Hx.mk (qraised_any p q (-o) hq (by omega) (by omega) (by omega) (by omega))
  have H4 := Hx.mk (fun w => pvalid_any q w true hv)
  have H5 : Hx (∀ w, Sm w → Calls Tryd.prog 24 #[PV q, .agg #[.int .i64 0, .int .i64 0, .int .i64 0, .int .i64 0, .int .i64 0, .int .i64 0]] w fun e w' => e = .returned (.bool false) ∧ Below w.heap.size w w') := ⟨fun w hs => qlow_any q (fun _ => 0) _ hl w hs⟩
  have hS := Hx.mk hs
  obtain ⟨ob0, ob1⟩ := ob
  clear hp ho hq hv hs pb hl
  have S : Bx (SS w w []) := ⟨SS.start w hS.out⟩
  replace S := Bx.mk (S.out.push #[.int .i64 (p 0), .int .i64 (p 1), .int .i64 (p 2), .int .i64 (p 3), .int .i64 (p 4), .int .i64 (p 5)] 23)
  replace S := Bx.mk (S.out.push #[.int .i64 0, .int .i64 0, .int .i64 0, .int .i64 0, .int .i64 0, .int .i64 0] 23)
  simp only [World.size_alloc] at S
  go_enter Tryd.func10, Tryd.ntmps10
  obtain ⟨c1_0, c1_1, c1_2, c1_3, c1_4, c1_5, z1⟩ := S.out.six w.heap.size 23 (.int .i64 (p 0)) (.int .i64 (p 1)) (.int .i64 (p 2)) (.int .i64 (p 3)) (.int .i64 (p 4)) (.int .i64 (p 5)) (List.mem_cons_of_mem _ List.mem_cons_self)
  go_wp2_with fail
  refine (H1.out _).mono ?_
  rintro e w1 ⟨rfl, hb⟩
  replace S := Bx.mk (S.out.call hb)
  clear hb
  clear c1_0 c1_1 c1_2 c1_3 c1_4 c1_5 z1
  obtain ⟨c1_0, c1_1, c1_2, c1_3, c1_4, c1_5, z1⟩ := S.out.six w.heap.size 23 (.int .i64 (p 0)) (.int .i64 (p 1)) (.int .i64 (p 2)) (.int .i64 (p 3)) (.int .i64 (p 4)) (.int .i64 (p 5)) (List.mem_cons_of_mem _ List.mem_cons_self)
  go_wp2_with fail
  refine (H2.out _ (S.out.sm)).mono ?_
  rintro e w2 ⟨rfl, hb⟩
  replace S := Bx.mk (S.out.call hb)
  clear hb
  clear c1_0 c1_1 c1_2 c1_3 c1_4 c1_5 z1
  obtain ⟨c1_0, c1_1, c1_2, c1_3, c1_4, c1_5, z1⟩ := S.out.six w.heap.size 23 (.int .i64 (p 0)) (.int .i64 (p 1)) (.int .i64 (p 2)) (.int .i64 (p 3)) (.int .i64 (p 4)) (.int .i64 (p 5)) (List.mem_cons_of_mem _ List.mem_cons_self)
  go_wp2_with fail
  refine (H3.out _ (S.out.sm)).mono ?_
  rintro e w3 ⟨rfl, hb⟩
  replace S := Bx.mk (S.out.call hb)
  clear hb
  clear c1_0 c1_1 c1_2 c1_3 c1_4 c1_5 z1
  replace S := Bx.mk (S.out.push #[.int .i64 (q 0), .int .i64 (q 1), .int .i64 (q 2), .int .i64 (q 3), .int .i64 (q 4), .int .i64 (q 5)] 23)
  obtain ⟨c0_0, c0_1, c0_2, c0_3, c0_4, c0_5, z0⟩ := S.out.six w3.heap.size 23 (.int .i64 (q 0)) (.int .i64 (q 1)) (.int .i64 (q 2)) (.int .i64 (q 3)) (.int .i64 (q 4)) (.int .i64 (q 5)) List.mem_cons_self
  go_wp2_with fail
  refine (H4.out _).mono ?_
  rintro e w4 ⟨rfl, hb⟩
  replace S := Bx.mk (S.out.call hb)
  clear hb
  clear c0_0 c0_1 c0_2 c0_3 c0_4 c0_5 z0
  obtain ⟨c0_0, c0_1, c0_2, c0_3, c0_4, c0_5, z0⟩ := S.out.six w3.heap.size 23 (.int .i64 (q 0)) (.int .i64 (q 1)) (.int .i64 (q 2)) (.int .i64 (q 3)) (.int .i64 (q 4)) (.int .i64 (q 5)) List.mem_cons_self
  have gu0 := S.out.sm.u0
  have gu1 := S.out.sm.u1
  have gu2 := S.out.sm.u2
  have gu3 := S.out.sm.u3
  have gu4 := S.out.sm.u4
  have gu5 := S.out.sm.u5
  go_wp2_with fail
  refine (H5.out _ (S.out.sm)).mono ?_
  rintro e w5 ⟨rfl, hb⟩
  replace S := Bx.mk (S.out.call hb)
  clear hb
  clear c0_0 c0_1 c0_2 c0_3 c0_4 c0_5 z0 gu0 gu1 gu2 gu3 gu4 gu5
  obtain ⟨c0_0, c0_1, c0_2, c0_3, c0_4, c0_5, z0⟩ := S.out.six w3.heap.size 23 (.int .i64 (q 0)) (.int .i64 (q 1)) (.int .i64 (q 2)) (.int .i64 (q 3)) (.int .i64 (q 4)) (.int .i64 (q 5)) List.mem_cons_self
  obtain ⟨c1_0, c1_1, c1_2, c1_3, c1_4, c1_5, z1⟩ := S.out.six (w.heap.size + 1) 23 (.int .i64 0) (.int .i64 0) (.int .i64 0) (.int .i64 0) (.int .i64 0) (.int .i64 0) (List.mem_cons_of_mem _ List.mem_cons_self)
  obtain ⟨fz1_0, fz1_1, fz1_2, fz1_3, fz1_4, fz1_5⟩ := S.out.fz6 (w.heap.size + 1) 23 #[.int .i64 0, .int .i64 0, .int .i64 0, .int .i64 0, .int .i64 0, .int .i64 0] (List.mem_cons_of_mem _ List.mem_cons_self)
  have hBL := S.out.bl
  clear S
  go_wp2_with fail
  refine bodyPost_ret_by (v := .tuple #[PV q, .int .i64 o, .int .i64 0]) (by simp [results, Tryd.results10, go_sem, c0_0, c0_1, c0_2, c0_3, c0_4, c0_5, z0, c1_0, c1_1, c1_2, c1_3, c1_4, c1_5, z1, fz1_0, fz1_1, fz1_2, fz1_3, fz1_4, fz1_5]) rfl ?_
  exact ⟨rfl, by repeat (first | with_reducible exact hBL | (with_reducible refine Below.setCell ?_ ?side _; case side => (first | omega | (simp <;> omega))))⟩
theorem u_val : bdB (fun _ => 0) 576 = true := by decide
/-- What Octave returns. -/
inductive OctR (p : Nat → Int) : (Nat → Int) → Int → Int → Prop
  | ok (q : Nat → Int) (o : Int) : bdB p 576 = true → Oct p q o → OctR p q o 0
  | none : bdB p 576 = true → (∀ q o, ¬ Oct p q o) → OctR p (fun _ => 0) 0 3
  | bad : bdB p 576 = false → OctR p (fun _ => 0) 0 1
theorem octave_any (p : Nat → Int) : ∃ q o c, OctR p q o c ∧ ∀ w, Sm w → Calls Tryd.prog 10 #[PV p] w fun e w' => e = .returned (.tuple #[PV q, .int .i64 o, .int .i64 c]) ∧ Below w.heap.size w w' := by
  cases hp : bdB p 576 with
  | false => exact ⟨_, _, _, .bad hp, fun w _ => octave_bad p hp w⟩
  | true =>
    obtain ⟨q, hq⟩ : ∃ q : Nat → Int, q = fun i => p i + oc (-octI p) i := ⟨_, rfl⟩
    have hq' : ∀ i, i < 6 → q i = p i + oc (-octI p) i := fun i _ => by rw [hq]
    have no : ∀ {r o}, Oct p r o → ∀ i, i < 6 → q i = r i := fun h i hi => by rw [hq' i hi, h.eq i hi, oct_find hp h]
    cases hv : bdB q 576 with
    | false =>
      refine ⟨_, _, _, .none hp fun r o h => ?_, fun w hs => octave_inv p q _ hp rfl hq' hv w hs⟩
      have e : bdB q 576 = true := bdB_yes.2 fun i hi => by rw [no h i hi]; exact bdB_yes.1 h.val i hi
      rw [hv] at e; cases e
    | true =>
      have e : cm q (fun _ => 0) = sg q := by rw [cm_ok hv u_val]; exact sg_congr fun i _ => by simp [subV]
      by_cases h0 : 0 ≤ sg q
      · exact ⟨_, _, _, .ok q _ hp (oct_in hp hq' hv h0), fun w hs => octave_ok p q _ hp rfl hq' hv (by rw [e, decide_eq_false_iff_not]; omega) w hs⟩
      · refine ⟨_, _, _, .none hp fun r o h => h0 ?_, fun w hs => octave_low p q _ hp rfl hq' hv (by rw [e, decide_eq_true_eq]; omega) w hs⟩
        rw [sg_congr (no h)]; exact h.in1.lo
end Go.Proofs.YtomgihlkbmaleaaDoor

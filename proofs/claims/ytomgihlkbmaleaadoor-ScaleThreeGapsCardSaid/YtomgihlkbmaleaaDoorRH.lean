/- ScaleThreeGaps: the sizes of the steps; the easy ways. -/
import Derived.Test.YtomgihlkbmaleaaDoorRG
namespace Go.Proofs.YtomgihlkbmaleaaDoor
open Go.RowKit M
theorem pEq.tr {u v w : Nat → Int} (h : pEq u v) (k : pEq v w) : pEq u w := fun j hj => (h j hj).trans (k j hj)
theorem pEq.sy {u v : Nat → Int} (h : pEq u v) : pEq v u := fun j hj => (h j hj).symm
theorem few {A B : Nat → Int} {G : Nat → Nat → Int} {k : Nat} (hG : ∀ r, r < k → pEq (G r) A ∨ pEq (G r) B ∨ pEq (G r) (addV A B)) (hne : ∀ r s, r < s → s < k → ¬ pEq (G r) (G s)) : k ≤ 3 := by
  refine Nat.le_of_not_lt fun h => ?_
  have n01 := hne 0 1 (by omega) (by omega)
  have n02 := hne 0 2 (by omega) (by omega)
  have n03 := hne 0 3 (by omega) (by omega)
  have n12 := hne 1 2 (by omega) (by omega)
  have n13 := hne 1 3 (by omega) (by omega)
  have n23 := hne 2 3 (by omega) (by omega)
  rcases hG 0 (by omega) with a | a | a <;> rcases hG 1 (by omega) with b | b | b <;>
    first
    | exact n01 (a.tr b.sy)
    | (rcases hG 2 (by omega) with c | c | c <;>
        first
        | exact n02 (a.tr c.sy)
        | exact n12 (b.tr c.sy)
        | (rcases hG 3 (by omega) with d | d | d <;>
            first
            | exact n03 (a.tr d.sy)
            | exact n13 (b.tr d.sy)
            | exact n23 (c.tr d.sy)))
theorem add_eq {A B d x y : Nat → Int} (h : pEq d (addV A B)) (hx : pEq x A) (hy : pEq y B) : pEq d (addV x y) := fun j hj => by
  rw [h j hj]; simp only [addV]; rw [hx j hj, hy j hj]
theorem add_eq' {A B d x y : Nat → Int} (h : pEq d (addV A B)) (hx : pEq x B) (hy : pEq y A) : pEq d (addV x y) := fun j hj => by
  rw [h j hj]; simp only [addV]; rw [hx j hj, hy j hj]; omega
theorem sum3 {A B : Nat → Int} {G : Nat → Nat → Int} (hG : ∀ r, r < 3 → pEq (G r) A ∨ pEq (G r) B ∨ pEq (G r) (addV A B)) (hne : ∀ r s, r < s → s < 3 → ¬ pEq (G r) (G s)) : ∃ i, i < 3 ∧ pEq (G i) (addV (G ((i + 1) % 3)) (G ((i + 2) % 3))) := by
  have n01 := hne 0 1 (by omega) (by omega)
  have n02 := hne 0 2 (by omega) (by omega)
  have n12 := hne 1 2 (by omega) (by omega)
  rcases hG 0 (by omega) with a | a | a <;> rcases hG 1 (by omega) with b | b | b <;>
    first
    | exact absurd (a.tr b.sy) n01
    | (rcases hG 2 (by omega) with c | c | c <;>
        first
        | exact absurd (a.tr c.sy) n02
        | exact absurd (b.tr c.sy) n12
        | exact ⟨0, by omega, add_eq a b c⟩
        | exact ⟨0, by omega, add_eq' a b c⟩
        | exact ⟨1, by omega, add_eq b c a⟩
        | exact ⟨1, by omega, add_eq' b c a⟩
        | exact ⟨2, by omega, add_eq c a b⟩
        | exact ⟨2, by omega, add_eq' c a b⟩)
theorem chain_chn {g : Nat → Int} {n : Nat} {Q : Nat → Nat → Int} (h0 : 0 < n) (hok : ∀ i, i < n → InCh g Q i) (hd : ∀ i j, i < j → j < n → Df (Q i) (Q j)) : Chn g n Q :=
  ⟨h0, fun i hi => by obtain ⟨_, o, h⟩ := hok i hi; exact Cg.of_oct h, fun i hi => by obtain ⟨_, o, h⟩ := hok i hi; exact h.in1, fun i j hij hj k => hd i j hij hj k⟩
theorem chain_sv {g : Nat → Int} {n : Nat} {Q M : Nat → Nat → Int} (h : Chn g n Q) (h64 : n ≤ 64) (hok : ∀ i, i < n → InCh g Q i) (hp : (lsM M n).Perm (lsM Q n)) (hs : ∀ i j, i < j → j < n → sg (subV (M i) (M j)) < 0) : SV M n := by
  have val : ∀ i, i < n → bdB (M i) 576 = true := perm_val hp (fun v => bdB v 576 = true) fun i hi => by obtain ⟨_, o, h⟩ := hok i hi; exact h.val
  have in1 : ∀ i, i < n → In1 (M i) := perm_val hp In1 h.in1
  have z : pEq (fun _ => 0) (Q 0) := h.one h.pos (Cg.zero g) in1_zero
  have hm : Q 0 ∈ lsM Q n := List.mem_map.2 ⟨0, List.mem_range.2 h.pos, rfl⟩
  obtain ⟨s, hs0, es⟩ := List.mem_map.1 (hp.mem_iff.2 hm)
  have hsn := List.mem_range.1 hs0
  have s0 : s = 0 := by
    rcases Nat.eq_zero_or_pos s with e | e
    · exact e
    · have h1 := hs 0 s e hsn
      have h2 := (in1 0 h.pos).lo
      rw [show sg (subV (M 0) (M s)) = sg (M 0) from sg_congr fun j hj => by simp only [subV]; rw [es, show Q 0 j = 0 from (z j hj).symm]; omega] at h1
      omega
  subst s0
  refine ⟨h.pos, h64, fun j hj => by rw [es, ← z j hj], fun i hi => ?_⟩
  rw [lwB_iff]
  unfold nx
  by_cases e : i + 1 = n
  · rw [if_pos e]; exact ⟨val i hi, oc_val, (in1 i hi).hi⟩
  · rw [if_neg e]; exact ⟨val i hi, val _ (by omega), hs i (i + 1) (by omega) (by omega)⟩
set_option maxRecDepth 100000 in
set_option maxHeartbeats 8000000 in
theorem sg3_n (g : Nat → Int) (n : Int) (w : World) (hs : Sm w) (h : 24 < n) :
    Calls Tryd.prog 4 #[PV g, .int .i64 n] w fun e w' => e = .returned (.bool true) ∧ Below w.heap.size w w' := by
  have S : Bx (SS w w []) := ⟨SS.start w hs⟩
  replace S := Bx.mk (S.out.push #[.int .i64 (g 0), .int .i64 (g 1), .int .i64 (g 2), .int .i64 (g 3), .int .i64 (g 4), .int .i64 (g 5)] 23)
  go_enter Tryd.func4, Tryd.ntmps4
  go_wp2_with fail
  refine (shead_any _ S.out.sm).mono ?_
  rintro e w1 ⟨rfl, hb⟩
  replace S := Bx.mk (S.out.call hb)
  clear hb
  go_wp2_with fail
  go_ret
  exact ⟨rfl, S.out.bl⟩
set_option maxRecDepth 100000 in
set_option maxHeartbeats 8000000 in
theorem sg3_err (g : Nat → Int) (n : Int) (w : World) (hs : Sm w) (h : ¬ 24 < n) (k : Int) (hk : ¬ k = 0) (H1 : Hx (∀ w, Sm w → Calls Tryd.prog 13 #[PV g, .int .i64 n] w (NilR w k))) (H2 : Hx (∀ w, Sm w → Calls Tryd.prog 14 #[.slice none 0 0] w (NilR w 1))) :
    Calls Tryd.prog 4 #[PV g, .int .i64 n] w fun e w' => e = .returned (.bool true) ∧ Below w.heap.size w w' := by
  have S : Bx (SS w w []) := ⟨SS.start w hs⟩
  replace S := Bx.mk (S.out.push #[.int .i64 (g 0), .int .i64 (g 1), .int .i64 (g 2), .int .i64 (g 3), .int .i64 (g 4), .int .i64 (g 5)] 23)
  go_enter Tryd.func4, Tryd.ntmps4
  go_wp2_with fail
  refine (shead_any _ S.out.sm).mono ?_
  rintro e w1 ⟨rfl, hb⟩
  replace S := Bx.mk (S.out.call hb)
  clear hb
  obtain ⟨c0_0, c0_1, c0_2, c0_3, c0_4, c0_5, z0⟩ := S.out.six w.heap.size 23 (.int .i64 (g 0)) (.int .i64 (g 1)) (.int .i64 (g 2)) (.int .i64 (g 3)) (.int .i64 (g 4)) (.int .i64 (g 5)) List.mem_cons_self
  go_wp2_with fail
  refine (H1.out _ S.out.sm).mono ?_
  rintro e w2 ⟨rfl, hb⟩
  replace S := Bx.mk (S.out.call hb)
  clear hb
  clear c0_0 c0_1 c0_2 c0_3 c0_4 c0_5 z0
  go_wp2_with fail
  refine (H2.out _ S.out.sm).mono ?_
  rintro e w3 ⟨rfl, hb⟩
  replace S := Bx.mk (S.out.call hb)
  clear hb
  go_wp2_with fail
  go_ret
  exact ⟨rfl, S.out.bl⟩
end Go.Proofs.YtomgihlkbmaleaaDoor

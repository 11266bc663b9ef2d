/- The program's scale: Chain. -/
import Derived.Test.YtomgihlkbmaleaaDoorQN
namespace Go.Proofs.YtomgihlkbmaleaaDoor
open Go.RowKit M
/-- Two pitches that differ. -/
def Df (a b : Nat → Int) : Prop := ¬ ∀ j, j < 6 → a j = b j
theorem Df.symm {a b : Nat → Int} (h : Df a b) : Df b a := fun k => h fun j hj => (k j hj).symm
theorem pw_lsM {M : Nat → Nat → Int} {n : Nat} : (lsM M n).Pairwise Df ↔ ∀ i j, i < j → j < n → Df (M i) (M j) := by
  unfold lsM
  rw [List.pairwise_map, List.pairwise_iff_getElem]
  simp only [List.length_range, List.getElem_range]
  exact ⟨fun h i j hij hj => h i j (by omega) hj hij, fun h i j _ hj hij => h i j hij hj⟩
theorem perm_df {A B : Nat → Nat → Int} {n : Nat} (p : (lsM A n).Perm (lsM B n)) : (∀ i j, i < j → j < n → Df (A i) (A j)) ↔ ∀ i j, i < j → j < n → Df (B i) (B j) := by
  rw [← pw_lsM, ← pw_lsM]
  exact p.pairwise_iff fun h => h.symm
/-- A chain's list: its own, rising, made of the pitches. -/
def ChainR (w : World) (n : Nat) (Q : Nat → Nat → Int) (e : Ending) (w' : World) : Prop :=
  ∃ g cap M, e = .returned (.tuple #[.slice (some ⟨g, 0, none⟩) n cap, .int .i64 0]) ∧ n ≤ cap ∧ cap ≤ maxLen ∧ CV w' (some ⟨g, 0, none⟩) n M ∧ (lsM M n).Perm (lsM Q n) ∧ (∀ i j, i < j → j < n → sg (subV (M i) (M j)) < 0) ∧ Below w.heap.size w w'
theorem perm_val {A B : Nat → Nat → Int} {n : Nat} (p : (lsM A n).Perm (lsM B n)) (P : (Nat → Int) → Prop) (h : ∀ i, i < n → P (B i)) : ∀ i, i < n → P (A i) := by
  intro i hi
  have hm : A i ∈ lsM A n := List.mem_map.2 ⟨i, List.mem_range.2 hi, rfl⟩
  obtain ⟨j, hj, e⟩ := List.mem_map.1 (p.mem_iff.1 hm)
  rw [← e]; exact h j (List.mem_range.1 hj)
set_option maxRecDepth 100000 in
theorem chain_bad1 (g : Nat → Int) (n : Int) (w : World) (hs : Sm w) (hg : bdB g 576 = false) : Calls Tryd.prog 13 #[PV g, .int .i64 n] w (NilR w 1) := by
  have H1 := Hx.mk (fun w => pvalid_any g w false hg)
  clear hg
  have S : Bx (SS w w []) := ⟨SS.start w hs⟩
  replace S := Bx.mk (S.out.push #[.int .i64 (g 0), .int .i64 (g 1), .int .i64 (g 2), .int .i64 (g 3), .int .i64 (g 4), .int .i64 (g 5)] 23)
  go_enter Tryd.func13, Tryd.ntmps13
  obtain ⟨c0_0, c0_1, c0_2, c0_3, c0_4, c0_5, z0⟩ := S.out.six w.heap.size 23 (.int .i64 (g 0)) (.int .i64 (g 1)) (.int .i64 (g 2)) (.int .i64 (g 3)) (.int .i64 (g 4)) (.int .i64 (g 5)) List.mem_cons_self
  go_wp2_with fail
  refine (H1.out _).mono ?_
  rintro e w1 ⟨rfl, hb⟩
  replace S := Bx.mk (S.out.call hb)
  clear hb
  clear c0_0 c0_1 c0_2 c0_3 c0_4 c0_5 z0
  have hBL := S.out.bl
  clear S
  go_wp2_with fail
  go_ret2
  exact ⟨rfl, hBL⟩
set_option maxRecDepth 100000 in
theorem chain_bad2 (g : Nat → Int) (n : Int) (w : World) (hs : Sm w) (hg : bdB g 576 = true) (hn : n < 1) : Calls Tryd.prog 13 #[PV g, .int .i64 n] w (NilR w 1) := by
  have H1 := Hx.mk (fun w => pvalid_any g w true hg)
  have h1 : decide (n < 1) = true := by simpa using hn
  clear hg
  have S : Bx (SS w w []) := ⟨SS.start w hs⟩
  replace S := Bx.mk (S.out.push #[.int .i64 (g 0), .int .i64 (g 1), .int .i64 (g 2), .int .i64 (g 3), .int .i64 (g 4), .int .i64 (g 5)] 23)
  go_enter Tryd.func13, Tryd.ntmps13
  obtain ⟨c0_0, c0_1, c0_2, c0_3, c0_4, c0_5, z0⟩ := S.out.six w.heap.size 23 (.int .i64 (g 0)) (.int .i64 (g 1)) (.int .i64 (g 2)) (.int .i64 (g 3)) (.int .i64 (g 4)) (.int .i64 (g 5)) List.mem_cons_self
  go_wp2_with fail
  refine (H1.out _).mono ?_
  rintro e w1 ⟨rfl, hb⟩
  replace S := Bx.mk (S.out.call hb)
  clear hb
  clear c0_0 c0_1 c0_2 c0_3 c0_4 c0_5 z0
  have hBL := S.out.bl
  clear S
  go_wp2_with fail
  go_ret2
  exact ⟨rfl, hBL⟩
set_option maxRecDepth 100000 in
theorem chain_bad3 (g : Nat → Int) (n : Int) (w : World) (hs : Sm w) (hg : bdB g 576 = true) (hn : ¬ n < 1) (hn2 : 64 < n) : Calls Tryd.prog 13 #[PV g, .int .i64 n] w (NilR w 1) := by
  have H1 := Hx.mk (fun w => pvalid_any g w true hg)
  have h1 : decide (n < 1) = false := by simpa using hn
  have h2 : decide (64 < n) = true := by simpa using hn2
  clear hg
  have S : Bx (SS w w []) := ⟨SS.start w hs⟩
  replace S := Bx.mk (S.out.push #[.int .i64 (g 0), .int .i64 (g 1), .int .i64 (g 2), .int .i64 (g 3), .int .i64 (g 4), .int .i64 (g 5)] 23)
  go_enter Tryd.func13, Tryd.ntmps13
  obtain ⟨c0_0, c0_1, c0_2, c0_3, c0_4, c0_5, z0⟩ := S.out.six w.heap.size 23 (.int .i64 (g 0)) (.int .i64 (g 1)) (.int .i64 (g 2)) (.int .i64 (g 3)) (.int .i64 (g 4)) (.int .i64 (g 5)) List.mem_cons_self
  go_wp2_with fail
  refine (H1.out _).mono ?_
  rintro e w1 ⟨rfl, hb⟩
  replace S := Bx.mk (S.out.call hb)
  clear hb
  clear c0_0 c0_1 c0_2 c0_3 c0_4 c0_5 z0
  have hBL := S.out.bl
  clear S
  go_wp2_with fail
  go_ret2
  exact ⟨rfl, hBL⟩
set_option maxRecDepth 100000 in
set_option maxHeartbeats 8000000 in
theorem chain_no (g : Nat → Int) (n : Nat) (Q : Nat → Nat → Int) (w : World) (hs : Sm w) (hg : bdB g 576 = true) (hn0 : 0 < n) (hn : n ≤ 64) (p : Nat) (hp : p < n) (hok : ∀ i, i < p → InCh g Q i) (hbad : NoCh g p) : Calls Tryd.prog 13 #[PV g, .int .i64 n] w (NilR w 3) := by
  have H1 := Hx.mk (fun w => pvalid_any g w true hg)
  have h1 : decide ((n : Int) < 1) = false := by simp; omega
  have h2 : decide ((64 : Int) < (n : Int)) = false := by simp; omega
  have PW := Bx.mk (fun W (h : Sm W) => powers_no g n Q W hn0 hn hg h p hp hok hbad)
  have HS := Bx.mk hs
  clear hg
  have S : Bx (SS w w []) := ⟨SS.start w hs⟩
  replace S := Bx.mk (S.out.push #[.int .i64 (g 0), .int .i64 (g 1), .int .i64 (g 2), .int .i64 (g 3), .int .i64 (g 4), .int .i64 (g 5)] 23)
  go_enter Tryd.func13, Tryd.ntmps13
  obtain ⟨c0_0, c0_1, c0_2, c0_3, c0_4, c0_5, z0⟩ := S.out.six w.heap.size 23 (.int .i64 (g 0)) (.int .i64 (g 1)) (.int .i64 (g 2)) (.int .i64 (g 3)) (.int .i64 (g 4)) (.int .i64 (g 5)) List.mem_cons_self
  go_wp2_with fail
  refine (H1.out _).mono ?_
  rintro e w1 ⟨rfl, hb⟩
  replace S := Bx.mk (S.out.call hb)
  clear hb
  clear c0_0 c0_1 c0_2 c0_3 c0_4 c0_5 z0
  obtain ⟨c0_0, c0_1, c0_2, c0_3, c0_4, c0_5, z0⟩ := S.out.six w.heap.size 23 (.int .i64 (g 0)) (.int .i64 (g 1)) (.int .i64 (g 2)) (.int .i64 (g 3)) (.int .i64 (g 4)) (.int .i64 (g 5)) List.mem_cons_self
  have HS1 := Bx.mk S.out.sm
  have HB1 := Bx.mk S.out.bl
  go_wp2_with fail
  refine (PW.out _ HS1.out).mono ?_
  rintro e w2 ⟨rfl, hb2⟩
  have hBL := HB1.out.trans (hb2.mono HB1.out.size)
  clear S
  go_wp2_with fail
  go_ret2
  exact ⟨rfl, hBL⟩
theorem own_cap {w : World} {base : Nat} {e : TypeId} {size g n cap : Nat} {xs : List Value} (h : w.ownsRow base e size (.slice (some ⟨g, 0, none⟩) n cap) n xs) : cap ≤ maxLen := by
  rcases h.2 with ⟨h', _⟩ | ⟨g', cap', cur, h', _, _, _, hm, _⟩
  · cases h'
  · cases h'; exact hm
set_option maxRecDepth 100000 in
set_option maxHeartbeats 8000000 in
theorem chain_ok (g : Nat → Int) (n : Nat) (Q : Nat → Nat → Int) (w : World) (hs : Sm w) (hg : bdB g 576 = true) (hn0 : 0 < n) (hn : n ≤ 64) (hok : ∀ i, i < n → InCh g Q i) (hd : ∀ i j, i < j → j < n → Df (Q i) (Q j)) : Calls Tryd.prog 13 #[PV g, .int .i64 n] w (ChainR w n Q) := by
  have H1 := Hx.mk (fun w => pvalid_any g w true hg)
  have h1 : decide ((n : Int) < 1) = false := by simp; omega
  have h2 : decide ((64 : Int) < (n : Int)) = false := by simp; omega
  have PW := Bx.mk (fun W (h : Sm W) => powers_ok g n Q W hn0 hn hg h hok)
  have HV : Bx (∀ i, i < n → bdB (Q i) 576 = true) := ⟨fun i hi => by obtain ⟨_, o, h⟩ := hok i hi; exact h.val⟩
  have HD := Bx.mk hd
  have HS := Bx.mk hs
  clear hg
  have S : Bx (SS w w []) := ⟨SS.start w hs⟩
  replace S := Bx.mk (S.out.push #[.int .i64 (g 0), .int .i64 (g 1), .int .i64 (g 2), .int .i64 (g 3), .int .i64 (g 4), .int .i64 (g 5)] 23)
  go_enter Tryd.func13, Tryd.ntmps13
  obtain ⟨c0_0, c0_1, c0_2, c0_3, c0_4, c0_5, z0⟩ := S.out.six w.heap.size 23 (.int .i64 (g 0)) (.int .i64 (g 1)) (.int .i64 (g 2)) (.int .i64 (g 3)) (.int .i64 (g 4)) (.int .i64 (g 5)) List.mem_cons_self
  go_wp2_with fail
  refine (H1.out _).mono ?_
  rintro e w1 ⟨rfl, hb⟩
  replace S := Bx.mk (S.out.call hb)
  clear hb
  clear c0_0 c0_1 c0_2 c0_3 c0_4 c0_5 z0
  obtain ⟨c0_0, c0_1, c0_2, c0_3, c0_4, c0_5, z0⟩ := S.out.six w.heap.size 23 (.int .i64 (g 0)) (.int .i64 (g 1)) (.int .i64 (g 2)) (.int .i64 (g 3)) (.int .i64 (g 4)) (.int .i64 (g 5)) List.mem_cons_self
  have HS1 := Bx.mk S.out.sm
  have HB1 := Bx.mk S.out.bl
  go_wp2_with fail
  refine (PW.out _ HS1.out).mono ?_
  rintro e w2 ⟨gb, cap, rfl, hown, hb2⟩
  have hgb := own_lt hown gb rfl
  have hcap := own_cap hown
  have HR2 : Bx (RB w2 gb n cap Q) := ⟨RB.of_own hown fun i j hi hj => rowsL_get hi hj⟩
  have HS2 : Bx (Sm w2) := ⟨HS1.out.keep hb2⟩
  have HB2 : Bx (Below w.heap.size w w2) := ⟨HB1.out.trans (hb2.mono HB1.out.size)⟩
  have hwg : w.heap.size ≤ gb := Nat.le_trans HB1.out.size hgb.1
  have n1 : 0 ≠ gb := Nat.ne_of_lt (Nat.lt_of_lt_of_le HS.out.ult hwg)
  have n2 : 1 ≠ gb := Nat.ne_of_lt (Nat.lt_of_lt_of_le HS.out.olt hwg)
  have n3 : 2 ≠ gb := Nat.ne_of_lt (Nat.lt_of_lt_of_le HS.out.pm.lt hwg)
  have SO := Bx.mk (sort_any gb n cap Q w2 hn HR2.out HV.out HS2.out n1 n2 n3)
  clear S hown hb2 n1 n2 n3
  go_wp2_with fail
  refine SO.out.mono ?_
  rintro e w3 ⟨rfl, M, hR3, hperm, hsrt, hval, hS3, hb3⟩
  have HR3 := Bx.mk hR3
  have HPM := Bx.mk hperm
  have HSR := Bx.mk hsrt
  have HVL := Bx.mk hval
  have HB3 : Bx (Below w.heap.size w w3) := ⟨HB2.out.trans (hb3.mono hwg)⟩
  clear hR3 hperm hsrt hval hS3 hb3
  have hdf := (perm_df HPM.out).2 HD.out
  have hst : ∀ i j, i < j → j < n → sg (subV (M i) (M j)) < 0 := fun i j hij hj => by
    have h1 := HSR.out i j hij hj
    rw [sub_anti] at h1
    have h2 : sg (subV (M i) (M j)) ≠ 0 := fun h => hdf i j hij hj (sub_eq.1 h)
    omega
  have HST := Bx.mk hst
  have CO := Bx.mk (compact_same gb n cap M w3 hn0 hn HR3.out fun q hq h => hdf q (q + 1) (by omega) hq fun j hj => (h j hj).symm)
  clear hdf hst
  go_wp2_with fail
  refine CO.out.mono ?_
  rintro e w4 ⟨rfl, hb4⟩
  have HCV : Bx (CV w4 (some ⟨gb, 0, none⟩) n M) := ⟨(HR3.out.below hb4 HR3.out.lt).cv⟩
  have HB4 : Bx (Below w.heap.size w w4) := ⟨HB3.out.trans (hb4.mono HB3.out.size)⟩
  have hnc : n ≤ cap := by obtain ⟨_, _, _, h, _⟩ := HR3.out; exact h
  clear hb4
  go_wp2_with fail
  go_ret2
  exact ⟨gb, cap, M, rfl, hnc, hcap, HCV.out, HPM.out, HST.out, HB4.out⟩
set_option maxRecDepth 100000 in
set_option maxHeartbeats 8000000 in
theorem chain_twice (g : Nat → Int) (n : Nat) (Q : Nat → Nat → Int) (w : World) (hs : Sm w) (hg : bdB g 576 = true) (hn0 : 0 < n) (hn : n ≤ 64) (hok : ∀ i, i < n → InCh g Q i) (hd : ¬ ∀ i j, i < j → j < n → Df (Q i) (Q j)) : Calls Tryd.prog 13 #[PV g, .int .i64 n] w (NilR w 5) := by
  have H1 := Hx.mk (fun w => pvalid_any g w true hg)
  have h1 : decide ((n : Int) < 1) = false := by simp; omega
  have h2 : decide ((64 : Int) < (n : Int)) = false := by simp; omega
  have PW := Bx.mk (fun W (h : Sm W) => powers_ok g n Q W hn0 hn hg h hok)
  have HV : Bx (∀ i, i < n → bdB (Q i) 576 = true) := ⟨fun i hi => by obtain ⟨_, o, h⟩ := hok i hi; exact h.val⟩
  have HD := Bx.mk hd
  have HS := Bx.mk hs
  clear hg
  have S : Bx (SS w w []) := ⟨SS.start w hs⟩
  replace S := Bx.mk (S.out.push #[.int .i64 (g 0), .int .i64 (g 1), .int .i64 (g 2), .int .i64 (g 3), .int .i64 (g 4), .int .i64 (g 5)] 23)
  go_enter Tryd.func13, Tryd.ntmps13
  obtain ⟨c0_0, c0_1, c0_2, c0_3, c0_4, c0_5, z0⟩ := S.out.six w.heap.size 23 (.int .i64 (g 0)) (.int .i64 (g 1)) (.int .i64 (g 2)) (.int .i64 (g 3)) (.int .i64 (g 4)) (.int .i64 (g 5)) List.mem_cons_self
  go_wp2_with fail
  refine (H1.out _).mono ?_
  rintro e w1 ⟨rfl, hb⟩
  replace S := Bx.mk (S.out.call hb)
  clear hb
  clear c0_0 c0_1 c0_2 c0_3 c0_4 c0_5 z0
  obtain ⟨c0_0, c0_1, c0_2, c0_3, c0_4, c0_5, z0⟩ := S.out.six w.heap.size 23 (.int .i64 (g 0)) (.int .i64 (g 1)) (.int .i64 (g 2)) (.int .i64 (g 3)) (.int .i64 (g 4)) (.int .i64 (g 5)) List.mem_cons_self
  have HS1 := Bx.mk S.out.sm
  have HB1 := Bx.mk S.out.bl
  go_wp2_with fail
  refine (PW.out _ HS1.out).mono ?_
  rintro e w2 ⟨gb, cap, rfl, hown, hb2⟩
  have hgb := own_lt hown gb rfl
  have hcap := own_cap hown
  have HR2 : Bx (RB w2 gb n cap Q) := ⟨RB.of_own hown fun i j hi hj => rowsL_get hi hj⟩
  have HS2 : Bx (Sm w2) := ⟨HS1.out.keep hb2⟩
  have HB2 : Bx (Below w.heap.size w w2) := ⟨HB1.out.trans (hb2.mono HB1.out.size)⟩
  have hwg : w.heap.size ≤ gb := Nat.le_trans HB1.out.size hgb.1
  have n1 : 0 ≠ gb := Nat.ne_of_lt (Nat.lt_of_lt_of_le HS.out.ult hwg)
  have n2 : 1 ≠ gb := Nat.ne_of_lt (Nat.lt_of_lt_of_le HS.out.olt hwg)
  have n3 : 2 ≠ gb := Nat.ne_of_lt (Nat.lt_of_lt_of_le HS.out.pm.lt hwg)
  have SO := Bx.mk (sort_any gb n cap Q w2 hn HR2.out HV.out HS2.out n1 n2 n3)
  clear S hown hb2 n1 n2 n3
  go_wp2_with fail
  refine SO.out.mono ?_
  rintro e w3 ⟨rfl, M, hR3, hperm, hsrt, hval, hS3, hb3⟩
  have HR3 := Bx.mk hR3
  have HPM := Bx.mk hperm
  have HSR := Bx.mk hsrt
  have HVL := Bx.mk hval
  have HB3 : Bx (Below w.heap.size w w3) := ⟨HB2.out.trans (hb3.mono hwg)⟩
  clear hR3 hperm hsrt hval hS3 hb3
  have hdf : ∃ q, q + 1 < n ∧ ∀ j, j < 6 → M (q + 1) j = M q j := by
    refine Classical.byContradiction fun hno => HD.out ((perm_df HPM.out).1 fun i j hij hj h => ?_)
    refine hno ⟨i, by omega, ?_⟩
    have a := HSR.out i (i + 1) (by omega) (by omega)
    have b : sg (subV (M (i + 1)) (M i)) ≤ 0 := by
      by_cases e : i + 1 = j
      · rw [e, sub_anti, sub_eq.2 h]; omega
      · have c := HSR.out (i + 1) j (by omega) hj
        rw [sub_anti] at c
        exact sg_le_sum (u := subV (M (i + 1)) (M j)) (v := subV (M j) (M i)) (by omega) (by rw [sub_anti, sub_eq.2 h]; omega) fun k _ => by unfold subV; omega
    exact sub_eq.1 (by omega)
  obtain ⟨p, hp, hpn, hpe⟩ : ∃ p, p + 1 < n ∧ (∀ q, q < p → ¬ ∀ j, j < 6 → M (q + 1) j = M q j) ∧ ∀ j, j < 6 → M (p + 1) j = M p j := by
    obtain ⟨q, hq, he⟩ := hdf
    have key : ∀ q, q + 1 < n → (∀ j, j < 6 → M (q + 1) j = M q j) → ∃ p, p + 1 < n ∧ (∀ q, q < p → ¬ ∀ j, j < 6 → M (q + 1) j = M q j) ∧ ∀ j, j < 6 → M (p + 1) j = M p j := by
      intro q
      induction q using Nat.strongRecOn with
      | _ q ih =>
        intro hq he
        by_cases h : ∃ r, r < q ∧ ∀ j, j < 6 → M (r + 1) j = M r j
        · obtain ⟨r, hr, hre⟩ := h
          exact ih r hr (by omega) hre
        · exact ⟨q, hq, fun r hr hre => h ⟨r, hr, hre⟩, he⟩
    exact key q hq he
  have CO := Bx.mk (compact_less gb n cap M w3 hn hcap HR3.out p hp hpn hpe)
  clear hdf hpn hpe
  go_wp2_with fail
  refine CO.out.mono ?_
  rintro e w4 ⟨m, c, hmn, rfl, hb4⟩
  have HB4 : Bx (Below w.heap.size w w4) := ⟨HB3.out.trans (hb4.mono hwg)⟩
  have hmn' : (m : Int) < (n : Int) := by omega
  clear hb4
  go_wp2_with fail
  go_ret2
  exact ⟨rfl, HB4.out⟩
end Go.Proofs.YtomgihlkbmaleaaDoor

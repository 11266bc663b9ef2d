/- the reference's Valid. -/
import Derived.Test.YtnbamjoadankmaaR2
import Derived.Laws.StructEq
namespace Go.Proofs.Ytnbamjoadankmaa
open Go.RowKit D
/-- A valid matrix. -/
def VM (M : Nat → Nat → Int) (n : Nat) : Prop := n ≤ 8 ∧ (∀ i j, i < n → j < 6 → -1000000000 ≤ M i j ∧ M i j ≤ 1000000000) ∧ vol M 6 n ≤ 1000000000
theorem vol_le (M : Nat → Nat → Int) {m k n : Nat} (h : k ≤ n) : vol M m k ≤ vol M m n := by
  induction n with
  | zero => rw [show k = 0 by omega]; exact Nat.le_refl _
  | succ n ih =>
    rcases Nat.lt_or_eq_of_le h with x | x
    · exact Nat.le_trans (ih (by omega)) (vol_mono M m n)
    · rw [x]; exact Nat.le_refl _
set_option maxHeartbeats 4000000 in
theorem rvalid_any (ao : Option Addr) (n c1 : Nat) (M : Nat → Nat → Int) (w : World) (hc1 : n ≤ c1) (hc2 : c1 ≤ maxLen) (hR : CV w ao n M) (b : Bool) (hb : b = true ↔ VM M n) :
    Calls Try.prog 20 #[.slice ao n c1] w fun e w' => e = .returned (.bool b) ∧ Below w.heap.size w w' := by
  unfold maxLen at hc2
  by_cases h8 : n ≤ 8
  · have HB := Bx.mk hb
    have yes : VM M n → b = true := hb.2
    have no : ¬ VM M n → b = false := fun h => by cases b <;> simp_all
    have HY := Bx.mk yes
    have HN := Bx.mk no
    clear hb yes no
    go_enter Try.func20, Try.ntmps20
    go_wp2_with fail
    go_loopw [3, 4] (fun v i wr => ∃ (k : Nat) (V : Int), k ≤ n ∧ v = .int .i64 V ∧ i = .int .i64 k ∧ Bx (V = (vol M 6 k : Nat)) ∧ 1 ≤ V ∧ V ≤ 1000000000 ∧ Bx (∀ i j, i < k → j < 6 → -1000000000 ≤ M i j ∧ M i j ≤ 1000000000) ∧ Below w.heap.size w wr) (fun _ i _ => n - (intOf i).toNat)
    case atStart => exact ⟨0, 1, by omega, rfl, rfl, ⟨rfl⟩, by omega, by omega, ⟨fun i j hi => by omega⟩, Below.refl _ _⟩
    case round =>
      obtain ⟨k, V, hk, rfl, rfl, HV, hV1, hV2, HE, hB⟩ := hrel
      by_cases hlt : k < n
      · obtain ⟨b3, o3, rfl, hb3, hcr⟩ := hR (by omega)
        go_wp2_with fail
        go_loopw [5, 6] (fun s j wr => ∃ (l : Nat) (S : Int), l ≤ 6 ∧ s = .int .i64 S ∧ j = .int .i64 l ∧ Bx (S = (rs l (M k) : Nat)) ∧ 0 ≤ S ∧ S ≤ 1000000000 * l ∧ Bx (∀ j, j < l → -1000000000 ≤ M k j ∧ M k j ≤ 1000000000) ∧ Below w.heap.size w wr) (fun _ j _ => 6 - (intOf j).toNat)
        case atStart => exact ⟨0, 0, by omega, rfl, rfl, ⟨rfl⟩, by omega, by omega, ⟨fun j hj => by omega⟩, hB⟩
        case round =>
          obtain ⟨l, S, hl, rfl, rfl, HS, hS1, hS2, HR, hB2⟩ := hrel
          by_cases hl6 : l < 6
          · have hkr := hB2.cell (p := ⟨b3, o3 + k * 6 + l, none⟩) hb3
            obtain ⟨x, hx⟩ : ∃ x, M k l = x := ⟨_, rfl⟩
            rw [hcr k l hlt hl6, hx] at hkr
            have HX := Bx.mk hx
            clear hx
            by_cases h1 : -1000000000 ≤ x
            · by_cases h2 : x ≤ 1000000000
              · have HS' := Bx.mk (show S + (if x < -x then -x else x) = ((rs (l + 1) (M k) : Nat) : Int) by
                  simp only [rs]; rw [HS.out, HX.out]; split <;> omega)
                obtain ⟨y, hy⟩ : ∃ y, S + (if x < -x then -x else x) = y := ⟨_, rfl⟩
                have hy0 : 0 ≤ y := by rw [← hy]; split <;> omega
                have hy1 : y ≤ 1000000000 * (l + 1) := by rw [← hy]; split <;> omega
                rw [hy] at HS'
                have HR' := Bx.mk (show ∀ j, j < l + 1 → -1000000000 ≤ M k j ∧ M k j ≤ 1000000000 from fun j hj => by
                  rcases Nat.lt_or_eq_of_le (Nat.le_of_lt_succ hj) with z | z
                  · exact HR.out j z
                  · rw [z, HX.out]; exact ⟨h1, h2⟩)
                go_wp2_with fail
                exact ⟨⟨l + 1, y, by omega, rfl, by go_num, HS', hy0, by push_cast; omega, HR', (by repeat (first | with_reducible exact Below.refl _ _ | with_reducible exact hB | with_reducible exact hB2 | (with_reducible refine Below.setCell ?_ ?side _; case side => (first | omega | (simp <;> omega))) | (with_reducible refine Below.alloc ?_ ?side _; case side => (first | omega | (simp <;> omega))) | with_reducible apply below_drewN | with_reducible apply below_drew))⟩, by simp [intOf]; omega⟩
              · obtain rfl : b = false := HN.out fun h => by have := (h.2.1 k l hlt hl6).2; rw [HX.out] at this; omega
                go_wp2_with fail
                go_ret
                exact ⟨rfl, (by repeat (first | with_reducible exact Below.refl _ _ | with_reducible exact hB | with_reducible exact hB2 | (with_reducible refine Below.setCell ?_ ?side _; case side => (first | omega | (simp <;> omega))) | (with_reducible refine Below.alloc ?_ ?side _; case side => (first | omega | (simp <;> omega))) | with_reducible apply below_drewN | with_reducible apply below_drew))⟩
            · obtain rfl : b = false := HN.out fun h => by have := (h.2.1 k l hlt hl6).1; rw [HX.out] at this; omega
              go_wp2_with fail
              go_ret
              exact ⟨rfl, (by repeat (first | with_reducible exact Below.refl _ _ | with_reducible exact hB | with_reducible exact hB2 | (with_reducible refine Below.setCell ?_ ?side _; case side => (first | omega | (simp <;> omega))) | (with_reducible refine Below.alloc ?_ ?side _; case side => (first | omega | (simp <;> omega))) | with_reducible apply below_drewN | with_reducible apply below_drew))⟩
          · obtain rfl : l = 6 := by omega
            have HE' := Bx.mk (show ∀ i j, i < k + 1 → j < 6 → -1000000000 ≤ M i j ∧ M i j ≤ 1000000000 from fun i j hi hj => by
              rcases Nat.lt_or_eq_of_le (Nat.le_of_lt_succ hi) with z | z
              · exact HE.out i j z hj
              · rw [z]; exact HR.out j hj)
            have HM := Bx.mk (vol_le M (m := 6) (show k + 1 ≤ n by omega))
            by_cases h0 : 0 < S
            · have p1 : 0 ≤ V * S := Int.mul_nonneg (by omega) (by omega)
              have p2 : V * S ≤ 1000000000 * 6000000000 := Int.mul_le_mul (by omega) (by omega) (by omega) (by omega)
              have p3 : 1 ≤ V * S := by have := Int.mul_pos (show 0 < V by omega) h0; omega
              have HV' := Bx.mk (show V * S = ((vol M 6 (k + 1) : Nat) : Int) by
                have : rs 6 (M k) ≠ 0 := by have := HS.out; omega
                simp only [vol]; rw [if_neg this, HV.out, HS.out]; simp)
              obtain ⟨P, hP⟩ : ∃ P, V * S = P := ⟨_, rfl⟩
              rw [hP] at p1 p2 p3 HV'
              by_cases hm : P ≤ 1000000000
              · go_wp2_with fail
                exact ⟨⟨k + 1, P, by omega, rfl, by go_num, HV', p3, hm, HE', (by repeat (first | with_reducible exact Below.refl _ _ | with_reducible exact hB | with_reducible exact hB2 | (with_reducible refine Below.setCell ?_ ?side _; case side => (first | omega | (simp <;> omega))) | (with_reducible refine Below.alloc ?_ ?side _; case side => (first | omega | (simp <;> omega))) | with_reducible apply below_drewN | with_reducible apply below_drew))⟩, by simp [intOf]; omega⟩
              · obtain rfl : b = false := HN.out fun h => by have := h.2.2; have := HM.out; have := HV'.out; omega
                go_wp2_with fail
                go_ret
                exact ⟨rfl, (by repeat (first | with_reducible exact Below.refl _ _ | with_reducible exact hB | with_reducible exact hB2 | (with_reducible refine Below.setCell ?_ ?side _; case side => (first | omega | (simp <;> omega))) | (with_reducible refine Below.alloc ?_ ?side _; case side => (first | omega | (simp <;> omega))) | with_reducible apply below_drewN | with_reducible apply below_drew))⟩
            · obtain rfl : S = 0 := by omega
              have HV' := Bx.mk (show V = ((vol M 6 (k + 1) : Nat) : Int) by
                have : rs 6 (M k) = 0 := by have := HS.out; omega
                simp only [vol]; rw [if_pos this, HV.out]; simp)
              go_wp2_with fail
              exact ⟨⟨k + 1, V, by omega, rfl, by go_num, HV', hV1, hV2, HE', (by repeat (first | with_reducible exact Below.refl _ _ | with_reducible exact hB | with_reducible exact hB2 | (with_reducible refine Below.setCell ?_ ?side _; case side => (first | omega | (simp <;> omega))) | (with_reducible refine Below.alloc ?_ ?side _; case side => (first | omega | (simp <;> omega))) | with_reducible apply below_drewN | with_reducible apply below_drew))⟩, by simp [intOf]; omega⟩
      · obtain rfl : k = n := by omega
        obtain rfl : b = true := HY.out ⟨h8, HE.out, by have := HV.out; omega⟩
        go_wp2_with fail
        go_ret
        exact ⟨rfl, (by repeat (first | with_reducible exact Below.refl _ _ | with_reducible exact hB | with_reducible exact hB2 | (with_reducible refine Below.setCell ?_ ?side _; case side => (first | omega | (simp <;> omega))) | (with_reducible refine Below.alloc ?_ ?side _; case side => (first | omega | (simp <;> omega))) | with_reducible apply below_drewN | with_reducible apply below_drew))⟩
  · have : b = false := by
      cases b with
      | false => rfl
      | true => exact absurd (hb.1 rfl).1 h8
    subst this
    go_enter Try.func20, Try.ntmps20
    go_wp2_with fail
    go_ret
    exact ⟨rfl, (by repeat (first | with_reducible exact Below.refl _ _ | with_reducible exact hB | with_reducible exact hB2 | (with_reducible refine Below.setCell ?_ ?side _; case side => (first | omega | (simp <;> omega))) | (with_reducible refine Below.alloc ?_ ?side _; case side => (first | omega | (simp <;> omega))) | with_reducible apply below_drewN | with_reducible apply below_drew))⟩
end Go.Proofs.Ytnbamjoadankmaa
/- the reference's Ints and Same. -/
namespace Go.Proofs.Ytnbamjoadankmaa
open Go.RowKit D
theorem ints_any (ao bo : Option Addr) (c1 c2 n m : Nat) (A B : List Int) (w : World) (hn : A.length = n) (hm : B.length = m) (hc1 : n ≤ c1) (hc2 : c1 ≤ maxLen) (hc3 : m ≤ c2) (hc4 : c2 ≤ maxLen) (hA : CI w ao A) (hB : CI w bo B) (b : Bool) (hb : b = true ↔ A = B) :
    Calls Try.prog 28 #[.slice ao n c1, .slice bo m c2] w fun e w' => e = .returned (.bool b) ∧ Below w.heap.size w w' := by
  unfold maxLen at hc2 hc4
  by_cases hl : n = m
  · subst hl
    have HY := Bx.mk (show (∀ i, i < n → A.getD i 0 = B.getD i 0) → b = true from fun h => hb.2 (List.ext_getElem (by omega) fun i h1 h2 => by
      have := h i (by omega)
      rwa [List.getD_eq_getElem?_getD, List.getD_eq_getElem?_getD, List.getElem?_eq_getElem h1, List.getElem?_eq_getElem h2] at this))
    have HN := Bx.mk (show ∀ i, A.getD i 0 ≠ B.getD i 0 → b = false from fun i h => by
      cases hbb : b with
      | false => rfl
      | true => rw [hb.1 hbb] at h; exact absurd rfl h)
    have HHA := Bx.mk hn
    have HHB := Bx.mk hm
    clear hb hn hm
    go_enter Try.func28, Try.ntmps28
    go_wp2_with fail
    go_loopw [5] (fun i wr => ∃ k : Nat, k ≤ n ∧ i = .int .i64 k ∧ Bx (∀ i, i < k → A.getD i 0 = B.getD i 0) ∧ Below w.heap.size w wr) (fun i _ => n - (intOf i).toNat)
    case atStart => exact ⟨0, by omega, rfl, ⟨fun i hi => by omega⟩, Below.refl _ _⟩
    case round =>
      obtain ⟨k, hk, rfl, HE, hB'⟩ := hrel
      by_cases hlt : k < n
      · obtain ⟨b1, o1, rfl, hb1, hca⟩ := hA (by intro e; have := HHA.out; subst e; simp at this; omega)
        obtain ⟨b2, o2, rfl, hb2, hcb⟩ := hB (by intro e; have := HHB.out; subst e; simp at this; omega)
        have ha := hB'.cell (p := ⟨b1, o1 + k, none⟩) hb1
        have hbk := hB'.cell (p := ⟨b2, o2 + k, none⟩) hb2
        rw [hca k (by have := HHA.out; omega)] at ha
        rw [hcb k (by have := HHB.out; omega)] at hbk
        obtain ⟨x, hx⟩ : ∃ x, A.getD k 0 = x := ⟨_, rfl⟩
        obtain ⟨y, hy⟩ : ∃ y, B.getD k 0 = y := ⟨_, rfl⟩
        rw [hx] at ha; rw [hy] at hbk
        by_cases hxy : x = y
        · subst hxy
          have HE' := Bx.mk (show ∀ i, i < k + 1 → A.getD i 0 = B.getD i 0 from fun i hi => by
            rcases Nat.lt_or_eq_of_le (Nat.le_of_lt_succ hi) with z | z
            · exact HE.out i z
            · rw [z, hx, hy])
          clear hx hy hca hcb
          go_wp2_with fail
          go_region
          all_goals go_wp2_with fail
          all_goals exact ⟨⟨k + 1, by omega, by go_num, HE', (by repeat (first | with_reducible exact Below.refl _ _ | with_reducible exact hB' | (with_reducible refine Below.setCell ?_ ?side _; case side => (first | omega | (simp <;> omega))) | (with_reducible refine Below.alloc ?_ ?side _; case side => (first | omega | (simp <;> omega))) | with_reducible apply below_drewN | with_reducible apply below_drew))⟩, by simp [intOf]; omega⟩
        · obtain rfl : b = false := HN.out k (by rw [hx, hy]; exact hxy)
          have hxy' : (x == y) = false := by simpa using hxy
          clear hx hy hca hcb hxy
          go_wp2_with fail
          go_region
          all_goals go_wp2_with fail
          all_goals go_ret
          all_goals exact ⟨rfl, (by repeat (first | with_reducible exact Below.refl _ _ | with_reducible exact hB' | (with_reducible refine Below.setCell ?_ ?side _; case side => (first | omega | (simp <;> omega))) | (with_reducible refine Below.alloc ?_ ?side _; case side => (first | omega | (simp <;> omega))) | with_reducible apply below_drewN | with_reducible apply below_drew))⟩
      · obtain rfl : k = n := by omega
        obtain rfl : b = true := HY.out HE.out
        go_wp2_with fail
        go_ret
        exact ⟨rfl, (by repeat (first | with_reducible exact Below.refl _ _ | with_reducible exact hB' | (with_reducible refine Below.setCell ?_ ?side _; case side => (first | omega | (simp <;> omega))) | (with_reducible refine Below.alloc ?_ ?side _; case side => (first | omega | (simp <;> omega))) | with_reducible apply below_drewN | with_reducible apply below_drew))⟩
  · obtain rfl : b = false := by
      cases hbb : b with
      | false => rfl
      | true => rw [hb.1 hbb] at hn; omega
    have hl' : ((n : Int) == m) = false := by simp; omega
    go_enter Try.func28, Try.ntmps28
    go_wp2_with fail
    go_ret
    exact ⟨rfl, (by repeat (first | with_reducible exact Below.refl _ _ | with_reducible exact hB' | (with_reducible refine Below.setCell ?_ ?side _; case side => (first | omega | (simp <;> omega))) | (with_reducible refine Below.alloc ?_ ?side _; case side => (first | omega | (simp <;> omega))) | with_reducible apply below_drewN | with_reducible apply below_drew))⟩
end Go.Proofs.Ytnbamjoadankmaa
/- Rows of six compared. -/
namespace Go.Proofs.Ytnbamjoadankmaa
open Go.RowKit
/-- A row of six as a value. -/
abbrev PV (v : Nat → Int) : Value := .agg #[.int .i64 (v 0), .int .i64 (v 1), .int .i64 (v 2), .int .i64 (v 3), .int .i64 (v 4), .int .i64 (v 5)]
theorem six {p : Nat → Prop} (h0 : p 0) (h1 : p 1) (h2 : p 2) (h3 : p 3) (h4 : p 4) (h5 : p 5) : ∀ i, i < 6 → p i := by
  intro i hi
  match i, hi with
  | 0, _ => exact h0
  | 1, _ => exact h1
  | 2, _ => exact h2
  | 3, _ => exact h3
  | 4, _ => exact h4
  | 5, _ => exact h5
theorem info3 : (Try.prog.info? 3).map (fun i => i.size) = some 1 := by kernel_rfl

theorem equalIn_six (d : Nat) (t : TypeId) (ht : Try.prog.underlying t = some (.array 6 3)) (u v : Nat → Int) (w : World) : (Op.equalIn (d + 1 + 1) t (PV u) (PV v)).run Try.prog w = .ok (u 0 == v 0 && (u 1 == v 1 && (u 2 == v 2 && (u 3 == v 3 && (u 4 == v 4 && u 5 == v 5))))) w := by
  have e : ∀ a b, (Op.equalIn (d + 1) 3 (.int .i64 a) (.int .i64 b)).run Try.prog w = .ok (a == b) w := fun a b => run_equalIn_int w d 3 .i64 .i64 a b Try.underlying3
  obtain ⟨i, hi, hs⟩ : ∃ i, Try.prog.info? 3 = some i ∧ i.size = 1 := by
    have := info3
    cases h : Try.prog.info? 3 with
    | none => rw [h] at this; cases this
    | some i => rw [h] at this; exact ⟨i, rfl, by simpa using this⟩
  rw [Op.equalIn]
  simp only [Sem.run_bind, run_underlying ht, Result.andThen_ok]
  simp [List.range', sizeOf, typeInfo, part, hi, hs, e]
  by_cases h0 : u 0 = v 0 <;> by_cases h1 : u 1 = v 1 <;> by_cases h2 : u 2 = v 2 <;> by_cases h3 : u 3 = v 3 <;> by_cases h4 : u 4 = v 4 <;> by_cases h5 : u 5 = v 5 <;> simp [h0, h1, h2, h3, h4, h5]
/-- Two lists of six compared, in whatever type. -/
theorem eq6 (t : TypeId) (ht : Try.prog.underlying t = some (.array 6 3)) (u v : Nat → Int) (w : World) : (Op.equalIn 10000 t (PV u) (PV v)).run Try.prog w = .ok (u 0 == v 0 && (u 1 == v 1 && (u 2 == v 2 && (u 3 == v 3 && (u 4 == v 4 && u 5 == v 5))))) w :=
  equalIn_six 9998 t ht u v w
theorem eq6_same (t : TypeId) (ht : Try.prog.underlying t = some (.array 6 3)) (u : Nat → Int) : ∀ w, (Op.equalIn 10000 t (PV u) (PV u)).run Try.prog w = .ok true w := fun w => by
  rw [eq6 t ht u u w]; simp
theorem eq6_is (t : TypeId) (ht : Try.prog.underlying t = some (.array 6 3)) (u v : Nat → Int) (b : Bool) (h : b = true ↔ ∀ i, i < 6 → u i = v i) : ∀ w, (Op.equalIn 10000 t (PV u) (PV v)).run Try.prog w = .ok b w := fun w => by
  rw [eq6 t ht u v w]
  have e : (u 0 == v 0 && (u 1 == v 1 && (u 2 == v 2 && (u 3 == v 3 && (u 4 == v 4 && u 5 == v 5))))) = b := by
    rw [Bool.eq_iff_iff, h]
    simp only [Bool.and_eq_true, beq_iff_eq]
    exact ⟨fun ⟨h0, h1, h2, h3, h4, h5⟩ => six (p := fun i => u i = v i) h0 h1 h2 h3 h4 h5, fun k => ⟨k 0 (by omega), k 1 (by omega), k 2 (by omega), k 3 (by omega), k 4 (by omega), k 5 (by omega)⟩⟩
  rw [e]
end Go.Proofs.Ytnbamjoadankmaa
/- the reference's Same. -/
namespace Go.Proofs.Ytnbamjoadankmaa
open Go.RowKit D
theorem same_any (ao bo : Option Addr) (c1 c2 n m : Nat) (A B : Nat → Nat → Int) (w : World) (hc1 : n ≤ c1) (hc2 : c1 ≤ maxLen) (hc3 : m ≤ c2) (hc4 : c2 ≤ maxLen) (hA : CV w ao n A) (hB : CV w bo m B) (b : Bool) (hb : b = true ↔ n = m ∧ ∀ i j, i < n → j < 6 → A i j = B i j) :
    Calls Try.prog 23 #[.slice ao n c1, .slice bo m c2] w fun e w' => e = .returned (.bool b) ∧ Below w.heap.size w w' := by
  unfold maxLen at hc2 hc4
  by_cases hl : n = m
  · subst hl
    have HY := Bx.mk (show (∀ i j, i < n → j < 6 → A i j = B i j) → b = true from fun h => hb.2 ⟨rfl, h⟩)
    have HN := Bx.mk (show ¬ (∀ i j, i < n → j < 6 → A i j = B i j) → b = false from fun h => by
      cases hbb : b with
      | false => rfl
      | true => exact absurd (hb.1 hbb).2 h)
    clear hb
    go_enter Try.func23, Try.ntmps23
    go_wp2_with fail
    go_loopw [5] (fun i wr => ∃ k : Nat, k ≤ n ∧ i = .int .i64 k ∧ Bx (∀ i j, i < k → j < 6 → A i j = B i j) ∧ Below w.heap.size w wr) (fun i _ => n - (intOf i).toNat)
    case atStart => exact ⟨0, by omega, rfl, ⟨fun i j hi => by omega⟩, Below.refl _ _⟩
    case round =>
      obtain ⟨k, hk, rfl, HE, hB'⟩ := hrel
      by_cases hlt : k < n
      · obtain ⟨b1, o1, rfl, hb1, hca⟩ := hA (by omega)
        obtain ⟨b2, o2, rfl, hb2, hcb⟩ := hB (by omega)
        have a0 := hB'.cell (p := ⟨b1, o1 + k * 6 + 0, none⟩) hb1
        have a1 := hB'.cell (p := ⟨b1, o1 + k * 6 + 1, none⟩) hb1
        have a2 := hB'.cell (p := ⟨b1, o1 + k * 6 + 2, none⟩) hb1
        have a3 := hB'.cell (p := ⟨b1, o1 + k * 6 + 3, none⟩) hb1
        have a4 := hB'.cell (p := ⟨b1, o1 + k * 6 + 4, none⟩) hb1
        have a5 := hB'.cell (p := ⟨b1, o1 + k * 6 + 5, none⟩) hb1
        have e0 := hB'.cell (p := ⟨b2, o2 + k * 6 + 0, none⟩) hb2
        have e1 := hB'.cell (p := ⟨b2, o2 + k * 6 + 1, none⟩) hb2
        have e2 := hB'.cell (p := ⟨b2, o2 + k * 6 + 2, none⟩) hb2
        have e3 := hB'.cell (p := ⟨b2, o2 + k * 6 + 3, none⟩) hb2
        have e4 := hB'.cell (p := ⟨b2, o2 + k * 6 + 4, none⟩) hb2
        have e5 := hB'.cell (p := ⟨b2, o2 + k * 6 + 5, none⟩) hb2
        rw [hca k _ hlt (by omega)] at a0 a1 a2 a3 a4 a5
        rw [hcb k _ hlt (by omega)] at e0 e1 e2 e3 e4 e5
        rw [Nat.add_zero] at a0 e0
        clear hca hcb
        by_cases hq : ∀ j, j < 6 → A k j = B k j
        · have E6 := eq6_is 36 Try.underlying36 (A k) (B k) true (by simpa using hq)
          have HE' := Bx.mk (show ∀ i j, i < k + 1 → j < 6 → A i j = B i j from fun i j hi hj => by
            rcases Nat.lt_or_eq_of_le (Nat.le_of_lt_succ hi) with z | z
            · exact HE.out i j z hj
            · rw [z]; exact hq j hj)
          clear hq
          go_wp2_with fail
          go_region
          all_goals go_wp2_with fail
          all_goals exact ⟨⟨k + 1, by omega, by go_num, HE', (by repeat (first | with_reducible exact Below.refl _ _ | with_reducible exact hB' | (with_reducible refine Below.setCell ?_ ?side _; case side => (first | omega | (simp <;> omega))) | (with_reducible refine Below.alloc ?_ ?side _; case side => (first | omega | (simp <;> omega))) | with_reducible apply below_drewN | with_reducible apply below_drew))⟩, by simp [intOf]; omega⟩
        · obtain rfl : b = false := HN.out fun h => hq fun j hj => h k j hlt hj
          have E6 := eq6_is 36 Try.underlying36 (A k) (B k) false (by simpa using hq)
          clear hq
          go_wp2_with fail
          go_region
          all_goals go_wp2_with fail
          all_goals go_ret
          all_goals exact ⟨rfl, (by repeat (first | with_reducible exact Below.refl _ _ | with_reducible exact hB' | (with_reducible refine Below.setCell ?_ ?side _; case side => (first | omega | (simp <;> omega))) | (with_reducible refine Below.alloc ?_ ?side _; case side => (first | omega | (simp <;> omega))) | with_reducible apply below_drewN | with_reducible apply below_drew))⟩
      · obtain rfl : k = n := by omega
        obtain rfl : b = true := HY.out HE.out
        go_wp2_with fail
        go_ret
        exact ⟨rfl, (by repeat (first | with_reducible exact Below.refl _ _ | with_reducible exact hB' | (with_reducible refine Below.setCell ?_ ?side _; case side => (first | omega | (simp <;> omega))) | (with_reducible refine Below.alloc ?_ ?side _; case side => (first | omega | (simp <;> omega))) | with_reducible apply below_drewN | with_reducible apply below_drew))⟩
  · obtain rfl : b = false := by
      cases hbb : b with
      | false => rfl
      | true => exact absurd (hb.1 hbb).1 hl
    have hl' : ((n : Int) == m) = false := by simp; omega
    go_enter Try.func23, Try.ntmps23
    go_wp2_with fail
    go_ret
    exact ⟨rfl, (by repeat (first | with_reducible exact Below.refl _ _ | with_reducible exact hB' | (with_reducible refine Below.setCell ?_ ?side _; case side => (first | omega | (simp <;> omega))) | (with_reducible refine Below.alloc ?_ ?side _; case side => (first | omega | (simp <;> omega))) | with_reducible apply below_drewN | with_reducible apply below_drew))⟩
end Go.Proofs.Ytnbamjoadankmaa
/- the reference's swapped. -/
namespace Go.Proofs.Ytnbamjoadankmaa
open Go.RowKit D
theorem own_form {w : World} {base : Nat} {e : TypeId} {size : Nat} {v : Value} {n : Nat} {xs : List Value} (h : w.ownsRow base e size v n xs) (hn : 0 < n) :
    ∃ g cap, v = .slice (some ⟨g, 0, none⟩) n cap ∧ base ≤ g ∧ g < w.heap.size := by
  rcases h.2 with ⟨_, h0⟩ | ⟨g, cap, cur, hv, hb, hg, _⟩
  · omega
  · exact ⟨g, cap, hv, hb, (Array.getElem?_eq_some_iff.1 hg).1⟩
theorem swapped_any (ao : Option Addr) (c1 n k x : Nat) (l : List Nat) (w : World) (hl : l.length = n) (hk : k < n) (hn : n ≤ 1000) (hc1 : n ≤ c1) (hA : CN w ao l) :
    Calls Try.prog 75 #[.slice ao n c1, .int .i64 k, .int .i64 x] w fun e w' => ∃ v, e = .returned v ∧ w'.ownsRow w.heap.size 3 1 v n ((l.set k x).map fun (j : Nat) => Value.int .i64 (j : Int)) ∧ Below w.heap.size w w' := by
  obtain ⟨ti, hti, hti2⟩ := Option.map_eq_some_iff.1 info_int
  simp only [Prod.mk.injEq] at hti2
  obtain ⟨hz0, hz1, hz2⟩ := hti2
  obtain ⟨b, o, rfl, hb, hc⟩ := hA (by intro e; subst e; simp at hl; omega)
  have HL := Bx.mk hl
  have HC := Bx.mk hc
  clear hA hc hl
  go_enter Try.func75, Try.ntmps75
  go_wp2_with (at_builtin; refine wpList_append_any rfl (.tmp 8) (.tmp 9) 29 rfl w.heap.size 3 ti (.int .i64 0) 1 8 Try.underlying29 hti hz0 hz1 hz2 rfl (by decide) _ 0 [] rfl (owns_empty (by first | omega | (simp; omega)) (by show (Array.push w.heap _)[w.heap.size]? = _; simp)) _ n _ (l.map fun (j : Nat) => Value.int .i64 (j : Int)) rfl ?c1 ?c2 ?c3 int_cells ?c4 ?c5 ?c6 ?_)
  case c1 => have := HL.out; simpa using this
  case c2 => intro h; cases h
  case c3 =>
    intro ad had j u hu
    have := take_cells (W := w.alloc (.cells #[] 3)) (t := n) (l := l) (by repeat (first | with_reducible exact Below.refl _ _ | (with_reducible refine Below.setCell ?_ ?side _; case side => (first | omega | (simp <;> omega))) | (with_reducible refine Below.alloc ?_ ?side _; case side => (first | omega | (simp <;> omega))) | with_reducible apply below_drewN | with_reducible apply below_drew)) hb HC.out ad had j u
    rw [List.take_of_length_le (by have := HL.out; omega)] at this
    exact this hu
  case c4 => unfold maxLen; omega
  case c5 => omega
  case c6 => first | omega | (simp; done) | (simp; omega)
  intro v1 w1 ho1 hg1
  have HB1 : Bx (Below w.heap.size w w1) := ⟨Below.grown (by repeat (first | with_reducible exact Below.refl _ _ | (with_reducible refine Below.setCell ?_ ?side _; case side => (first | omega | (simp <;> omega))) | (with_reducible refine Below.alloc ?_ ?side _; case side => (first | omega | (simp <;> omega))) | with_reducible apply below_drewN | with_reducible apply below_drew)) hg1 (by first | omega | (simp; done) | (simp; omega)) (by intro k hk; have hk' : some w.heap.size = some k := hk; simp at hk'; omega)⟩
  obtain ⟨g, cap, rfl, hg0, hgs⟩ := own_form ho1 (by omega)
  have hcell := World.ownsRow.cellAt ho1 k (by omega)
  have hfr := World.ownsRow.frozenAt ho1 k
  have hst := (World.ownsRow.stored ho1 k (.int .i64 x)).1
  obtain ⟨y, hy⟩ : ∃ y, (l.map fun (j : Nat) => Value.int .i64 (j : Int))[k]? = some y := ⟨_, List.getElem?_eq_getElem (by have := HL.out; simp; omega)⟩
  rw [hy] at hcell
  have HST := Bx.mk hst
  clear hst ho1 hy hg1
  go_wp2_with fail
  go_ret
  exact ⟨_, rfl, by have := HST.out; rwa [← List.map_set] at this, (by repeat (first | with_reducible exact Below.refl _ _ | with_reducible exact HB1.out | (with_reducible refine Below.setCell ?_ ?side _; case side => (first | omega | (simp <;> omega))) | (with_reducible refine Below.alloc ?_ ?side _; case side => (first | omega | (simp <;> omega))) | with_reducible apply below_drewN | with_reducible apply below_drew))⟩
end Go.Proofs.Ytnbamjoadankmaa

/- The reference's Same; the numbers of the chapter's examples. -/
import Derived.Test.YtomgihlkbmaleaaDoorQT
namespace Go.Proofs.YtomgihlkbmaleaaDoor
open Go.RowKit M
set_option maxRecDepth 100000 in
set_option maxHeartbeats 8000000 in
theorem same_loop (ba oa bb ob n ca cb : Nat) (A B : Nat → Nat → Int) (w : World) (hn : n ≤ 1000) (hca : n ≤ ca) (hcb : n ≤ cb) (ha : ba < w.heap.size) (hb : bb < w.heap.size) (hA : ∀ i j, i < n → j < 6 → w.cell? ⟨ba, oa + i * 6 + j, none⟩ = some (.int .i64 (A i j))) (hB : ∀ i j, i < n → j < 6 → w.cell? ⟨bb, ob + i * 6 + j, none⟩ = some (.int .i64 (B i j)))
    (p : Nat) (hp : p ≤ n) (hok : ∀ i, i < p → ∀ j, j < 6 → A i j = B i j) (hbad : p < n → ¬ ∀ j, j < 6 → A p j = B p j) (r : Bool) (hr : decide (p = n) = r) :
    Calls Tryd.prog 18 #[.slice (some ⟨ba, oa, none⟩) n ca, .slice (some ⟨bb, ob, none⟩) n cb] w fun e w' => e = .returned (.bool r) ∧ Below w.heap.size w w' := by
  have HA := Bx.mk hA
  have HB := Bx.mk hB
  have HK := Bx.mk hok
  have HD := Bx.mk hbad
  have HR := Bx.mk hr
  clear hA hB hok hbad hr
  go_enter Tryd.func18, Tryd.ntmps18
  go_wp2_with fail
  go_loopw [5] (fun ix wr => ∃ i : Nat, i ≤ p ∧ ix = .int .i64 i ∧ Bx (Below w.heap.size w wr)) (fun ix _ => n + 1 - (intOf ix).toNat)
  case atStart => exact ⟨0, by omega, rfl, ⟨Below.refl _ _⟩⟩
  case round =>
    obtain ⟨i, hi, rfl, HW⟩ := hrel
    by_cases hin : i < n
    · have hin' : (i : Int) < (n : Int) := by omega
      obtain ⟨a0, a1, a2, a3, a4, a5⟩ := row_six HA.out ha HW.out.drew hin
      obtain ⟨b0, b1, b2, b3, b4, b5⟩ := row_six HB.out hb HW.out.drew hin
      obtain ⟨x, hx⟩ : ∃ x, A i = x := ⟨_, rfl⟩
      obtain ⟨y, hy⟩ : ∃ y, B i = y := ⟨_, rfl⟩
      rw [hx] at a0 a1 a2 a3 a4 a5
      rw [hy] at b0 b1 b2 b3 b4 b5
      by_cases hip : i < p
      · have E := eq6_is 23 und_pitch x y true ⟨(fun _ => by rw [← hx, ← hy]; exact HK.out i hip), fun _ => rfl⟩
        unfold PV at E
        clear hx hy
        go_wp2_with fail
        go_region
        all_goals go_wp2_with fail
        all_goals exact ⟨⟨i + 1, by omega, by go_num, ⟨HW.out.drew⟩⟩, by simp [intOf]; omega⟩
      · obtain rfl : i = p := by omega
        have E := eq6_is 23 und_pitch x y false ⟨(fun h => by cases h), fun h => absurd (by rw [hx, hy]; exact h) (HD.out hin)⟩
        unfold PV at E
        clear hx hy
        obtain rfl : r = false := by rw [← HR.out, decide_eq_false_iff_not]; omega
        go_wp2_with fail
        go_region
        all_goals go_wp2_with fail
        all_goals go_ret
        all_goals exact ⟨rfl, HW.out.drew⟩
    · obtain rfl : i = p := by omega
      obtain rfl : i = n := by omega
      obtain rfl : r = true := by rw [← HR.out]; simp
      go_wp2_with fail
      go_ret
      exact ⟨rfl, HW.out⟩
set_option maxRecDepth 100000 in
theorem same_len (ao bo : Option Addr) (n m ca cb : Nat) (w : World) (h : n ≠ m) : Calls Tryd.prog 18 #[.slice ao n ca, .slice bo m cb] w fun e w' => e = .returned (.bool false) ∧ Below w.heap.size w w' := by
  have h' : ((n : Int) == (m : Int)) = false := by simp; omega
  go_enter Tryd.func18, Tryd.ntmps18
  go_wp2_with fail
  all_goals go_ret
  all_goals exact ⟨rfl, Below.refl _ _⟩
set_option maxRecDepth 100000 in
theorem same_nil (ao bo : Option Addr) (ca cb : Nat) (w : World) : Calls Tryd.prog 18 #[.slice ao (0 : Nat) ca, .slice bo (0 : Nat) cb] w fun e w' => e = .returned (.bool true) ∧ Below w.heap.size w w' := by
  go_enter Tryd.func18, Tryd.ntmps18
  go_wp2_with fail
  go_loopw [5] (fun ix wr => ix = .int .i64 0 ∧ Bx (Below w.heap.size w wr)) (fun _ _ => 0)
  case atStart => exact ⟨rfl, ⟨Below.refl _ _⟩⟩
  case round =>
    obtain ⟨rfl, HW⟩ := hrel
    go_wp2_with fail
    go_ret
    exact ⟨rfl, HW.out⟩
theorem rsame_any (ao bo : Option Addr) (n m ca cb : Nat) (A B : Nat → Nat → Int) (hn : n ≤ 1000) (hca : n ≤ ca) (hcb : m ≤ cb) (r : Bool) (hr : r = true ↔ n = m ∧ ∀ i, i < n → ∀ j, j < 6 → A i j = B i j) (w : World) (hA : CV w ao n A) (hB : CV w bo m B) : Calls Tryd.prog 18 #[.slice ao n ca, .slice bo m cb] w fun e w' => e = .returned (.bool r) ∧ Below w.heap.size w w' := by
  by_cases h : n = m
  · subst h
    by_cases h0 : n = 0
    · subst h0
      obtain rfl : r = true := hr.2 ⟨rfl, fun i hi => by omega⟩
      exact same_nil ao bo ca cb w
    · obtain ⟨ba, oa, rfl, ha, hcA⟩ := hA (by omega)
      obtain ⟨bb, ob, rfl, hb, hcB⟩ := hB (by omega)
      obtain ⟨p, hp, hok, hbad⟩ := first_bad (fun i => eqP (A i) (B i)) n
      refine same_loop ba oa bb ob n ca cb A B w hn hca hcb ha hb hcA hcB p hp (fun i hi => eqP_iff.1 (hok i hi)) (fun h k => by rw [eqP_iff.2 k] at hbad; exact absurd (hbad h) (by decide)) r ?_
      by_cases e : p = n
      · subst e
        rw [hr.2 ⟨rfl, fun i hi => eqP_iff.1 (hok i hi)⟩]; simp
      · have : r = false := by
          cases r with
          | false => rfl
          | true => have := hbad (by omega); rw [eqP_iff.2 ((hr.1 rfl).2 p (by omega))] at this; cases this
        rw [this]; simp [e]
  · obtain rfl : r = false := by
      cases r with
      | false => rfl
      | true => exact absurd (hr.1 rfl).1 h
    exact same_len ao bo n m ca cb w h
end Go.Proofs.YtomgihlkbmaleaaDoor

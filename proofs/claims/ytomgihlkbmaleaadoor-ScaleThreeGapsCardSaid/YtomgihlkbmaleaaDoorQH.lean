/- The program's scale: checked. -/
import Derived.Test.YtomgihlkbmaleaaDoorQG
namespace Go.Proofs.YtomgihlkbmaleaaDoor
open Go.RowKit M
set_option maxRecDepth 100000 in
theorem not_pitch (x : Nat → Int) (b : Bool) (hb : bdB x 576 = b) (w : World) : Calls Tryd.prog 53 #[PV x] w fun e w' => e = .returned (.bool (!b)) ∧ Below w.heap.size w w' := by
  have H1 := Hx.mk (fun w => pvalid_any x w b hb)
  clear hb
  go_enter Tryd.func53, Tryd.ntmps53
  go_wp2_with fail
  refine (H1.out _).mono ?_
  rintro e w1 ⟨rfl, hb⟩
  obtain ⟨hc1, hf1⟩ := bcell hb
  have hz1 := hb.size
  (try simp at hz1)
  have hB : Hx (Below w.heap.size w w1) := ⟨Below.trans (by repeat (first | with_reducible exact hB.out | with_reducible exact Below.refl _ _ | (with_reducible refine Below.setCell ?_ ?side _; case side => (first | omega | (simp <;> omega))) | (with_reducible refine Below.alloc ?_ ?side _; case side => (first | omega | (simp <;> omega))) | with_reducible apply below_drewN)) (hb.mono (by first | omega | (simp <;> omega)))⟩
  clear hb
  have hy1_0 : w.heap.size < w1.heap.size := by omega
  go_wp2_with fail
  go_ret
  exact ⟨rfl, (by repeat (first | with_reducible exact hB.out | with_reducible exact Below.refl _ _ | (with_reducible refine Below.setCell ?_ ?side _; case side => (first | omega | (simp <;> omega))) | (with_reducible refine Below.alloc ?_ ?side _; case side => (first | omega | (simp <;> omega))) | with_reducible apply below_drewN))⟩
/-- A pitch's six cells. -/
def encQ (v : Nat → Int) : List Value := [.int .i64 (v 0), .int .i64 (v 1), .int .i64 (v 2), .int .i64 (v 3), .int .i64 (v 4), .int .i64 (v 5)]
theorem encQ_pv (v : Nat → Int) : Value.agg (encQ v).toArray = PV v := rfl
/-- The pitches of a list. -/
def lsM (M : Nat → Nat → Int) (n : Nat) : List (Nat → Int) := (List.range n).map M
theorem lsM_len (M : Nat → Nat → Int) (n : Nat) : (lsM M n).length = n := by simp [lsM]
theorem lsM_get {M : Nat → Nat → Int} {n j : Nat} (h : j < n) : (lsM M n)[j]! = M j := by
  unfold lsM
  rw [getElem!_pos _ j (by simp; exact h)]
  simp
theorem encQ_get {v : Nat → Int} {i : Nat} {u : Value} (h : (encQ v)[i]? = some u) : i < 6 ∧ u = .int .i64 (v i) := by
  match i, h with
  | 0, h => exact ⟨by omega, by simpa [encQ] using h.symm⟩
  | 1, h => exact ⟨by omega, by simpa [encQ] using h.symm⟩
  | 2, h => exact ⟨by omega, by simpa [encQ] using h.symm⟩
  | 3, h => exact ⟨by omega, by simpa [encQ] using h.symm⟩
  | 4, h => exact ⟨by omega, by simpa [encQ] using h.symm⟩
  | 5, h => exact ⟨by omega, by simpa [encQ] using h.symm⟩
  | i + 6, h => simp [encQ] at h
set_option maxRecDepth 100000 in
theorem contains_any (b o n c : Nat) (M : Nat → Nat → Int) (w : World) (hn0 : 0 < n) (hn : n ≤ 1000) (hb : b < w.heap.size) (hc : ∀ i j, i < n → j < 6 → w.cell? ⟨b, o + i * 6 + j, none⟩ = some (.int .i64 (M i j))) (r : Bool) (hr : r = true ↔ ∀ i, i < n → bdB (M i) 576 = true) :
    Calls Tryd.prog 52 #[.slice (some ⟨b, o, none⟩) n c, .func (.func 53) #[] #[]] w fun e w' => e = .returned (.bool (!r)) ∧ Below w.heap.size w w' := by
  have eg : ∀ args w, (callFunc 53 args).run Tryd.prog w = .ok (.enter 53 args) w := enters_of Tryd.func53 (by kernel_rfl) rfl
  have k := AnyQ.slices_ContainsFunc Tryd.containsPitch 6 Tryd.isAgg23 Tryd.sizeOf23 encQ (fun _ => rfl) (fun v => !bdB v 576) 53 #[] eg b o n c (lsM M n) w
    (fun W x hW => (not_pitch x (bdB x 576) rfl W).mono fun e w' ⟨he, hb'⟩ => ⟨he, hW.trans (hb'.mono hW.size)⟩) (by rw [lsM_len]; exact Nat.le_refl _) (by omega) hb
    (fun j hj i v hv => by
      rw [lsM_len] at hj
      rw [lsM_get hj] at hv
      obtain ⟨hi, rfl⟩ := encQ_get hv
      exact hc j i hj hi)
  refine k.mono fun e w' ⟨he, hb'⟩ => ⟨?_, hb'⟩
  rw [he]
  have e1 : ((lsM M n).take n).any (fun v => !bdB v 576) = !r := by
    rw [List.take_of_length_le (by rw [lsM_len]; exact Nat.le_refl _), Bool.eq_iff_iff]
    unfold lsM
    simp only [List.any_map, List.any_eq_true, List.mem_range, Function.comp, Bool.not_eq_true']
    constructor
    · rintro ⟨i, hi, h⟩
      cases r with
      | false => rfl
      | true => rw [hr.1 rfl i hi] at h; cases h
    · intro h
      refine Classical.byContradiction fun h' => ?_
      rw [h] at hr
      exact absurd (hr.2 fun i hi => by
        cases hv : bdB (M i) 576 with
        | true => rfl
        | false => exact absurd ⟨i, hi, hv⟩ h') (by decide)
  rw [e1]
set_option maxRecDepth 100000 in
theorem checked_ok9 (b o n c : Nat) (M : Nat → Nat → Int) (w : World) (hn0 : 0 < n) (hn : n ≤ 1000) (hb : b < w.heap.size) (hc : ∀ i j, i < n → j < 6 → w.cell? ⟨b, o + i * 6 + j, none⟩ = some (.int .i64 (M i j))) (hr : true = true ↔ ∀ i, i < n → bdB (M i) 576 = true) :
    Calls Tryd.prog 34 #[.slice (some ⟨b, o, none⟩) n c] w fun e w' => e = .returned (.tuple #[.slice (some ⟨b, o, none⟩) n c, .int .i64 0]) ∧ Below w.heap.size w w' := by
  have H1 := contains_any b o n c M w hn0 hn hb hc true hr
  clear hc hr
  go_enter Tryd.func34, Tryd.ntmps34
  go_wp2_with fail
  refine (H1).mono ?_
  rintro e w1 ⟨rfl, hb⟩
  obtain ⟨hc1, hf1⟩ := bcell hb
  have hz1 := hb.size
  (try simp at hz1)
  have hB : Hx (Below w.heap.size w w1) := ⟨Below.trans (by repeat (first | with_reducible exact hB.out | with_reducible exact Below.refl _ _ | (with_reducible refine Below.setCell ?_ ?side _; case side => (first | omega | (simp <;> omega))) | (with_reducible refine Below.alloc ?_ ?side _; case side => (first | omega | (simp <;> omega))) | with_reducible apply below_drewN)) (hb.mono (by first | omega | (simp <;> omega)))⟩
  clear hb
  go_wp2_with fail
  go_ret2
  exact ⟨rfl, (by repeat (first | with_reducible exact hB.out | with_reducible exact Below.refl _ _ | (with_reducible refine Below.setCell ?_ ?side _; case side => (first | omega | (simp <;> omega))) | (with_reducible refine Below.alloc ?_ ?side _; case side => (first | omega | (simp <;> omega))) | with_reducible apply below_drewN))⟩
set_option maxRecDepth 100000 in
theorem checked_no9 (b o n c : Nat) (M : Nat → Nat → Int) (w : World) (hn0 : 0 < n) (hn : n ≤ 1000) (hb : b < w.heap.size) (hc : ∀ i j, i < n → j < 6 → w.cell? ⟨b, o + i * 6 + j, none⟩ = some (.int .i64 (M i j))) (hr : false = true ↔ ∀ i, i < n → bdB (M i) 576 = true) :
    Calls Tryd.prog 34 #[.slice (some ⟨b, o, none⟩) n c] w fun e w' => e = .returned (.tuple #[.slice none 0 0, .int .i64 3]) ∧ Below w.heap.size w w' := by
  have H1 := contains_any b o n c M w hn0 hn hb hc false hr
  clear hc hr
  go_enter Tryd.func34, Tryd.ntmps34
  go_wp2_with fail
  refine (H1).mono ?_
  rintro e w1 ⟨rfl, hb⟩
  obtain ⟨hc1, hf1⟩ := bcell hb
  have hz1 := hb.size
  (try simp at hz1)
  have hB : Hx (Below w.heap.size w w1) := ⟨Below.trans (by repeat (first | with_reducible exact hB.out | with_reducible exact Below.refl _ _ | (with_reducible refine Below.setCell ?_ ?side _; case side => (first | omega | (simp <;> omega))) | (with_reducible refine Below.alloc ?_ ?side _; case side => (first | omega | (simp <;> omega))) | with_reducible apply below_drewN)) (hb.mono (by first | omega | (simp <;> omega)))⟩
  clear hb
  go_wp2_with fail
  go_ret2
  exact ⟨rfl, (by repeat (first | with_reducible exact hB.out | with_reducible exact Below.refl _ _ | (with_reducible refine Below.setCell ?_ ?side _; case side => (first | omega | (simp <;> omega))) | (with_reducible refine Below.alloc ?_ ?side _; case side => (first | omega | (simp <;> omega))) | with_reducible apply below_drewN))⟩
end Go.Proofs.YtomgihlkbmaleaaDoor

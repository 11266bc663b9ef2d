/- slices.Contains of the program, and the free columns. -/
import Derived.Test.YtmknbgiihhimfaaKU
namespace Go.Proofs.Ytmknbgiihhimfaa
open Go.RowKit D
set_option maxRecDepth 100000 in
set_option maxHeartbeats 8000000 in
theorem index_any (ao : Option Addr) (n c1 x : Nat) (l : List Nat) (w : World) (hn : l.length = n) (hc1 : n ≤ c1) (hc2 : n ≤ 1000) (hR : CN w ao l) :
    Calls Try.prog 59 #[.slice ao n c1, .int .i64 x] w fun e w' => ∃ r : Int, e = .returned (.int .i64 r) ∧ (0 ≤ r ↔ x ∈ l) ∧ Below w.heap.size w w' := by
  have HN := Bx.mk hn
  clear hn
  go_enter Try.func59, Try.ntmps59
  go_wp2_with fail
  go_loopw [8] (fun i wr => ∃ k : Nat, k ≤ n ∧ i = .int .i64 k ∧ Bx (∀ t, t < k → l.getD t 0 ≠ x) ∧ Below w.heap.size w wr) (fun i _ => n - (intOf i).toNat)
  case atStart => exact ⟨0, by omega, rfl, ⟨fun i hi => by omega⟩, Below.refl _ _⟩
  case round =>
    obtain ⟨k, hk, rfl, HE, hB'⟩ := hrel
    by_cases hlt : k < n
    · obtain ⟨b1, o1, rfl, hb1, hca⟩ := hR (by intro e; have := HN.out; subst e; simp at this; omega)
      have ha := hB'.cell (p := ⟨b1, o1 + k, none⟩) hb1
      rw [hca k (by have := HN.out; omega)] at ha
      obtain ⟨y, hy⟩ : ∃ y, l.getD k 0 = y := ⟨_, rfl⟩
      rw [hy] at ha
      clear hca
      by_cases hxy : x = y
      · subst hxy
        have HM : Bx (x ∈ l) := ⟨by rw [← hy]; exact getD_mem (by have := HN.out; omega)⟩
        clear hy
        go_wp2_with fail
        go_ret
        exact ⟨k, rfl, ⟨fun _ => HM.out, fun _ => by omega⟩, hB'⟩
      · have hxy' : ((x : Int) == (y : Int)) = false := by simp; omega
        have HE' := Bx.mk (show ∀ i, i < k + 1 → l.getD i 0 ≠ x from fun i hi => by
          rcases Nat.lt_or_eq_of_le (Nat.le_of_lt_succ hi) with z | z
          · exact HE.out i z
          · rw [z, hy]; omega)
        clear hy hxy
        go_wp2_with fail
        go_roundw
        case rel => exact ⟨k + 1, by omega, by go_num, HE', hB'⟩
        case measure => simp [intOf]; omega
    · obtain rfl : k = n := by omega
      go_wp2_with fail
      go_ret
      refine ⟨-1, rfl, ⟨fun h => by omega, fun h => ?_⟩, hB'⟩
      obtain ⟨t, ht, e⟩ := List.mem_iff_getElem.1 h
      exact absurd (by rw [List.getD_eq_getElem?_getD, List.getElem?_eq_getElem ht, e]; rfl) (HE.out t (by have := HN.out; omega))
theorem contains_any (ao : Option Addr) (n c1 x : Nat) (l : List Nat) (w : World) (hn : l.length = n) (hc1 : n ≤ c1) (hc2 : n ≤ 1000) (hR : CN w ao l) :
    Calls Try.prog 50 #[.slice ao n c1, .int .i64 x] w fun e w' => e = .returned (.bool (l.contains x)) ∧ Below w.heap.size w w' := by
  have IA := Bx.mk (index_any ao n c1 x l w hn hc1 hc2 hR)
  clear hn hR
  go_enter Try.func50, Try.ntmps50
  go_wp2_with (go_at_call 59; refine IA.out.mono ?_; clear IA; rintro e w2 ⟨r, rfl, hr, hb⟩)
  go_ret
  refine ⟨?_, hb⟩
  by_cases h : x ∈ l
  · have := hr.2 h; simp [h, this]
  · have h2 : ¬ 0 ≤ r := fun h' => h (hr.1 h')
    simp [h, h2] <;> omega
/-- How many columns before a column are free. -/
def frees (cs : List Nat) (c : Nat) : Nat := (rest c cs).length
theorem rest_one (cs : List Nat) (c : Nat) : rest (c + 1) cs = if cs.contains c then rest c cs else rest c cs ++ [c] := by
  unfold rest
  rw [List.range_succ, List.filter_append]
  by_cases h : c ∈ cs <;> simp [h, List.filter_cons]
theorem rest_zero (cs : List Nat) : rest 0 cs = [] := rfl
theorem rest_six {cs : List Nat} (hn : cs.Nodup) (hm : ∀ j ∈ cs, j < 6) : cs.length + (rest 6 cs).length = 6 := by
  have := (rest_perm hn hm).length_eq
  simp at this; omega
theorem rest_le {cs : List Nat} : ∀ {c : Nat}, c ≤ 6 → (rest c cs).length ≤ (rest 6 cs).length := by
  intro c hc
  have : ∀ d, (rest c cs).length ≤ (rest (c + d) cs).length := by
    intro d
    induction d with
    | zero => exact Nat.le_refl _
    | succ d ih =>
      rw [← Nat.add_assoc, rest_one]
      split
      · exact ih
      · simp; omega
  have h := this (6 - c)
  rwa [show c + (6 - c) = 6 by omega] at h
theorem rest_pre {cs : List Nat} {c t : Nat} (hc : c ≤ 6) (ht : t < (rest c cs).length) : (rest 6 cs).getD t 0 = (rest c cs).getD t 0 := by
  have : ∀ d, (rest (c + d) cs).getD t 0 = (rest c cs).getD t 0 ∧ t < (rest (c + d) cs).length := by
    intro d
    induction d with
    | zero => exact ⟨rfl, ht⟩
    | succ d ih =>
      rw [← Nat.add_assoc, rest_one]
      split
      · exact ih
      · refine ⟨?_, by simp; omega⟩
        rw [← ih.1, List.getD_eq_getElem?_getD, List.getD_eq_getElem?_getD, List.getElem?_append_left ih.2]
  have h := (this (6 - c)).1
  rwa [show c + (6 - c) = 6 by omega] at h
theorem rest_at {cs : List Nat} {c : Nat} (hc : c < 6) (hm : cs.contains c = false) : (rest 6 cs).getD (rest c cs).length 0 = c ∧ (rest c cs).length < (rest 6 cs).length := by
  have e : rest (c + 1) cs = rest c cs ++ [c] := by rw [rest_one, hm]; simp
  have hl : (rest c cs).length < (rest (c + 1) cs).length := by rw [e]; simp
  refine ⟨?_, Nat.lt_of_lt_of_le hl (rest_le (by omega))⟩
  rw [rest_pre (by omega) hl, e]
  simp
end Go.Proofs.Ytmknbgiihhimfaa

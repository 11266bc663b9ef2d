/- the reference's Ints and Same. -/
import Derived.Test.YtmknbgiihhimfaaR3
namespace Go.Proofs.Ytmknbgiihhimfaa
open Go.RowKit D
theorem ints_any (ao bo : Option Addr) (c1 c2 n m : Nat) (A B : List Int) (w : World) (hn : A.length = n) (hm : B.length = m) (hc1 : n ≤ c1) (hc2 : c1 ≤ maxLen) (hc3 : m ≤ c2) (hc4 : c2 ≤ maxLen) (hA : CI w ao A) (hB : CI w bo B) (b : Bool) (hb : b = true ↔ A = B) :
    Calls Try.prog 20 #[.slice ao n c1, .slice bo m c2] w fun e w' => e = .returned (.bool b) ∧ Below w.heap.size w w' := by
  unfold maxLen at hc2 hc4
  by_cases hl : n = m
  · subst hl
    have HY := Bx.mk (show (∀ i, i < n → A.getD i 0 = B.getD i 0) → b = true from fun h => hb.2 (List.ext_getElem (by omega) fun i h1 h2 => by
      have := h i (by omega)
      rwa [List.getD_eq_getElem?_getD, List.getD_eq_getElem?_getD, List.getElem?_eq_getElem h1, List.getElem?_eq_getElem h2] at this))
    have HN := Bx.mk (show ∀ i, A.getD i 0 ≠ B.getD i 0 → b = false from fun i h => by
      cases hbb : b with
      | false => rfl
      | true => rw [hb.1 hbb] at h; exact absurd rfl h)
    have HHA := Bx.mk hn
    have HHB := Bx.mk hm
    clear hb hn hm
    go_enter Try.func20, Try.ntmps20
    go_wp2_with fail
    go_loopw [5] (fun i wr => ∃ k : Nat, k ≤ n ∧ i = .int .i64 k ∧ Bx (∀ i, i < k → A.getD i 0 = B.getD i 0) ∧ Below w.heap.size w wr) (fun i _ => n - (intOf i).toNat)
    case atStart => exact ⟨0, by omega, rfl, ⟨fun i hi => by omega⟩, Below.refl _ _⟩
    case round =>
      obtain ⟨k, hk, rfl, HE, hB'⟩ := hrel
      by_cases hlt : k < n
      · obtain ⟨b1, o1, rfl, hb1, hca⟩ := hA (by intro e; have := HHA.out; subst e; simp at this; omega)
        obtain ⟨b2, o2, rfl, hb2, hcb⟩ := hB (by intro e; have := HHB.out; subst e; simp at this; omega)
        have ha := hB'.cell (p := ⟨b1, o1 + k, none⟩) hb1
        have hbk := hB'.cell (p := ⟨b2, o2 + k, none⟩) hb2
        rw [hca k (by have := HHA.out; omega)] at ha
        rw [hcb k (by have := HHB.out; omega)] at hbk
        obtain ⟨x, hx⟩ : ∃ x, A.getD k 0 = x := ⟨_, rfl⟩
        obtain ⟨y, hy⟩ : ∃ y, B.getD k 0 = y := ⟨_, rfl⟩
        rw [hx] at ha; rw [hy] at hbk
        by_cases hxy : x = y
        · subst hxy
          have HE' := Bx.mk (show ∀ i, i < k + 1 → A.getD i 0 = B.getD i 0 from fun i hi => by
            rcases Nat.lt_or_eq_of_le (Nat.le_of_lt_succ hi) with z | z
            · exact HE.out i z
            · rw [z, hx, hy])
          clear hx hy hca hcb
          go_wp2_with fail
          go_region
          all_goals go_wp2_with fail
          all_goals exact ⟨⟨k + 1, by omega, by go_num, HE', (by repeat (first | with_reducible exact Below.refl _ _ | with_reducible exact hB' | (with_reducible refine Below.setCell ?_ ?side _; case side => (first | omega | (simp <;> omega))) | (with_reducible refine Below.alloc ?_ ?side _; case side => (first | omega | (simp <;> omega))) | with_reducible apply below_drewN | with_reducible apply below_drew))⟩, by simp [intOf]; omega⟩
        · obtain rfl : b = false := HN.out k (by rw [hx, hy]; exact hxy)
          have hxy' : (x == y) = false := by simpa using hxy
          clear hx hy hca hcb hxy
          go_wp2_with fail
          go_region
          all_goals go_wp2_with fail
          all_goals go_ret
          all_goals exact ⟨rfl, (by repeat (first | with_reducible exact Below.refl _ _ | with_reducible exact hB' | (with_reducible refine Below.setCell ?_ ?side _; case side => (first | omega | (simp <;> omega))) | (with_reducible refine Below.alloc ?_ ?side _; case side => (first | omega | (simp <;> omega))) | with_reducible apply below_drewN | with_reducible apply below_drew))⟩
      · obtain rfl : k = n := by omega
        obtain rfl : b = true := HY.out HE.out
        go_wp2_with fail
        go_ret
        exact ⟨rfl, (by repeat (first | with_reducible exact Below.refl _ _ | with_reducible exact hB' | (with_reducible refine Below.setCell ?_ ?side _; case side => (first | omega | (simp <;> omega))) | (with_reducible refine Below.alloc ?_ ?side _; case side => (first | omega | (simp <;> omega))) | with_reducible apply below_drewN | with_reducible apply below_drew))⟩
  · obtain rfl : b = false := by
      cases hbb : b with
      | false => rfl
      | true => rw [hb.1 hbb] at hn; omega
    have hl' : ((n : Int) == m) = false := by simp; omega
    go_enter Try.func20, Try.ntmps20
    go_wp2_with fail
    go_ret
    exact ⟨rfl, (by repeat (first | with_reducible exact Below.refl _ _ | with_reducible exact hB' | (with_reducible refine Below.setCell ?_ ?side _; case side => (first | omega | (simp <;> omega))) | (with_reducible refine Below.alloc ?_ ?side _; case side => (first | omega | (simp <;> omega))) | with_reducible apply below_drewN | with_reducible apply below_drew))⟩
end Go.Proofs.Ytmknbgiihhimfaa

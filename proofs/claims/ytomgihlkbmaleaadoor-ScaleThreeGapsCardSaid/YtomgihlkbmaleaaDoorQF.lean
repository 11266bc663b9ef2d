/- The program's scale: lists of pitches in memory; next, Valid. -/
import Derived.Test.YtomgihlkbmaleaaDoorQE
import Derived.OwnWalk
import Derived.Laws.OwnMore
import Derived.Laws.AppendOwnNone
namespace Go.Proofs.YtomgihlkbmaleaaDoor
open Go.RowKit M
/-- The cells of a list of pitches. -/
def CV (w : World) (ao : Option Addr) (n : Nat) (M : Nat → Nat → Int) : Prop :=
  0 < n → ∃ b o, ao = some ⟨b, o, none⟩ ∧ b < w.heap.size ∧ ∀ i j, i < n → j < 6 → w.cell? ⟨b, o + i * 6 + j, none⟩ = some (.int .i64 (M i j))
theorem CV.keep {w w' : World} {ao : Option Addr} {n : Nat} {M : Nat → Nat → Int} (h : CV w ao n M) (hb : Below w.heap.size w w') : CV w' ao n M := by
  intro hl
  obtain ⟨b, o, rfl, ha, hc⟩ := h hl
  exact ⟨b, o, rfl, Nat.lt_of_lt_of_le ha hb.size, fun i j hi hj => by rw [hb.cell (p := ⟨b, o + i * 6 + j, none⟩) ha]; exact hc i j hi hj⟩
theorem CV.congr {w : World} {ao : Option Addr} {n : Nat} {A B : Nat → Nat → Int} (h : CV w ao n A) (e : ∀ i j, i < n → j < 6 → A i j = B i j) : CV w ao n B := fun hn => by
  obtain ⟨b, o, h1, h2, h3⟩ := h hn
  exact ⟨b, o, h1, h2, fun i j hi hj => by rw [h3 i j hi hj, e i j hi hj]⟩
theorem row_six {w w' : World} {b o n : Nat} {M : Nat → Nat → Int} (hcr : ∀ i j, i < n → j < 6 → w.cell? ⟨b, o + i * 6 + j, none⟩ = some (.int .i64 (M i j))) (hb : b < w.heap.size) (hB : Below w.heap.size w w') {i : Nat} (hi : i < n) :
    w'.cell? ⟨b, o + i * 6, none⟩ = some (.int .i64 (M i 0)) ∧ w'.cell? ⟨b, o + i * 6 + 1, none⟩ = some (.int .i64 (M i 1)) ∧ w'.cell? ⟨b, o + i * 6 + 2, none⟩ = some (.int .i64 (M i 2)) ∧ w'.cell? ⟨b, o + i * 6 + 3, none⟩ = some (.int .i64 (M i 3)) ∧ w'.cell? ⟨b, o + i * 6 + 4, none⟩ = some (.int .i64 (M i 4)) ∧ w'.cell? ⟨b, o + i * 6 + 5, none⟩ = some (.int .i64 (M i 5)) := by
  have h : ∀ j, j < 6 → w'.cell? ⟨b, o + i * 6 + j, none⟩ = some (.int .i64 (M i j)) := fun j hj => (hB.cell (p := ⟨b, o + i * 6 + j, none⟩) hb).trans (hcr i j hi hj)
  exact ⟨h 0 (by omega), h 1 (by omega), h 2 (by omega), h 3 (by omega), h 4 (by omega), h 5 (by omega)⟩
/-- The pitch of the degree behind i, or the octave. -/
def nx (M : Nat → Nat → Int) (n i : Nat) : Nat → Int := if i + 1 = n then oc 1 else M (i + 1)
set_option maxRecDepth 100000 in
set_option maxHeartbeats 4000000 in
theorem next_last (ao : Option Addr) (n c i : Nat) (w : World) (hn : n ≤ 1000) (hi : i + 1 = n) (hs : Sm w) : Calls Tryd.prog 33 #[.slice ao n c, .int .i64 i] w fun e w' => e = .returned (PV (oc 1)) ∧ Below w.heap.size w w' := by
  show Calls _ _ _ _ fun e w' => e = .returned (.agg #[.int .i64 12, .int .i64 0, .int .i64 0, .int .i64 0, .int .i64 0, .int .i64 0]) ∧ _
  have g0 : ∀ o, (w.alloc o).cell? ⟨1, 0, none⟩ = some (.int .i64 12) := fun o => (oldc w o hs.olt 0).trans hs.o0
  have g1 : ∀ o, (w.alloc o).cell? ⟨1, 1, none⟩ = some (.int .i64 0) := fun o => (oldc w o hs.olt 1).trans hs.o1
  have g2 : ∀ o, (w.alloc o).cell? ⟨1, 2, none⟩ = some (.int .i64 0) := fun o => (oldc w o hs.olt 2).trans hs.o2
  have g3 : ∀ o, (w.alloc o).cell? ⟨1, 3, none⟩ = some (.int .i64 0) := fun o => (oldc w o hs.olt 3).trans hs.o3
  have g4 : ∀ o, (w.alloc o).cell? ⟨1, 4, none⟩ = some (.int .i64 0) := fun o => (oldc w o hs.olt 4).trans hs.o4
  have g5 : ∀ o, (w.alloc o).cell? ⟨1, 5, none⟩ = some (.int .i64 0) := fun o => (oldc w o hs.olt 5).trans hs.o5
  clear hs
  have hi' : (i : Int) = (n : Int) - 1 := by omega
  have hn1 : 1 ≤ n := by omega
  clear hi
  go_enter Tryd.func33, Tryd.ntmps33
  go_wp2
  exact bodyPost_ret (v := .agg #[.int .i64 12, .int .i64 0, .int .i64 0, .int .i64 0, .int .i64 0, .int .i64 0]) (by simp [results, Tryd.results33, go_sem]) rfl ⟨rfl, (by repeat (first | with_reducible exact Below.refl _ _ | (with_reducible refine Below.setCell ?_ ?side _; case side => (first | omega | (simp <;> omega))) | (with_reducible refine Below.alloc ?_ ?side _; case side => (first | omega | (simp <;> omega)))))⟩
set_option maxRecDepth 100000 in
set_option maxHeartbeats 4000000 in
theorem next_mid (ao : Option Addr) (n c i : Nat) (M : Nat → Nat → Int) (w : World) (hn : n ≤ 1000) (hcn : n ≤ c) (hi : i + 1 < n) (hS : CV w ao n M) : Calls Tryd.prog 33 #[.slice ao n c, .int .i64 i] w fun e w' => e = .returned (PV (M (i + 1))) ∧ Below w.heap.size w w' := by
  obtain ⟨b, o, rfl, hb, hcr⟩ := hS (by omega)
  have hA := (Below.refl w.heap.size w).alloc (Nat.le_refl _) (.cells #[.int .i64 0, .int .i64 0, .int .i64 0, .int .i64 0, .int .i64 0, .int .i64 0] 23)
  obtain ⟨a0, a1, a2, a3, a4, a5⟩ := row_six hcr hb hA hi
  obtain ⟨x, hx⟩ : ∃ x, M (i + 1) = x := ⟨_, rfl⟩
  rw [hx] at a0 a1 a2 a3 a4 a5 ⊢
  obtain ⟨k, hk⟩ : ∃ k : Nat, i + 1 = k := ⟨_, rfl⟩
  rw [hk] at a0 a1 a2 a3 a4 a5
  have hk1 : (i : Int) + 1 = (k : Int) := by omega
  have hne : ¬ (i : Int) = (n : Int) - 1 := by omega
  have hkn : (k : Int) < (n : Int) := by omega
  have hw1 : IntKind.i64.wrap ((n : Int) - 1) = (n : Int) - 1 := IntWalk.i64_in _ ⟨by omega, by omega⟩
  have hw2 : IntKind.i64.wrap ((i : Int) + 1) = (k : Int) := by rw [hk1]; exact IntWalk.i64_in _ ⟨by omega, by omega⟩
  clear hcr hA hx hS hk hk1 hi
  go_enter Tryd.func33, Tryd.ntmps33
  go_wp2
  exact bodyPost_ret (v := PV x) (by simp [results, Tryd.results33, go_sem]) rfl ⟨rfl, (by repeat (first | with_reducible exact Below.refl _ _ | (with_reducible refine Below.setCell ?_ ?side _; case side => (first | omega | (simp <;> omega))) | (with_reducible refine Below.alloc ?_ ?side _; case side => (first | omega | (simp <;> omega)))))⟩
theorem next_any (ao : Option Addr) (n c i : Nat) (M : Nat → Nat → Int) (x : Nat → Int) (hx : nx M n i = x) (hn : n ≤ 1000) (hcn : n ≤ c) (hi : i < n) (w : World) (hS : CV w ao n M) (hs : Sm w) : Calls Tryd.prog 33 #[.slice ao n c, .int .i64 i] w fun e w' => e = .returned (PV x) ∧ Below w.heap.size w w' := by
  rw [← hx]
  unfold nx
  by_cases e : i + 1 = n
  · rw [if_pos e]; exact next_last ao n c i w hn e hs
  · rw [if_neg e]; exact next_mid ao n c i M w hn hcn (by omega) hS
end Go.Proofs.YtomgihlkbmaleaaDoor

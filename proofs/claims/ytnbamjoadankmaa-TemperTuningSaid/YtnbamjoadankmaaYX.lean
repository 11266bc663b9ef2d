/- Temperaments: the plain mathematics of the laws. -/
import Derived.Test.YtnbamjoadankmaaYM
import Derived.Test.YtnbamjoadankmaaHC
namespace Go.Proofs.Ytnbamjoadankmaa
open Go.RowKit D
theorem img_congr {M : Nat → Nat → Int} {v w : Nat → Int} (h : ∀ j, j < 6 → v j = w j) (i : Nat) : img M v i = img M w i :=
  sm_congr fun j hj => by show M i j * v j = M i j * w j; rw [h j hj]
theorem img_add (M : Nat → Nat → Int) (v w : Nat → Int) (i : Nat) : img M (fun j => v j + w j) i = img M v i + img M w i := by
  unfold img
  rw [← sm_add]
  exact sm_congr fun j _ => Int.mul_add _ _ _
theorem img_neg (M : Nat → Nat → Int) (v : Nat → Int) (i : Nat) : img M (fun j => -(v j)) i = -(img M v i) := by
  unfold img
  have h := sm_mul 6 (-1) (fun j => M i j * v j)
  rw [show -(sm 6 fun j => M i j * v j) = -1 * sm 6 (fun j => M i j * v j) by omega, ← h]
  exact sm_congr fun j _ => by show M i j * -(v j) = -1 * (M i j * v j); rw [Int.mul_neg]; omega
theorem img_zero (M : Nat → Nat → Int) (i : Nat) : img M (fun _ => 0) i = 0 := by
  unfold img
  rw [← sm_zero 6]
  exact sm_congr fun j _ => Int.mul_zero _
theorem tu_same {M : Nat → Nat → Int} {v w : Nat → Int} {G : Nat → Nat → Int} {n : Nat} (h : ∀ i, i < n → img M v i = img M w i) (j : Nat) : tu M v G n j = tu M w G n j :=
  sm_congr fun i hi => by show img M v i * G i j = img M w i * G i j; rw [h i hi]
theorem tu_none {M : Nat → Nat → Int} {v : Nat → Int} {G : Nat → Nat → Int} {n : Nat} (h : ∀ i, i < n → img M v i = 0) (j : Nat) : tu M v G n j = 0 := by
  unfold tu
  rw [← sm_zero n]
  exact sm_congr fun i hi => by show img M v i * G i j = 0; rw [h i hi, Int.zero_mul]
theorem tu_add (M : Nat → Nat → Int) (v w : Nat → Int) (G : Nat → Nat → Int) (n j : Nat) : tu M (fun j => v j + w j) G n j = tu M v G n j + tu M w G n j := by
  unfold tu
  rw [← sm_add]
  exact sm_congr fun i _ => by show img M (fun j => v j + w j) i * G i j = _; rw [img_add, Int.add_mul]
theorem tu_neg (M : Nat → Nat → Int) (v : Nat → Int) (G : Nat → Nat → Int) (n j : Nat) : tu M (fun j => -(v j)) G n j = -(tu M v G n j) := by
  unfold tu
  have h := sm_mul n (-1) (fun i => img M v i * G i j)
  rw [show -(sm n fun i => img M v i * G i j) = -1 * sm n (fun i => img M v i * G i j) by omega, ← h]
  exact sm_congr fun i _ => by show img M (fun j => -(v j)) i * G i j = -1 * (img M v i * G i j); rw [img_neg, Int.neg_mul]; omega
theorem tu_both (M : Nat → Nat → Int) (v : Nat → Int) (G H : Nat → Nat → Int) (n j : Nat) : tu M v (fun i j => G i j + H i j) n j = tu M v G n j + tu M v H n j := by
  unfold tu
  rw [← sm_add]
  exact sm_congr fun i _ => Int.mul_add _ _ _
theorem Iv.neg {v : Nat → Int} (h : Iv v) : Iv (fun j => -(v j)) := fun j hj => by have := h j hj; show -48 ≤ -(v j) ∧ -(v j) ≤ 48; omega
theorem Iv.zero : Iv (fun _ => 0) := fun j _ => by show (-48 : Int) ≤ 0 ∧ (0 : Int) ≤ 48; omega
/-- A pure interval. -/
def Pu (M G : Nat → Nat → Int) (v : Nat → Int) (n : Nat) : Prop := ∀ j, j < 6 → tu M v G n j = 12 * v j
theorem Pu.neg {M G : Nat → Nat → Int} {v : Nat → Int} {n : Nat} : Pu M G (fun j => -(v j)) n ↔ Pu M G v n := by
  refine ⟨fun h j hj => ?_, fun h j hj => ?_⟩
  · have e : tu M (fun j => -(v j)) G n j = 12 * -(v j) := h j hj
    rw [tu_neg] at e; omega
  · show tu M (fun j => -(v j)) G n j = 12 * -(v j)
    rw [tu_neg, h j hj]; omega
theorem Pu.add {M G : Nat → Nat → Int} {v w : Nat → Int} {n : Nat} (h : Pu M G v n) (k : Pu M G w n) : Pu M G (fun j => v j + w j) n := fun j hj => by
  show tu M (fun j => v j + w j) G n j = 12 * (v j + w j)
  rw [tu_add, h j hj, k j hj]; omega
theorem Pu.zero {M G : Nat → Nat → Int} {n : Nat} : Pu M G (fun _ => 0) n := fun j _ => by
  rw [tu_none (fun i _ => img_zero M i)]; rfl
theorem Pu.none {M G : Nat → Nat → Int} {v : Nat → Int} {n : Nat} (h : Pu M G v n) (k : ∀ i, i < n → img M v i = 0) : ∀ j, j < 6 → v j = 0 := fun j hj => by
  have := h j hj
  rw [tu_none k] at this; omega
end Go.Proofs.Ytnbamjoadankmaa
/- Temperaments: the numbers of the chapter's examples. -/
namespace Go.Proofs.Ytnbamjoadankmaa
open Go.RowKit D
def txA : List Int := [12, 19, 28, 34, 42, 44]
def txC : List Int := [-4, 4, -1, 0, 0, 0, 0, 0, 0, 1, 0, 0, 0, 0, 0, 0, 1, 0, 0, 0, 0, 0, 0, 1]
def txS : List Int := [-4, 4, -1, 0, 0, 0]
def txG : List Int := [12, 0, 0, 0, 0, 0, 12, 0, 3, 0, 0, 0]
theorem tm_dec {l : List Int} {n : Nat} {p : Nat → Nat} (h0 : 0 < n ∧ n ≤ 3 ∧ (∀ i, i < n → ∀ j, j < 6 → -400 ≤ lm l i j ∧ lm l i j ≤ 400) ∧ vol (lm l) 6 n ≤ 1000000000) (hf : Hf (lm l) n 6 p) : Tm (lm l) n :=
  ⟨h0.1, h0.2.1, h0.2.2.1, ⟨by have := h0.2.1; omega, fun i j hi hj => by have := h0.2.2.1 i hi j hj; omega, h0.2.2.2⟩, fun k => hf.rank (fun i hi => Sp.unit hi) (fun i hi => Sp.unit hi) k⟩
theorem tmA : Tm (lm txA) 1 := tm_dec (p := fun _ => 0) (by decide +kernel) (hf_dec (by decide +kernel))
theorem tmH : Tm (lm exH) 2 := tm_dec (p := id) (by decide +kernel) (hf_dec (by decide +kernel))
theorem vmC : VM (lm txC) 4 := vm_dec (by decide +kernel)
theorem vmS : VM (lm txS) 1 := vm_dec (by decide +kernel)
theorem ker_C {O : Nat → Nat → Int} {u : Nat} {p : Nat → Nat} (h : Hf O u 6 p) (h1 : ∀ i k, i < u → k < 4 → dot 6 (lm txC k) (O i) = 0) (h2 : ∀ y, (∀ k, k < 4 → dot 6 (lm txC k) y = 0) → Sp O u 6 y) : u = 2 ∧ ∀ i j, i < u → j < 6 → O i j = lm exH i j := by
  have k : Hf (lm exH) 2 6 id := hf_dec (by decide +kernel)
  have k1 : ∀ i, i < 2 → ∀ k, k < 4 → dot 6 (lm txC k) (lm exH i) = 0 := by decide +kernel
  have k2 : ∀ y : Nat → Int, (∀ k, k < 4 → dot 6 (lm txC k) y = 0) → Sp (lm exH) 2 6 y := by
    intro y hy
    have a := hy 0 (by omega)
    have b := hy 1 (by omega)
    have c := hy 2 (by omega)
    have d := hy 3 (by omega)
    simp [dot, sm, lm, txC] at a b c d
    refine sp_dec [y 0, y 1] fun j hj => ?_
    rcases six_cases hj with rfl | rfl | rfl | rfl | rfl | rfl <;> simp [sm, lm, exH] <;> omega
  have e := h.one k (fun i hi => h2 _ (k1 i hi)) (fun i hi => k2 _ fun t ht => h1 i t hi ht)
  exact ⟨e.1, e.2.2⟩
theorem ker_H {O : Nat → Nat → Int} {u : Nat} {p : Nat → Nat} (h : Hf O u 6 p) (h1 : ∀ i k, i < u → k < 2 → dot 6 (lm exH k) (O i) = 0) (h2 : ∀ y, (∀ k, k < 2 → dot 6 (lm exH k) y = 0) → Sp O u 6 y) : u = 4 ∧ ∀ i j, i < u → j < 6 → O i j = lm exK i j := by
  have k : Hf (lm exK) 4 6 (fun k => if k = 0 then 0 else k + 2) := hf_dec (by decide +kernel)
  have k1 : ∀ i, i < 4 → ∀ k, k < 2 → dot 6 (lm exH k) (lm exK i) = 0 := by decide +kernel
  have k2 : ∀ y : Nat → Int, (∀ k, k < 2 → dot 6 (lm exH k) y = 0) → Sp (lm exK) 4 6 y := by
    intro y hy
    have a := hy 0 (by omega)
    have b := hy 1 (by omega)
    simp [dot, sm, lm, exH] at a b
    refine sp_dec [y 2, y 3, y 4, y 5] fun j hj => ?_
    rcases six_cases hj with rfl | rfl | rfl | rfl | rfl | rfl <;> simp [sm, lm, exK] <;> omega
  have e := h.one k (fun i hi => h2 _ (k1 i hi)) (fun i hi => k2 _ fun t ht => h1 i t hi ht)
  exact ⟨e.1, e.2.2⟩
theorem hf_S : Hf (fun _ j => lm [4, -4, 1, 0, 0, 0] 0 j) 1 6 (fun _ => 0) := hf_dec (by decide +kernel)
theorem ker_S {O : Nat → Nat → Int} {u : Nat} {p : Nat → Nat} (h : Hf O u 6 p) (h1 : ∀ i k, i < u → k < 1 → dot 6 (lm txS k) (O i) = 0) (h2 : ∀ y, (∀ k, k < 1 → dot 6 (lm txS k) y = 0) → Sp O u 6 y) : u = 5 :=
  (ker_count (r := 1) h h1 h2 fun k => hf_S.rank (fun i hi => by obtain rfl : i = 0 := by omega
                                                                 exact sp_dec [-1] (by decide +kernel)) (fun i _ => sp_dec [-1] (by
    show ∀ j, j < 6 → lm [4, -4, 1, 0, 0, 0] 0 j = sm 1 (fun t => [(-1 : Int)].getD t 0 * lm txS t j)
    decide +kernel)) k).2
theorem img_A : img (lm txA) (fun j => lm [-1, 1, 0, 0, 0, 0] 0 j) 0 = 7 := by decide +kernel
theorem img_A0 : img (lm txA) (fun j => lm [-4, 4, -1, 0, 0, 0] 0 j) 0 = 0 := by decide +kernel
theorem tu_one : ∀ j, j < 6 → tu (lm exH) (fun j => lm [-1, 1, 0, 0, 0, 0] 0 j) (lm txG) 2 j = lm [0, 0, 3, 0, 0, 0] 0 j := by decide +kernel
theorem tu_two : ∀ j, j < 6 → tu (lm exH) (fun j => lm [-2, 0, 1, 0, 0, 0] 0 j) (lm txG) 2 j = lm [-24, 0, 12, 0, 0, 0] 0 j := by decide +kernel
end Go.Proofs.Ytnbamjoadankmaa

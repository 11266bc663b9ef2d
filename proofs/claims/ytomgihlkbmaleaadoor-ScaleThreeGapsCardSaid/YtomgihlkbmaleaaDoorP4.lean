/- pitch.factors. -/
import Derived.Test.YtomgihlkbmaleaaDoorP3
import Derived.LoopN
namespace Go.Proofs.YtomgihlkbmaleaaDoor
open Go.RowKit M
/-- The table of the primes. -/
structure Pm (w : World) : Prop where
  lt : 2 < w.heap.size
  c0 : w.cell? ⟨2, 0, none⟩ = some (.int .i64 2)
  c1 : w.cell? ⟨2, 1, none⟩ = some (.int .i64 3)
  c2 : w.cell? ⟨2, 2, none⟩ = some (.int .i64 5)
  c3 : w.cell? ⟨2, 3, none⟩ = some (.int .i64 7)
  c4 : w.cell? ⟨2, 4, none⟩ = some (.int .i64 11)
  c5 : w.cell? ⟨2, 5, none⟩ = some (.int .i64 13)
theorem Pm.keep {w w' : World} (h : Pm w) (hb : Below w.heap.size w w') : Pm w' :=
  ⟨Nat.lt_of_lt_of_le h.lt hb.size, (hb.cell (p := ⟨2, 0, none⟩) h.lt).trans h.c0, (hb.cell (p := ⟨2, 1, none⟩) h.lt).trans h.c1, (hb.cell (p := ⟨2, 2, none⟩) h.lt).trans h.c2,
   (hb.cell (p := ⟨2, 3, none⟩) h.lt).trans h.c3, (hb.cell (p := ⟨2, 4, none⟩) h.lt).trans h.c4, (hb.cell (p := ⟨2, 5, none⟩) h.lt).trans h.c5⟩
abbrev primes : Value := .agg #[.int .i64 2, .int .i64 3, .int .i64 5, .int .i64 7, .int .i64 11, .int .i64 13]
theorem two_bound {p e y x : Nat} (hp : 2 ≤ p) (hx : x ≤ 1000000000) (h : x = p ^ e * y) (hy : 1 ≤ y) : e ≤ 29 := by
  refine Nat.le_of_not_lt fun hlt => ?_
  have h1 : 2 ^ 30 ≤ p ^ e := Nat.le_trans (Nat.pow_le_pow_right (by omega) hlt) (Nat.pow_le_pow_left hp e)
  have h2 : p ^ e * 1 ≤ p ^ e * y := Nat.mul_le_mul_left _ hy
  have : (2 : Nat) ^ 30 = 1073741824 := by decide
  omega
/-- One prime taken out. -/
structure Took (p x e y : Nat) : Prop where
  eq : x = p ^ e * y
  pos : 1 ≤ y
  le : y ≤ x
  e29 : e ≤ 29
theorem Took.step {p x e y : Nat} (hp : 2 ≤ p) (hx : x ≤ 1000000000) (h : Took p x e y) (hd : y % p = 0) : Took p x (e + 1) (y / p) ∧ y / p < y := by
  obtain ⟨z, rfl⟩ := Nat.dvd_of_mod_eq_zero hd
  have hz : 1 ≤ z := by
    refine Nat.one_le_iff_ne_zero.2 fun e => ?_
    have := h.pos; simp [e] at this
  have hq : p * z / p = z := Nat.mul_div_cancel_left z (by omega)
  have he : x = p ^ (e + 1) * z := by rw [h.eq, Nat.pow_succ, Nat.mul_assoc]
  have hlt : z < p * z := by have : 2 * z ≤ p * z := Nat.mul_le_mul_right _ hp; omega
  rw [hq]
  exact ⟨⟨he, hz, by have := h.le; omega, two_bound hp hx he hz⟩, hlt⟩
end Go.Proofs.YtomgihlkbmaleaaDoor

/- Rows of six compared. -/
import Derived.Test.YtmknbgiihhimfaaR4
import Derived.Laws.StructEq
namespace Go.Proofs.Ytmknbgiihhimfaa
open Go.RowKit
/-- A row of six as a value. -/
abbrev PV (v : Nat → Int) : Value := .agg #[.int .i64 (v 0), .int .i64 (v 1), .int .i64 (v 2), .int .i64 (v 3), .int .i64 (v 4), .int .i64 (v 5)]
theorem six {p : Nat → Prop} (h0 : p 0) (h1 : p 1) (h2 : p 2) (h3 : p 3) (h4 : p 4) (h5 : p 5) : ∀ i, i < 6 → p i := by
  intro i hi
  match i, hi with
  | 0, _ => exact h0
  | 1, _ => exact h1
  | 2, _ => exact h2
  | 3, _ => exact h3
  | 4, _ => exact h4
  | 5, _ => exact h5
theorem info3 : (Try.prog.info? 3).map (fun i => i.size) = some 1 := by kernel_rfl

theorem equalIn_six (d : Nat) (t : TypeId) (ht : Try.prog.underlying t = some (.array 6 3)) (u v : Nat → Int) (w : World) : (Op.equalIn (d + 1 + 1) t (PV u) (PV v)).run Try.prog w = .ok (u 0 == v 0 && (u 1 == v 1 && (u 2 == v 2 && (u 3 == v 3 && (u 4 == v 4 && u 5 == v 5))))) w := by
  have e : ∀ a b, (Op.equalIn (d + 1) 3 (.int .i64 a) (.int .i64 b)).run Try.prog w = .ok (a == b) w := fun a b => run_equalIn_int w d 3 .i64 .i64 a b Try.underlying3
  obtain ⟨i, hi, hs⟩ : ∃ i, Try.prog.info? 3 = some i ∧ i.size = 1 := by
    have := info3
    cases h : Try.prog.info? 3 with
    | none => rw [h] at this; cases this
    | some i => rw [h] at this; exact ⟨i, rfl, by simpa using this⟩
  rw [Op.equalIn]
  simp only [Sem.run_bind, run_underlying ht, Result.andThen_ok]
  simp [List.range', sizeOf, typeInfo, part, hi, hs, e]
  by_cases h0 : u 0 = v 0 <;> by_cases h1 : u 1 = v 1 <;> by_cases h2 : u 2 = v 2 <;> by_cases h3 : u 3 = v 3 <;> by_cases h4 : u 4 = v 4 <;> by_cases h5 : u 5 = v 5 <;> simp [h0, h1, h2, h3, h4, h5]
/-- Two lists of six compared, in whatever type. -/
theorem eq6 (t : TypeId) (ht : Try.prog.underlying t = some (.array 6 3)) (u v : Nat → Int) (w : World) : (Op.equalIn 10000 t (PV u) (PV v)).run Try.prog w = .ok (u 0 == v 0 && (u 1 == v 1 && (u 2 == v 2 && (u 3 == v 3 && (u 4 == v 4 && u 5 == v 5))))) w :=
  equalIn_six 9998 t ht u v w
theorem eq6_same (t : TypeId) (ht : Try.prog.underlying t = some (.array 6 3)) (u : Nat → Int) : ∀ w, (Op.equalIn 10000 t (PV u) (PV u)).run Try.prog w = .ok true w := fun w => by
  rw [eq6 t ht u u w]; simp
theorem eq6_is (t : TypeId) (ht : Try.prog.underlying t = some (.array 6 3)) (u v : Nat → Int) (b : Bool) (h : b = true ↔ ∀ i, i < 6 → u i = v i) : ∀ w, (Op.equalIn 10000 t (PV u) (PV v)).run Try.prog w = .ok b w := fun w => by
  rw [eq6 t ht u v w]
  have e : (u 0 == v 0 && (u 1 == v 1 && (u 2 == v 2 && (u 3 == v 3 && (u 4 == v 4 && u 5 == v 5))))) = b := by
    rw [Bool.eq_iff_iff, h]
    simp only [Bool.and_eq_true, beq_iff_eq]
    exact ⟨fun ⟨h0, h1, h2, h3, h4, h5⟩ => six (p := fun i => u i = v i) h0 h1 h2 h3 h4 h5, fun k => ⟨k 0 (by omega), k 1 (by omega), k 2 (by omega), k 3 (by omega), k 4 (by omega), k 5 (by omega)⟩⟩
  rw [e]
end Go.Proofs.Ytmknbgiihhimfaa

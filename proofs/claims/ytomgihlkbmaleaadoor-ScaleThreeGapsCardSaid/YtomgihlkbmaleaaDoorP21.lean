/- six exponents compared. -/
import Derived.Test.YtomgihlkbmaleaaDoorP1
import Derived.Laws.StructEq
namespace Go.Proofs.YtomgihlkbmaleaaDoor
open Go.RowKit M
theorem info3 : (Tryd.prog.info? 3).map (fun i => i.size) = some 1 := by kernel_rfl
theorem equalIn_six (d : Nat) (t : TypeId) (ht : Tryd.prog.underlying t = some (.array 6 3)) (u v : Nat → Int) (w : World) : (Op.equalIn (d + 1 + 1) t (PV u) (PV v)).run Tryd.prog w = .ok (u 0 == v 0 && (u 1 == v 1 && (u 2 == v 2 && (u 3 == v 3 && (u 4 == v 4 && u 5 == v 5))))) w := by
  have e : ∀ a b, (Op.equalIn (d + 1) 3 (.int .i64 a) (.int .i64 b)).run Tryd.prog w = .ok (a == b) w := fun a b => run_equalIn_int w d 3 .i64 .i64 a b Tryd.underlying3
  obtain ⟨i, hi, hs⟩ : ∃ i, Tryd.prog.info? 3 = some i ∧ i.size = 1 := by
    have := info3
    cases h : Tryd.prog.info? 3 with
    | none => rw [h] at this; cases this
    | some i => rw [h] at this; exact ⟨i, rfl, by simpa using this⟩
  rw [Op.equalIn]
  simp only [Sem.run_bind, run_underlying ht, Result.andThen_ok]
  simp [List.range', sizeOf, typeInfo, part, hi, hs, e]
  by_cases h0 : u 0 = v 0 <;> by_cases h1 : u 1 = v 1 <;> by_cases h2 : u 2 = v 2 <;> by_cases h3 : u 3 = v 3 <;> by_cases h4 : u 4 = v 4 <;> by_cases h5 : u 5 = v 5 <;> simp [h0, h1, h2, h3, h4, h5]
/-- Two lists of six compared, in whatever type. -/
theorem eq6 (t : TypeId) (ht : Tryd.prog.underlying t = some (.array 6 3)) (u v : Nat → Int) (w : World) : (Op.equalIn 10000 t (PV u) (PV v)).run Tryd.prog w = .ok (u 0 == v 0 && (u 1 == v 1 && (u 2 == v 2 && (u 3 == v 3 && (u 4 == v 4 && u 5 == v 5))))) w :=
  equalIn_six 9998 t ht u v w
theorem eq6_same (t : TypeId) (ht : Tryd.prog.underlying t = some (.array 6 3)) (u : Nat → Int) : ∀ w, (Op.equalIn 10000 t (PV u) (PV u)).run Tryd.prog w = .ok true w := fun w => by
  rw [eq6 t ht u u w]; simp
theorem eq6_is (t : TypeId) (ht : Tryd.prog.underlying t = some (.array 6 3)) (u v : Nat → Int) (b : Bool) (h : b = true ↔ ∀ i, i < 6 → u i = v i) : ∀ w, (Op.equalIn 10000 t (PV u) (PV v)).run Tryd.prog w = .ok b w := fun w => by
  rw [eq6 t ht u v w]
  have e : (u 0 == v 0 && (u 1 == v 1 && (u 2 == v 2 && (u 3 == v 3 && (u 4 == v 4 && u 5 == v 5))))) = b := by
    rw [Bool.eq_iff_iff, h]
    simp only [Bool.and_eq_true, beq_iff_eq]
    exact ⟨fun ⟨h0, h1, h2, h3, h4, h5⟩ => six (p := fun i => u i = v i) h0 h1 h2 h3 h4 h5, fun k => ⟨k 0 (by omega), k 1 (by omega), k 2 (by omega), k 3 (by omega), k 4 (by omega), k 5 (by omega)⟩⟩
  rw [e]
end Go.Proofs.YtomgihlkbmaleaaDoor

/- An element of a row of six that is a value. -/
import Derived.Test.YtmknbgiihhimfaaKG
import Derived.Test.YtmknbgiihhimfaaMD
namespace Go.Proofs.Ytmknbgiihhimfaa
open Go.RowKit D
theorem index_six (v : Nat → Int) {l : Nat} (hl : l < 6) (x : Int) (hx : v l = x) : ∀ w, (Instr.index 37 (.agg #[.int .i64 (v 0), .int .i64 (v 1), .int .i64 (v 2), .int .i64 (v 3), .int .i64 (v 4), .int .i64 (v 5)]) (.int .i64 l)).run Try.prog w = .ok (.int .i64 x) w := by
  intro w
  have hu := Try.underlying37
  subst hx
  have hi3 : Try.prog.info? 3 = Try.prog.info? 3 := rfl
  obtain ⟨ti, hti, hti2⟩ := Option.map_eq_some_iff.1 info_int
  simp only [Prod.mk.injEq] at hti2
  rcases six_cases' hl with rfl | rfl | rfl | rfl | rfl | rfl <;> simp [Instr.index, asIntOf, run_underlying hu, sizeOf, typeInfo, hti, hti2.2.1, Sem.run_bind, Result.andThen, part]
end Go.Proofs.Ytmknbgiihhimfaa

/- NaturalOrder, all ways. -/
import Derived.Test.YtegjhkjmejckdaaDoorL8b
import Derived.Test.YtegjhkjmejckdaaDoorL8c
import Derived.Test.YtegjhkjmejckdaaDoorL8d
namespace Go.Proofs.YtegjhkjmejckdaaDoor
open Go.RowKit M
set_option maxRecDepth 20000 in
theorem order_not {va vb vc : Value} (w0 : World) (h : ∀ w', Below w0.heap.size w0 w' → Calls Tryd.prog 34 #[va, vb, vc] w' fun e w2 => e = .returned (.bool false) ∧ w' = w2) :
    Calls Tryd.prog 8 #[va, vb, vc] w0 fun e w' => e = .returned (.bool true) ∧ Below w0.heap.size w0 w' := by
  have H := Bx.mk h
  clear h
  go_enter Tryd.func8, Tryd.ntmps8
  go_wp2_with fail
  refine Calls.mono (head_any _) ?_
  rintro e w1 ⟨rfl, hb⟩
  go_wp2_with fail
  refine Calls.mono (H.out _ hb) ?_
  rintro e w2 ⟨rfl, rfl⟩
  go_wp2
  go_ret
  exact ⟨rfl, hb⟩
theorem order_all {va vb vc : Value} {a b c : Nat} (w0 : World) (hL : Live w0 [(va, a), (vb, b), (vc, c)]) :
    Calls Tryd.prog 8 #[va, vb, vc] w0 fun e w' => e = .returned (.bool true) ∧ Below w0.heap.size w0 w' := by
  obtain ⟨co, cc, rfl, -⟩ := (show Nm w0 vc c from hL (vc, c) (by simp)).shape
  have lz : c = 0 → (((limbs c).length : Int) == 0) = true := fun h => by subst h; exact len_zero
  by_cases hc : c = 0
  · rcases Nat.lt_trichotomy a b with hx | hx | hx
    · rcases Nat.lt_trichotomy b c with hy | hy | hy
      · exact order_lt_lt_z w0 hL hx hy (lz hc)
      · exact order_lt_eq_z w0 hL hx hy (lz hc)
      · exact order_lt_gt_z w0 hL hx hy (lz hc)
    · rcases Nat.lt_trichotomy b c with hy | hy | hy
      · exact order_eq_lt_z w0 hL hx hy (lz hc)
      · exact order_eq_eq_z w0 hL hx hy (lz hc)
      · exact order_eq_gt_z w0 hL hx hy (lz hc)
    · exact order_gt_None_z w0 hL hx (lz hc)
  · rcases Nat.lt_trichotomy a b with hx | hx | hx
    · rcases Nat.lt_trichotomy b c with hy | hy | hy
      · exact order_lt_lt_n w0 hL hx hy hc (len_pos hc)
      · exact order_lt_eq_n w0 hL hx hy hc (len_pos hc)
      · exact order_lt_gt_n w0 hL hx hy hc (len_pos hc)
    · rcases Nat.lt_trichotomy b c with hy | hy | hy
      · exact order_eq_lt_n w0 hL hx hy hc (len_pos hc)
      · exact order_eq_eq_n w0 hL hx hy hc (len_pos hc)
      · exact order_eq_gt_n w0 hL hx hy hc (len_pos hc)
    · exact order_gt_None_n w0 hL hx hc (len_pos hc)
end Go.Proofs.YtegjhkjmejckdaaDoor

/- SizeCommon, for all sizes. -/
import Derived.Test.YtdlfnonlalkjdaaDoorSLC
namespace Go.Proofs.YtdlfnonlalkjdaaDoor
open Go.RowKit M
theorem cm_of {a b c d : Int} (ha : szB a b = true) (hc : szB c d = true) : cmR a b c d = (if b < c then -1 else if a > d then 1 else 0, 0) := by unfold cmR; rw [ha, hc]; rfl
theorem me_no {a b c d : Int} (ha : szB a b = true) (hc : szB c d = true) (h : min b d < max a c) : meR a b c d = (0, 0, 4) := by unfold meR; rw [ha, hc]; simp only [Bool.and_self, if_true]; rw [if_pos h]
theorem me_ok {a b c d : Int} (ha : szB a b = true) (hc : szB c d = true) (h : ¬ min b d < max a c) : meR a b c d = (max a c, min b d, 0) := by unfold meR; rw [ha, hc]; simp only [Bool.and_self, if_true]; rw [if_neg h]
theorem scommon_all (a0 a1 b0 b1 c0 c1 n : Int) (w : World) (hl : Lm w) :
    Calls Tryd.prog 7 #[SV a0 a1, SV b0 b1, SV c0 c1, .int .i64 n] w fun e w' => e = .returned (.bool true) ∧ Below w.heap.size w w' := by
  cases va : szB a0 a1
  · exact scom_b a0 a1 b0 b1 c0 c1 n w hl ⟨both_a a0 a1 b0 b1 va⟩
  cases vb : szB b0 b1
  · exact scom_b a0 a1 b0 b1 c0 c1 n w hl ⟨both_b a0 a1 b0 b1 va vb⟩
  have B1 := Hx.mk (both_yes a0 a1 b0 b1 va vb)
  cases vc : szB c0 c1
  · exact scom_c a0 a1 b0 b1 c0 c1 n w hl B1 ⟨fun w => svalid_any c0 c1 w false vc⟩
  have V1 : Hx (∀ w, Calls Tryd.prog 13 #[SV c0 c1] w fun e w' => e = .returned (.bool true) ∧ Below w.heap.size w w') := ⟨fun w => svalid_any c0 c1 w true vc⟩
  obtain ⟨a2, ha, a3⟩ := szB_yes.1 va
  obtain ⟨b2, hb, b3⟩ := szB_yes.1 vb
  have C3 := Hx.mk (scmp_any b0 b1 c0 c1 _ _ (cm_of vb vc))
  have C4 := Hx.mk (scmp_any a0 a1 c0 c1 _ _ (cm_of va vc))
  have C1 := Hx.mk (scmp_any a0 a1 b0 b1 _ _ (cm_of va vb))
  have C2 := Hx.mk (scmp_any b0 b1 a0 a1 _ _ (cm_of vb va))
  by_cases h1 : a1 < b0
  · have M1 := Hx.mk (smeet_any a0 a1 b0 b1 _ _ _ (me_no va vb (by omega)))
    have M2 := Hx.mk (smeet_any b0 b1 a0 a1 _ _ _ (me_no vb va (by omega)))
    rw [if_pos h1] at C1
    rw [if_neg (show ¬ b1 < a0 by omega), if_pos (show b0 > a1 by omega)] at C2
    by_cases h2 : b1 < c0
    · rw [if_pos h2] at C3
      rw [if_pos (show a1 < c0 by omega)] at C4
      exact scom_1 a0 a1 b0 b1 c0 c1 n w hl ha hb h1 B1 V1 0 0 C1 C2 C3 C4 M1 M2
    · exact scom_2 a0 a1 b0 b1 c0 c1 n w hl ha hb h1 B1 V1 _ _ (by rw [if_neg h2]; split <;> omega) C1 C2 C3 C4 M1 M2
  · by_cases h2 : a0 > b1
    · have M1 := Hx.mk (smeet_any a0 a1 b0 b1 _ _ _ (me_no va vb (by omega)))
      have M2 := Hx.mk (smeet_any b0 b1 a0 a1 _ _ _ (me_no vb va (by omega)))
      rw [if_neg h1, if_pos h2] at C1
      rw [if_pos (show b1 < a0 by omega)] at C2
      exact scom_3 a0 a1 b0 b1 c0 c1 n w hl ha hb (by omega) B1 V1 _ _ C1 C2 C3 C4 M1 M2
    · have M1 := Hx.mk (smeet_any a0 a1 b0 b1 _ _ _ (me_ok va vb (by omega)))
      have hm2 := me_ok vb va (show ¬ min b1 a1 < max b0 a0 by omega)
      rw [Int.max_comm b0 a0, Int.min_comm b1 a1] at hm2
      have M2 := Hx.mk (smeet_any b0 b1 a0 a1 _ _ _ hm2)
      rw [if_neg h1, if_neg h2] at C1
      rw [if_neg (show ¬ b1 < a0 by omega), if_neg (show ¬ b0 > a1 by omega)] at C2
      have hv : szB (max a0 b0) (min a1 b1) = true := szB_yes.2 ⟨by omega, by omega, by omega⟩
      exact scom_4 a0 a1 b0 b1 c0 c1 n w hl ha hb B1 V1 _ _ C1 C2 C3 C4 (max a0 b0) (min a1 b1) (by omega) (by omega) (by omega) (by omega) (by omega) (by omega) ⟨fun w => svalid_any _ _ w true hv⟩ M1 M2
end Go.Proofs.YtdlfnonlalkjdaaDoor

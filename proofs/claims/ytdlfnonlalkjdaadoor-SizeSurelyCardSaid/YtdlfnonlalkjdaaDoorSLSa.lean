/- SizeSurely, for all sizes and ranges. -/
import Derived.Test.YtdlfnonlalkjdaaDoorSLS
import Derived.Test.YtdlfnonlalkjdaaDoorSLCa
import Derived.Test.YtdlfnonlalkjdaaDoorSLPa
namespace Go.Proofs.YtdlfnonlalkjdaaDoor
open Go.RowKit M
theorem wi_ok {a b l h : Int} (ha : szB a b = true) (hq : ¬ h < l) : wiR a b l h = (if l ≤ a ∧ b ≤ h then 1 else if b < l ∨ h < a then -1 else 0, 0) := by unfold wiR; rw [ha]; simp only [if_true]; rw [if_neg hq]
theorem ssurely_all (a0 a1 b0 b1 l h l2 h2 : Int) (w : World) (hl : Lm w) :
    Calls Tryd.prog 8 #[SV a0 a1, SV b0 b1, .int .i64 l, .int .i64 h, .int .i64 l2, .int .i64 h2] w fun e w' => e = .returned (.bool true) ∧ Below w.heap.size w w' := by
  cases va : szB a0 a1
  · exact ssur_b a0 a1 b0 b1 l h l2 h2 w hl ⟨both_a a0 a1 b0 b1 va⟩
  cases vb : szB b0 b1
  · exact ssur_b a0 a1 b0 b1 l h l2 h2 w hl ⟨both_b a0 a1 b0 b1 va vb⟩
  have B1 := Hx.mk (both_yes a0 a1 b0 b1 va vb)
  by_cases k0 : l < -1000000000000000
  · exact ssur_0 a0 a1 b0 b1 l h l2 h2 w hl B1 k0
  by_cases k1 : 1000000000000000 < h
  · exact ssur_1 a0 a1 b0 b1 l h l2 h2 w hl B1 k0 k1
  by_cases k2 : l2 < -1000000000000000
  · exact ssur_2 a0 a1 b0 b1 l h l2 h2 w hl B1 k0 k1 k2
  by_cases k3 : 1000000000000000 < h2
  · exact ssur_3 a0 a1 b0 b1 l h l2 h2 w hl B1 k0 k1 k2 k3
  by_cases k4 : h < l
  · exact ssur_4 a0 a1 b0 b1 l h l2 h2 w hl B1 k0 k1 k2 k3 k4
  by_cases k5 : h2 < l2
  · exact ssur_5 a0 a1 b0 b1 l h l2 h2 w hl B1 k0 k1 k2 k3 k4 k5
  obtain ⟨a2, ha, a3⟩ := szB_yes.1 va
  obtain ⟨b2, hb, b3⟩ := szB_yes.1 vb
  obtain ⟨x, hx⟩ : ∃ x : Int, (if l ≤ a0 ∧ a1 ≤ h then 1 else if a1 < l ∨ h < a0 then -1 else 0) = x := ⟨_, rfl⟩
  obtain ⟨y, hy⟩ : ∃ y : Int, (if l ≤ b0 ∧ b1 ≤ h then 1 else if b1 < l ∨ h < b0 then -1 else 0) = y := ⟨_, rfl⟩
  obtain ⟨z, hz⟩ : ∃ z : Int, (if l2 ≤ b0 ∧ b1 ≤ h2 then 1 else if b1 < l2 ∨ h2 < b0 then -1 else 0) = z := ⟨_, rfl⟩
  have W1 := Hx.mk (swithin_any a0 a1 l h x 0 (by rw [wi_ok va k4, hx]))
  have W2 := Hx.mk (swithin_any b0 b1 l h y 0 (by rw [wi_ok vb k4, hy]))
  have W3 := Hx.mk (swithin_any b0 b1 l2 h2 z 0 (by rw [wi_ok vb k5, hz]))
  obtain ⟨s0, s1, hc, hs⟩ : ∃ s0 s1 hc, opR (szB a0 a1 && szB b0 b1) (a0 + b0) (a1 + b1) = (s0, s1, hc) := ⟨_, _, _, rfl⟩
  have A1 := Hx.mk (sadd_any a0 a1 b0 b1 s0 s1 hc hs)
  have x0 : -1 ≤ x := by rw [← hx]; repeat' split
                         all_goals omega
  have x1 : x ≤ 1 := by rw [← hx]; repeat' split
                        all_goals omega
  -- what is certain of the greater size is certain of the lesser one
  have key : (a0 ≤ b0 ∧ b1 ≤ a1) → ¬ x = 0 → y = x := by
    rintro ⟨c1, c2⟩ hx0
    by_cases d1 : l ≤ a0 ∧ a1 ≤ h
    · rw [if_pos d1] at hx
      rw [if_pos (by omega)] at hy
      omega
    · rw [if_neg d1] at hx
      by_cases d2 : a1 < l ∨ h < a0
      · rw [if_pos d2] at hx
        rw [if_neg (by omega), if_pos (by omega)] at hy
        omega
      · rw [if_neg d2] at hx; omega
  have W4 : hc = 0 → x = 1 → z = 1 → Hx (∀ w, Calls Tryd.prog 29 #[SV s0 s1, .int .i64 (l + l2), .int .i64 (h + h2)] w (OutI w 1 0)) := by
    intro h0 e1 e2
    have d1 : l ≤ a0 ∧ a1 ≤ h := by
      by_cases d : l ≤ a0 ∧ a1 ≤ h
      · exact d
      · rw [if_neg d] at hx; split at hx <;> omega
    have d2 : l2 ≤ b0 ∧ b1 ≤ h2 := by
      by_cases d : l2 ≤ b0 ∧ b1 ≤ h2
      · exact d
      · rw [if_neg d] at hz; split at hz <;> omega
    rw [va, vb, Bool.and_self] at hs
    cases hv : szB (a0 + b0) (a1 + b1)
    · unfold opR at hs; rw [hv] at hs; simp at hs; omega
    · rw [op_ok hv] at hs
      simp only [Prod.mk.injEq] at hs
      obtain ⟨rfl, rfl, _⟩ := hs
      exact ⟨swithin_any _ _ _ _ 1 0 (by rw [wi_ok hv (by omega), if_pos (by omega)])⟩
  clear hx hy hz hs
  by_cases hin : a0 ≤ b0 ∧ b1 ≤ a1
  · have I1 := Hx.mk (in_yes b0 b1 a0 a1 hin.1 hin.2)
    by_cases ex0 : x = 0
    · subst ex0
      by_cases h0 : hc = 0
      · subst h0; exact ssur_t0_x a0 a1 b0 b1 l h l2 h2 w hl B1 k0 k1 k2 k3 k4 k5 0 y z s0 s1 0 x0 x1 W1 W2 W3 I1 A1
      · exact ssur_t0_h a0 a1 b0 b1 l h l2 h2 w hl B1 k0 k1 k2 k3 k4 k5 0 y z s0 s1 hc x0 x1 W1 W2 W3 I1 A1 h0
    · obtain rfl := key hin ex0
      by_cases h0 : hc = 0
      · subst h0
        by_cases e1 : y = 1
        · subst e1
          by_cases e2 : z = 1
          · subst e2; exact ssur_ty_ok a0 a1 b0 b1 l h l2 h2 w hl B1 k0 k1 k2 k3 k4 k5 1 1 1 s0 s1 0 x0 x1 W1 W2 W3 I1 A1 (W4 rfl rfl rfl)
          · exact ssur_ty_z a0 a1 b0 b1 l h l2 h2 w hl B1 k0 k1 k2 k3 k4 k5 1 1 z s0 s1 0 x0 x1 W1 W2 W3 I1 A1 e2
        · exact ssur_ty_x a0 a1 b0 b1 l h l2 h2 w hl B1 k0 k1 k2 k3 k4 k5 y y z s0 s1 0 x0 x1 W1 W2 W3 I1 A1 ex0 e1
      · exact ssur_ty_h a0 a1 b0 b1 l h l2 h2 w hl B1 k0 k1 k2 k3 k4 k5 y y z s0 s1 hc x0 x1 W1 W2 W3 I1 A1 ex0 h0
  · have I1 := Hx.mk (in_no b0 b1 a0 a1 hin)
    by_cases h0 : hc = 0
    · subst h0
      by_cases e1 : x = 1
      · subst e1
        by_cases e2 : z = 1
        · subst e2; exact ssur_f_ok a0 a1 b0 b1 l h l2 h2 w hl B1 k0 k1 k2 k3 k4 k5 1 y 1 s0 s1 0 x0 x1 W1 W2 W3 I1 A1 (W4 rfl rfl rfl)
        · exact ssur_f_z a0 a1 b0 b1 l h l2 h2 w hl B1 k0 k1 k2 k3 k4 k5 1 y z s0 s1 0 x0 x1 W1 W2 W3 I1 A1 e2
      · exact ssur_f_x a0 a1 b0 b1 l h l2 h2 w hl B1 k0 k1 k2 k3 k4 k5 x y z s0 s1 0 x0 x1 W1 W2 W3 I1 A1 e1
    · exact ssur_f_h a0 a1 b0 b1 l h l2 h2 w hl B1 k0 k1 k2 k3 k4 k5 x y z s0 s1 hc x0 x1 W1 W2 W3 I1 A1 h0
end Go.Proofs.YtdlfnonlalkjdaaDoor

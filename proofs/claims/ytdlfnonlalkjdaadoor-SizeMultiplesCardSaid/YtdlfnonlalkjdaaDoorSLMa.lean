/- SizeMultiples, for all sizes and numbers. -/
import Derived.Test.YtdlfnonlalkjdaaDoorSLM
namespace Go.Proofs.YtdlfnonlalkjdaaDoor
open Go.RowKit M
theorem muB_congr {x y n k : Int} (h : n * x = k * y) : muB x n = muB y k := by unfold muB; rw [h]
theorem sz_mu {x y a b n : Int} (hxy : x ≤ y) (hx : x = n * a) (hy : y = n * b) : szB x y = (muB a n && muB b n) := by
  unfold szB muB
  rw [← hx, ← hy, Bool.eq_iff_iff]
  simp only [Bool.and_eq_true, decide_eq_true_eq]
  omega
theorem tm_tm {a b m : Int} (n : Int) (hz : szB a b = true) (h1 : muB a m = true) (h2 : muB b m = true) : tmR (if m < 0 then m * b else m * a) (if m < 0 then m * a else m * b) n = tmR a b (m * n) := by
  have hab := (szB_yes.1 hz).2.1
  have k1 := muB_yes.1 h1
  have k2 := muB_yes.1 h2
  have ea : n * (m * a) = m * n * a := by rw [← Int.mul_assoc, Int.mul_comm n m]
  have eb : n * (m * b) = m * n * b := by rw [← Int.mul_assoc, Int.mul_comm n m]
  have ma : muB (m * a) n = muB a (m * n) := muB_congr ea
  have mb : muB (m * b) n = muB b (m * n) := muB_congr eb
  by_cases hm : m < 0
  · simp only [if_pos hm]
    have hle : m * b ≤ m * a := Int.mul_le_mul_of_nonpos_left (by omega) hab
    have hs : szB (m * b) (m * a) = true := szB_yes.2 ⟨k2.1, hle, k1.2⟩
    unfold tmR
    rw [hs, hz, ma, mb, Bool.and_comm, ea, eb]
    simp only [if_true]
    split
    · by_cases hn : n < 0
      · have : 0 < m * n := Int.mul_pos_of_neg_of_neg hm hn
        rw [if_pos hn, if_pos hn, if_neg (by omega), if_neg (by omega)]
      · rw [if_neg hn, if_neg hn]
        by_cases h0 : n = 0
        · subst h0; simp
        · have : m * n < 0 := Int.mul_neg_of_neg_of_pos hm (by omega)
          rw [if_pos this, if_pos this]
    · rfl
  · simp only [if_neg hm]
    have hle : m * a ≤ m * b := Int.mul_le_mul_of_nonneg_left hab (by omega)
    have hs : szB (m * a) (m * b) = true := szB_yes.2 ⟨k1.1, hle, k2.2⟩
    unfold tmR
    rw [hs, hz, ma, mb, ea, eb]
    simp only [if_true]
    split
    · by_cases hn : n < 0
      · rw [if_pos hn, if_pos hn]
        by_cases h0 : m = 0
        · subst h0; simp
        · have : m * n < 0 := Int.mul_neg_of_pos_of_neg (by omega) hn
          rw [if_pos this, if_pos this]
      · have : 0 ≤ m * n := Int.mul_nonneg (by omega) (by omega)
        rw [if_neg hn, if_neg hn, if_neg (by omega), if_neg (by omega)]
    · rfl
theorem tm_add {a b m n : Int} (hz : szB a b = true) (hm : 0 ≤ m) (hn : 0 ≤ n) : opR true (m * a + n * a) (m * b + n * b) = tmR a b (m + n) := by
  have hab := (szB_yes.1 hz).2.1
  rw [← Int.add_mul, ← Int.add_mul]
  have hle : (m + n) * a ≤ (m + n) * b := Int.mul_le_mul_of_nonneg_left hab (by omega)
  unfold opR tmR
  have hn' : ¬ m + n < 0 := by omega
  rw [hz, sz_mu hle rfl rfl]
  simp only [if_neg hn', if_true]
theorem tm_ok {a b n : Int} (hz : szB a b = true) (h : (muB a n && muB b n) = true) : tmR a b n = (if n < 0 then n * b else n * a, if n < 0 then n * a else n * b, 0) := by unfold tmR; rw [hz, h]; rfl
theorem tm_no {a b n : Int} (hz : szB a b = true) (h : (muB a n && muB b n) = false) : tmR a b n = (0, 0, 3) := by unfold tmR; rw [hz, h]; rfl
theorem smultiples_all (a0 a1 m n : Int) (w : World) (hl : Lm w) :
    Calls Tryd.prog 6 #[SV a0 a1, .int .i64 m, .int .i64 n] w fun e w' => e = .returned (.bool true) ∧ Below w.heap.size w w' := by
  cases hz : szB a0 a1
  · exact smult_v a0 a1 m n w hl ⟨fun w => svalid_any a0 a1 w false hz⟩
  · have Z1 : Hx (∀ w, Calls Tryd.prog 13 #[SV a0 a1] w fun e w' => e = .returned (.bool true) ∧ Below w.heap.size w w') := ⟨fun w => svalid_any a0 a1 w true hz⟩
    by_cases h1 : m < -1000000
    · exact smult_m1 a0 a1 m n w hl Z1 h1
    by_cases h2 : 1000000 < m
    · exact smult_m2 a0 a1 m n w hl Z1 h1 h2
    by_cases h3 : n < -1000000
    · exact smult_m3 a0 a1 m n w hl Z1 h1 h2 h3
    by_cases h4 : 1000000 < n
    · exact smult_m4 a0 a1 m n w hl Z1 h1 h2 h3 h4
    obtain ⟨k1, k2, k3⟩ := szB_yes.1 hz
    have hT4 : tmR a0 a1 (-1) = (-a1, -a0, 0) := by
      rw [tm_ok hz (by rw [Bool.and_eq_true]; exact ⟨muB_yes.2 (by omega), muB_yes.2 (by omega)⟩)]
      simp
    have hB1 : opR (szB 0 0 && szB a0 a1) (0 - a1) (0 - a0) = (-a1, -a0, 0) := by
      have e0 : szB 0 0 = true := by decide
      have e1 : szB (-a1) (-a0) = true := szB_yes.2 ⟨by omega, by omega, by omega⟩
      rw [e0, hz, Int.zero_sub, Int.zero_sub]
      unfold opR; rw [Bool.and_self, e1]; rfl
    have T4 := Hx.mk (stimes_any a0 a1 (-1) _ _ _ hT4)
    have B1 := Hx.mk (ssub_any 0 0 a0 a1 _ _ _ hB1)
    obtain ⟨y0, y1, f, hy⟩ : ∃ y0 y1 f, tmR a0 a1 n = (y0, y1, f) := ⟨_, _, _, rfl⟩
    have T2 := Hx.mk (stimes_any a0 a1 n _ _ _ hy)
    cases hm : (muB a0 m && muB a1 m)
    · exact smult_er a0 a1 m n w hl 0 0 y0 y1 3 f k1 k3 k2 h1 h2 h3 h4 Z1 ⟨stimes_any a0 a1 m _ _ _ (tm_no hz hm)⟩ T2 T4 B1
    · have T1 := Hx.mk (stimes_any a0 a1 m _ _ _ (tm_ok hz hm))
      obtain ⟨t0, t1, c, hT6⟩ : ∃ t0 t1 c, tmR a0 a1 (m * n) = (t0, t1, c) := ⟨_, _, _, rfl⟩
      have hm' := hm
      rw [Bool.and_eq_true] at hm'
      have hT5 := (tm_tm n hz hm'.1 hm'.2).trans hT6
      have T5 := Hx.mk (stimes_any _ _ n _ _ _ hT5)
      have T6 := Hx.mk (stimes_any a0 a1 (m * n) _ _ _ hT6)
      have hp : -1000000000000 ≤ m * n ∧ m * n ≤ 1000000000000 := by
        have p1 : (m + 1000000) * (n + 1000000) ≥ 0 := Int.mul_nonneg (by omega) (by omega)
        have p2 : (1000000 - m) * (1000000 - n) ≥ 0 := Int.mul_nonneg (by omega) (by omega)
        have p3 : (m + 1000000) * (1000000 - n) ≥ 0 := Int.mul_nonneg (by omega) (by omega)
        have p4 : (1000000 - m) * (n + 1000000) ≥ 0 := Int.mul_nonneg (by omega) (by omega)
        simp only [Int.add_mul, Int.mul_add, Int.sub_mul, Int.mul_sub] at p1 p2 p3 p4
        omega
      by_cases hf : f = 0
      · subst hf
        by_cases g1 : m < 0
        · exact smult_mn a0 a1 m n w hl _ _ y0 y1 0 0 k1 k3 k2 h1 h2 h3 h4 Z1 T1 T2 g1 T4 B1 t0 t1 c hp.1 hp.2 T5 T6
        · by_cases g2 : n < 0
          · exact smult_nn a0 a1 m n w hl _ _ y0 y1 0 0 k1 k3 k2 h1 h2 h3 h4 Z1 T1 T2 (by omega) g2 T4 B1 t0 t1 c hp.1 hp.2 T5 T6
          · cases hn : (muB a0 n && muB a1 n)
            · rw [tm_no hz hn] at hy; simp at hy
            · rw [tm_ok hz hn, if_neg g2, if_neg g2] at hy
              simp only [Prod.mk.injEq] at hy
              obtain ⟨rfl, rfl, _⟩ := hy
              rw [if_neg g1, if_neg g1] at T1 T5
              obtain ⟨s0, s1, gg, hs⟩ : ∃ s0 s1 gg, tmR a0 a1 (m + n) = (s0, s1, gg) := ⟨_, _, _, rfl⟩
              have hA : opR (szB (m * a0) (m * a1) && szB (n * a0) (n * a1)) (m * a0 + n * a0) (m * a1 + n * a1) = (s0, s1, gg) := by
                have e1 : szB (m * a0) (m * a1) = true := by rw [sz_mu (Int.mul_le_mul_of_nonneg_left k2 (by omega)) rfl rfl]; exact hm
                have e2 : szB (n * a0) (n * a1) = true := by rw [sz_mu (Int.mul_le_mul_of_nonneg_left k2 (by omega)) rfl rfl]; exact hn
                rw [e1, e2, Bool.and_self, tm_add hz (by omega) (by omega)]; exact hs
              exact smult_in a0 a1 m n w hl _ _ _ _ 0 0 k1 k3 k2 h1 h2 h3 h4 Z1 T1 T2 (by omega) (by omega) s0 s1 gg ⟨sadd_any _ _ _ _ _ _ _ hA⟩ ⟨stimes_any a0 a1 (m + n) _ _ _ hs⟩ T4 B1 t0 t1 c hp.1 hp.2 T5 T6
      · exact smult_fe a0 a1 m n w hl _ _ y0 y1 0 f k1 k3 k2 h1 h2 h3 h4 Z1 T1 T2 hf T4 B1 t0 t1 c hp.1 hp.2 T5 T6
end Go.Proofs.YtdlfnonlalkjdaaDoor

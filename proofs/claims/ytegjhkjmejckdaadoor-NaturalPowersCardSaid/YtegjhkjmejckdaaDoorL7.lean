/- NaturalPowers, all ways. -/
import Derived.Test.YtegjhkjmejckdaaDoorL7b
import Derived.Test.YtegjhkjmejckdaaDoorL7c
import Derived.Test.YtegjhkjmejckdaaDoorL7d
namespace Go.Proofs.YtegjhkjmejckdaaDoor
open Go.RowKit M
theorem powers_main {va vb : Value} {a b m n : Nat} (w0 : World) (hL : Live w0 [(va, a), (vb, b)]) (hm : m ≤ 1000) (hn : n ≤ 1000) :
    Calls Tryd.prog 7 #[va, vb, .int .i64 (m : Int), .int .i64 (n : Int)] w0 fun e w' => e = .returned (.bool true) ∧ Below w0.heap.size w0 w' := by
  have k1 : (0 : Int) ≤ (m : Int) := by omega
  have k2 : (m : Int) ≤ 1000 := by omega
  have k3 : (0 : Int) ≤ (n : Int) := by omega
  have k4 : (n : Int) ≤ 1000 := by omega
  rcases fits_or (a ^ n) with h2 | h2
  · rcases fits_or (a ^ m) with h1 | h1
    · rcases fits_or (a ^ (m + n)) with h3 | h3
      · have h4 : Fits (a ^ m * a ^ n) := by rw [← Nat.pow_add]; exact h3
        rcases fits_or (a * b) with h5 | h5
        · rcases fits_or (b ^ n) with h6 | h6
          · rcases fits_or ((a * b) ^ n) with h7 | h7
            · exact powers_mok_nok_s_kkk w0 hL hm hn k1 k2 k3 k4 h1 h2 h3 h4 h5 h6 h7 (by rw [← Nat.mul_pow]; exact h7)
            · exact powers_mok_nok_s_kko w0 hL hm hn k1 k2 k3 k4 h1 h2 h3 h4 h5 h6 h7
          · exact powers_mok_nok_s_ko w0 hL hm hn k1 k2 k3 k4 h1 h2 h3 h4 h5 h6
        · exact powers_mok_nok_s_o w0 hL hm hn k1 k2 k3 k4 h1 h2 h3 h4 h5
      · have h4 : Over (a ^ m * a ^ n) := by rw [← Nat.pow_add]; exact h3
        rcases fits_or (a * b) with h5 | h5
        · rcases fits_or (b ^ n) with h6 | h6
          · rcases fits_or ((a * b) ^ n) with h7 | h7
            · exact powers_mok_nok_o_kkk w0 hL hm hn k1 k2 k3 k4 h1 h2 h3 h4 h5 h6 h7 (by rw [← Nat.mul_pow]; exact h7)
            · exact powers_mok_nok_o_kko w0 hL hm hn k1 k2 k3 k4 h1 h2 h3 h4 h5 h6 h7
          · exact powers_mok_nok_o_ko w0 hL hm hn k1 k2 k3 k4 h1 h2 h3 h4 h5 h6
        · exact powers_mok_nok_o_o w0 hL hm hn k1 k2 k3 k4 h1 h2 h3 h4 h5
    · rcases fits_or (a * b) with h5 | h5
      · rcases fits_or (b ^ n) with h6 | h6
        · rcases fits_or ((a * b) ^ n) with h7 | h7
          · exact powers_mo_nok_kkk w0 hL hm hn k1 k2 k3 k4 h1 h2 h5 h6 h7 (by rw [← Nat.mul_pow]; exact h7)
          · exact powers_mo_nok_kko w0 hL hm hn k1 k2 k3 k4 h1 h2 h5 h6 h7
        · exact powers_mo_nok_ko w0 hL hm hn k1 k2 k3 k4 h1 h2 h5 h6
      · exact powers_mo_nok_o w0 hL hm hn k1 k2 k3 k4 h1 h2 h5
  · rcases fits_or (a ^ m) with h1 | h1
    · rcases fits_or (a * b) with h5 | h5
      · exact powers_mok_no_v w0 hL hm hn k1 k2 k3 k4 h1 h2 h5
      · exact powers_mok_no_o w0 hL hm hn k1 k2 k3 k4 h1 h2 h5
    · rcases fits_or (a * b) with h5 | h5
      · exact powers_mo_no_v w0 hL hm hn k1 k2 k3 k4 h1 h2 h5
      · exact powers_mo_no_o w0 hL hm hn k1 k2 k3 k4 h1 h2 h5
theorem powers_all {va vb : Value} {m n : Int} (w0 : World) (h0 : (∃ n, Nm w0 va n) ∨ ∀ w', Below w0.heap.size w0 w' → Calls Tryd.prog 13 #[va] w' fun e w2 => e = .returned (.bool false) ∧ w' = w2)
    (h1 : (∃ n, Nm w0 vb n) ∨ ∀ w', Below w0.heap.size w0 w' → Calls Tryd.prog 13 #[vb] w' fun e w2 => e = .returned (.bool false) ∧ w' = w2) :
    Calls Tryd.prog 7 #[va, vb, .int .i64 m, .int .i64 n] w0 fun e w' => e = .returned (.bool true) ∧ Below w0.heap.size w0 w' := by
  rcases h0 with ⟨a, ha⟩ | h0
  · rcases h1 with ⟨b, hb⟩ | h1
    · have hL : Live w0 [(va, a), (vb, b)] := fun p hp => by simp at hp; rcases hp with rfl | rfl <;> assumption
      by_cases c1 : m < 0
      · exact powers_m0 w0 hL c1
      · by_cases c2 : 1000 < m
        · exact powers_m1 w0 hL (by omega) c2
        · by_cases c3 : n < 0
          · exact powers_n0 w0 hL (by omega) (by omega) c3
          · by_cases c4 : 1000 < n
            · exact powers_n1 w0 hL (by omega) (by omega) (by omega) c4
            · obtain ⟨m', rfl⟩ : ∃ k : Nat, m = (k : Int) := ⟨m.toNat, by omega⟩
              obtain ⟨n', rfl⟩ : ∃ k : Nat, n = (k : Int) := ⟨n.toNat, by omega⟩
              exact powers_main w0 hL (by omega) (by omega)
    · exact powers_bad2 w0 (fun p hp => by simp at hp; subst hp; exact ha) h1
  · exact powers_bad1 w0 h0
end Go.Proofs.YtegjhkjmejckdaaDoor

/- Plain arithmetic of the long division: windows of a list, one step of a subtraction of a product, guesses. -/
import Derived.Test.YtegjhkjmejckdaaDoorMath
namespace Go.Proofs.YtegjhkjmejckdaaDoor.M
/-- The list R with k limbs from d on replaced by C. -/
def Win (R : List Int) (d k : Nat) (C R' : List Int) : Prop := C.length = k ∧ R' = R.take d ++ C ++ R.drop (d + k)
theorem Win.nil (R : List Int) (d : Nat) : Win R d 0 [] R := ⟨rfl, by simp⟩
theorem Win.len {R : List Int} {d k : Nat} {C R' : List Int} (h : Win R d k C R') (hd : d + k ≤ R.length) : R'.length = R.length := by
  obtain ⟨hC, rfl⟩ := h; simp [hC]; omega
theorem Win.get {R : List Int} {d k : Nat} {C R' : List Int} (h : Win R d k C R') (hd : d + k < R.length) : R'.getD (d + k) 0 = R.getD (d + k) 0 := by
  obtain ⟨hC, rfl⟩ := h
  have hX : (R.take d).length = d := by rw [List.length_take]; omega
  rw [List.getD_eq_getElem?_getD, List.getElem?_append_right (by simp [hC]; omega)]
  simp [hC, Nat.min_eq_left (show d ≤ R.length by omega), List.getD]
theorem Win.set {R : List Int} {d k : Nat} {C R' : List Int} (h : Win R d k C R') (hd : d + k < R.length) (x : Int) : Win R d (k + 1) (C ++ [x]) (R'.set (d + k) x) := by
  obtain ⟨hC, rfl⟩ := h
  have hX : (R.take d).length = d := by rw [List.length_take]; omega
  refine ⟨by simp [hC], ?_⟩
  rw [drop_step R (d + k) (by omega), List.set_append_right _ _ (by simp [hC]; omega)]
  have e : d + k - (R.take d ++ C).length = 0 := by simp [hC, hX]
  rw [e, List.set_cons_zero, Nat.add_assoc]; simp
/-- A window of a window. -/
theorem Win.again {R R1 R2 : List Int} {d k : Nat} {C C' : List Int} (h : Win R d k C R1) (h' : Win R1 d k C' R2) (hd : d + k ≤ R.length) : Win R d k C' R2 ∧ (R1.drop d).take k = C := by
  obtain ⟨hC, rfl⟩ := h
  obtain ⟨hC', rfl⟩ := h'
  have hX : (R.take d).length = d := by rw [List.length_take]; omega
  have e1 : (R.take d ++ C ++ R.drop (d + k)).take d = R.take d := by
    rw [List.append_assoc, List.take_append_of_le_length (by omega), List.take_of_length_le (by omega)]
  have e2 : (R.take d ++ C ++ R.drop (d + k)).drop (d + k) = R.drop (d + k) := by
    rw [List.drop_append_of_le_length (by simp [hC]; omega), List.drop_eq_nil_of_le (by simp [hC]; omega)]; rfl
  have e3 : (R.take d ++ C ++ R.drop (d + k)).drop d = C ++ R.drop (d + k) := by
    rw [List.append_assoc, List.drop_append_of_le_length (by omega), List.drop_eq_nil_of_le (by omega)]; rfl
  refine ⟨⟨hC', by rw [e1, e2]⟩, ?_⟩
  rw [e3, List.take_append_of_le_length (by omega), List.take_of_length_le (by omega)]
theorem Win.val {R R1 : List Int} {d k : Nat} {C : List Int} (h : Win R d k C R1) (hd : d + k ≤ R.length) : val R1 = val (R.take d) + pw d * val C + pw (d + k) * val (R.drop (d + k)) := by
  obtain ⟨hC, rfl⟩ := h
  have hX : (R.take d).length = d := by rw [List.length_take]; omega
  rw [val_append, val_append, List.length_append, hX, hC]
theorem val_win (R : List Int) (d k : Nat) (hd : d + k ≤ R.length) : val R = val (R.take d) + pw d * val ((R.drop d).take k) + pw (d + k) * val (R.drop (d + k)) := by
  have h : Win R d k ((R.drop d).take k) R := ⟨by rw [List.length_take, List.length_drop]; omega, by
    have e : R.drop d = (R.drop d).take k ++ R.drop (d + k) := by rw [← List.drop_drop, List.take_append_drop]
    conv => lhs; rw [← List.take_append_drop d R, e]
    simp⟩
  exact h.val hd
theorem win_get (R : List Int) (d k : Nat) : (R.drop d).getD k 0 = R.getD (d + k) 0 := by simp [List.getD, List.getElem?_drop]
theorem sub2_step (P l x y c b s t : Int) (h : s = t + P * (c + b)) :
    s + P * ((l - (c + x * y) % 4294967296 - b) % 4294967296) = t + P * l - x * (P * y) + 4294967296 * P * ((c + x * y) / 4294967296 + -((l - (c + x * y) % 4294967296 - b) / 4294967296)) := by
  have e1 : (c + x * y) % 4294967296 + 4294967296 * ((c + x * y) / 4294967296) = c + x * y := Int.emod_add_mul_ediv _ _
  generalize (c + x * y) / 4294967296 = u at *
  generalize hm : (c + x * y) % 4294967296 = m at *
  have e2 : (l - m - b) % 4294967296 + 4294967296 * ((l - m - b) / 4294967296) = l - m - b := Int.emod_add_mul_ediv _ _
  generalize (l - m - b) / 4294967296 = v at *
  generalize (l - m - b) % 4294967296 = z at *
  have hz : z = l - m - b - 4294967296 * v := by omega
  have hmm : m = c + x * y - 4294967296 * u := by omega
  have e3 : P * z = P * l - P * c - x * (P * y) - P * b + 4294967296 * P * u - 4294967296 * P * v := by
    rw [hz, hmm]
    simp only [Int.mul_sub, Int.mul_add]
    rw [Int.mul_left_comm P x y, Int.mul_left_comm P 4294967296 u, Int.mul_left_comm P 4294967296 v, ← Int.mul_assoc 4294967296 P u, ← Int.mul_assoc 4294967296 P v]
    omega
  rw [h, e3, Int.mul_add, Int.mul_add, Int.mul_neg]
  omega
theorem addBack_step {R A C : List Int} {d k : Nat} {cy l y : Int} (hC : C.length = k) (hl : R.getD (d + k) 0 = l) (hy : A.getD k 0 = y) (h : val C + pw k * cy = val ((R.drop d).take k) + val (A.take k)) :
    val (C ++ [(l + y + cy) % 4294967296]) + pw (k + 1) * ((l + y + cy) / 4294967296) = val ((R.drop d).take (k + 1)) + val (A.take (k + 1)) := by
  have e := sum_step (pw k) l y cy _ _ h
  rw [val_snoc, hC, val_take_succ', val_take_succ', win_get, hl, hy, pw_succ]
  omega
theorem subTimes_step {R A C : List Int} {d k : Nat} {c b x l y : Int} (hC : C.length = k) (hl : R.getD (d + k) 0 = l) (hy : A.getD k 0 = y) (h : val C = val ((R.drop d).take k) - x * val (A.take k) + pw k * (c + b)) :
    val (C ++ [(l - (c + x * y) % 4294967296 - b) % 4294967296]) = val ((R.drop d).take (k + 1)) - x * val (A.take (k + 1)) + pw (k + 1) * ((c + x * y) / 4294967296 + -((l - (c + x * y) % 4294967296 - b) / 4294967296)) := by
  have e := sub2_step (pw k) l x y c b _ _ h
  rw [val_snoc, hC, val_take_succ', val_take_succ', win_get, hl, hy, pw_succ, Int.mul_add x]
  omega
/-- The guess of a quotient's limb. -/
def gv (high low d : Int) : Int := if high ≥ d then 4294967295 else (high * 4294967296 + low) / d
theorem gv_bounds {h l d : Int} (h0 : 0 ≤ h) (l0 : 0 ≤ l) (l1 : l < 4294967296) (d0 : 0 < d) : 0 ≤ gv h l d ∧ gv h l d < 4294967296 := by
  unfold gv
  split
  · omega
  · refine ⟨Int.ediv_nonneg (by omega) (by omega), Int.ediv_lt_of_lt_mul d0 ?_⟩
    have : (h + 1) * 4294967296 ≤ 4294967296 * d := by omega
    omega
theorem guess_ge {X A : List Int} {n : Nat} (hX : Ok X) (hA : Ok A) (hn : n ≠ 0) (hXn : X.length = n + 1) (hAn : A.length = n) (hd : 0 < A.getD (n - 1) 0) (hV : val X < 4294967296 * val A) :
    val X / val A ≤ gv (X.getD n 0) (X.getD (n - 1) 0) (A.getD (n - 1) 0) := by
  obtain ⟨m, rfl⟩ : ∃ m, n = m + 1 := ⟨n - 1, by omega⟩
  simp only [Nat.add_sub_cancel] at *
  have hX2 : val X = val (X.take m) + pw m * X.getD m 0 + pw (m + 1) * X.getD (m + 1) 0 := by
    have e := val_take_succ X (m + 1) (by omega)
    rw [List.take_of_length_le (by omega), val_take_succ X m (by omega)] at e; exact e
  have hA2 : val A = val (A.take m) + pw m * A.getD m 0 := by
    have e := val_take_succ A m (by omega)
    rw [List.take_of_length_le (by omega)] at e; exact e
  have hp := pw_pos m
  have hx := hX.getD m
  have hh := hX.getD (m + 1)
  have hxl := val_lt (hX.take m)
  rw [List.length_take, Nat.min_eq_left (by omega)] at hxl
  have hal := val_nonneg (hA.take m)
  have hDpos : 0 < val A := by
    have : 0 < pw m * A.getD m 0 := Int.mul_pos hp hd
    omega
  have hVn := val_nonneg hX
  unfold gv
  split
  · have : val X / val A < 4294967296 := Int.ediv_lt_of_lt_mul hDpos (by omega)
    omega
  · refine Int.le_ediv_of_mul_le hd ?_
    have h1 : val X / val A * val A ≤ val X := Int.ediv_mul_le _ (by omega)
    have hq : 0 ≤ val X / val A := Int.ediv_nonneg hVn (by omega)
    generalize val X / val A = q at *
    have h2 : q * (pw m * A.getD m 0) ≤ q * val A := Int.mul_le_mul_of_nonneg_left (by omega) hq
    have h3 : pw m * (q * A.getD m 0) < pw m * (X.getD (m + 1) 0 * 4294967296 + X.getD m 0 + 1) := by
      have e1 : pw m * (q * A.getD m 0) = q * (pw m * A.getD m 0) := Int.mul_left_comm _ _ _
      have e2 : pw m * (X.getD (m + 1) 0 * 4294967296 + X.getD m 0 + 1) = pw (m + 1) * X.getD (m + 1) 0 + pw m * X.getD m 0 + pw m := by
        rw [Int.mul_add, Int.mul_add, pw_succ, Int.mul_one, Int.mul_comm (X.getD (m + 1) 0) 4294967296, Int.mul_left_comm, Int.mul_assoc]
      omega
    have h4 := Int.lt_of_mul_lt_mul_left h3 (by omega)
    omega
end Go.Proofs.YtegjhkjmejckdaaDoor.M

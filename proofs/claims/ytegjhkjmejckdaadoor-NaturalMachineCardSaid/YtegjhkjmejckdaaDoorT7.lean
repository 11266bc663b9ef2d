/- natural's exported functions over numbers. -/
import Derived.Test.YtegjhkjmejckdaaDoorT5
import Derived.Test.YtegjhkjmejckdaaDoorT6
namespace Go.Proofs.YtegjhkjmejckdaaDoor
open Go.RowKit M
/-- A number is in bounds. -/
structure Fits (a : Nat) : Prop where
  lt : (a : Int) < pw 640
structure Over (a : Nat) : Prop where
  le : pw 640 ≤ (a : Int)
theorem fits_or (a : Nat) : Fits a ∨ Over a := by
  by_cases h : (a : Int) < pw 640
  · exact Or.inl ⟨h⟩
  · exact Or.inr ⟨by omega⟩
theorem Fits.mono {a b : Nat} (h : Fits b) (hab : a ≤ b) : Fits a := ⟨by have := h.lt; omega⟩
theorem Over.mono {a b : Nat} (h : Over a) (hab : a ≤ b) : Over b := ⟨by have := h.le; omega⟩
theorem Fits.not {a : Nat} (h : Fits a) (k : Over a) : False := by have := h.lt; have := k.le; omega
/-- A value that reads as a number. -/
structure Nm (w : World) (v : Value) (a : Nat) : Prop where
  fits : Fits a
  rd : Rd w v (limbs a)
theorem Nm.keep {w w' : World} {v : Value} {a : Nat} (h : Nm w v a) (hb : Below w.heap.size w w') : Nm w' v a := ⟨h.fits, h.rd.keep hb⟩
theorem Nm.nil (w : World) : Nm w (.slice none 0 0) 0 := ⟨⟨by have := pw_pos 640; simpa using this⟩, by rw [limbs_zero]; exact Rd.nil w⟩
theorem Nm.shape {w : World} {v : Value} {a : Nat} (h : Nm w v a) : ∃ ao cap, v = .slice ao (limbs a).length cap ∧ CellsK .u32 w ao (limbs a) :=
  let ⟨ao, cap, e, _, _, h3⟩ := h.rd.shape; ⟨ao, cap, e, h3⟩
/-- All these values read as numbers. -/
def Live (w : World) (L : List (Value × Nat)) : Prop := ∀ p ∈ L, Nm w p.1 p.2
theorem Live.keep {w w' : World} {L : List (Value × Nat)} (h : Live w L) (hb : Below w.heap.size w w') : Live w' L := fun p hp => (h p hp).keep hb
theorem Live.cons {w : World} {v : Value} {a : Nat} {L : List (Value × Nat)} (h : Nm w v a) (hL : Live w L) : Live w ((v, a) :: L) := fun p hp => by
  rcases List.mem_cons.1 hp with e | e
  · subst e; exact h
  · exact hL p e
/-- What a call with a number and a code as its results leaves. -/
def Step (w : World) (L : List (Value × Nat)) (s : Nat) (c : Int) (e : Ending) (w' : World) : Prop := ∃ v, e = .returned (.tuple #[v, .int .i64 c]) ∧ Live w' ((v, s) :: L) ∧ Below w.heap.size w w'
theorem Step.of {w : World} {L : List (Value × Nat)} {s : Nat} {c : Int} {e : Ending} {w' : World} (hL : Live w L) (hs : Fits s) (h : OutN w s c e w') : Step w L s c e w' :=
  let ⟨v, he, hr, hb⟩ := h; ⟨v, he, (hL.keep hb).cons ⟨hs, hr⟩, hb⟩
theorem fits_zero : Fits 0 := (Nm.nil default).fits
section
variable {w : World} {L : List (Value × Nat)} {va vb : Value} {a b : Nat}
theorem add_ok (hL : Live w L) (ha : (va, a) ∈ L) (hb : (vb, b) ∈ L) (hs : Fits (a + b)) : Calls Tryd.prog 18 #[va, vb] w (Step w L (a + b) 0) := by
  have na : Nm w va a := hL _ ha
  have nb : Nm w vb b := hL _ hb
  obtain ⟨ao, ca, e1, hca⟩ := na.shape
  obtain ⟨bo, cb, e2, hcb⟩ := nb.shape
  subst e1 e2
  refine (add_gen ao bo _ _ _ _ ca cb w rfl rfl hca hcb (isNat_limbs na.fits.lt) (isNat_limbs nb.fits.lt) (a + b) fun w3 h => ?_).mono fun _ _ h => Step.of hL hs h
  have e : val (limbs a) + val (limbs b) = ((a + b : Nat) : Int) := by rw [val_limbs, val_limbs]; push_cast; rfl
  refine sum_any ao bo _ _ _ _ ca cb w3 _ rfl rfl (by have := limbs_length_le.2 na.fits.lt; omega) (by have := limbs_length_le.2 nb.fits.lt; omega) rfl (ok_limbs a) (ok_limbs b) (hca.keep h) (hcb.keep h) _ (fun _ _ _ h => by rw [e, Int.toNat_natCast] at h; exact h) (fun h => by rw [e] at h; exact absurd ⟨h⟩ (fun k => hs.not k))
theorem add_over (hL : Live w L) (ha : (va, a) ∈ L) (hb : (vb, b) ∈ L) (hs : Over (a + b)) : Calls Tryd.prog 18 #[va, vb] w (Step w L 0 2) := by
  have na : Nm w va a := hL _ ha
  have nb : Nm w vb b := hL _ hb
  obtain ⟨ao, ca, e1, hca⟩ := na.shape
  obtain ⟨bo, cb, e2, hcb⟩ := nb.shape
  subst e1 e2
  refine (add_gen_raised ao bo _ _ _ _ ca cb w rfl rfl hca hcb (isNat_limbs na.fits.lt) (isNat_limbs nb.fits.lt) 2 fun w3 h => ?_).mono fun _ _ h => Step.of hL fits_zero h
  have e : val (limbs a) + val (limbs b) = ((a + b : Nat) : Int) := by rw [val_limbs, val_limbs]; push_cast; rfl
  refine sum_any ao bo _ _ _ _ ca cb w3 _ rfl rfl (by have := limbs_length_le.2 na.fits.lt; omega) (by have := limbs_length_le.2 nb.fits.lt; omega) rfl (ok_limbs a) (ok_limbs b) (hca.keep h) (hcb.keep h) _ (fun h => by rw [e] at h; have := hs.le; omega) (fun _ _ _ h => h)
theorem sub_ok (hL : Live w L) (ha : (va, a) ∈ L) (hb : (vb, b) ∈ L) (hs : b ≤ a) : Calls Tryd.prog 20 #[va, vb] w (Step w L (a - b) 0) := by
  have na : Nm w va a := hL _ ha
  have nb : Nm w vb b := hL _ hb
  obtain ⟨ao, ca, e1, hca⟩ := na.shape
  obtain ⟨bo, cb, e2, hcb⟩ := nb.shape
  subst e1 e2
  refine (sub_gen ao bo _ _ _ _ ca cb w rfl rfl hca hcb (isNat_limbs na.fits.lt) (isNat_limbs nb.fits.lt) (a - b) fun w3 h => ?_).mono fun _ _ h => Step.of hL (na.fits.mono (Nat.sub_le _ _)) h
  have e : (val (limbs a) - val (limbs b)).toNat = a - b := by rw [val_limbs, val_limbs]; omega
  rw [← e]
  exact difference_ge ao bo _ _ _ _ ca cb w3 rfl rfl (by have := limbs_length_le.2 na.fits.lt; omega) (by have := limbs_length_le.2 nb.fits.lt; omega) (ok_limbs a) (ok_limbs b) (limbs_last a) (limbs_last b) (hca.keep h) (hcb.keep h) (by rw [val_limbs, val_limbs]; omega)
theorem sub_under (hL : Live w L) (ha : (va, a) ∈ L) (hb : (vb, b) ∈ L) (hs : a < b) : Calls Tryd.prog 20 #[va, vb] w (Step w L 0 3) := by
  have na : Nm w va a := hL _ ha
  have nb : Nm w vb b := hL _ hb
  obtain ⟨ao, ca, e1, hca⟩ := na.shape
  obtain ⟨bo, cb, e2, hcb⟩ := nb.shape
  subst e1 e2
  refine (sub_gen_raised ao bo _ _ _ _ ca cb w rfl rfl hca hcb (isNat_limbs na.fits.lt) (isNat_limbs nb.fits.lt) 3 fun w3 h => ?_).mono fun _ _ h => Step.of hL fits_zero h
  exact difference_lt ao bo _ _ _ _ ca cb w3 rfl rfl (by have := limbs_length_le.2 na.fits.lt; omega) (by have := limbs_length_le.2 nb.fits.lt; omega) (ok_limbs a) (ok_limbs b) (limbs_last a) (limbs_last b) (hca.keep h) (hcb.keep h) (by rw [val_limbs, val_limbs]; omega)
theorem mul_ok (hL : Live w L) (ha : (va, a) ∈ L) (hb : (vb, b) ∈ L) (hs : Fits (a * b)) : Calls Tryd.prog 22 #[va, vb] w (Step w L (a * b) 0) := by
  have na : Nm w va a := hL _ ha
  have nb : Nm w vb b := hL _ hb
  obtain ⟨ao, ca, e1, hca⟩ := na.shape
  obtain ⟨bo, cb, e2, hcb⟩ := nb.shape
  subst e1 e2
  exact (mul_gen ao bo _ _ _ _ ca cb w rfl rfl hca hcb (isNat_limbs na.fits.lt) (isNat_limbs nb.fits.lt) (a * b) fun w3 h => product_ok ao bo a b _ _ ca cb w3 rfl rfl na.fits.lt nb.fits.lt (hca.keep h) (hcb.keep h) hs.lt).mono fun _ _ h => Step.of hL hs h
theorem mul_big (hL : Live w L) (ha : (va, a) ∈ L) (hb : (vb, b) ∈ L) (hs : Over (a * b)) : Calls Tryd.prog 22 #[va, vb] w (Step w L 0 2) := by
  have na : Nm w va a := hL _ ha
  have nb : Nm w vb b := hL _ hb
  obtain ⟨ao, ca, e1, hca⟩ := na.shape
  obtain ⟨bo, cb, e2, hcb⟩ := nb.shape
  subst e1 e2
  exact (mul_gen_raised ao bo _ _ _ _ ca cb w rfl rfl hca hcb (isNat_limbs na.fits.lt) (isNat_limbs nb.fits.lt) 2 fun w3 h => product_over ao bo a b _ _ ca cb w3 rfl rfl na.fits.lt nb.fits.lt (hca.keep h) (hcb.keep h) hs.le).mono fun _ _ h => Step.of hL fits_zero h
theorem cmp_ok (hL : Live w L) (ha : (va, a) ∈ L) (hb : (vb, b) ∈ L) : Calls Tryd.prog 28 #[va, vb] w fun e w' => e = .returned (.tuple #[.int .i64 (cmpI a b), .int .i64 0]) ∧ Live w' L ∧ Below w.heap.size w w' := by
  have na : Nm w va a := hL _ ha
  have nb : Nm w vb b := hL _ hb
  obtain ⟨ao, ca, e1, hca⟩ := na.shape
  obtain ⟨bo, cb, e2, hcb⟩ := nb.shape
  subst e1 e2
  refine (cmp_gen ao bo _ _ _ _ ca cb w rfl rfl hca hcb (isNat_limbs na.fits.lt) (isNat_limbs nb.fits.lt) (cmpI a b) fun w3 h => ?_).mono fun _ _ h => ⟨h.1, hL.keep h.2, h.2⟩
  have := compare_any ao bo _ _ _ _ ca cb w3 rfl rfl (by have := limbs_length_le.2 na.fits.lt; omega) (by have := limbs_length_le.2 nb.fits.lt; omega) (ok_limbs a) (ok_limbs b) (limbs_last a) (limbs_last b) (hca.keep h) (hcb.keep h)
  rw [val_limbs, val_limbs] at this
  exact this
/-- What Div leaves. -/
def StepD (w : World) (L : List (Value × Nat)) (q r : Nat) (c : Int) (e : Ending) (w' : World) : Prop := ∃ v1 v2, e = .returned (.tuple #[v1, v2, .int .i64 c]) ∧ Live w' ((v1, q) :: (v2, r) :: L) ∧ Below w.heap.size w w'
theorem StepD.of {q r : Nat} {c : Int} {e : Ending} {w' : World} (hL : Live w L) (hq : Fits q) (hr : Fits r) (h : OutD w q r c e w') : StepD w L q r c e w' :=
  let ⟨v1, v2, he, h1, h2, hb⟩ := h; ⟨v1, v2, he, ((hL.keep hb).cons ⟨hr, h2⟩).cons ⟨hq, h1⟩, hb⟩
theorem div_ok (hL : Live w L) (ha : (va, a) ∈ L) (hb : (vb, b) ∈ L) (h0 : b ≠ 0) : Calls Tryd.prog 24 #[va, vb] w (StepD w L (a / b) (a % b) 0) := by
  have na : Nm w va a := hL _ ha
  have nb : Nm w vb b := hL _ hb
  obtain ⟨ao, ca, e1, hca⟩ := na.shape
  obtain ⟨bo, cb, e2, hcb⟩ := nb.shape
  subst e1 e2
  exact (div_gen ao bo _ _ _ _ ca cb w rfl rfl hca hcb (isNat_limbs na.fits.lt) (isNat_limbs nb.fits.lt) (a / b) (a % b) fun w3 h => quotient_any ao bo a b _ _ ca cb w3 rfl rfl na.fits.lt nb.fits.lt h0 (hca.keep h) (hcb.keep h)).mono fun _ _ h => StepD.of hL (na.fits.mono (Nat.div_le_self _ _)) (na.fits.mono (Nat.mod_le _ _)) h
theorem div_zero (hL : Live w L) (ha : (va, a) ∈ L) (hb : (vb, 0) ∈ L) : Calls Tryd.prog 24 #[va, vb] w (StepD w L 0 0 7) := by
  have na : Nm w va a := hL _ ha
  have nb : Nm w vb 0 := hL _ hb
  obtain ⟨ao, ca, e1, hca⟩ := na.shape
  obtain ⟨bo, cb, e2, hcb⟩ := nb.shape
  rw [limbs_zero] at e2
  subst e1 e2
  exact (div_gen_zero ao bo _ _ ca cb w rfl hca (isNat_limbs na.fits.lt)).mono fun _ _ h => StepD.of hL fits_zero fits_zero h
theorem pow_ok (x : Nat) (hL : Live w L) (ha : (va, a) ∈ L) (hx : x < 2 ^ 63) (hs : Fits (a ^ x)) : Calls Tryd.prog 26 #[va, .int .i64 x] w (Step w L (a ^ x) 0) := by
  have na : Nm w va a := hL _ ha
  obtain ⟨ao, ca, e1, hca⟩ := na.shape
  subst e1
  refine (pow_gen ao _ _ ca x w rfl hca (isNat_limbs na.fits.lt) (a ^ x) fun w3 h => ?_).mono fun _ _ h => Step.of hL hs h
  exact power_any ao a x _ ca w3 na.fits.lt rfl hx (hca.keep h) _ (fun _ _ _ h => h) (fun h => absurd ⟨h⟩ (fun k => hs.not k))
theorem pow_over (x : Nat) (hL : Live w L) (ha : (va, a) ∈ L) (hx : x < 2 ^ 63) (hs : Over (a ^ x)) : Calls Tryd.prog 26 #[va, .int .i64 x] w (Step w L 0 2) := by
  have na : Nm w va a := hL _ ha
  obtain ⟨ao, ca, e1, hca⟩ := na.shape
  subst e1
  refine (pow_gen_raised ao _ _ ca x w rfl hca (isNat_limbs na.fits.lt) 2 fun w3 h => ?_).mono fun _ _ h => Step.of hL fits_zero h
  exact power_any ao a x _ ca w3 na.fits.lt rfl hx (hca.keep h) _ (fun h => absurd hs (fun k => Fits.not ⟨h⟩ k)) (fun _ _ _ h => h)
/-- The text of a number. -/
def tx (a : Nat) : ByteArray := strOfNums (text a)
theorem text_ok (hL : Live w L) (ha : (va, a) ∈ L) : Calls Tryd.prog 30 #[va] w fun e w' => e = .returned (.tuple #[.string (tx a), .int .i64 0]) ∧ Live w' L ∧ Below w.heap.size w w' := by
  have na : Nm w va a := hL _ ha
  obtain ⟨ao, ca, e1, hca⟩ := na.shape
  subst e1
  refine (text_gen ao _ _ ca w rfl hca (isNat_limbs na.fits.lt) (tx a) fun w3 h => ?_).mono fun _ _ h => ⟨h.1, hL.keep h.2, h.2⟩
  by_cases h0 : a = 0
  · subst h0
    have e : (limbs 0).length = 0 := by rw [limbs_zero]; rfl
    rw [e]
    refine (decimal_zero ao ca w3).mono fun _ _ h => ⟨by rw [h.1]; rfl, by rw [h.2]; exact Below.refl _ _⟩
  · have et : tx a = strOfNums (dig a).reverse := by simp [tx, text, h0]
    rw [et]
    exact decimal_pos ao a _ ca w3 h0 rfl na.fits.lt (hca.keep h)
theorem parse_ok (s : ByteArray) (hL : Live w L) (hsz : s.size ≤ maxLen) (hd : isDec (letters s) = true) (hs : Fits (dval (letters s))) : Calls Tryd.prog 32 #[.string s] w (Step w L (dval (letters s)) 0) := by
  have hr : ∀ x ∈ letters s, 48 ≤ x ∧ x ≤ 57 := by
    simp only [isDec, Bool.and_eq_true, List.all_eq_true, decide_eq_true_eq] at hd
    exact fun x hx => hd.1.2 x hx
  exact (parse_gen s w hsz hd _ fun w3 => number_any s w3 hsz hr _ (fun _ _ _ h => h) (fun h => absurd ⟨h⟩ (fun k => hs.not k))).mono fun _ _ h => Step.of hL hs h
theorem parse_over (s : ByteArray) (hL : Live w L) (hsz : s.size ≤ maxLen) (hd : isDec (letters s) = true) (hs : Over (dval (letters s))) : Calls Tryd.prog 32 #[.string s] w (Step w L 0 2) := by
  have hr : ∀ x ∈ letters s, 48 ≤ x ∧ x ≤ 57 := by
    simp only [isDec, Bool.and_eq_true, List.all_eq_true, decide_eq_true_eq] at hd
    exact fun x hx => hd.1.2 x hx
  exact (parse_gen_raised s w hsz hd 2 fun w3 => number_any s w3 hsz hr _ (fun h => absurd hs (fun k => Fits.not ⟨h⟩ k)) (fun _ _ _ h => h)).mono fun _ _ h => Step.of hL fits_zero h
theorem parse_not (s : ByteArray) (hL : Live w L) (hsz : s.size ≤ maxLen) (hd : isDec (letters s) = false) : Calls Tryd.prog 32 #[.string s] w (Step w L 0 8) :=
  (parse_bad s w hsz hd).mono fun _ _ h => Step.of hL fits_zero h
theorem fits_u64 {x : Nat} (hx : x < 18446744073709551616) : Fits x := by
  refine ⟨?_⟩
  have h2 : pw 2 = 18446744073709551616 := by simp [pw]
  have := pw_le (show 2 ≤ 640 by omega)
  omega
theorem make_ok (x : Nat) (hL : Live w L) (hx : x < 18446744073709551616) : Calls Tryd.prog 16 #[.int .u64 x] w fun e w' => ∃ v, e = .returned v ∧ Live w' ((v, x) :: L) ∧ Below w.heap.size w w' :=
  (make_any x w hx).mono fun _ _ ⟨v, he, hr, hb⟩ => ⟨v, he, (hL.keep hb).cons ⟨fits_u64 hx, hr⟩, hb⟩
theorem valid_ok (hL : Live w L) (ha : (va, a) ∈ L) : Calls Tryd.prog 13 #[va] w fun e w' => e = .returned (.bool true) ∧ w = w' := by
  have na : Nm w va a := hL _ ha
  obtain ⟨ao, ca, e1, hca⟩ := na.shape
  subst e1
  refine (valid_any ao _ _ ca w rfl hca).mono fun _ _ h => ⟨by rw [h.1, isNat_limbs na.fits.lt], h.2⟩
end
end Go.Proofs.YtegjhkjmejckdaaDoor

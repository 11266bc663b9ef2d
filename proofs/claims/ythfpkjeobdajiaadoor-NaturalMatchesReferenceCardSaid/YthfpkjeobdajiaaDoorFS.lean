/- natural numbers: each exported function and the reference's answer the same. -/
import Derived.Test.YthfpkjeobdajiaaDoorFR
namespace Go.Proofs.YthfpkjeobdajiaaDoor
open Go.RowKit M
/-- A slice of limbs that came in, number or not. -/
structure Row (w : World) (ao : Option Addr) (l : List Int) (n cap : Nat) : Prop where
  len : l.length = n
  ok : Ok l
  cells : CellsK .u32 w ao l
  le : n ≤ cap
  max : cap ≤ maxLen
  none : ao = none → n = 0 ∧ cap = 0
theorem Row.keep {w w' : World} {ao : Option Addr} {l : List Int} {n cap : Nat} (h : Row w ao l n cap) (hb : Below w.heap.size w w') : Row w' ao l n cap := ⟨h.len, h.ok, h.cells.keep hb, h.le, h.max, h.none⟩
theorem Row.nm {w : World} {ao : Option Addr} {a n cap : Nat} (h : Row w ao (limbs a) n cap) (hf : Fits a) : Nm w (.slice ao n cap) a :=
  ⟨hf, h.ok, ao, cap, by rw [h.len], by rw [h.len]; exact h.le, h.max, h.cells⟩
theorem row_row {w : World} {a : Option Addr} {len cap : Nat} {zs : List Int}
    (h : (a = none ∧ len = 0 ∧ cap = 0 ∧ zs = []) ∨ ∃ x, a = some x ∧ len ≤ cap ∧ cap ≤ maxLen ∧ zs.length = cap ∧ (∀ i, i < zs.length → w.cell? (x.add i) = some (.int .u32 (zs.getD i 0))) ∧ ∀ n ∈ zs, (Lit.int .u32 n).wf = true) :
    ∃ l, Row w a l len cap := by
  obtain ⟨l, hr, hl, hc⟩ := row_rd h
  rcases h with ⟨rfl, rfl, rfl, rfl⟩ | ⟨x, rfl, h1, h2, _⟩
  · exact ⟨l, hl, hr.ok, hc, Nat.le_refl _, by unfold maxLen; omega, fun _ => ⟨rfl, rfl⟩⟩
  · exact ⟨l, hl, hr.ok, hc, h1, h2, fun e => by cases e⟩
/-- A row is a number, or none. -/
theorem Row.nat {w : World} {ao : Option Addr} {l : List Int} {n cap : Nat} (h : Row w ao l n cap) : (∃ a, Fits a ∧ l = limbs a) ∨ ¬ isNat l = true := by
  by_cases hn : isNat l = true
  · obtain ⟨a, hlt, rfl⟩ := (isNat_iff h.ok).1 hn
    exact Or.inl ⟨a, ⟨hlt⟩, rfl⟩
  · exact Or.inr hn
theorem Step.out {w : World} {L : List (Value × Nat)} {s : Nat} {c : Int} {e : Ending} {w' : World} (h : Step w L s c e w') : OutN w s c e w' :=
  let ⟨v, he, hl, hb⟩ := h; ⟨v, he, (hl (v, s) (List.mem_cons_self ..)).rd, hb⟩
theorem StepD.out {w : World} {L : List (Value × Nat)} {q r : Nat} {c : Int} {e : Ending} {w' : World} (h : StepD w L q r c e w') : OutD w q r c e w' :=
  let ⟨v1, v2, he, hl, hb⟩ := h; ⟨v1, v2, he, (hl (v1, q) (List.mem_cons_self ..)).rd, (hl (v2, r) (List.mem_cons_of_mem _ (List.mem_cons_self ..))).rd, hb⟩
theorem live2 {w : World} {va vb : Value} {a b : Nat} (ha : Nm w va a) (hb : Nm w vb b) : Live w [(va, a), (vb, b)] := fun p hp => by
  simp at hp; rcases hp with rfl | rfl <;> assumption
theorem live1 {w : World} {va : Value} {a : Nat} (ha : Nm w va a) : Live w [(va, a)] := fun p hp => by
  simp at hp; subst hp; exact ha
section
variable {w : World} {ao bo : Option Addr} {A B : List Int} {n m ca cb : Nat}
theorem add_pair (hA : Row w ao A n ca) (hB : Row w bo B m cb) : ∃ s c, Fits s ∧ (∀ w', Below w.heap.size w w' → Calls Tryd.prog 10 #[.slice ao n ca, .slice bo m cb] w' (OutN w' s c)) ∧
    (∀ w', Below w.heap.size w w' → Calls Tryd.prog 11 #[.slice ao n ca, .slice bo m cb] w' (OutN w' s c)) := by
  by_cases hAB : isNat A = true ∧ isNat B = true
  · rcases hA.nat with ⟨a, fa, rfl⟩ | h
    · rcases hB.nat with ⟨b, fb, rfl⟩ | h
      · rcases fits_or (a + b) with hf | hf
        · exact ⟨a + b, 0, hf, fun w' hb => (add_ok (live2 ((hA.keep hb).nm fa) ((hB.keep hb).nm fb)) (by simp) (by simp) hf).mono fun _ _ h => h.out,
            fun w' hb => refAdd_gen ao bo a b n m ca cb w' hA.len hB.len fa fb (hA.keep hb).cells (hB.keep hb).cells _ _ (.inl ⟨hf, rfl, rfl⟩)⟩
        · exact ⟨0, 2, fits_zero, fun w' hb => (add_over (live2 ((hA.keep hb).nm fa) ((hB.keep hb).nm fb)) (by simp) (by simp) hf).mono fun _ _ h => h.out,
            fun w' hb => refAdd_gen ao bo a b n m ca cb w' hA.len hB.len fa fb (hA.keep hb).cells (hB.keep hb).cells _ _ (.inr ⟨hf, rfl, rfl⟩)⟩
      · exact absurd hAB.2 h
    · exact absurd hAB.1 h
  · exact ⟨0, 1, fits_zero, fun w' hb => add_not ao bo A B n m ca cb w' hA.len hB.len (hA.keep hb).cells (hB.keep hb).cells hAB,
      fun w' hb => refAdd_not ao bo A B n m ca cb w' hA.len hB.len (hA.keep hb).cells (hB.keep hb).cells hAB⟩
theorem sub_pair (hA : Row w ao A n ca) (hB : Row w bo B m cb) : ∃ s c, Fits s ∧ (∀ w', Below w.heap.size w w' → Calls Tryd.prog 12 #[.slice ao n ca, .slice bo m cb] w' (OutN w' s c)) ∧
    (∀ w', Below w.heap.size w w' → Calls Tryd.prog 13 #[.slice ao n ca, .slice bo m cb] w' (OutN w' s c)) := by
  by_cases hAB : isNat A = true ∧ isNat B = true
  · rcases hA.nat with ⟨a, fa, rfl⟩ | h
    · rcases hB.nat with ⟨b, fb, rfl⟩ | h
      · by_cases hf : b ≤ a
        · exact ⟨a - b, 0, fa.mono (Nat.sub_le _ _), fun w' hb => (sub_ok (live2 ((hA.keep hb).nm fa) ((hB.keep hb).nm fb)) (by simp) (by simp) hf).mono fun _ _ h => h.out,
            fun w' hb => refSub_gen ao bo a b n m ca cb w' hA.len hB.len fa fb (hA.keep hb).cells (hB.keep hb).cells _ _ (.inl ⟨hf, rfl, rfl⟩)⟩
        · have hf : a < b := by omega
          exact ⟨0, 3, fits_zero, fun w' hb => (sub_under (live2 ((hA.keep hb).nm fa) ((hB.keep hb).nm fb)) (by simp) (by simp) hf).mono fun _ _ h => h.out,
            fun w' hb => refSub_gen ao bo a b n m ca cb w' hA.len hB.len fa fb (hA.keep hb).cells (hB.keep hb).cells _ _ (.inr ⟨hf, rfl, rfl⟩)⟩
      · exact absurd hAB.2 h
    · exact absurd hAB.1 h
  · exact ⟨0, 1, fits_zero, fun w' hb => sub_not ao bo A B n m ca cb w' hA.len hB.len (hA.keep hb).cells (hB.keep hb).cells hAB,
      fun w' hb => refSub_not ao bo A B n m ca cb w' hA.len hB.len (hA.keep hb).cells (hB.keep hb).cells hAB⟩
theorem mul_pair (hA : Row w ao A n ca) (hB : Row w bo B m cb) : ∃ s c, Fits s ∧ (∀ w', Below w.heap.size w w' → Calls Tryd.prog 14 #[.slice ao n ca, .slice bo m cb] w' (OutN w' s c)) ∧
    (∀ w', Below w.heap.size w w' → Calls Tryd.prog 15 #[.slice ao n ca, .slice bo m cb] w' (OutN w' s c)) := by
  by_cases hAB : isNat A = true ∧ isNat B = true
  · rcases hA.nat with ⟨a, fa, rfl⟩ | h
    · rcases hB.nat with ⟨b, fb, rfl⟩ | h
      · rcases fits_or (a * b) with hf | hf
        · exact ⟨a * b, 0, hf, fun w' hb => (mul_ok (live2 ((hA.keep hb).nm fa) ((hB.keep hb).nm fb)) (by simp) (by simp) hf).mono fun _ _ h => h.out,
            fun w' hb => refMul_gen ao bo a b n m ca cb w' hA.len hB.len fa fb (hA.keep hb).cells (hB.keep hb).cells _ _ (.inl ⟨hf, rfl, rfl⟩)⟩
        · exact ⟨0, 2, fits_zero, fun w' hb => (mul_big (live2 ((hA.keep hb).nm fa) ((hB.keep hb).nm fb)) (by simp) (by simp) hf).mono fun _ _ h => h.out,
            fun w' hb => refMul_gen ao bo a b n m ca cb w' hA.len hB.len fa fb (hA.keep hb).cells (hB.keep hb).cells _ _ (.inr ⟨hf, rfl, rfl⟩)⟩
      · exact absurd hAB.2 h
    · exact absurd hAB.1 h
  · exact ⟨0, 1, fits_zero, fun w' hb => mul_not ao bo A B n m ca cb w' hA.len hB.len (hA.keep hb).cells (hB.keep hb).cells hAB,
      fun w' hb => refMul_not ao bo A B n m ca cb w' hA.len hB.len (hA.keep hb).cells (hB.keep hb).cells hAB⟩
theorem Row.zero {w : World} {ao : Option Addr} {n cap : Nat} (h : Row w ao (limbs 0) n cap) : n = 0 := by
  have := h.len; rw [limbs_zero] at this; simpa using this.symm
theorem div_pair (hA : Row w ao A n ca) (hB : Row w bo B m cb) : ∃ q r c, Fits q ∧ Fits r ∧ (∀ w', Below w.heap.size w w' → Calls Tryd.prog 16 #[.slice ao n ca, .slice bo m cb] w' (OutD w' q r c)) ∧
    (∀ w', Below w.heap.size w w' → Calls Tryd.prog 17 #[.slice ao n ca, .slice bo m cb] w' (OutD w' q r c)) := by
  by_cases hAB : isNat A = true ∧ isNat B = true
  · rcases hA.nat with ⟨a, fa, rfl⟩ | h
    · rcases hB.nat with ⟨b, fb, rfl⟩ | h
      · by_cases hb0 : b = 0
        · subst hb0
          have e := hB.zero
          refine ⟨0, 0, 7, fits_zero, fits_zero, fun w' hb => (div_zero (va := .slice ao n ca) (a := a) (vb := .slice bo m cb) (live2 ((hA.keep hb).nm fa) ((hB.keep hb).nm fb)) (by simp) (by simp)).mono fun _ _ h => h.out, fun w' hb => ?_⟩
          rw [e]
          exact refDiv_zero ao bo a n ca cb w' hA.len fa (hA.keep hb).cells
        · refine ⟨a / b, a % b, 0, fa.mono (Nat.div_le_self _ _), fa.mono (Nat.mod_le _ _), fun w' hb => (div_ok (live2 ((hA.keep hb).nm fa) ((hB.keep hb).nm fb)) (by simp) (by simp) hb0).mono fun _ _ h => h.out, fun w' hb => ?_⟩
          by_cases ha0 : a = 0
          · subst ha0
            rw [hA.zero, Nat.zero_div, Nat.zero_mod]
            exact refDiv_nil ao bo b m ca cb w' hB.len fb (by omega) (hB.keep hb).cells
          · exact refDiv_walk ao bo a b n m ca cb w' hA.len hB.len fa fb (by omega) (by omega) (hA.keep hb).cells (hB.keep hb).cells
      · exact absurd hAB.2 h
    · exact absurd hAB.1 h
  · exact ⟨0, 0, 1, fits_zero, fits_zero, fun w' hb => div_not ao bo A B n m ca cb w' hA.len hB.len (hA.keep hb).cells (hB.keep hb).cells hAB,
      fun w' hb => refDiv_not ao bo A B n m ca cb w' hA.len hB.len (hA.keep hb).cells (hB.keep hb).cells hAB⟩
theorem cmp_pair (hA : Row w ao A n ca) (hB : Row w bo B m cb) : ∃ k c : Int, (∀ w', Below w.heap.size w w' → Calls Tryd.prog 20 #[.slice ao n ca, .slice bo m cb] w' fun e w2 => e = .returned (.tuple #[.int .i64 k, .int .i64 c]) ∧ Below w'.heap.size w' w2) ∧
    (∀ w', Below w.heap.size w w' → Calls Tryd.prog 21 #[.slice ao n ca, .slice bo m cb] w' fun e w2 => e = .returned (.tuple #[.int .i64 k, .int .i64 c]) ∧ Below w'.heap.size w' w2) := by
  by_cases hAB : isNat A = true ∧ isNat B = true
  · rcases hA.nat with ⟨a, fa, rfl⟩ | h
    · rcases hB.nat with ⟨b, fb, rfl⟩ | h
      · exact ⟨cmpI a b, 0, fun w' hb => (cmp_ok (live2 ((hA.keep hb).nm fa) ((hB.keep hb).nm fb)) (by simp) (by simp)).mono fun _ _ h => ⟨h.1, h.2.2⟩,
            fun w' hb => (refCmp_gen ao bo a b n m ca cb w' hA.len hB.len fa fb (hA.keep hb).cells (hB.keep hb).cells).mono fun _ _ h => ⟨h.1, h.2.below _⟩⟩
      · exact absurd hAB.2 h
    · exact absurd hAB.1 h
  · exact ⟨0, 1, fun w' hb => cmp_not ao bo A B n m ca cb w' hA.len hB.len (hA.keep hb).cells (hB.keep hb).cells hAB,
      fun w' hb => refCmp_not ao bo A B n m ca cb w' hA.len hB.len (hA.keep hb).cells (hB.keep hb).cells hAB⟩
theorem text_pair (hA : Row w ao A n ca) : ∃ (t : ByteArray) (c : Int), (t.size ≤ 6401) ∧ (∀ w', Below w.heap.size w w' → Calls Tryd.prog 22 #[.slice ao n ca] w' fun e w2 => e = .returned (.tuple #[.string t, .int .i64 c]) ∧ Below w'.heap.size w' w2) ∧
    (∀ w', Below w.heap.size w w' → Calls Tryd.prog 23 #[.slice ao n ca] w' fun e w2 => e = .returned (.tuple #[.string t, .int .i64 c]) ∧ Below w'.heap.size w' w2) := by
  rcases hA.nat with ⟨a, fa, rfl⟩ | h
  · refine ⟨tx a, 0, tx_bound fa, fun w' hb => (text_ok (live1 ((hA.keep hb).nm fa)) (by simp)).mono fun _ _ h => ⟨h.1, h.2.2⟩, fun w' hb => ?_⟩
    cases ao with
    | none =>
      obtain ⟨e1, e2⟩ := hA.none rfl
      subst e1 e2
      have h0 : limbs a = [] := List.length_eq_zero_iff.1 hA.len
      obtain rfl := limbs_nil.1 h0
      exact refText_none w'
    | some x => exact refText_some x a n ca w' hA.len fa (hA.keep hb).cells
  · exact ⟨⟨#[]⟩, 1, by decide, fun w' hb => text_not ao A n ca w' hA.len (hA.keep hb).cells h, fun w' hb => refText_not ao A n ca w' hA.len (hA.keep hb).cells h⟩
theorem pow_pair (x : Int) (hx0 : -9223372036854775808 ≤ x) (hx1 : x ≤ 9223372036854775807) (hA : Row w ao A n ca) : ∃ s c, Fits s ∧ (∀ w', Below w.heap.size w w' → Calls Tryd.prog 18 #[.slice ao n ca, .int .i64 x] w' (OutN w' s c)) ∧
    (∀ w', Below w.heap.size w w' → Calls Tryd.prog 19 #[.slice ao n ca, .int .i64 x] w' (OutN w' s c)) := by
  rcases hA.nat with ⟨a, fa, rfl⟩ | h
  · have hnat := isNat_limbs fa.lt
    by_cases hneg : x < 0
    · exact ⟨0, 3, fits_zero, fun w' hb => pow_neg ao _ n ca x w' hA.len (hA.keep hb).cells hnat hneg, fun w' hb => refPow_neg ao _ n ca x w' hA.len (hA.keep hb).cells hnat hneg⟩
    · obtain ⟨k, rfl⟩ := Int.eq_ofNat_of_zero_le (show 0 ≤ x by omega)
      have hk : k < 2 ^ 63 := by omega
      by_cases hk0 : k = 0
      · subst hk0
        refine ⟨1, 0, fits_u64 (by omega), fun w' hb => ?_, fun w' hb => refPow_zero ao _ n ca w' hA.len (hA.keep hb).cells hnat⟩
        have := pow_ok (va := .slice ao n ca) (a := a) 0 (live1 ((hA.keep hb).nm fa)) (by simp) (by omega) (by rw [Nat.pow_zero]; exact fits_u64 (by omega))
        rw [Nat.pow_zero] at this
        exact this.mono fun _ _ h => h.out
      · by_cases ha2 : 2 ≤ a
        · rcases fits_or (a ^ k) with hf | hf
          · exact ⟨a ^ k, 0, hf, fun w' hb => (pow_ok k (live1 ((hA.keep hb).nm fa)) (by simp) hk hf).mono fun _ _ h => h.out,
              fun w' hb => refPow_big ao a k n ca w' fa ha2 hA.len (by omega) hk (hA.keep hb).cells _ (fun _ _ _ h => h) (fun ho => (hf.not ho).elim)⟩
          · exact ⟨0, 2, fits_zero, fun w' hb => (pow_over k (live1 ((hA.keep hb).nm fa)) (by simp) hk hf).mono fun _ _ h => h.out,
              fun w' hb => refPow_big ao a k n ca w' fa ha2 hA.len (by omega) hk (hA.keep hb).cells _ (fun hq => (hq.not hf).elim) (fun _ _ _ h => h)⟩
        · have ea : a ^ k = a := by
            have h01 : a = 0 ∨ a = 1 := by omega
            rcases h01 with rfl | rfl
            · exact Nat.zero_pow (by omega)
            · exact Nat.one_pow k
          refine ⟨a, 0, fa, fun w' hb => ?_, fun w' hb => ?_⟩
          · have := pow_ok (va := .slice ao n ca) (a := a) k (live1 ((hA.keep hb).nm fa)) (by simp) hk (by rw [ea]; exact fa)
            rw [ea] at this
            exact this.mono fun _ _ h => h.out
          · cases ao with
            | none =>
              obtain ⟨e1, e2⟩ := hA.none rfl
              subst e1 e2
              have h0 : limbs a = [] := List.length_eq_zero_iff.1 hA.len
              obtain rfl := limbs_nil.1 h0
              exact refPow_none k w' (by omega) hk
            | some y => exact refPow_some y a k n ca w' (by omega) hA.len (by omega) hk (hA.keep hb).cells
  · exact ⟨0, 1, fits_zero, fun w' hb => pow_not ao A n ca x w' hA.len (hA.keep hb).cells h, fun w' hb => refPow_not ao A n ca x w' hA.len (hA.keep hb).cells h⟩
theorem parse_pair (s : ByteArray) (hs : s.size ≤ maxLen) : ∃ x c, Fits x ∧ (∀ w, Calls Tryd.prog 24 #[.string s] w (OutN w x c)) ∧ (∀ w, Calls Tryd.prog 25 #[.string s] w (OutN w x c)) := by
  by_cases hd : isDec (letters s) = true
  · rcases fits_or (dval (letters s)) with hf | hf
    · exact ⟨_, 0, hf, fun w => (parse_ok (L := []) s (fun p hp => by cases hp) hs hd hf).mono fun _ _ h => h.out, fun w => refParse_good s w hs hd _ (fun _ _ _ h => h) (fun ho => (hf.not ho).elim)⟩
    · exact ⟨0, 2, fits_zero, fun w => (parse_over (L := []) s (fun p hp => by cases hp) hs hd hf).mono fun _ _ h => h.out, fun w => refParse_good s w hs hd _ (fun hq => (hq.not hf).elim) (fun _ _ _ h => h)⟩
  · have hd : isDec (letters s) = false := by simpa using hd
    exact ⟨0, 8, fits_zero, fun w => (parse_not (L := []) s (fun p hp => by cases hp) hs hd).mono fun _ _ h => h.out, fun w => refParse_bad s w hs hd⟩
end
end Go.Proofs.YthfpkjeobdajiaaDoor

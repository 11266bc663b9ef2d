/- natural.isDecimal. -/
import Derived.Test.YtegjhkjmejckdaaDoorN14
import Derived.Test.YtegjhkjmejckdaaDoorTMath
namespace Go.Proofs.YtegjhkjmejckdaaDoor
open Go.RowKit M
/-- The letters of a string, as numbers. -/
def letters (s : ByteArray) : List Int := s.data.toList.map fun b => (b.toNat : Int)
theorem letters_length (s : ByteArray) : (letters s).length = s.size := by simp [letters]
theorem letters_get (s : ByteArray) (i : Nat) (h : i < s.size) : (letters s)[i]'(by rw [letters_length]; exact h) = (s[i].toNat : Int) := by
  simp only [letters, List.getElem_map]; rfl
theorem isDec_loop (l : List Int) (h0 : l ≠ []) (h1 : l.head? ≠ some 48 ∨ l = [48]) : isDec l = l.all fun c => decide (48 ≤ c) && decide (c ≤ 57) := by
  simp only [isDec]
  rw [show (!l.isEmpty) = true from by simpa using h0]
  have e : (decide (l.head? ≠ some 48) || decide (l = [48])) = true := by simpa using h1
  rw [e]; simp
theorem isDecimal_empty (s : ByteArray) (w : World) (h : s.size = 0) : Calls Tryd.prog 63 #[.string s] w fun e w' => e = .returned (.bool false) ∧ w = w' := by
  obtain rfl : s = ⟨#[]⟩ := by
    cases s with | mk d => congr 1; exact Array.eq_empty_of_size_eq_zero h
  go_enter Tryd.func63, Tryd.ntmps63
  go_wp2
  go_ret
  exact ⟨rfl, rfl⟩
theorem isDecimal_zero (w : World) : Calls Tryd.prog 63 #[.string ⟨#[48]⟩] w fun e w' => e = .returned (.bool true) ∧ w = w' := by
  go_enter Tryd.func63, Tryd.ntmps63
  go_wp2
  go_rounds 3
  go_ret
  exact ⟨rfl, rfl⟩
theorem toList_ne {s : ByteArray} (h : s.size ≠ 0) : s.toList.isEmpty = false := by
  rw [ByteArray.toList_eq, List.isEmpty_eq_false_iff]
  intro e
  have : s.data.toList.length = 0 := by rw [e]; rfl
  exact h (by simpa using this)
theorem isDecimal_lead (s : ByteArray) (w : World) (h : 1 < s.size) (h48 : (s[0].toNat : Int) = 48) : Calls Tryd.prog 63 #[.string s] w fun e w' => e = .returned (.bool false) ∧ w = w' := by
  have hE : s.toList.isEmpty = false := toList_ne (by omega)
  have h0 : 0 < s.size := by omega
  have hz' : ((s[0].toNat : Int) == 48) = true := by simp [h48]
  have hq : (!s.toList == [48]) = true := by
    rw [ByteArray.toList_eq]
    have : s.data.toList ≠ [48] := by
      intro e
      have h1 : s.data.toList.length = 1 := by rw [e]; rfl
      have h2 : s.data.toList.length = s.size := by simp
      omega
    simpa using this
  go_enter Tryd.func63, Tryd.ntmps63
  go_wp2
  go_ret
  exact ⟨rfl, rfl⟩
theorem isDecimal_loop (s : ByteArray) (w : World) (hs : s.size ≤ maxLen) (h0 : 0 < s.size) (h48 : (s[0].toNat : Int) ≠ 48) :
    Calls Tryd.prog 63 #[.string s] w fun e w' => e = .returned (.bool ((letters s).all fun c => decide (48 ≤ c) && decide (c ≤ 57))) ∧ w = w' := by
  unfold maxLen at hs
  have hz' : ((s[0].toNat : Int) == 48) = false := by simpa using h48
  have hE : s.toList.isEmpty = false := toList_ne (by omega)
  go_enter Tryd.func63, Tryd.ntmps63
  go_wp2
  go_loop [17] (fun v => ∃ k : Nat, k ≤ s.size ∧ v = .int .i64 k ∧ Bx (((letters s).take k).all (fun c => decide (48 ≤ c) && decide (c ≤ 57)) = true)) (fun v => s.size - (intOf v).toNat)
  case atStart => exact ⟨0, Nat.zero_le _, rfl, ⟨rfl⟩⟩
  case round =>
    obtain ⟨k, hk, rfl, HA⟩ := hrel
    by_cases hlt : k < s.size
    · have hts : (letters s).take (k + 1) = (letters s).take k ++ [(s[k].toNat : Int)] := by
        rw [List.take_succ_eq_append_getElem (by rw [letters_length]; exact hlt), letters_get s k hlt]
      have hfalse : ¬ (48 ≤ (s[k].toNat : Int) ∧ (s[k].toNat : Int) ≤ 57) → (letters s).all (fun c => decide (48 ≤ c) && decide (c ≤ 57)) = false := by
        intro hn
        rw [List.all_eq_false]
        refine ⟨(s[k].toNat : Int), ?_, by simpa using hn⟩
        rw [← letters_get s k hlt]; exact List.getElem_mem _
      have HF := Bx.mk hfalse
      have HTS := Bx.mk hts
      clear hts hfalse
      by_cases h1 : (s[k].toNat : Int) < 48
      · have HE := Bx.mk (HF.out (by omega))
        go_wp2
        go_ret
        exact ⟨by rw [HE.out]; rfl, rfl⟩
      · by_cases h2 : 57 < (s[k].toNat : Int)
        · have HE := Bx.mk (HF.out (by omega))
          go_wp2
          go_ret
          exact ⟨by rw [HE.out]; rfl, rfl⟩
        · have hnext : ((letters s).take (k + 1)).all (fun c => decide (48 ≤ c) && decide (c ≤ 57)) = true := by
            rw [HTS.out, List.all_append, HA.out]
            simp only [List.all_cons, List.all_nil, Bool.and_true, Bool.true_and, Bool.and_eq_true, decide_eq_true_eq]
            omega
          have HN := Bx.mk hnext
          have h3 : (s[k].toNat : Int) ≤ 57 := by omega
          clear hnext
          go_wp2
          go_round
          case rel => exact ⟨k + 1, by omega, by go_num, HN⟩
          case measure => simp [intOf]; omega
    · have hE2 : (letters s).all (fun c => decide (48 ≤ c) && decide (c ≤ 57)) = true := by
        have := HA.out
        rw [List.take_of_length_le (by rw [letters_length]; omega)] at this; exact this
      have HE := Bx.mk hE2
      clear hE2
      go_wp2
      go_ret
      exact ⟨by rw [HE.out]; rfl, rfl⟩
theorem isDecimal_any (s : ByteArray) (w : World) (hs : s.size ≤ maxLen) : Calls Tryd.prog 63 #[.string s] w fun e w' => e = .returned (.bool (isDec (letters s))) ∧ w = w' := by
  by_cases h0 : s.size = 0
  · have e : letters s = [] := by rw [← List.length_eq_zero_iff, letters_length]; exact h0
    rw [e]; exact isDecimal_empty s w h0
  · have hpos : 0 < s.size := by omega
    have hh : (letters s).head? = some (s[0].toNat : Int) := by
      rw [List.head?_eq_getElem?, List.getElem?_eq_getElem (by rw [letters_length]; exact hpos), letters_get s 0 hpos]
    have hne : letters s ≠ [] := by intro e; rw [e] at hh; simp at hh
    by_cases h48 : (s[0].toNat : Int) = 48
    · by_cases h1 : 1 < s.size
      · have e : isDec (letters s) = false := by
          have hl : letters s ≠ [48] := by
            intro e
            have h2 := letters_length s
            rw [e] at h2; simp at h2; omega
          simp [isDec, hh, h48, hl]
        rw [e]; exact isDecimal_lead s w h1 h48
      · have e : s = ⟨#[48]⟩ := by
          cases s with | mk d =>
          congr 1
          have hd : d.size = 1 := by have : (ByteArray.mk d).size = d.size := rfl
                                     omega
          apply Array.ext
          · simpa using hd
          · intro i hi1 hi2
            have hi0 : i = 0 := by omega
            subst hi0
            have h5 : ((d[0]'hi1).toNat : Int) = 48 := h48
            have h6 : (d[0]'hi1).toNat = 48 := by omega
            exact UInt8.toNat_inj.1 (by simpa using h6)
        subst e
        exact isDecimal_zero w
    · rw [isDec_loop (letters s) hne (.inl (by rw [hh]; simpa using h48))]
      exact isDecimal_loop s w hs hpos h48
end Go.Proofs.YtegjhkjmejckdaaDoor

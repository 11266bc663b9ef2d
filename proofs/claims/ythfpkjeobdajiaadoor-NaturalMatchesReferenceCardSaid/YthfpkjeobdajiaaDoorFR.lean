/- the reference's Parse of a natural number. -/
import Derived.Test.YthfpkjeobdajiaaDoorFQ
namespace Go.Proofs.YthfpkjeobdajiaaDoor
open Go.RowKit M
theorem refParse_empty (s : ByteArray) (w : World) (h : s.size = 0) : Calls Tryd.prog 25 #[.string s] w (OutN w 0 8) := by
  have hE : ((s.size : Int) == 0) = true := by rw [h]; rfl
  go_enter Tryd.func25, Tryd.ntmps25
  go_wp2
  go_ret2
  exact ⟨_, rfl, by rw [limbs_zero]; exact Rd.nil _, Below.refl _ _⟩
theorem refParse_lead (s : ByteArray) (w : World) (h : 1 < s.size) (h48 : (s[0].toNat : Int) = 48) : Calls Tryd.prog 25 #[.string s] w (OutN w 0 8) := by
  have hE : ((s.size : Int) == 0) = false := beq_eq_false_iff_ne.2 (by omega)
  have hz : ((s[0].toNat : Int) == 48) = true := by simpa using h48
  have h1 : (1 : Int) < (s.size : Int) := by omega
  go_enter Tryd.func25, Tryd.ntmps25
  go_wp2
  go_ret2
  exact ⟨_, rfl, by rw [limbs_zero]; exact Rd.nil _, Below.refl _ _⟩
/-- What is no decimal number, but begins like one. -/
theorem refParse_char (s : ByteArray) (w : World) (hs : s.size ≤ maxLen) (h0 : 0 < s.size) (h48 : (s[0].toNat : Int) ≠ 48) (hbad : ((letters s).all fun c => decide (48 ≤ c) && decide (c ≤ 57)) = false) :
    Calls Tryd.prog 25 #[.string s] w (OutN w 0 8) := by
  unfold maxLen at hs
  have hz' : ((s[0].toNat : Int) == 48) = false := by simpa using h48
  have hE : ((s.size : Int) == 0) = false := beq_eq_false_iff_ne.2 (by omega)
  have HB := Bx.mk hbad
  clear hbad
  go_enter Tryd.func25, Tryd.ntmps25
  go_wp2
  go_loop [4] (fun v => ∃ k : Nat, k ≤ s.size ∧ v = .int .i64 k ∧ Bx (((letters s).take k).all (fun c => decide (48 ≤ c) && decide (c ≤ 57)) = true)) (fun v => s.size - (intOf v).toNat)
  case atStart => exact ⟨0, Nat.zero_le _, rfl, ⟨rfl⟩⟩
  case round =>
    obtain ⟨k, hk, rfl, HA⟩ := hrel
    by_cases hlt : k < s.size
    · have hts : (letters s).take (k + 1) = (letters s).take k ++ [(s[k].toNat : Int)] := by
        rw [List.take_succ_eq_append_getElem (by rw [letters_length]; exact hlt), letters_get s k hlt]
      have HTS := Bx.mk hts
      clear hts
      by_cases h1 : (s[k].toNat : Int) < 48
      · go_wp2
        go_ret2
        exact ⟨_, rfl, by rw [limbs_zero]; exact Rd.nil _, Below.refl _ _⟩
      · by_cases h2 : 57 < (s[k].toNat : Int)
        · go_wp2
          go_ret2
          exact ⟨_, rfl, by rw [limbs_zero]; exact Rd.nil _, Below.refl _ _⟩
        · have hnext : ((letters s).take (k + 1)).all (fun c => decide (48 ≤ c) && decide (c ≤ 57)) = true := by
            rw [HTS.out, List.all_append, HA.out]
            simp only [List.all_cons, List.all_nil, Bool.and_true, Bool.true_and, Bool.and_eq_true, decide_eq_true_eq]
            omega
          have HN := Bx.mk hnext
          have h3 : (s[k].toNat : Int) ≤ 57 := by omega
          clear hnext
          go_wp2
          go_round
          case rel => exact ⟨k + 1, by omega, by go_num, HN⟩
          case measure => simp [intOf]; omega
    · exfalso
      have := HA.out
      rw [List.take_of_length_le (by rw [letters_length]; omega), HB.out] at this
      cases this
theorem refParse_bad (s : ByteArray) (w : World) (hs : s.size ≤ maxLen) (hd : isDec (letters s) = false) : Calls Tryd.prog 25 #[.string s] w (OutN w 0 8) := by
  by_cases h0 : s.size = 0
  · exact refParse_empty s w h0
  · have hpos : 0 < s.size := by omega
    have hh : (letters s).head? = some (s[0].toNat : Int) := by
      rw [List.head?_eq_getElem?, List.getElem?_eq_getElem (by rw [letters_length]; exact hpos), letters_get s 0 hpos]
    have hne : letters s ≠ [] := by intro e; rw [e] at hh; simp at hh
    by_cases h48 : (s[0].toNat : Int) = 48
    · by_cases h1 : 1 < s.size
      · exact refParse_lead s w h1 h48
      · exfalso
        have hl := letters_length s
        have e : letters s = [48] := by
          cases hls : letters s with
          | nil => exact absurd hls hne
          | cons c r =>
            rw [hls] at hl hh
            have hr : r = [] := List.length_eq_zero_iff.1 (by simp at hl; omega)
            subst hr
            simp only [List.head?_cons, Option.some.injEq] at hh
            rw [hh, h48]
        rw [e] at hd
        exact absurd hd (by decide)
    · rw [isDec_loop (letters s) hne (.inl (by rw [hh]; simpa using h48))] at hd
      exact refParse_char s w hs hpos h48 hd
theorem cells_ten (w : World) : CellsK .u32 (w.alloc (.cells #[.int .u32 10] 41)) (some ⟨w.heap.size, 0, none⟩) (limbs 10) := by
  obtain ⟨a1, c1, e1, h1, h2, h3⟩ := (nm_lit w [10] 10 (by intro x hx; simp at hx; omega) (by simp) (by simp [val]) (by simp)).rd.shape
  simp only [Value.slice.injEq] at e1
  obtain ⟨rfl, -, -⟩ := e1
  exact h3
theorem len_ten {d : Nat} (h : Fits d) : (limbs (d * 10)).length ≤ 641 := by
  have h1 := h.lt
  have h2 := pw_succ 640
  exact limbs_length_le.2 (by rw [h2]; omega)
set_option maxHeartbeats 1600000 in
theorem refParse_dec (s : ByteArray) (w : World) (hs : s.size ≤ maxLen) (h0 : 0 < s.size) (h48 : (s[0].toNat : Int) ≠ 48) (hdec : ∀ x ∈ letters s, 48 ≤ x ∧ x ≤ 57) (R : Ending → World → Prop)
    (hok : Fits (dval (letters s)) → ∀ e w', OutN w (dval (letters s)) 0 e w' → R e w') (hov : Over (dval (letters s)) → ∀ e w', OutN w 0 2 e w' → R e w') :
    Calls Tryd.prog 25 #[.string s] w R := by
  unfold maxLen at hs
  have hz' : ((s[0].toNat : Int) == 48) = false := by simpa using h48
  have hE : ((s.size : Int) == 0) = false := beq_eq_false_iff_ne.2 (by omega)
  have HOK := Bx.mk hok
  have HOV := Bx.mk hov
  have HDEC := Bx.mk hdec
  clear hok hov hdec
  go_enter Tryd.func25, Tryd.ntmps25
  go_wp2_with fail
  go_loop [4] (fun v => ∃ k : Nat, k ≤ s.size ∧ v = .int .i64 k) (fun v => s.size - (intOf v).toNat)
  case atStart => exact ⟨0, Nat.zero_le _, rfl⟩
  case round =>
    obtain ⟨k, hk, rfl⟩ := hrel
    by_cases hlt : k < s.size
    · have hc : 48 ≤ (s[k].toNat : Int) ∧ (s[k].toNat : Int) ≤ 57 := HDEC.out _ (by rw [← letters_get s k hlt]; exact List.getElem_mem _)
      obtain ⟨hc1, hc2⟩ := hc
      go_wp2
      go_round
      case rel => exact ⟨k + 1, by omega, by go_num⟩
      case measure => simp [intOf]; omega
    · obtain rfl : k = s.size := by omega
      go_wp2_with fail
      go_loopw [5, 6] (fun v iv wr => ∃ k d : Nat, k ≤ s.size ∧ iv = .int .i64 k ∧ Bx (d = dval ((letters s).take k)) ∧ Bx (Fits d) ∧ Rd wr v (limbs d) ∧ Below w.heap.size w wr) (fun _ iv _ => s.size - (intOf iv).toNat)
      case atStart => exact ⟨0, 0, Nat.zero_le _, rfl, ⟨by simp [dval]⟩, ⟨fits_zero⟩, by rw [limbs_zero]; exact Rd.nil w, Below.refl _ _⟩
      case round =>
        obtain ⟨k, d, hk, rfl, HD, HF, hrd, hbel⟩ := hrel
        obtain ⟨lo, cl, rfl, hlc, hlm, hlcells⟩ := hrd.shape
        have hl1 := HF.out.len
        by_cases hlt : k < s.size
        · have hc : 48 ≤ (s[k].toNat : Int) ∧ (s[k].toNat : Int) ≤ 57 := HDEC.out _ (by rw [← letters_get s k hlt]; exact List.getElem_mem _)
          obtain ⟨hc1, hc2⟩ := hc
          obtain ⟨x, hx⟩ : ∃ x : Nat, (s[k].toNat : Int) - 48 = (x : Int) := ⟨s[k].toNat - 48, by omega⟩
          have hds := dval_take_succ s k hlt
          rw [← HD.out, hx, Int.toNat_natCast] at hds
          have hx9 : x ≤ 9 := by omega
          have hxw : IntKind.u64.wrap (IntKind.u64.wrap (s[k].toNat : Int) - 48) = (x : Int) := by rw [IntWalk.u64_in (s[k].toNat : Int) ⟨by omega, by omega⟩, IntWalk.u64_in _ ⟨by omega, by omega⟩]; exact hx
          have hba : Below w.heap.size w (wr.alloc (.cells #[.int .u32 10] 41)) := hbel.alloc hbel.size _
          have hp := refProduct_nat lo (some ⟨wr.heap.size, 0, none⟩) d 10 _ 1 cl 1 (wr.alloc (.cells #[.int .u32 10] 41)).drew rfl (by decide +kernel) (by omega) (by omega) (hlcells.keep ((Below.refl _ _).alloc (Nat.le_refl _) _).drew) ((cells_ten wr).keep (Below.refl _ _).drew)
          have hmo := dval_mono (letters s) (k + 1)
          have HP := Bx.mk hp
          have HDS := Bx.mk hds
          have HBA := Bx.mk hba.drew
          have HL10 := Bx.mk (len_ten HF.out)
          have HMO := Bx.mk hmo
          have HX := Bx.mk hx
          clear hp hds hba hrd hlcells hbel hlc hlm hmo
          go_wp2_with fail
          go_region_with (first
            | (go_at_call 41; (with_reducible refine HP.out.mono ?_); rintro e w2 ⟨v, rfl, hr2, hb2⟩; have HR2 := Bx.mk hr2; have HB2 := Bx.mk (HBA.out.trans (hb2.mono HBA.out.size)); obtain ⟨po, cp, rfl, hpc, hpm, hpo⟩ := hr2.shape; clear hr2 hb2 hpo hpc hpm HP; have HMK := Bx.mk (refMake_any x w2 (by omega)))
            | (go_at_call 9; (with_reducible refine HMK.out.mono ?_); rintro e w3 ⟨v3, rfl, hr3, hb3⟩; have HB3 := Bx.mk (HB2.out.trans (hb3.mono HB2.out.size)); have hr2 := HR2.out.keep hb3; obtain ⟨mo, cm, rfl, hmc, hmm, hmo⟩ := hr3.shape; obtain ⟨po', cp', e1, hpc, hpm, hpo⟩ := hr2.shape; simp only [Value.slice.injEq] at e1; obtain ⟨rfl, -, rfl⟩ := e1; have hpl := refPlus_nat po mo (d * 10) x _ _ cp cm w3 rfl rfl (by have := HL10.out; omega) (by have := (fits_u64 (x := x) (by omega)).len; omega) hpo hmo; rw [← HDS.out] at hpl; have HPL := Bx.mk hpl; clear hr3 hb3 hr2 hmc hmm hmo hpc hpm hpo hpl HMK)
            | (go_at_call 34; (with_reducible refine HPL.out.mono ?_); rintro e w4 ⟨v4, rfl, hr4, hb4⟩; have HB4 := Bx.mk (HB3.out.trans (hb4.mono HB3.out.size)); have HR4 := Bx.mk hr4; clear hr4 hb4 HPL))
          all_goals
            obtain ⟨qo, cq, rfl, hqc, hqm, hqo⟩ := HR4.out.shape
            obtain ⟨d2, hd2⟩ : ∃ d2, dval ((letters s).take (k + 1)) = d2 := ⟨_, rfl⟩
            have HD2 := Bx.mk hd2.symm
            have hmo := HMO.out
            rw [hd2] at HR4 hmo ⊢
            clear hqo hqc hqm hd2
            rcases fits_or d2 with hf | hf
            · have hl := hf.len
              have HF2 := Bx.mk hf
              have hd : decide ((640 : Int) < ((limbs d2).length : Int)) = false := by simp; omega
              clear hf hmo
              go_wp2
              go_roundw
              case rel => exact ⟨k + 1, d2, by omega, by go_num, HD2, HF2, HR4.out, HB4.out⟩
              case measure => simp [intOf]; omega
            · have hl := hf.len
              have HF2 : Bx (Over (dval (letters s))) := ⟨hf.mono hmo⟩
              have hd : decide ((640 : Int) < ((limbs d2).length : Int)) = true := by simp; omega
              clear hf hmo
              go_wp2
              exact HOV.out HF2.out _ _ ⟨_, rfl, by rw [limbs_zero]; exact Rd.nil _, HB4.out⟩
        · obtain rfl : k = s.size := by omega
          have hd : d = dval (letters s) := by rw [HD.out, List.take_of_length_le (by rw [letters_length]; omega)]
          subst hd
          have HR := Bx.mk hrd
          have HB := Bx.mk hbel
          clear hrd hbel hlcells hlc hlm
          go_wp2
          exact HOK.out HF.out _ _ ⟨_, rfl, HR.out, HB.out⟩
set_option maxHeartbeats 1600000 in
theorem refParse_zero (s : ByteArray) (w : World) (hs : s.size ≤ maxLen) (h0 : 0 < s.size) (h48 : (s[0].toNat : Int) = 48) (h1 : s.size = 1) (hdec : ∀ x ∈ letters s, 48 ≤ x ∧ x ≤ 57) (R : Ending → World → Prop)
    (hok : Fits (dval (letters s)) → ∀ e w', OutN w (dval (letters s)) 0 e w' → R e w') (hov : Over (dval (letters s)) → ∀ e w', OutN w 0 2 e w' → R e w') :
    Calls Tryd.prog 25 #[.string s] w R := by
  unfold maxLen at hs
  have hz' : ((s[0].toNat : Int) == 48) = true := by simpa using h48
  have h1' : ¬ (1 : Int) < (s.size : Int) := by omega
  have h1'' : decide ((1 : Int) < (s.size : Int)) = false := by simpa using h1'
  clear h1
  have hE : ((s.size : Int) == 0) = false := beq_eq_false_iff_ne.2 (by omega)
  have HOK := Bx.mk hok
  have HOV := Bx.mk hov
  have HDEC := Bx.mk hdec
  clear hok hov hdec
  go_enter Tryd.func25, Tryd.ntmps25
  go_wp2_with fail
  go_loop [4] (fun v => ∃ k : Nat, k ≤ s.size ∧ v = .int .i64 k) (fun v => s.size - (intOf v).toNat)
  case atStart => exact ⟨0, Nat.zero_le _, rfl⟩
  case round =>
    obtain ⟨k, hk, rfl⟩ := hrel
    by_cases hlt : k < s.size
    · have hc : 48 ≤ (s[k].toNat : Int) ∧ (s[k].toNat : Int) ≤ 57 := HDEC.out _ (by rw [← letters_get s k hlt]; exact List.getElem_mem _)
      obtain ⟨hc1, hc2⟩ := hc
      go_wp2
      go_round
      case rel => exact ⟨k + 1, by omega, by go_num⟩
      case measure => simp [intOf]; omega
    · obtain rfl : k = s.size := by omega
      go_wp2_with fail
      go_loopw [5, 6] (fun v iv wr => ∃ k d : Nat, k ≤ s.size ∧ iv = .int .i64 k ∧ Bx (d = dval ((letters s).take k)) ∧ Bx (Fits d) ∧ Rd wr v (limbs d) ∧ Below w.heap.size w wr) (fun _ iv _ => s.size - (intOf iv).toNat)
      case atStart => exact ⟨0, 0, Nat.zero_le _, rfl, ⟨by simp [dval]⟩, ⟨fits_zero⟩, by rw [limbs_zero]; exact Rd.nil w, Below.refl _ _⟩
      case round =>
        obtain ⟨k, d, hk, rfl, HD, HF, hrd, hbel⟩ := hrel
        obtain ⟨lo, cl, rfl, hlc, hlm, hlcells⟩ := hrd.shape
        have hl1 := HF.out.len
        by_cases hlt : k < s.size
        · have hc : 48 ≤ (s[k].toNat : Int) ∧ (s[k].toNat : Int) ≤ 57 := HDEC.out _ (by rw [← letters_get s k hlt]; exact List.getElem_mem _)
          obtain ⟨hc1, hc2⟩ := hc
          obtain ⟨x, hx⟩ : ∃ x : Nat, (s[k].toNat : Int) - 48 = (x : Int) := ⟨s[k].toNat - 48, by omega⟩
          have hds := dval_take_succ s k hlt
          rw [← HD.out, hx, Int.toNat_natCast] at hds
          have hx9 : x ≤ 9 := by omega
          have hxw : IntKind.u64.wrap (IntKind.u64.wrap (s[k].toNat : Int) - 48) = (x : Int) := by rw [IntWalk.u64_in (s[k].toNat : Int) ⟨by omega, by omega⟩, IntWalk.u64_in _ ⟨by omega, by omega⟩]; exact hx
          have hba : Below w.heap.size w (wr.alloc (.cells #[.int .u32 10] 41)) := hbel.alloc hbel.size _
          have hp := refProduct_nat lo (some ⟨wr.heap.size, 0, none⟩) d 10 _ 1 cl 1 (wr.alloc (.cells #[.int .u32 10] 41)).drew rfl (by decide +kernel) (by omega) (by omega) (hlcells.keep ((Below.refl _ _).alloc (Nat.le_refl _) _).drew) ((cells_ten wr).keep (Below.refl _ _).drew)
          have hmo := dval_mono (letters s) (k + 1)
          have HP := Bx.mk hp
          have HDS := Bx.mk hds
          have HBA := Bx.mk hba.drew
          have HL10 := Bx.mk (len_ten HF.out)
          have HMO := Bx.mk hmo
          have HX := Bx.mk hx
          clear hp hds hba hrd hlcells hbel hlc hlm hmo
          go_wp2_with fail
          go_region_with (first
            | (go_at_call 41; (with_reducible refine HP.out.mono ?_); rintro e w2 ⟨v, rfl, hr2, hb2⟩; have HR2 := Bx.mk hr2; have HB2 := Bx.mk (HBA.out.trans (hb2.mono HBA.out.size)); obtain ⟨po, cp, rfl, hpc, hpm, hpo⟩ := hr2.shape; clear hr2 hb2 hpo hpc hpm HP; have HMK := Bx.mk (refMake_any x w2 (by omega)))
            | (go_at_call 9; (with_reducible refine HMK.out.mono ?_); rintro e w3 ⟨v3, rfl, hr3, hb3⟩; have HB3 := Bx.mk (HB2.out.trans (hb3.mono HB2.out.size)); have hr2 := HR2.out.keep hb3; obtain ⟨mo, cm, rfl, hmc, hmm, hmo⟩ := hr3.shape; obtain ⟨po', cp', e1, hpc, hpm, hpo⟩ := hr2.shape; simp only [Value.slice.injEq] at e1; obtain ⟨rfl, -, rfl⟩ := e1; have hpl := refPlus_nat po mo (d * 10) x _ _ cp cm w3 rfl rfl (by have := HL10.out; omega) (by have := (fits_u64 (x := x) (by omega)).len; omega) hpo hmo; rw [← HDS.out] at hpl; have HPL := Bx.mk hpl; clear hr3 hb3 hr2 hmc hmm hmo hpc hpm hpo hpl HMK)
            | (go_at_call 34; (with_reducible refine HPL.out.mono ?_); rintro e w4 ⟨v4, rfl, hr4, hb4⟩; have HB4 := Bx.mk (HB3.out.trans (hb4.mono HB3.out.size)); have HR4 := Bx.mk hr4; clear hr4 hb4 HPL))
          all_goals
            obtain ⟨qo, cq, rfl, hqc, hqm, hqo⟩ := HR4.out.shape
            obtain ⟨d2, hd2⟩ : ∃ d2, dval ((letters s).take (k + 1)) = d2 := ⟨_, rfl⟩
            have HD2 := Bx.mk hd2.symm
            have hmo := HMO.out
            rw [hd2] at HR4 hmo ⊢
            clear hqo hqc hqm hd2
            rcases fits_or d2 with hf | hf
            · have hl := hf.len
              have HF2 := Bx.mk hf
              have hd : decide ((640 : Int) < ((limbs d2).length : Int)) = false := by simp; omega
              clear hf hmo
              go_wp2
              go_roundw
              case rel => exact ⟨k + 1, d2, by omega, by go_num, HD2, HF2, HR4.out, HB4.out⟩
              case measure => simp [intOf]; omega
            · have hl := hf.len
              have HF2 : Bx (Over (dval (letters s))) := ⟨hf.mono hmo⟩
              have hd : decide ((640 : Int) < ((limbs d2).length : Int)) = true := by simp; omega
              clear hf hmo
              go_wp2
              exact HOV.out HF2.out _ _ ⟨_, rfl, by rw [limbs_zero]; exact Rd.nil _, HB4.out⟩
        · obtain rfl : k = s.size := by omega
          have hd : d = dval (letters s) := by rw [HD.out, List.take_of_length_le (by rw [letters_length]; omega)]
          subst hd
          have HR := Bx.mk hrd
          have HB := Bx.mk hbel
          clear hrd hbel hlcells hlc hlm
          go_wp2
          exact HOK.out HF.out _ _ ⟨_, rfl, HR.out, HB.out⟩
theorem refParse_good (s : ByteArray) (w : World) (hs : s.size ≤ maxLen) (hd : isDec (letters s) = true) (R : Ending → World → Prop)
    (hok : Fits (dval (letters s)) → ∀ e w', OutN w (dval (letters s)) 0 e w' → R e w') (hov : Over (dval (letters s)) → ∀ e w', OutN w 0 2 e w' → R e w') :
    Calls Tryd.prog 25 #[.string s] w R := by
  have hd2 := hd
  simp only [isDec, Bool.and_eq_true, Bool.or_eq_true, Bool.not_eq_true', List.isEmpty_eq_false_iff, List.all_eq_true, decide_eq_true_eq] at hd2
  have hl := letters_length s
  have hpos : 0 < s.size := by
    by_cases h0 : s.size = 0
    · exact absurd (List.length_eq_zero_iff.1 (hl.trans h0)) hd2.1.1
    · omega
  have hh : (letters s).head? = some (s[0].toNat : Int) := by
    rw [List.head?_eq_getElem?, List.getElem?_eq_getElem (by rw [letters_length]; exact hpos), letters_get s 0 hpos]
  by_cases h48 : (s[0].toNat : Int) = 48
  · have h1 : s.size = 1 := by
      rcases hd2.2 with k | k
      · rw [hh, h48] at k; exact absurd rfl k
      · rw [k] at hl; simpa using hl.symm
    exact refParse_zero s w hs hpos h48 h1 hd2.1.2 R hok hov
  · exact refParse_dec s w hs hpos h48 hd2.1.2 R hok hov
end Go.Proofs.YthfpkjeobdajiaaDoor

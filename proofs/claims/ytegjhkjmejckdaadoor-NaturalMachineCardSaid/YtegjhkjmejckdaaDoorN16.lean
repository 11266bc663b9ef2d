/- natural.number: the number of a decimal text. -/
import Derived.Test.YtegjhkjmejckdaaDoorN15
namespace Go.Proofs.YtegjhkjmejckdaaDoor
open Go.RowKit M
theorem run_min9 (w : World) (ts : Array TypeId) (t : TypeId) (n : Nat) : (Builtin.min_ ts t #[.int .i64 9, .int .i64 (n : Int)]).run Tryd.prog w = .ok (.int .i64 ((min 9 n : Nat) : Int)) w := by
  simp [Builtin.min_, Builtin.min2]
  split <;> omega
theorem letters_extract (s : ByteArray) (a : Nat) (h : a ≤ s.size) : letters (s.extract a s.size) = (letters s).drop a := by
  simp only [letters, List.map_drop]
  congr 1
  simp [ByteArray.data_extract, Array.toList_extract, List.take_of_length_le]
theorem dval_take_succ (s : ByteArray) (k : Nat) (h : k < s.size) : dval ((letters s).take (k + 1)) = dval ((letters s).take k) * 10 + ((s[k].toNat : Int) - 48).toNat := by
  rw [List.take_succ_eq_append_getElem (by rw [letters_length]; exact h), letters_get s k h, dval_snoc]
theorem dval_mono (l : List Int) (k : Nat) : dval (l.take k) ≤ dval l := by
  conv => rhs; rw [← List.take_append_drop k l]
  rw [dval_append]
  have : 1 ≤ 10 ^ (l.drop k).length := Nat.one_le_pow _ _ (by omega)
  have := Nat.mul_le_mul_left (dval (l.take k)) this
  omega
set_option maxHeartbeats 1600000 in
theorem number_any (s : ByteArray) (w : World) (hs : s.size ≤ maxLen) (hdec : ∀ x ∈ letters s, 48 ≤ x ∧ x ≤ 57) (R : Ending → World → Prop)
    (hok : ((dval (letters s) : Nat) : Int) < pw 640 → ∀ e w', RetNat w (dval (letters s)) e w' → R e w') (hov : pw 640 ≤ ((dval (letters s) : Nat) : Int) → ∀ e w', Raised w 2 e w' → R e w') :
    Calls Tryd.prog 64 #[.string s] w R := by
  have HOK := Bx.mk hok
  have HOV := Bx.mk hov
  have HDEC := Bx.mk hdec
  clear hok hov hdec
  unfold maxLen at hs
  go_enter Tryd.func64, Tryd.ntmps64
  go_wp2
  go_loopw [0, 3] (fun sv v wr => ∃ (k a : Nat) (s' : ByteArray), k ≤ s.size ∧ sv = .string s' ∧ Bx (letters s' = (letters s).drop k) ∧ s'.size + k = s.size ∧ Bx (a = dval ((letters s).take k)) ∧ Bx ((a : Int) < pw 640) ∧ Rd wr v (limbs a) ∧ Below w.heap.size w wr) (fun sv _ _ => match sv with | .string s' => s'.size | _ => 0)
  case atStart => exact ⟨0, 0, s, Nat.zero_le _, rfl, ⟨by simp⟩, rfl, ⟨by simp [dval]⟩, ⟨by decide +kernel⟩, by rw [limbs_zero]; exact Rd.nil w, Below.refl _ _⟩
  case round =>
    obtain ⟨k, a, s', hk, rfl, HL, hsz, HA, HAL, hrd, hbel⟩ := hrel
    obtain ⟨lo, cl, rfl, hlc, hlm, hlcells⟩ := hrd.shape
    by_cases h0 : s'.size = 0
    · have hka : a = dval (letters s) := by rw [HA.out, List.take_of_length_le (by rw [letters_length]; omega)]
      have HKA := Bx.mk hka
      clear hka
      go_wp2
      refine HOK.out (by rw [← HKA.out]; exact HAL.out) _ _ ⟨_, rfl, by rw [← HKA.out]; exact hrd, hbel⟩
    · have hn9 : min 9 s'.size ≤ 9 := Nat.min_le_left _ _
      have hns : min 9 s'.size ≤ s'.size := Nat.min_le_right _ _
      have hn1 : 1 ≤ min 9 s'.size := by omega
      obtain ⟨nn, hnn⟩ : ∃ nn, min 9 s'.size = nn := ⟨_, rfl⟩
      have hmin : ∀ w ts t, (Builtin.min_ ts t #[.int .i64 9, .int .i64 (s'.size : Int)]).run Tryd.prog w = .ok (.int .i64 (nn : Int)) w := fun w ts t => by rw [run_min9, hnn]
      rw [hnn] at hn9 hns hn1
      clear hnn
      obtain ⟨wo, rfl⟩ : ∃ wo : World, wo = wr := ⟨_, rfl⟩
      go_wp2_with fail
      clear hmin
      go_loop [5, 6, 15] (fun f g i => ∃ j : Nat, j ≤ nn ∧ i = .int .i64 j ∧ f = .int .u32 ((10 ^ j : Nat) : Int) ∧ g = .int .u32 ((dval ((letters s').take j) : Nat) : Int)) (fun _ _ i => nn - (intOf i).toNat)
      case atStart => exact ⟨0, Nat.zero_le _, rfl, rfl, rfl⟩
      case round =>
        obtain ⟨j, hj, rfl, rfl, rfl⟩ := hrel
        have hdec' : ∀ x ∈ letters s', 48 ≤ x ∧ x ≤ 57 := fun x hx => HDEC.out x (List.mem_of_mem_drop (by rw [← HL.out]; exact hx))
        have hlen' := letters_length s'
        by_cases hlt : j < nn
        · have hjs : j < s'.size := by omega
          have hc : 48 ≤ (s'[j].toNat : Int) ∧ (s'[j].toNat : Int) ≤ 57 := hdec' _ (by rw [← letters_get s' j hjs]; exact List.getElem_mem _)
          have hds := dval_take_succ s' j hjs
          have hG : dval ((letters s').take j) < 10 ^ j := by
            have := dval_lt (l := (letters s').take j) (fun x hx => hdec' x (List.mem_of_mem_take hx))
            rw [List.length_take, Nat.min_eq_left (by omega)] at this; exact this
          have hF : 10 ^ j ≤ 10 ^ 8 := Nat.pow_le_pow_right (by omega) (by omega)
          obtain ⟨F, hFF⟩ : ∃ F, 10 ^ j = F := ⟨_, rfl⟩
          obtain ⟨G, hGG⟩ : ∃ G, dval ((letters s').take j) = G := ⟨_, rfl⟩
          rw [hGG] at hG hds
          rw [hFF] at hG hF
          have hF' : (F : Int) ≤ 100000000 := by omega
          have hG' : (G : Int) ≤ 99999999 := by omega
          have hc1 := hc.1
          have hc2 := hc.2
          have HFF := Bx.mk hFF
          have HDS := Bx.mk hds
          rw [hFF, hGG]
          clear hF hG hds hFF hGG hdec' hc
          go_wp2
          go_round
          case rel => exact ⟨j + 1, by omega, by go_num, by rw [Nat.pow_succ, HFF.out]; push_cast; rfl, by
            rw [HDS.out]
            have e : ((G * 10 + ((s'[j].toNat : Int) - 48).toNat : Nat) : Int) = (G : Int) * 10 + ((s'[j].toNat : Int) - 48) := by omega
            rw [e]⟩
          case measure => simp [intOf]; omega
        · have hjn : j = nn := by omega
          subst hjn
          have hgl : dval ((letters s').take j) < 10 ^ j := by
            have := dval_lt (l := (letters s').take j) (fun x hx => hdec' x (List.mem_of_mem_take hx))
            rw [List.length_take, Nat.min_eq_left (by omega)] at this; exact this
          have hF : 10 ^ j ≤ 10 ^ 9 := Nat.pow_le_pow_right (by omega) hn9
          have hnext : dval ((letters s).take (k + j)) = a * 10 ^ j + dval ((letters s').take j) := by
            rw [HL.out, HA.out]
            have e : (letters s).take (k + j) = (letters s).take k ++ ((letters s).drop k).take j := by rw [List.take_add]
            have hl2 : (((letters s).drop k).take j).length = j := by rw [List.length_take, List.length_drop, letters_length]; omega
            rw [e, dval_append, hl2]
          obtain ⟨F, hFF⟩ : ∃ F, 10 ^ j = F := ⟨_, rfl⟩
          obtain ⟨G, hGG⟩ : ∃ G, dval ((letters s').take j) = G := ⟨_, rfl⟩
          rw [hFF] at hgl hF hnext ⊢
          rw [hGG] at hgl hnext ⊢
          have hla := limbs_length_le.2 HAL.out
          have htp := timesPlus_any lo (limbs a) _ cl (F : Int) (G : Int) wo rfl (by omega) (ok_limbs a) hlcells (by omega) (by omega) (by omega) (by omega)
          have hext : letters (s'.extract j s'.size) = (letters s).drop (k + j) := by rw [letters_extract s' j hns, HL.out, List.drop_drop]
          have hesz : (s'.extract j s'.size).size + (k + j) = s.size := by simp; omega
          have hmono := dval_mono (letters s) (k + j)
          have HTP := Bx.mk htp
          have HEX := Bx.mk hext
          have HES := Bx.mk hesz
          have HNX := Bx.mk hnext
          have HMO := Bx.mk hmono
          clear hgl hF hnext hFF hGG htp hext hesz hmono hdec' hlen' hla
          go_wp2_with fail
          refine HTP.out.mono ?_
          rintro e w2 ⟨L, rfl, hvL, hWL⟩
          rw [val_limbs] at hvL
          have hvL2 : val L = ((a * F + G : Nat) : Int) := by rw [hvL]; push_cast; rfl
          have hlenL := hWL.len
          have HB2 := Bx.mk (hbel.trans (hWL.below.mono hbel.size))
          have HWL := Bx.mk hWL
          by_cases hlim : ((a * F + G : Nat) : Int) < pw 640
          · have hfit := fit_ok (some ⟨wo.heap.size, 0, none⟩) L _ ((limbs a).length + 1) w2 hWL.len (Nat.le_refl _) (by unfold maxLen; have := limbs_length_le.2 HAL.out; omega) hWL.ok hWL.cells (by rw [hvL2]; exact hlim)
            have htr := Rd.trimmed (s := a * F + G) hWL.cells hWL.ok (cap := (limbs a).length + 1) (by omega) (by unfold maxLen; have := limbs_length_le.2 HAL.out; omega) hvL2
            have HFIT := Bx.mk hfit
            have HTR := Bx.mk htr
            have HLIM := Bx.mk hlim
            clear hvL hvL2 hWL hfit htr hlim hlenL
            go_wp2_with fail
            refine HFIT.out.mono ?_
            rintro e w3 ⟨rfl, rfl⟩
            go_wp2
            go_roundw
            case rel => exact ⟨k + j, a * F + G, _, by omega, rfl, HEX, HES.out, ⟨HNX.out.symm⟩, HLIM, HTR.out, HB2.out⟩
            case measure => simp; omega
          · have hfit := fit_over (some ⟨wo.heap.size, 0, none⟩) L _ ((limbs a).length + 1) w2 hWL.len (Nat.le_refl _) (by unfold maxLen; have := limbs_length_le.2 HAL.out; omega) hWL.ok hWL.cells (by rw [hvL2]; omega)
            have hbig : pw 640 ≤ ((dval (letters s) : Nat) : Int) := by have := HMO.out; have := HNX.out; omega
            have HFIT := Bx.mk hfit
            have HBIG := Bx.mk hbig
            clear hvL hvL2 hWL hfit hlim hbig hlenL
            go_wp2_with fail
            refine HFIT.out.mono ?_
            rintro e w3 ⟨rfl, rfl⟩
            exact ⟨rfl, HOV.out HBIG.out _ _ ⟨rfl, HB2.out⟩⟩
end Go.Proofs.YtegjhkjmejckdaaDoor

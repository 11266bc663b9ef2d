/- the law's normal. -/
import Derived.Test.YtmknbgiihhimfaaR9
namespace Go.Proofs.Ytmknbgiihhimfaa
open Go.RowKit D
set_option maxHeartbeats 8000000 in
theorem normal_any (ao : Option Addr) (n c1 : Nat) (H : Nat → Nat → Int) (p : Nat → Nat) (w : World) (hn : n ≤ 6) (hc1 : n ≤ c1) (hR : CV w ao n H) (hT : Hf H n 6 p) (hE : ∀ i j, i < n → j < 6 → (H i j).natAbs ≤ 6000000000) :
    Calls Try.prog 23 #[.slice ao n c1] w fun e w' => e = .returned (.bool true) ∧ Below w.heap.size w w' := by
  have HT := Bx.mk hT
  have HP := Bx.mk (fun k (hk : k < n) w => pivot_any (H k) w (p k) (by have := hT.lt k hk; omega) (fun j hj => hT.left k j hk hj) (fun _ => by have := hT.pos k hk; omega))
  have HE := Bx.mk hE
  clear hT hE
  go_enter Try.func23, Try.ntmps23
  go_wp2_with fail
  go_loopw [3] (fun i wr => ∃ k : Nat, k ≤ n ∧ i = .int .i64 k ∧ Bx (Below w.heap.size w wr)) (fun i _ => n - (intOf i).toNat)
  case atStart => exact ⟨0, by omega, rfl, ⟨Below.refl _ _⟩⟩
  case round =>
    obtain ⟨k, hk, rfl, HB⟩ := hrel
    have hB := HB.out
    by_cases hlt : k < n
    · obtain ⟨b, o, rfl, hb, hc⟩ := hR (by omega)
      have a0 := hB.cell (p := ⟨b, o + (k) * 6 + 0, none⟩) hb
      have a1 := hB.cell (p := ⟨b, o + (k) * 6 + 1, none⟩) hb
      have a2 := hB.cell (p := ⟨b, o + (k) * 6 + 2, none⟩) hb
      have a3 := hB.cell (p := ⟨b, o + (k) * 6 + 3, none⟩) hb
      have a4 := hB.cell (p := ⟨b, o + (k) * 6 + 4, none⟩) hb
      have a5 := hB.cell (p := ⟨b, o + (k) * 6 + 5, none⟩) hb
      rw [hc k _ hlt (by omega)] at a0 a1 a2 a3 a4 a5
      rw [Nat.add_zero] at a0
      have HP1 := HP.out k hlt
      unfold PV at HP1
      have HPK := Bx.mk HP1
      have HCC := Bx.mk hc
      clear hc HP1
      go_wp2_with fail
      refine (HPK.out _).mono ?_
      rintro e w2 ⟨rfl, hb2⟩
      have HB2 : Bx (Below w.heap.size w w2) := ⟨hB.trans (hb2.mono hB.size)⟩
      clear hb2 a0 a1 a2 a3 a4 a5
      have hq6 : p k < 6 := HT.out.lt k hlt
      have hy := HB2.out.cell (p := ⟨b, o + k * 6 + p k, none⟩) hb
      rw [HCC.out k (p k) hlt hq6] at hy
      have hy1 := HT.out.pos k hlt
      have hy2 := HE.out k (p k) hlt hq6
      obtain ⟨q0, hq0⟩ : ∃ q0, p k = q0 := ⟨_, rfl⟩
      rw [hq0] at hy hy1 hy2 hq6 ⊢
      obtain ⟨y, hye⟩ : ∃ y, H k q0 = y := ⟨_, rfl⟩
      rw [hye] at hy hy1 hy2
      have hy3 : y ≤ 6000000000 := by omega
      have HQ0 := Bx.mk hq0
      have HYE := Bx.mk hye
      have hq06 : ((q0 : Int) == 6) = false := by simp; omega
      have hyd : decide (y < 0) = false := by simp; omega
      clear hye hq0 hy2
      by_cases hk0 : k = 0
      · subst hk0
        simp only [Nat.zero_mul, Nat.add_zero] at hy
        go_wp2_with fail
        go_loopw [5] (fun i wr => ∃ l : Nat, l ≤ 0 ∧ i = .int .i64 l ∧ Bx (Below w.heap.size w wr)) (fun i _ => 0 - (intOf i).toNat)
        case atStart => exact ⟨0, by omega, rfl, HB2⟩
        case round =>
          obtain ⟨l, hl, rfl, HB4⟩ := hrel
          obtain rfl : l = 0 := by omega
          go_wp2_with fail
          exact ⟨⟨0 + 1, by omega, by go_num, HB4⟩, by simp [intOf]; omega⟩
      · obtain ⟨m, hm⟩ : ∃ m, k = m + 1 := ⟨k - 1, by omega⟩
        have HM := Bx.mk hm
        have hkm : (k : Int) - 1 = (m : Int) := by omega
        have hkp : (0 : Int) < (k : Int) := by omega
        have hmn : m < n := by omega
        clear hm
        have d0 := HB2.out.cell (p := ⟨b, o + m * 6 + 0, none⟩) hb
        have d1 := HB2.out.cell (p := ⟨b, o + m * 6 + 1, none⟩) hb
        have d2 := HB2.out.cell (p := ⟨b, o + m * 6 + 2, none⟩) hb
        have d3 := HB2.out.cell (p := ⟨b, o + m * 6 + 3, none⟩) hb
        have d4 := HB2.out.cell (p := ⟨b, o + m * 6 + 4, none⟩) hb
        have d5 := HB2.out.cell (p := ⟨b, o + m * 6 + 5, none⟩) hb
        rw [HCC.out m _ (by omega) (by omega)] at d0 d1 d2 d3 d4 d5
        rw [Nat.add_zero] at d0
        have hlt2 : p m < q0 := by rw [← HQ0.out]; exact HT.out.rise m k (by have := HM.out; omega) hlt
        obtain ⟨q1, hq1⟩ : ∃ q1, p m = q1 := ⟨_, rfl⟩
        have HP2 := HP.out m (by omega)
        unfold PV at HP2
        rw [hq1] at HP2 hlt2
        have HPM := Bx.mk HP2
        have hqd : decide (q0 ≤ q1) = false := by simp; omega
        clear HP2
        go_wp2_with fail
        refine (HPM.out _).mono ?_
        rintro e w3 ⟨rfl, hb3⟩
        have HB3 : Bx (Below w.heap.size w w3) := ⟨HB2.out.trans (hb3.mono HB2.out.size)⟩
        clear hb3 d0 d1 d2 d3 d4 d5
        go_wp2_with fail
        go_loopw [5] (fun i wr => ∃ l : Nat, l ≤ k ∧ i = .int .i64 l ∧ Bx (Below w.heap.size w wr)) (fun i _ => k - (intOf i).toNat)
        case atStart => exact ⟨0, by omega, rfl, HB3⟩
        case round =>
          obtain ⟨l, hl, rfl, HB4⟩ := hrel
          by_cases hlk : l < k
          · have hz := HB4.out.cell (p := ⟨b, o + l * 6 + q0, none⟩) hb
            rw [HCC.out l q0 (by omega) hq6] at hz
            have hyy := HB4.out.cell (p := ⟨b, o + (k) * 6 + q0, none⟩) hb
            rw [HCC.out (k) q0 hlt hq6, HYE.out] at hyy
            have hr := HT.out.red l (k) hlk hlt
            rw [HQ0.out, HYE.out] at hr
            obtain ⟨z, hze⟩ : ∃ z, H l q0 = z := ⟨_, rfl⟩
            rw [hze] at hz hr
            obtain ⟨hr1, hr2⟩ := hr
            have hln : l < n := by omega
            have hzn : ¬ z < 0 := by omega
            have hzd : decide (z < 0) = false := by simpa using hzn
            have hzd2 : decide (z ≥ y) = false := by simp; omega
            have hq6i : (q0 : Int) < 6 := by omega
            clear hze
            go_wp2_with fail
            go_region
            all_goals go_wp2_with fail
            all_goals exact ⟨⟨l + 1, by omega, by go_num, ⟨(by repeat (first | with_reducible exact Below.refl _ _ | with_reducible exact HB4.out | (with_reducible refine Below.setCell ?_ ?side _; case side => (first | omega | (simp <;> omega))) | (with_reducible refine Below.alloc ?_ ?side _; case side => (first | omega | (simp <;> omega))) | with_reducible apply below_drewN | with_reducible apply below_drew))⟩⟩, by simp [intOf]; omega⟩
          · obtain rfl : l = k := by omega
            go_wp2_with fail
            exact ⟨⟨l + 1, by omega, by go_num, HB4⟩, by simp [intOf]; omega⟩
    · obtain rfl : k = n := by omega
      go_wp2_with fail
      go_ret
      exact ⟨rfl, hB⟩
end Go.Proofs.Ytmknbgiihhimfaa

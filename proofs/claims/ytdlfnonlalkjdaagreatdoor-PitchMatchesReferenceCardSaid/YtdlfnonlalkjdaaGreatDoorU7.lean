/- the reference's Digits, common, term. -/
import Derived.Test.YtdlfnonlalkjdaaGreatDoorU6
import Derived.Test.YtdlfnonlalkjdaaGreatDoorP19
import Derived.Laws.BytesArg
import Derived.Lib.ItoaNum
namespace Go.Proofs.YtdlfnonlalkjdaaGreatDoor
open Go.RowKit M
theorem strOf_digit (k : Nat) (hk : k < 10) : strOfNums [((48 + k : Nat) : Int)] = strL [UInt8.ofNat (48 + k)] := by
  apply ByteArray.ext
  show (List.map (fun n : Int => UInt8.ofNat n.toNat) [((48 + k : Nat) : Int)]).toArray = _
  simp only [List.map_cons, List.map_nil, Int.toNat_natCast]
theorem digits_len (u : Nat) (h : u ≤ 1000000000) : (Lib.decDigits u).length ≤ 10 := by
  rw [Lib.decDigits_length]; exact nDigits_le 9 u (by omega)
theorem digits_step (m : Nat) (h : 9 < m) : Lib.decDigits m = Lib.decDigits (m / 10) ++ [UInt8.ofNat (48 + m % 10)] := by
  conv => lhs; rw [Lib.decDigits]
  rw [dif_neg (by omega)]
set_option maxRecDepth 20000 in
theorem refDigits_any (u : Nat) (w : World) (hu : u ≤ 1000000000) :
    Calls Tryz.prog 57 #[.int .i64 u] w fun e w' => e = .returned (.string (strL (Lib.decDigits u))) ∧ Below w.heap.size w w' := by
  have hl := Hx.mk (digits_len u hu)
  go_enter Tryz.func57, Tryz.ntmps57
  go_wp2_with fail
  go_loopw [0, 3] (fun nv sv wr => ∃ (m : Nat) (D : List UInt8), nv = .int .i64 m ∧ sv = .string (strL D) ∧ m ≤ u ∧ Hx (Lib.decDigits u = Lib.decDigits m ++ D) ∧ Below w.heap.size w wr) (fun nv _ _ => (intOf nv).toNat)
  case atStart => exact ⟨u, [], rfl, rfl, Nat.le_refl _, ⟨by simp⟩, Below.refl _ _⟩
  case round =>
    obtain ⟨m, D, rfl, rfl, hm, HD, hb⟩ := hrel
    have hDl : (strL D).size ≤ 10 := by
      have h1 : (strL D).size = D.length := by simp [ByteArray.size]
      have h2 : (Lib.decDigits u).length = (Lib.decDigits m).length + D.length := by rw [HD.out, List.length_append]
      have := hl.out
      omega
    obtain ⟨sd, hsd⟩ : ∃ s, strL D = s := ⟨_, rfl⟩
    rw [hsd] at hDl ⊢
    have HSD := Hx.mk hsd
    clear hsd
    have HB := Hx.mk hb
    clear hb hl
    by_cases hlt : 10 ≤ m
    · have hconv := run_convert_bytes_arg (P := Tryz.prog) (wr.alloc (.cells #[.int .u8 (48 + (m : Int) % 10)] 5)) 100 5 Tryz.underlying100 Tryz.underlying5 wr.heap.size 0 1 1 [48 + (m : Int) % 10] rfl (fun i hi => by
        obtain rfl : i = 0 := by omega
        simp [go_sem]) 9 Tryz.underlying9
      have he : strOfNums [48 + (m : Int) % 10] = strL [UInt8.ofNat (48 + m % 10)] := by
        rw [← strOf_digit (m % 10) (by omega)]; congr 2
      obtain ⟨sb, hsb⟩ : ∃ s, strOfNums [48 + (m : Int) % 10] = s := ⟨_, rfl⟩
      have hsz : sb.size ≤ 1 := by rw [← hsb, strOfNums_size]; simp
      rw [hsb] at hconv he
      have HE := Hx.mk he
      have y1 : ¬ 9223372036854775807 < sb.size + sd.size := by omega
      clear hsb he
      go_wp2
      go_roundw
      case rel => exact ⟨m / 10, UInt8.ofNat (48 + m % 10) :: D, by go_num, by rw [HE.out, ← HSD.out, strL_append]; rfl, by omega, ⟨by rw [HD.out, digits_step m (by omega), List.append_assoc]; rfl⟩, HB.out.alloc HB.out.size _⟩
      case measure => simp [intOf]; omega
    · have hconv := run_convert_bytes_arg (P := Tryz.prog) (wr.alloc (.cells #[.int .u8 (48 + (m : Int))] 5)) 100 5 Tryz.underlying100 Tryz.underlying5 wr.heap.size 0 1 1 [48 + (m : Int)] rfl (fun i hi => by
        obtain rfl : i = 0 := by omega
        simp [go_sem]) 9 Tryz.underlying9
      have he : strOfNums [48 + (m : Int)] = strL [UInt8.ofNat (48 + m)] := by
        rw [← strOf_digit m (by omega)]; congr 2
      obtain ⟨sb, hsb⟩ : ∃ s, strOfNums [48 + (m : Int)] = s := ⟨_, rfl⟩
      have hsz : sb.size ≤ 1 := by rw [← hsb, strOfNums_size]; simp
      rw [hsb] at hconv he
      have HE := Hx.mk he
      have y1 : ¬ 9223372036854775807 < sb.size + sd.size := by omega
      clear hsb he
      go_wp2
      go_ret
      refine ⟨?_, HB.out.alloc HB.out.size _⟩
      rw [HE.out, ← HSD.out, strL_append, HD.out, Lib.decDigits_one (by omega)]
      rfl
theorem gcd_of {n d : Nat} (hd : d ∣ 12) (hn : d ∣ n) (h : ∀ k, d < k → k ≤ 12 → k ∣ 12 → ¬ k ∣ n) : Nat.gcd n 12 = d := by
  have h1 : d ∣ Nat.gcd n 12 := Nat.dvd_gcd hn hd
  have h2 : Nat.gcd n 12 ∣ 12 := Nat.gcd_dvd_right _ _
  have h3 : Nat.gcd n 12 ∣ n := Nat.gcd_dvd_left _ _
  have h4 : d ≤ Nat.gcd n 12 := Nat.le_of_dvd (Nat.gcd_pos_of_pos_right _ (by omega)) h1
  rcases Nat.lt_or_eq_of_le h4 with h5 | h5
  · exact absurd h3 (h _ h5 (Nat.le_of_dvd (by omega) h2) h2)
  · exact h5.symm
theorem refCommon_any (n g : Nat) (w : World) (hn0 : 1 ≤ n) (hn1 : n ≤ 1000000) (hg : Nat.gcd n 12 = g) : Calls Tryz.prog 58 #[.int .i64 (n : Int)] w fun e w' => e = .returned (.int .i64 (g : Int)) ∧ Below w.heap.size w w' := by
  have HG := Hx.mk hg
  clear hg
  go_enter Tryz.func58, Tryz.ntmps58
  go_wp2_with fail
  go_loopw [3] (fun dv wr => ∃ k : Int, 1 ≤ k ∧ k ≤ 12 ∧ dv = .int .i64 k ∧ Hx (∀ j : Nat, k < (j : Int) → j ≤ 12 → j ∣ 12 → ¬ j ∣ n) ∧ Hx (Below w.heap.size w wr)) (fun dv _ => (intOf dv).toNat)
  case atStart => exact ⟨12, by omega, by omega, rfl, ⟨fun j h1 h2 => by omega⟩, ⟨Below.refl _ _⟩⟩
  case round =>
    obtain ⟨k, hk0, hk, rfl, HK, HB⟩ := hrel
    have : k = 12 ∨ k = 11 ∨ k = 10 ∨ k = 9 ∨ k = 8 ∨ k = 7 ∨ k = 6 ∨ k = 5 ∨ k = 4 ∨ k = 3 ∨ k = 2 ∨ k = 1 := by omega
    rcases this with rfl | rfl | rfl | rfl | rfl | rfl | rfl | rfl | rfl | rfl | rfl | rfl
    · by_cases hd : n % 12 = 0
      · have hm : ((n : Int) % 12 == 0) = true := by rw [beq_iff_eq]; omega
        obtain rfl : g = 12 := HG.out.symm.trans (gcd_of (d := 12) (by decide) (Nat.dvd_of_mod_eq_zero hd) (fun j h1 h2 h3 => HK.out j (by omega) h2 h3))
        clear hd HG
        go_wp2
        go_ret
        exact ⟨rfl, by repeat (first | exact HB.out | apply Below.drew | apply below_drewN)⟩
      · have hm : ((n : Int) % 12 == 0) = false := by rw [beq_eq_false_iff_ne]; omega
        have HNO : ¬ 12 ∣ n := fun h => hd (Nat.mod_eq_zero_of_dvd h)
        have HK2 : Hx (∀ j : Nat, (11 : Int) < (j : Int) → j ≤ 12 → j ∣ 12 → ¬ j ∣ n) := ⟨fun j h1 h2 h3 => by
          by_cases e : j = 12
          · subst e; exact HNO
          · exact HK.out j (by omega) h2 h3⟩
        clear hd HNO
        go_wp2
        go_roundw
        case rel => exact ⟨11, by omega, by omega, rfl, HK2, ⟨by repeat (first | exact HB.out | apply Below.drew | apply below_drewN)⟩⟩
        case measure => simp [intOf]
    · have HK2 : Hx (∀ j : Nat, (10 : Int) < (j : Int) → j ≤ 12 → j ∣ 12 → ¬ j ∣ n) := ⟨fun j h1 h2 h3 => by
        by_cases e : j = 11
        · subst e; exact absurd h3 (by decide)
        · exact HK.out j (by omega) h2 h3⟩
      go_wp2
      go_roundw
      case rel => exact ⟨10, by omega, by omega, rfl, HK2, ⟨by repeat (first | exact HB.out | apply Below.drew | apply below_drewN)⟩⟩
      case measure => simp [intOf]
    · have HK2 : Hx (∀ j : Nat, (9 : Int) < (j : Int) → j ≤ 12 → j ∣ 12 → ¬ j ∣ n) := ⟨fun j h1 h2 h3 => by
        by_cases e : j = 10
        · subst e; exact absurd h3 (by decide)
        · exact HK.out j (by omega) h2 h3⟩
      go_wp2
      go_roundw
      case rel => exact ⟨9, by omega, by omega, rfl, HK2, ⟨by repeat (first | exact HB.out | apply Below.drew | apply below_drewN)⟩⟩
      case measure => simp [intOf]
    · have HK2 : Hx (∀ j : Nat, (8 : Int) < (j : Int) → j ≤ 12 → j ∣ 12 → ¬ j ∣ n) := ⟨fun j h1 h2 h3 => by
        by_cases e : j = 9
        · subst e; exact absurd h3 (by decide)
        · exact HK.out j (by omega) h2 h3⟩
      go_wp2
      go_roundw
      case rel => exact ⟨8, by omega, by omega, rfl, HK2, ⟨by repeat (first | exact HB.out | apply Below.drew | apply below_drewN)⟩⟩
      case measure => simp [intOf]
    · have HK2 : Hx (∀ j : Nat, (7 : Int) < (j : Int) → j ≤ 12 → j ∣ 12 → ¬ j ∣ n) := ⟨fun j h1 h2 h3 => by
        by_cases e : j = 8
        · subst e; exact absurd h3 (by decide)
        · exact HK.out j (by omega) h2 h3⟩
      go_wp2
      go_roundw
      case rel => exact ⟨7, by omega, by omega, rfl, HK2, ⟨by repeat (first | exact HB.out | apply Below.drew | apply below_drewN)⟩⟩
      case measure => simp [intOf]
    · have HK2 : Hx (∀ j : Nat, (6 : Int) < (j : Int) → j ≤ 12 → j ∣ 12 → ¬ j ∣ n) := ⟨fun j h1 h2 h3 => by
        by_cases e : j = 7
        · subst e; exact absurd h3 (by decide)
        · exact HK.out j (by omega) h2 h3⟩
      go_wp2
      go_roundw
      case rel => exact ⟨6, by omega, by omega, rfl, HK2, ⟨by repeat (first | exact HB.out | apply Below.drew | apply below_drewN)⟩⟩
      case measure => simp [intOf]
    · by_cases hd : n % 6 = 0
      · have hm : ((n : Int) % 6 == 0) = true := by rw [beq_iff_eq]; omega
        obtain rfl : g = 6 := HG.out.symm.trans (gcd_of (d := 6) (by decide) (Nat.dvd_of_mod_eq_zero hd) (fun j h1 h2 h3 => HK.out j (by omega) h2 h3))
        clear hd HG
        go_wp2
        go_ret
        exact ⟨rfl, by repeat (first | exact HB.out | apply Below.drew | apply below_drewN)⟩
      · have hm : ((n : Int) % 6 == 0) = false := by rw [beq_eq_false_iff_ne]; omega
        have HNO : ¬ 6 ∣ n := fun h => hd (Nat.mod_eq_zero_of_dvd h)
        have HK2 : Hx (∀ j : Nat, (5 : Int) < (j : Int) → j ≤ 12 → j ∣ 12 → ¬ j ∣ n) := ⟨fun j h1 h2 h3 => by
          by_cases e : j = 6
          · subst e; exact HNO
          · exact HK.out j (by omega) h2 h3⟩
        clear hd HNO
        go_wp2
        go_roundw
        case rel => exact ⟨5, by omega, by omega, rfl, HK2, ⟨by repeat (first | exact HB.out | apply Below.drew | apply below_drewN)⟩⟩
        case measure => simp [intOf]
    · have HK2 : Hx (∀ j : Nat, (4 : Int) < (j : Int) → j ≤ 12 → j ∣ 12 → ¬ j ∣ n) := ⟨fun j h1 h2 h3 => by
        by_cases e : j = 5
        · subst e; exact absurd h3 (by decide)
        · exact HK.out j (by omega) h2 h3⟩
      go_wp2
      go_roundw
      case rel => exact ⟨4, by omega, by omega, rfl, HK2, ⟨by repeat (first | exact HB.out | apply Below.drew | apply below_drewN)⟩⟩
      case measure => simp [intOf]
    · by_cases hd : n % 4 = 0
      · have hm : ((n : Int) % 4 == 0) = true := by rw [beq_iff_eq]; omega
        obtain rfl : g = 4 := HG.out.symm.trans (gcd_of (d := 4) (by decide) (Nat.dvd_of_mod_eq_zero hd) (fun j h1 h2 h3 => HK.out j (by omega) h2 h3))
        clear hd HG
        go_wp2
        go_ret
        exact ⟨rfl, by repeat (first | exact HB.out | apply Below.drew | apply below_drewN)⟩
      · have hm : ((n : Int) % 4 == 0) = false := by rw [beq_eq_false_iff_ne]; omega
        have HNO : ¬ 4 ∣ n := fun h => hd (Nat.mod_eq_zero_of_dvd h)
        have HK2 : Hx (∀ j : Nat, (3 : Int) < (j : Int) → j ≤ 12 → j ∣ 12 → ¬ j ∣ n) := ⟨fun j h1 h2 h3 => by
          by_cases e : j = 4
          · subst e; exact HNO
          · exact HK.out j (by omega) h2 h3⟩
        clear hd HNO
        go_wp2
        go_roundw
        case rel => exact ⟨3, by omega, by omega, rfl, HK2, ⟨by repeat (first | exact HB.out | apply Below.drew | apply below_drewN)⟩⟩
        case measure => simp [intOf]
    · by_cases hd : n % 3 = 0
      · have hm : ((n : Int) % 3 == 0) = true := by rw [beq_iff_eq]; omega
        obtain rfl : g = 3 := HG.out.symm.trans (gcd_of (d := 3) (by decide) (Nat.dvd_of_mod_eq_zero hd) (fun j h1 h2 h3 => HK.out j (by omega) h2 h3))
        clear hd HG
        go_wp2
        go_ret
        exact ⟨rfl, by repeat (first | exact HB.out | apply Below.drew | apply below_drewN)⟩
      · have hm : ((n : Int) % 3 == 0) = false := by rw [beq_eq_false_iff_ne]; omega
        have HNO : ¬ 3 ∣ n := fun h => hd (Nat.mod_eq_zero_of_dvd h)
        have HK2 : Hx (∀ j : Nat, (2 : Int) < (j : Int) → j ≤ 12 → j ∣ 12 → ¬ j ∣ n) := ⟨fun j h1 h2 h3 => by
          by_cases e : j = 3
          · subst e; exact HNO
          · exact HK.out j (by omega) h2 h3⟩
        clear hd HNO
        go_wp2
        go_roundw
        case rel => exact ⟨2, by omega, by omega, rfl, HK2, ⟨by repeat (first | exact HB.out | apply Below.drew | apply below_drewN)⟩⟩
        case measure => simp [intOf]
    · by_cases hd : n % 2 = 0
      · have hm : ((n : Int) % 2 == 0) = true := by rw [beq_iff_eq]; omega
        obtain rfl : g = 2 := HG.out.symm.trans (gcd_of (d := 2) (by decide) (Nat.dvd_of_mod_eq_zero hd) (fun j h1 h2 h3 => HK.out j (by omega) h2 h3))
        clear hd HG
        go_wp2
        go_ret
        exact ⟨rfl, by repeat (first | exact HB.out | apply Below.drew | apply below_drewN)⟩
      · have hm : ((n : Int) % 2 == 0) = false := by rw [beq_eq_false_iff_ne]; omega
        have HNO : ¬ 2 ∣ n := fun h => hd (Nat.mod_eq_zero_of_dvd h)
        have HK2 : Hx (∀ j : Nat, (1 : Int) < (j : Int) → j ≤ 12 → j ∣ 12 → ¬ j ∣ n) := ⟨fun j h1 h2 h3 => by
          by_cases e : j = 2
          · subst e; exact HNO
          · exact HK.out j (by omega) h2 h3⟩
        clear hd HNO
        go_wp2
        go_roundw
        case rel => exact ⟨1, by omega, by omega, rfl, HK2, ⟨by repeat (first | exact HB.out | apply Below.drew | apply below_drewN)⟩⟩
        case measure => simp [intOf]
    · obtain rfl : g = 1 := HG.out.symm.trans (gcd_of (n := n) (d := 1) (by decide) (Nat.one_dvd _) (fun j h1 h2 h3 => HK.out j (by omega) h2 h3))
      clear HG
      go_wp2
      go_ret
      exact ⟨rfl, by repeat (first | exact HB.out | apply Below.drew | apply below_drewN)⟩
end Go.Proofs.YtdlfnonlalkjdaaGreatDoor

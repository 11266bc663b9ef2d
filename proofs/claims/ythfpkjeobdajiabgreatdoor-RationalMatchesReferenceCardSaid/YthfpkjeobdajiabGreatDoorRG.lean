/- the reference's Digits on rational numbers' parts. -/
import Derived.Test.YthfpkjeobdajiabGreatDoorRT
namespace Go.Proofs.YthfpkjeobdajiabGreatDoor
open Go.RowKit M
theorem strOf_digit (k : Nat) (hk : k < 10) : strOfNums [((48 + k : Nat) : Int)] = strL [UInt8.ofNat (48 + k)] := by
  apply ByteArray.ext
  show (List.map (fun n : Int => UInt8.ofNat n.toNat) [((48 + k : Nat) : Int)]).toArray = _
  simp only [List.map_cons, List.map_nil, Int.toNat_natCast]
theorem strL_append (a b : List UInt8) : strL a ++ strL b = strL (a ++ b) := by
  apply ByteArray.ext; simp [ByteArray.data_append]
theorem digits_len (u : Nat) (h : u ≤ 1000000000) : (Lib.decDigits u).length ≤ 10 := by
  rw [Lib.decDigits_length]; exact nDigits_le 9 u (by omega)
theorem digits_step (m : Nat) (h : 9 < m) : Lib.decDigits m = Lib.decDigits (m / 10) ++ [UInt8.ofNat (48 + m % 10)] := by
  conv => lhs; rw [Lib.decDigits]
  rw [dif_neg (by omega)]
set_option maxRecDepth 20000 in
theorem refDigits_any (u : Nat) (w : World) (hu : u ≤ 1000000000) :
    Calls Tryz.prog 60 #[.int .i64 u] w fun e w' => e = .returned (.string (strL (Lib.decDigits u))) ∧ Below w.heap.size w w' := by
  have hl := Bx.mk (digits_len u hu)
  go_enter Tryz.func60, Tryz.ntmps60
  go_wp2_with fail
  go_loopw [0, 3] (fun nv sv wr => ∃ (m : Nat) (D : List UInt8), nv = .int .i64 m ∧ sv = .string (strL D) ∧ m ≤ u ∧ Bx (Lib.decDigits u = Lib.decDigits m ++ D) ∧ Below w.heap.size w wr) (fun nv _ _ => (intOf nv).toNat)
  case atStart => exact ⟨u, [], rfl, rfl, Nat.le_refl _, ⟨by simp⟩, Below.refl _ _⟩
  case round =>
    obtain ⟨m, D, rfl, rfl, hm, HD, hb⟩ := hrel
    have hDl : (strL D).size ≤ 10 := by
      have h1 : (strL D).size = D.length := by simp [ByteArray.size]
      have h2 : (Lib.decDigits u).length = (Lib.decDigits m).length + D.length := by rw [HD.out, List.length_append]
      have := hl.out
      omega
    obtain ⟨sd, hsd⟩ : ∃ s, strL D = s := ⟨_, rfl⟩
    rw [hsd] at hDl ⊢
    have HSD := Bx.mk hsd
    clear hsd
    have HB := Bx.mk hb
    clear hb hl
    by_cases hlt : 9 < m
    · have hconv := run_convert_bytes_arg (P := Tryz.prog) (wr.alloc (.cells #[.int .u8 (48 + (m : Int) % 10)] 5)) 79 5 Tryz.underlying79 Tryz.underlying5 wr.heap.size 0 1 1 [48 + (m : Int) % 10] rfl (fun i hi => by
        obtain rfl : i = 0 := by omega
        simp [go_sem]) 9 Tryz.underlying9
      have he : strOfNums [48 + (m : Int) % 10] = strL [UInt8.ofNat (48 + m % 10)] := by
        rw [← strOf_digit (m % 10) (by omega)]; congr 2
      obtain ⟨sb, hsb⟩ : ∃ s, strOfNums [48 + (m : Int) % 10] = s := ⟨_, rfl⟩
      have hsz : sb.size ≤ 1 := by rw [← hsb, strOfNums_size]; simp
      rw [hsb] at hconv he
      have HE := Bx.mk he
      have y1 : ¬ 9223372036854775807 < sb.size + sd.size := by omega
      clear hsb he
      go_wp2
      go_roundw
      case rel => exact ⟨m / 10, UInt8.ofNat (48 + m % 10) :: D, by go_num, by rw [HE.out, ← HSD.out, strL_append]; rfl, by omega, ⟨by rw [HD.out, digits_step m hlt, List.append_assoc]; rfl⟩, HB.out.alloc HB.out.size _⟩
      case measure => simp [intOf]; omega
    · have hconv := run_convert_bytes_arg (P := Tryz.prog) (wr.alloc (.cells #[.int .u8 (48 + (m : Int))] 5)) 79 5 Tryz.underlying79 Tryz.underlying5 wr.heap.size 0 1 1 [48 + (m : Int)] rfl (fun i hi => by
        obtain rfl : i = 0 := by omega
        simp [go_sem]) 9 Tryz.underlying9
      have he : strOfNums [48 + (m : Int)] = strL [UInt8.ofNat (48 + m)] := by
        rw [← strOf_digit m (by omega)]; congr 2
      obtain ⟨sb, hsb⟩ : ∃ s, strOfNums [48 + (m : Int)] = s := ⟨_, rfl⟩
      have hsz : sb.size ≤ 1 := by rw [← hsb, strOfNums_size]; simp
      rw [hsb] at hconv he
      have HE := Bx.mk he
      have y1 : ¬ 9223372036854775807 < sb.size + sd.size := by omega
      clear hsb he
      go_wp2
      go_ret
      refine ⟨?_, HB.out.alloc HB.out.size _⟩
      rw [HE.out, ← HSD.out, strL_append, HD.out, Lib.decDigits_one (by omega)]
      rfl
end Go.Proofs.YthfpkjeobdajiabGreatDoor

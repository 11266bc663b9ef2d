/- the reference's number, is. -/
import Derived.Test.YtdlfnonlalkjdaaGreatDoorU9
namespace Go.Proofs.YtdlfnonlalkjdaaGreatDoor
open Go.RowKit M
/-- What is left of a string at an index. -/
def At (s : ByteArray) (a : Nat) (r : List UInt8) : Prop := ∃ p, s = strL (p ++ r) ∧ p.length = a
theorem At.len {s : ByteArray} {a : Nat} {r : List UInt8} (h : At s a r) : a + r.length = s.size := by
  obtain ⟨p, rfl, rfl⟩ := h
  rw [strL_len, List.length_append]
theorem At.next {s : ByteArray} {a : Nat} {b : UInt8} {t : List UInt8} (h : At s a (b :: t)) : At s (a + 1) t := by
  obtain ⟨p, rfl, rfl⟩ := h
  exact ⟨p ++ [b], by simp, by simp⟩
theorem At.byte {s : ByteArray} {a : Nat} {b : UInt8} {t : List UInt8} (h : At s a (b :: t)) : ∃ k : a < s.size, (s[a]'k).toNat = b.toNat := by
  obtain ⟨p, rfl, rfl⟩ := h
  refine ⟨by rw [strL_len]; simp, ?_⟩
  show ((p ++ b :: t).toArray[p.length]'(by simp)).toNat = b.toNat
  simp
/-- The number of up to f digits that comes next, and what is left. -/
def nm3 : Nat → Nat → List UInt8 → Nat × List UInt8
  | 0, n, r => (n, r)
  | _ + 1, n, [] => (n, [])
  | f + 1, n, b :: t => if 48 ≤ b.toNat ∧ b.toNat ≤ 57 then nm3 f (10 * n + (b.toNat - 48)) t else (n, b :: t)
theorem nm3_bd : ∀ (f n : Nat) (r : List UInt8), (nm3 f n r).1 + 1 ≤ 10 ^ f * (n + 1)
  | 0, n, r => by simp [nm3]
  | f + 1, n, [] => by
    simp only [nm3]
    have : 1 ≤ 10 ^ (f + 1) := Nat.one_le_pow _ _ (by omega)
    exact Nat.le_mul_of_pos_left _ this
  | f + 1, n, b :: t => by
    simp only [nm3]
    split
    · have h := nm3_bd f (10 * n + (b.toNat - 48)) t
      refine Nat.le_trans h ?_
      rw [Nat.pow_succ, Nat.mul_assoc]
      exact Nat.mul_le_mul_left _ (by omega)
    · have : 1 ≤ 10 ^ (f + 1) := Nat.one_le_pow _ _ (by omega)
      exact Nat.le_mul_of_pos_left _ this
theorem nm3_len : ∀ (f n : Nat) (r : List UInt8), (nm3 f n r).2.length ≤ r.length
  | 0, n, r => by simp [nm3]
  | f + 1, n, [] => by simp [nm3]
  | f + 1, n, b :: t => by
    simp only [nm3]
    split
    · have := nm3_len f (10 * n + (b.toNat - 48)) t
      rw [List.length_cons]; omega
    · exact Nat.le_refl _
def hd (r : List UInt8) (b : Nat) : Bool := match r with | [] => false | c :: _ => c.toNat == b
theorem refNumber_any (s : ByteArray) (a : Nat) (r : List UInt8) (w : World) (h : At s a r) (hs : s.size ≤ 200) :
    Calls Tryz.prog 44 #[.string s, .int .i64 (a : Int)] w fun e w' => (∃ a' : Nat, e = .returned (.tuple #[.int .i64 ((nm3 3 0 r).1 : Int), .int .i64 (a' : Int)]) ∧ At s a' (nm3 3 0 r).2) ∧ Below w.heap.size w w' := by
  have H := Hx.mk h
  have ha := h.len
  have ha2 : a ≤ 200 := by omega
  clear h ha
  go_enter Tryz.func44, Tryz.ntmps44
  go_wp2_with fail
  go_loopw [1, 6] (fun av nv wr => ∃ (b n f : Nat) (r' : List UInt8), av = .int .i64 (b : Int) ∧ nv = .int .i64 (n : Int) ∧ b + f = a + 3 ∧ f ≤ 3 ∧ Hx (n < 10 ^ (3 - f)) ∧ Hx (At s b r') ∧ Hx (nm3 f n r' = nm3 3 0 r) ∧ Hx (Below w.heap.size w wr)) (fun av _ _ => 300 - (intOf av).toNat)
  case atStart => exact ⟨a, 0, 3, r, rfl, rfl, rfl, by omega, ⟨by decide⟩, H, ⟨rfl⟩, ⟨Below.refl _ _⟩⟩
  case round =>
    obtain ⟨b, n, f, r', rfl, rfl, hbf, hf3, HP, HA, HN, HB⟩ := hrel
    have hlen := HA.out.len
    cases r' with
    | nil =>
      have hbs : b = s.size := by simpa using hlen
      have HE : Hx (nm3 3 0 r = (n, [])) := ⟨by rw [← HN.out]; cases f <;> rfl⟩
      have hd1 : decide ((b : Int) < (s.size : Int)) = false := by simp; omega
      clear hlen HN
      go_wp2
      go_ret2
      exact ⟨⟨b, by rw [HE.out]; rfl, by rw [HE.out]; exact HA.out⟩, by repeat (first | exact HB.out | apply Below.drew | apply below_drewN)⟩
    | cons c t =>
      obtain ⟨hk, hc⟩ := HA.out.byte
      obtain ⟨x, hx⟩ : ∃ x : Nat, (s[b].toNat : Int) = (x : Int) := ⟨_, rfl⟩
      have hxc : c.toNat = x := by rw [← hc]; exact_mod_cast hx
      have hx255 : x ≤ 255 := by rw [← hxc]; have := c.toNat_lt; omega
      have hd1 : (b : Int) < (s.size : Int) := by omega
      clear hlen
      cases f with
      | zero =>
        have HE : Hx (nm3 3 0 r = (n, c :: t)) := ⟨HN.out.symm⟩
        have hd2 : decide ((b : Int) < (a : Int) + 3) = false := by simp; omega
        clear HN hc hxc
        go_wp2
        go_ret2
        exact ⟨⟨b, by rw [HE.out]; rfl, by rw [HE.out]; exact HA.out⟩, by repeat (first | exact HB.out | apply Below.drew | apply below_drewN)⟩
      | succ f =>
        have hd2 : (b : Int) < (a : Int) + 3 := by omega
        by_cases h1 : 48 ≤ x
        · by_cases h2 : x ≤ 57
          · have HN2 : Hx (nm3 f (10 * n + (x - 48)) t = nm3 3 0 r) := ⟨by rw [← HN.out, nm3, hxc, if_pos ⟨h1, h2⟩]⟩
            have hb0 : n ≤ 99 := by
              have k1 := HP.out
              have k2 : 10 ^ (3 - (f + 1)) ≤ 10 ^ 2 := Nat.pow_le_pow_right (by omega) (by omega)
              omega
            have HA2 := Hx.mk HA.out.next
            obtain ⟨y, hy⟩ : ∃ y : Nat, x - 48 = y := ⟨_, rfl⟩
            have hyx : (x : Int) - 48 = (y : Int) := by omega
            have hy9 : y ≤ 9 := by omega
            rw [hy] at HN2
            have HP2 : Hx (10 * n + y < 10 ^ (3 - f)) := ⟨by
              have k1 := HP.out
              rw [show 3 - f = (3 - (f + 1)) + 1 by omega, Nat.pow_succ]
              omega⟩
            have h1' : (48 : Int) ≤ (x : Int) := by omega
            have h2' : (x : Int) ≤ 57 := by omega
            clear hc hxc HN hy h1 h2
            go_wp2
            go_roundw
            case rel => exact ⟨b + 1, 10 * n + y, f, t, by go_num, by go_num, by omega, by omega, HP2, HA2, HN2, ⟨by repeat (first | exact HB.out | apply Below.drew | apply below_drewN)⟩⟩
            case measure => simp [intOf]; omega
          · have HE : Hx (nm3 3 0 r = (n, c :: t)) := ⟨by rw [← HN.out, nm3, hxc, if_neg (by omega)]⟩
            have h1' : (48 : Int) ≤ (x : Int) := by omega
            have h2' : (57 : Int) < (x : Int) := by omega
            clear hc hxc HN h1 h2
            go_wp2
            go_ret2
            exact ⟨⟨b, by rw [HE.out]; rfl, by rw [HE.out]; exact HA.out⟩, by repeat (first | exact HB.out | apply Below.drew | apply below_drewN)⟩
        · have HE : Hx (nm3 3 0 r = (n, c :: t)) := ⟨by rw [← HN.out, nm3, hxc, if_neg (by omega)]⟩
          have h1' : (x : Int) < 48 := by omega
          clear hc hxc HN h1
          go_wp2
          go_ret2
          exact ⟨⟨b, by rw [HE.out]; rfl, by rw [HE.out]; exact HA.out⟩, by repeat (first | exact HB.out | apply Below.drew | apply below_drewN)⟩
theorem refIs_any (s : ByteArray) (a k : Nat) (r : List UInt8) (w : World) (h : At s a r) (hs : s.size ≤ 200) (hk : k ≤ 255) (b : Bool) (hb : hd r k = b) :
    Calls Tryz.prog 45 #[.string s, .int .i64 (a : Int), .int .u8 (k : Int)] w fun e w' => e = .returned (.bool b) ∧ Below w.heap.size w w' := by
  have hlen := h.len
  have ha2 : a ≤ 200 := by omega
  cases r with
  | nil =>
    obtain rfl : b = false := hb.symm
    have has : a = s.size := by simpa using hlen
    have hd1 : decide ((a : Int) < (s.size : Int)) = false := by simp; omega
    clear hlen h hb
    go_enter Tryz.func45, Tryz.ntmps45
    go_wp2
    go_ret
    exact ⟨rfl, by repeat (first | exact Below.refl _ _ | apply Below.drew | apply below_drewN)⟩
  | cons c t =>
    obtain ⟨hk2, hc⟩ := h.byte
    obtain ⟨x, hx⟩ : ∃ x : Nat, (s[a].toNat : Int) = (x : Int) := ⟨_, rfl⟩
    have hxc : c.toNat = x := by rw [← hc]; exact_mod_cast hx
    have hd1 : (a : Int) < (s.size : Int) := by omega
    have hbb : ((x : Int) == (k : Int)) = b := by
      rw [← hb]; show _ = (c.toNat == k); rw [hxc]
      by_cases e : x = k
      · subst e; simp
      · rw [beq_eq_false_iff_ne.2 (by omega), beq_eq_false_iff_ne.2 e]
    clear hlen h hb hc hxc
    go_enter Tryz.func45, Tryz.ntmps45
    go_wp2
    go_ret
    exact ⟨rfl, by repeat (first | exact Below.refl _ _ | apply Below.drew | apply below_drewN)⟩
end Go.Proofs.YtdlfnonlalkjdaaGreatDoor

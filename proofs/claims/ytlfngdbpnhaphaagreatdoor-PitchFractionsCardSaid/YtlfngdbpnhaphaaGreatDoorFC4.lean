/- PitchFractions, put together. -/
import Derived.Test.YtlfngdbpnhaphaaGreatDoorFC1
import Derived.Test.YtlfngdbpnhaphaaGreatDoorFC2
import Derived.Test.YtlfngdbpnhaphaaGreatDoorFC3
import Derived.Test.YtlfngdbpnhaphaaGreatDoorP20
namespace Go.Proofs.YtlfngdbpnhaphaaGreatDoor
open Go.RowKit M
theorem fractions_all (s t : Nat → Int) (n d : Int) (w : World) (hg : Gv w) :
    Calls Tryz.prog 8 #[PV s, PV t, .int .i64 n, .int .i64 d] w fun e w' => e = .returned (.bool true) ∧ Below w.heap.size w w' := by
  obtain ⟨u, c, hr⟩ := ratR_ex n d
  have ok : ∀ (z : Nat → Int), bdB z 48 = true → Hx (∀ w, Pm w → Calls Tryz.prog 29 #[PV z] w fun e w' => ∃ a b, e = .returned (.tuple #[a, b, .int .i64 0]) ∧ Nm w' a (up z) ∧ Nm w' b (dn z) ∧ Below w.heap.size w w') := fun z hz => ⟨fun w hP => pfraction_ok z w hP hz⟩
  have no : ∀ (z : Nat → Int), bdB z 48 = false → Hx (∀ w, Calls Tryz.prog 29 #[PV z] w fun e w' => e = .returned (.tuple #[.slice none 0 0, .slice none 0 0, .int .i64 1]) ∧ Below w.heap.size w w') := fun z hz => ⟨fun w => pfraction_no z w hz⟩
  have iv : ∀ (z : Nat → Int) (b : Bool), bdB z 48 = b → Hx (∀ w, Calls Tryz.prog 14 #[PV z] w fun e w' => e = .returned (.bool b) ∧ Below w.heap.size w w') := fun z b hz => ⟨fun w => refInterval_any z w b hz⟩
  have lim : ∀ (z : Nat → Int), bdB z 48 = true → bdB (fun i => 12 * z i) 576 = true := fun z hz => bdB_yes.2 fun i hi => by have := bdB_yes.1 hz i hi; omega
  have cmp : bdB s 48 = true → bdB t 48 = true → Hx (∀ w, Pm w → Calls Tryz.prog 25 #[PV fun i => 12 * s i, PV fun i => 12 * t i] w fun e w' => e = .returned (.tuple #[.int .i64 (sg fun i => s i - t i), .int .i64 0]) ∧ Below w.heap.size w w') := fun hs ht => ⟨fun w hP => by
    have := pcmp_ok (fun i => 12 * s i) (fun i => 12 * t i) w hP (lim s hs) (lim t ht)
    rw [sg_quo (a := s) (b := t) (n := 12) (d := 1) (by omega) (by omega) (fun i _ => by omega) (fun i _ => by omega)] at this
    exact this⟩
  have oof : ∀ (z : Nat → Int), bdB z 48 = true → Hx (∀ w, Calls Tryz.prog 15 #[PV z] w (OutV w (fun i => 12 * z i) 0)) := fun z hz => ⟨fun w => of_ok z _ w hz fun _ _ => rfl⟩
  by_cases c0 : c = 0
  · subst c0
    obtain ⟨m, k, rfl, rfl, m0, m1, k0, k1, h1, h2, h3⟩ := hr.val rfl
    have K1 := Hx.mk hr.call
    have K2 := ok u (bdB_yes.2 fun i hi => by have := h3 i hi; omega)
    have hle : up u ≤ m := Nat.le_of_dvd (by omega) h2
    have hpos := up_pos u
    have FB : Fits (dn u * m) := by
      rw [← h1]
      exact fits_small (Nat.lt_of_le_of_lt (Nat.mul_le_mul (Nat.le_trans hle m1) k1) (by decide))
    have FA : Fits (up u * k) := by rw [h1]; exact FB
    have HZ : Hx (up u ≠ 0 ∧ up u * k = dn u * m ∧ m % up u = 0) := ⟨by omega, h1, Nat.mod_eq_zero_of_dvd h2⟩
    cases hs : bdB s 48 with
    | true =>
      cases ht : bdB t 48 with
      | true => exact fr_yyy s t w hg m k u _ _ m0 m1 k0 k1 ⟨FA⟩ ⟨FB⟩ HZ K1 K2 _ _ _ _ _ _ _ ⟨up48 s (bdB_yes.1 hs) t (bdB_yes.1 ht)⟩ ⟨up48 t (bdB_yes.1 ht) s (bdB_yes.1 hs)⟩ ⟨sg_frac s t⟩ (ok s hs) (ok t ht) (oof s hs) (oof t ht) (cmp hs ht)
      | false => exact fr_yyn s t w hg m k u _ _ m0 m1 k0 k1 ⟨FA⟩ ⟨FB⟩ HZ K1 K2 _ _ (ok s hs) (no t ht) (iv s true hs) (iv t false ht)
    | false =>
      cases ht : bdB t 48 with
      | true => exact fr_yny s t w hg m k u _ _ m0 m1 k0 k1 ⟨FA⟩ ⟨FB⟩ HZ K1 K2 _ _ (no s hs) (ok t ht) (iv s false hs)
      | false => exact fr_ynn s t w hg m k u _ _ m0 m1 k0 k1 ⟨FA⟩ ⟨FB⟩ HZ K1 K2 (no s hs) (no t ht) (iv s false hs)
  · have K1 := Hx.mk hr.call
    cases hs : bdB s 48 with
    | true =>
      cases ht : bdB t 48 with
      | true => exact fr_nyy s t w hg n d u c c0 K1 _ _ _ _ _ _ _ ⟨up48 s (bdB_yes.1 hs) t (bdB_yes.1 ht)⟩ ⟨up48 t (bdB_yes.1 ht) s (bdB_yes.1 hs)⟩ ⟨sg_frac s t⟩ (ok s hs) (ok t ht) (oof s hs) (oof t ht) (cmp hs ht)
      | false => exact fr_nyn s t w hg n d u c c0 K1 _ _ (ok s hs) (no t ht) (iv s true hs) (iv t false ht)
    | false =>
      cases ht : bdB t 48 with
      | true => exact fr_nny s t w hg n d u c c0 K1 _ _ (no s hs) (ok t ht) (iv s false hs)
      | false => exact fr_nnn s t w hg n d u c c0 K1 (no s hs) (no t ht) (iv s false hs)
end Go.Proofs.YtlfngdbpnhaphaaGreatDoor

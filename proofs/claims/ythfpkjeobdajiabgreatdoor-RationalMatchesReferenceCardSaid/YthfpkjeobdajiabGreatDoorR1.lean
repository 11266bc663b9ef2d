/- rational.magnitude, divisor, Valid, reduce. -/
import Derived.Test.YthfpkjeobdajiabGreatDoorProg
import Derived.Test.YthfpkjeobdajiabGreatDoorRMath
import Derived.WalkKit
import Derived.Handy
import Derived.Lib.Hide
import Derived.Deep.QuietTactic
import Derived.BigQuiet
import Derived.StillTailTactics
import Derived.Deep.RegionHeld3
import Derived.Deep.RegionWith
import Derived.WalkLawsBesides
import Derived.WalkSpells
import Derived.Recover
import Derived.Deep.DeepFit
import Derived.Below
namespace Go.Proofs.YthfpkjeobdajiabGreatDoor
open Go.RowKit M
/-- A number of the program. -/
abbrev RV (n d : Int) : Value := .agg #[.int .i64 n, .int .i64 d]
/-- An int. -/
structure I64 (n : Int) : Prop where
  lo : -9223372036854775808 ≤ n
  hi : n ≤ 9223372036854775807
/-- A fact that the walk leaves alone. -/
structure Bx (p : Prop) : Prop where
  out : p
theorem wrap64 (n : Int) : IntKind.u64.wrap n = n % 18446744073709551616 := by simp [IntKind.wrap, IntKind.signed, IntKind.bits]
theorem magnitude_any (n : Int) (w : World) (h : I64 n) :
    Calls Tryz.prog 30 #[.int .i64 n] w fun e w' => e = .returned (.int .u64 (n.natAbs : Int)) ∧ w = w' := by
  have h1 := h.lo
  have h2 := h.hi
  by_cases hn : n < 0
  · have hw : IntKind.u64.wrap (-IntKind.u64.wrap n) = (n.natAbs : Int) := by rw [wrap64, wrap64]; omega
    have HW := Bx.mk hw
    clear hw
    go_enter Tryz.func30, Tryz.ntmps30
    go_wp2
    go_ret
    exact ⟨by simp only [← HW.out]; rfl, rfl⟩
  · go_enter Tryz.func30, Tryz.ntmps30
    go_wp2
    go_ret
    refine ⟨?_, rfl⟩
    rw [Int.natAbs_of_nonneg (by omega)]; rfl
/-- The world but for the count of draws. -/
def Quiet (w w' : World) : Prop := ∃ d, w' = w.drewN d
theorem below_drewN {B : Nat} {a w : World} (h : Below B a w) (n : Nat) : Below B a (w.drewN n) := ⟨h.os, h.tape, h.output, h.size, h.block⟩
theorem Quiet.below {w w' : World} (h : Quiet w w') (B : Nat) : Below B w w' := by obtain ⟨d, rfl⟩ := h; exact below_drewN (Below.refl _ _) d
theorem Quiet.refl (w : World) : Quiet w w := ⟨0, rfl⟩
theorem Quiet.drewN {w w' : World} (h : Quiet w w') (n : Nat) : Quiet w (w'.drewN n) := by obtain ⟨d, rfl⟩ := h; exact ⟨d + n, by simp [World.drewN, Nat.add_assoc]⟩
theorem divisor_any (a b g : Nat) (w : World) (ha : a ≤ 18446744073709551615) (hb : b ≤ 18446744073709551615) (hg : Nat.gcd a b = g) :
    Calls Tryz.prog 31 #[.int .u64 (a : Int), .int .u64 (b : Int)] w fun e w' => e = .returned (.int .u64 (g : Int)) ∧ Quiet w w' := by
  have HG := Bx.mk hg
  clear hg
  go_enter Tryz.func31, Tryz.ntmps31
  go_wp2
  go_loopw [0, 1] (fun av bv wr => ∃ x y : Nat, av = .int .u64 (x : Int) ∧ bv = .int .u64 (y : Int) ∧ x ≤ 18446744073709551615 ∧ y ≤ 18446744073709551615 ∧ Bx (Nat.gcd x y = g) ∧ Quiet w wr) (fun _ bv _ => (intOf bv).toNat)
  case atStart => exact ⟨a, b, rfl, rfl, ha, hb, HG, Quiet.refl w⟩
  case round =>
    clear ha hb
    obtain ⟨x, y, rfl, rfl, hx, hy, HXY, hq⟩ := hrel
    by_cases h0 : y = 0
    · subst h0
      have hgx : x = g := by have := HXY.out; simpa using this
      subst hgx
      go_wp2
      go_ret
      exact ⟨rfl, hq⟩
    · have HR := Bx.mk (show Nat.gcd y (x % y) = g from by rw [Nat.gcd_comm, ← Nat.gcd_rec, Nat.gcd_comm]; exact HXY.out)
      have hz : ((y : Int) == 0) = false := beq_eq_false_iff_ne.2 (by omega)
      have hm : (x : Int).tmod (y : Int) = ((x % y : Nat) : Int) := by rw [Int.tmod_eq_emod_of_nonneg (by omega)]; omega
      have hlt : x % y < y := Nat.mod_lt _ (by omega)
      have hpos : 0 < (y : Int) := by omega
      go_wp2
      go_quiet (fail)
      go_wp2
      refine ⟨⟨y, x % y, rfl, ?_, hy, by omega, HR, hq.drewN _⟩, ?_⟩
      · rfl
      · simp [intOf]; omega
theorem validQ_no (n d : Int) (h : 1000000000 < n.natAbs ∨ d < 1 ∨ 1000000000 < d) : validQ n d = false := by
  by_cases hv : validQ n d = true
  · have hb := validQ_bd n d hv
    have := hb.lo
    have := hb.hi
    have := hb.pos
    have := hb.top
    omega
  · simpa using hv
theorem valid_any (n d : Int) (w : World) (hn : I64 n) (hd : I64 d) :
    Calls Tryz.prog 5 #[RV n d] w fun e w' => e = .returned (.bool (validQ n d)) ∧ Below w.heap.size w w' := by
  have h1 := hd.lo
  have h2 := hd.hi
  have HN := Bx.mk (fun w => magnitude_any n w hn)
  have HB := Bx.mk ((Below.refl w.heap.size w).alloc (Nat.le_refl _) (.cells #[.int .i64 n, .int .i64 d] 23))
  clear hn hd
  by_cases c1 : 1000000000 < n.natAbs
  · have HV := Bx.mk (validQ_no n d (.inl c1))
    have c1 : (1000000000 : Int) < (n.natAbs : Int) := by omega
    go_enter Tryz.func5, Tryz.ntmps5
    go_wp2_with fail
    refine (HN.out _).mono ?_
    rintro e w' ⟨rfl, rfl⟩
    go_wp2
    go_ret
    exact ⟨by rw [HV.out]; rfl, HB.out⟩
  have c1 : (n.natAbs : Int) ≤ 1000000000 := by omega
  by_cases c2 : d < 1
  · have HV := Bx.mk (validQ_no n d (.inr (.inl c2)))
    go_enter Tryz.func5, Tryz.ntmps5
    go_wp2_with fail
    refine (HN.out _).mono ?_
    rintro e w' ⟨rfl, rfl⟩
    go_wp2
    go_ret
    exact ⟨by rw [HV.out]; rfl, HB.out⟩
  by_cases c3 : 1000000000 < d
  · have HV := Bx.mk (validQ_no n d (.inr (.inr c3)))
    go_enter Tryz.func5, Tryz.ntmps5
    go_wp2_with fail
    refine (HN.out _).mono ?_
    rintro e w' ⟨rfl, rfl⟩
    go_wp2
    go_ret
    exact ⟨by rw [HV.out]; rfl, HB.out⟩
  obtain ⟨D, rfl⟩ : ∃ D : Nat, d = D := ⟨d.toNat, by omega⟩
  obtain ⟨g, hg⟩ : ∃ g, Nat.gcd n.natAbs D = g := ⟨_, rfl⟩
  have HG := Bx.mk (fun w => divisor_any n.natAbs D g w (by omega) (by omega) hg)
  have HV := Bx.mk (show validQ n D = ((g : Int) == 1) from by
    have e : ((g : Int) == 1) = decide (g = 1) := by by_cases h : g = 1 <;> simp [h] <;> omega
    rw [e]; unfold validQ; simp [hg]; omega)
  clear hg
  go_enter Tryz.func5, Tryz.ntmps5
  go_wp2_with fail
  refine (HN.out _).mono ?_
  rintro e w' ⟨rfl, rfl⟩
  go_wp2_with fail
  refine (HG.out _).mono ?_
  rintro e w' ⟨rfl, d, rfl⟩
  go_wp2
  go_ret
  exact ⟨by rw [HV.out]; rfl, below_drewN HB.out d⟩
end Go.Proofs.YthfpkjeobdajiabGreatDoor

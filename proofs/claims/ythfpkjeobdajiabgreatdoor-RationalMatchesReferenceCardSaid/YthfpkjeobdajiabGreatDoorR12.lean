/- Near and Simple. -/
import Derived.Test.YthfpkjeobdajiabGreatDoorR11
namespace Go.Proofs.YthfpkjeobdajiabGreatDoor
open Go.RowKit M
theorem calls_some {f : FuncId} {args : Array Value} {w : World} {R : Ending → World → Prop} (h : Calls Tryz.prog f args w R) : ∃ e w', R e w' := by
  obtain ⟨e, w', _, r, _⟩ := h []
  exact ⟨e, w', r⟩
theorem near_some (n1 d1 m : Int) (i1 : I64 n1) (i2 : I64 d1) (w : World) : ∃ x y c, NearR n1 d1 m x y c := by
  obtain ⟨_, _, x, y, c, h, _⟩ := calls_some (closNear_any w.heap.size (w.heap.size + 1) n1 d1 m (((w.alloc (.cells #[.int .i64 n1, .int .i64 d1] 23)).alloc (.cells #[.int .i64 m] 3)).alloc (.cells #[.int .i64 0, .int .i64 0] 23)) ⟨by simp <;> omega, by simp [go_sem], by simp [go_sem]⟩ (by simp [go_sem]) (by simp <;> omega) i1 i2)
  exact ⟨x, y, c, h⟩
theorem near_any (n1 d1 m x y c : Int) (w : World) (i1 : I64 n1) (i2 : I64 d1) (hr : NearR n1 d1 m x y c) : Calls Tryz.prog 17 #[RV n1 d1, .int .i64 m] w (OutR ⟨x, y, c⟩ w) := by
  have hmf : ∀ (fn : Fn) (first cap : Array Value) (w : World), (Instr.makeFunc fn first cap).run Tryz.prog w = .ok (.func fn first cap) w := fun _ _ _ _ => rfl
  have hW : Below w.heap.size w (((w.alloc (.cells #[.int .i64 n1, .int .i64 d1] 23)).alloc (.cells #[.int .i64 m] 3)).alloc (.cells #[.int .i64 0, .int .i64 0] 23)) := by repeat (first | exact Below.refl _ _ | apply below_drewN | refine Below.setCell ?_ (by simp <;> omega) _ | refine Below.alloc ?_ (by simp <;> omega) _)
  have HP : Plc (((w.alloc (.cells #[.int .i64 n1, .int .i64 d1] 23)).alloc (.cells #[.int .i64 m] 3)).alloc (.cells #[.int .i64 0, .int .i64 0] 23)) (w.heap.size + 1 + 1) := ⟨by simp <;> omega, by simp [go_sem], by simp [go_sem], by simp [go_sem], by simp [go_sem]⟩
  have HC := Bx.mk (attemptNear_any ⟨w.heap.size, 0, none⟩ ⟨w.heap.size + 1, 0, none⟩ x y c (((w.alloc (.cells #[.int .i64 n1, .int .i64 d1] 23)).alloc (.cells #[.int .i64 m] 3)).alloc (.cells #[.int .i64 0, .int .i64 0] 23)) fun w' hb => (closNear_any _ _ n1 d1 m w' ⟨Nat.lt_of_lt_of_le (by simp <;> omega) hb.size, kc hb (by simp [go_sem]) (by simp <;> omega), kc hb (by simp [go_sem]) (by simp <;> omega)⟩ (kc hb (by simp [go_sem]) (by simp <;> omega)) (Nat.lt_of_lt_of_le (by simp <;> omega) hb.size) i1 i2).mono fun e w2 ⟨x', y', c', h, hg⟩ => (by obtain ⟨rfl, rfl, rfl⟩ := hr.unique h; exact hg))
  have HPP := Bx.mk (And.intro hW HP)
  clear hW HP
  go_enter Tryz.func17, Tryz.ntmps17
  go_wp2_with fail
  refine HC.out.mono ?_
  rintro e w2 ⟨rfl, hb⟩
  obtain ⟨hW, HP⟩ := HPP.out
  have hB := Bx.mk (hW.trans (hb.mono (by simp <;> omega)))
  obtain ⟨p0, p1, p2, p3, p4⟩ := HP.keep hb
  clear hb hW HP HC HPP
  go_wp2
  (try simp only [Exit.inBlock, Exit.then])
  refine bodyPost_ret_by (v := .tuple #[RV x y, .int .i64 c]) (by simp [results, Tryz.results17, go_sem, p1, p2]) rfl ?_
  exact ⟨rfl, (hB.out.setCell (by show _ ≤ w.heap.size + 1 + 1; omega) _).setCell (by show _ ≤ w.heap.size + 1 + 1; omega) _⟩
theorem simple_some (n1 d1 n2 d2 : Int) (i1 : I64 n1) (i2 : I64 d1) (i3 : I64 n2) (i4 : I64 d2) (w : World) : ∃ x y c, SimpR n1 d1 n2 d2 x y c := by
  obtain ⟨_, _, x, y, c, h, _⟩ := calls_some (closSimple_any w.heap.size (w.heap.size + 1) n1 d1 n2 d2 (((w.alloc (.cells #[.int .i64 n1, .int .i64 d1] 23)).alloc (.cells #[.int .i64 n2, .int .i64 d2] 23)).alloc (.cells #[.int .i64 0, .int .i64 0] 23)) ⟨by simp <;> omega, by simp [go_sem], by simp [go_sem]⟩ ⟨by simp <;> omega, by simp [go_sem], by simp [go_sem]⟩ i1 i2 i3 i4)
  exact ⟨x, y, c, h⟩
theorem simple_any (n1 d1 n2 d2 x y c : Int) (w : World) (i1 : I64 n1) (i2 : I64 d1) (i3 : I64 n2) (i4 : I64 d2) (hr : SimpR n1 d1 n2 d2 x y c) : Calls Tryz.prog 19 #[RV n1 d1, RV n2 d2] w (OutR ⟨x, y, c⟩ w) := by
  have hmf : ∀ (fn : Fn) (first cap : Array Value) (w : World), (Instr.makeFunc fn first cap).run Tryz.prog w = .ok (.func fn first cap) w := fun _ _ _ _ => rfl
  have hW : Below w.heap.size w (((w.alloc (.cells #[.int .i64 n1, .int .i64 d1] 23)).alloc (.cells #[.int .i64 n2, .int .i64 d2] 23)).alloc (.cells #[.int .i64 0, .int .i64 0] 23)) := by repeat (first | exact Below.refl _ _ | apply below_drewN | refine Below.setCell ?_ (by simp <;> omega) _ | refine Below.alloc ?_ (by simp <;> omega) _)
  have HP : Plc (((w.alloc (.cells #[.int .i64 n1, .int .i64 d1] 23)).alloc (.cells #[.int .i64 n2, .int .i64 d2] 23)).alloc (.cells #[.int .i64 0, .int .i64 0] 23)) (w.heap.size + 1 + 1) := ⟨by simp <;> omega, by simp [go_sem], by simp [go_sem], by simp [go_sem], by simp [go_sem]⟩
  have HC := Bx.mk (attemptSimple_any ⟨w.heap.size, 0, none⟩ ⟨w.heap.size + 1, 0, none⟩ x y c (((w.alloc (.cells #[.int .i64 n1, .int .i64 d1] 23)).alloc (.cells #[.int .i64 n2, .int .i64 d2] 23)).alloc (.cells #[.int .i64 0, .int .i64 0] 23)) fun w' hb => (closSimple_any _ _ n1 d1 n2 d2 w' ⟨Nat.lt_of_lt_of_le (by simp <;> omega) hb.size, kc hb (by simp [go_sem]) (by simp <;> omega), kc hb (by simp [go_sem]) (by simp <;> omega)⟩ ⟨Nat.lt_of_lt_of_le (by simp <;> omega) hb.size, kc hb (by simp [go_sem]) (by simp <;> omega), kc hb (by simp [go_sem]) (by simp <;> omega)⟩ i1 i2 i3 i4).mono fun e w2 ⟨x', y', c', h, hg⟩ => (by obtain ⟨rfl, rfl, rfl⟩ := hr.unique h; exact hg))
  have HPP := Bx.mk (And.intro hW HP)
  clear hW HP
  go_enter Tryz.func19, Tryz.ntmps19
  go_wp2_with fail
  refine HC.out.mono ?_
  rintro e w2 ⟨rfl, hb⟩
  obtain ⟨hW, HP⟩ := HPP.out
  have hB := Bx.mk (hW.trans (hb.mono (by simp <;> omega)))
  obtain ⟨p0, p1, p2, p3, p4⟩ := HP.keep hb
  clear hb hW HP HC HPP
  go_wp2
  (try simp only [Exit.inBlock, Exit.then])
  refine bodyPost_ret_by (v := .tuple #[RV x y, .int .i64 c]) (by simp [results, Tryz.results19, go_sem, p1, p2]) rfl ?_
  exact ⟨rfl, (hB.out.setCell (by show _ ≤ w.heap.size + 1 + 1; omega) _).setCell (by show _ ≤ w.heap.size + 1 + 1; omega) _⟩
theorem size_any (n : Int) (w : World) (h : I64 n) : Calls Tryz.prog 33 #[.int .i64 n] w fun e w' => e = .returned (.int .u64 (n.natAbs : Int)) ∧ w' = w := by
  have h1 := h.lo
  have h2 := h.hi
  by_cases hn : n < 0
  · have hw : IntKind.u64.wrap (-IntKind.u64.wrap n) = (n.natAbs : Int) := by rw [wrap64, wrap64]; omega
    have HW := Bx.mk hw
    clear hw
    go_enter Tryz.func33, Tryz.ntmps33
    go_wp2
    go_ret
    exact ⟨by simp only [← HW.out]; rfl, rfl⟩
  · go_enter Tryz.func33, Tryz.ntmps33
    go_wp2
    go_ret
    refine ⟨?_, rfl⟩
    rw [Int.natAbs_of_nonneg (by omega)]; rfl
theorem gcd_any (a b g : Nat) (w : World) (ha : a ≤ 18446744073709551615) (hb : b ≤ 18446744073709551615) (hg : Nat.gcd a b = g) :
    Calls Tryz.prog 32 #[.int .u64 (a : Int), .int .u64 (b : Int)] w fun e w' => e = .returned (.int .u64 (g : Int)) ∧ Quiet w w' := by
  have HG := Bx.mk hg
  clear hg
  go_enter Tryz.func32, Tryz.ntmps32
  go_wp2
  go_loopw [0, 1] (fun av bv wr => ∃ x y : Nat, av = .int .u64 (x : Int) ∧ bv = .int .u64 (y : Int) ∧ x ≤ 18446744073709551615 ∧ y ≤ 18446744073709551615 ∧ Bx (Nat.gcd x y = g) ∧ Quiet w wr) (fun _ bv _ => (intOf bv).toNat)
  case atStart => exact ⟨a, b, rfl, rfl, ha, hb, HG, Quiet.refl w⟩
  case round =>
    clear ha hb
    obtain ⟨x, y, rfl, rfl, hx, hy, HXY, hq⟩ := hrel
    by_cases h0 : y = 0
    · subst h0
      have hgx : x = g := by have := HXY.out; simpa using this
      subst hgx
      go_wp2
      go_ret
      exact ⟨rfl, hq⟩
    · have HR := Bx.mk (show Nat.gcd y (x % y) = g from by rw [Nat.gcd_comm, ← Nat.gcd_rec, Nat.gcd_comm]; exact HXY.out)
      have hz : ((y : Int) == 0) = false := beq_eq_false_iff_ne.2 (by omega)
      have hz' : ((y : Int) != 0) = true := by simp [bne, hz]
      have hm : (x : Int).tmod (y : Int) = ((x % y : Nat) : Int) := by rw [Int.tmod_eq_emod_of_nonneg (by omega)]; omega
      have hlt : x % y < y := Nat.mod_lt _ (by omega)
      have hpos : 0 < (y : Int) := by omega
      go_wp2
      go_quiet (fail)
      go_wp2
      refine ⟨⟨y, x % y, rfl, ?_, hy, by omega, HR, hq.drewN _⟩, ?_⟩
      · rfl
      · simp [intOf]; omega
end Go.Proofs.YthfpkjeobdajiabGreatDoor

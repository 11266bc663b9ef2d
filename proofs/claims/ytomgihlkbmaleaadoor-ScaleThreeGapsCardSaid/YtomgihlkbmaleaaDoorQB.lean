/- The program's scale: what lies in memory; compare, lower, raised, quotient. -/
import Derived.Test.YtomgihlkbmaleaaDoorP13
import Derived.Test.YtomgihlkbmaleaaDoorP21
import Derived.Test.YtomgihlkbmaleaaDoorP11
import Derived.Test.YtomgihlkbmaleaaDoorQA
namespace Go.Proofs.YtomgihlkbmaleaaDoor
open Go.RowKit M
/-- The package's variables. -/
structure Sm (w : World) : Prop where
  pm : Pm w
  ult : 0 < w.heap.size
  olt : 1 < w.heap.size
  u0 : w.cell? ⟨0, 0, none⟩ = some (.int .i64 0)
  u1 : w.cell? ⟨0, 1, none⟩ = some (.int .i64 0)
  u2 : w.cell? ⟨0, 2, none⟩ = some (.int .i64 0)
  u3 : w.cell? ⟨0, 3, none⟩ = some (.int .i64 0)
  u4 : w.cell? ⟨0, 4, none⟩ = some (.int .i64 0)
  u5 : w.cell? ⟨0, 5, none⟩ = some (.int .i64 0)
  o0 : w.cell? ⟨1, 0, none⟩ = some (.int .i64 12)
  o1 : w.cell? ⟨1, 1, none⟩ = some (.int .i64 0)
  o2 : w.cell? ⟨1, 2, none⟩ = some (.int .i64 0)
  o3 : w.cell? ⟨1, 3, none⟩ = some (.int .i64 0)
  o4 : w.cell? ⟨1, 4, none⟩ = some (.int .i64 0)
  o5 : w.cell? ⟨1, 5, none⟩ = some (.int .i64 0)
theorem Sm.keep {w w' : World} (h : Sm w) (hb : Below w.heap.size w w') : Sm w' :=
  ⟨h.pm.keep hb, Nat.lt_of_lt_of_le h.ult hb.size, Nat.lt_of_lt_of_le h.olt hb.size, (hb.cell (p := ⟨0, 0, none⟩) h.ult).trans h.u0, (hb.cell (p := ⟨0, 1, none⟩) h.ult).trans h.u1, (hb.cell (p := ⟨0, 2, none⟩) h.ult).trans h.u2, (hb.cell (p := ⟨0, 3, none⟩) h.ult).trans h.u3, (hb.cell (p := ⟨0, 4, none⟩) h.ult).trans h.u4, (hb.cell (p := ⟨0, 5, none⟩) h.ult).trans h.u5, (hb.cell (p := ⟨1, 0, none⟩) h.olt).trans h.o0, (hb.cell (p := ⟨1, 1, none⟩) h.olt).trans h.o1, (hb.cell (p := ⟨1, 2, none⟩) h.olt).trans h.o2, (hb.cell (p := ⟨1, 3, none⟩) h.olt).trans h.o3, (hb.cell (p := ⟨1, 4, none⟩) h.olt).trans h.o4, (hb.cell (p := ⟨1, 5, none⟩) h.olt).trans h.o5⟩
theorem oldc (w : World) (o : Obj) {b : Nat} (h : b < w.heap.size) (k : Nat) : (w.alloc o).cell? ⟨b, k, none⟩ = w.cell? ⟨b, k, none⟩ :=
  ((Below.refl w.heap.size w).alloc (Nat.le_refl _) o).cell (p := ⟨b, k, none⟩) h
theorem oldc2 (w : World) (o o' : Obj) {b : Nat} (h : b < w.heap.size) (k : Nat) : ((w.alloc o).alloc o').cell? ⟨b, k, none⟩ = w.cell? ⟨b, k, none⟩ :=
  (oldc (w.alloc o) o' (by simp; omega) k).trans (oldc w o h k)
/-- What compare returns. -/
def cm (a b : Nat → Int) : Int := if bdB a 576 && bdB b 576 then sg (subV a b) else 0
def cmE (a b : Nat → Int) : Int := if bdB a 576 && bdB b 576 then 0 else 1
theorem cm_ok {a b : Nat → Int} (ha : bdB a 576 = true) (hb : bdB b 576 = true) : cm a b = sg (subV a b) := by simp [cm, ha, hb]
theorem pcmp_any (a b : Nat → Int) (k c : Int) (hk : cm a b = k) (hc : cmE a b = c) (w : World) (hP : Pm w) : Calls Tryd.prog 12 #[PV a, PV b] w fun e w' => e = .returned (.tuple #[.int .i64 k, .int .i64 c]) ∧ Below w.heap.size w w' := by
  by_cases ha : bdB a 576 = true
  · by_cases hb : bdB b 576 = true
    · have e1 : k = sg fun i => a i - b i := by rw [← hk, cm_ok ha hb]; rfl
      have e2 : c = 0 := by rw [← hc]; simp [cmE, ha, hb]
      rw [e1, e2]; exact pcmp_ok a b w hP ha hb
    · have e1 : k = 0 := by rw [← hk]; simp [cm, hb]
      have e2 : c = 1 := by rw [← hc]; simp [cmE, hb]
      rw [e1, e2]; exact pcmp_b a b w ha (by simpa using hb)
  · have e1 : k = 0 := by rw [← hk]; simp [cm, ha]
    have e2 : c = 1 := by rw [← hc]; simp [cmE, ha]
    rw [e1, e2]; exact pcmp_a a b w (by simpa using ha)
set_option maxRecDepth 100000 in
theorem qcmp_any (a b : Nat → Int) (k : Int) (hk : cm a b = k) (w : World) (hs : Sm w) : Calls Tryd.prog 30 #[PV a, PV b] w fun e w' => e = .returned (.int .i64 k) ∧ Below w.heap.size w w' := by
  obtain ⟨c, hc⟩ : ∃ c, cmE a b = c := ⟨_, rfl⟩
  have H1 := Hx.mk (pcmp_any a b k c hk hc)
  have hP := Hx.mk hs
  clear hk hc hs
  go_enter Tryd.func30, Tryd.ntmps30
  go_wp2_with fail
  refine (H1.out _ (hP.out.pm.keep (by repeat (first | with_reducible exact Below.refl _ _ | (with_reducible refine Below.setCell ?_ ?side _; case side => (first | omega | (simp <;> omega))) | (with_reducible refine Below.alloc ?_ ?side _; case side => (first | omega | (simp <;> omega))) | with_reducible apply below_drewN)))).mono ?_
  rintro e w1 ⟨rfl, hb⟩
  obtain ⟨hc1, hf1⟩ := bcell hb
  have hz1 := hb.size
  (try simp at hz1)
  have hB : Hx (Below w.heap.size w w1) := ⟨Below.trans (by repeat (first | with_reducible exact hB.out | with_reducible exact Below.refl _ _ | (with_reducible refine Below.setCell ?_ ?side _; case side => (first | omega | (simp <;> omega))) | (with_reducible refine Below.alloc ?_ ?side _; case side => (first | omega | (simp <;> omega))) | with_reducible apply below_drewN)) (hb.mono (by first | omega | (simp <;> omega)))⟩
  clear hb
  have hy1_0 : w.heap.size < w1.heap.size := by omega
  have hy1_1 : w.heap.size + 1 < w1.heap.size := by omega
  go_wp2_with fail
  go_ret
  exact ⟨rfl, (by repeat (first | with_reducible exact hB.out | with_reducible exact Below.refl _ _ | (with_reducible refine Below.setCell ?_ ?side _; case side => (first | omega | (simp <;> omega))) | (with_reducible refine Below.alloc ?_ ?side _; case side => (first | omega | (simp <;> omega))) | with_reducible apply below_drewN))⟩
set_option maxRecDepth 100000 in
theorem qlow_any (a b : Nat → Int) (r : Bool) (hr : decide (cm a b < 0) = r) (w : World) (hs : Sm w) : Calls Tryd.prog 24 #[PV a, PV b] w fun e w' => e = .returned (.bool r) ∧ Below w.heap.size w w' := by
  obtain ⟨k, hk⟩ : ∃ k, cm a b = k := ⟨_, rfl⟩
  have H1 := Hx.mk (qcmp_any a b k hk)
  rw [hk] at hr
  have hP := Hx.mk hs
  clear hk hs
  go_enter Tryd.func24, Tryd.ntmps24
  go_wp2_with fail
  refine (H1.out _ (hP.out.keep (by repeat (first | with_reducible exact Below.refl _ _ | (with_reducible refine Below.setCell ?_ ?side _; case side => (first | omega | (simp <;> omega))) | (with_reducible refine Below.alloc ?_ ?side _; case side => (first | omega | (simp <;> omega))) | with_reducible apply below_drewN)))).mono ?_
  rintro e w1 ⟨rfl, hb⟩
  obtain ⟨hc1, hf1⟩ := bcell hb
  have hz1 := hb.size
  (try simp at hz1)
  have hB : Hx (Below w.heap.size w w1) := ⟨Below.trans (by repeat (first | with_reducible exact hB.out | with_reducible exact Below.refl _ _ | (with_reducible refine Below.setCell ?_ ?side _; case side => (first | omega | (simp <;> omega))) | (with_reducible refine Below.alloc ?_ ?side _; case side => (first | omega | (simp <;> omega))) | with_reducible apply below_drewN)) (hb.mono (by first | omega | (simp <;> omega)))⟩
  clear hb
  have hy1_0 : w.heap.size < w1.heap.size := by omega
  have hy1_1 : w.heap.size + 1 < w1.heap.size := by omega
  go_wp2_with fail
  go_ret
  exact ⟨rfl, (by repeat (first | with_reducible exact hB.out | with_reducible exact Below.refl _ _ | (with_reducible refine Below.setCell ?_ ?side _; case side => (first | omega | (simp <;> omega))) | (with_reducible refine Below.alloc ?_ ?side _; case side => (first | omega | (simp <;> omega))) | with_reducible apply below_drewN))⟩
set_option maxRecDepth 100000 in
theorem qraised_any (p r : Nat → Int) (n : Int) (hr : ∀ i, i < 6 → r i = p i + oc n i) (h0 : -1000000 ≤ p 0) (h1 : p 0 ≤ 1000000) (h2 : -1000000 ≤ n) (h3 : n ≤ 1000000) (w : World) (hs : Sm w) : Calls Tryd.prog 23 #[PV p, .int .i64 n] w fun e w' => e = .returned (PV r) ∧ Below w.heap.size w w' := by
  have e0 : r 0 = p 0 + n * 12 := by rw [hr 0 (by omega)]; simp [oc, Int.mul_comm]
  have E : ∀ i, 0 < i → i < 6 → r i = p i := fun i h hi => by rw [hr i hi]; simp [oc] <;> omega
  have e1 := E 1 (by omega) (by omega); have e2 := E 2 (by omega) (by omega); have e3 := E 3 (by omega) (by omega); have e4 := E 4 (by omega) (by omega); have e5 := E 5 (by omega) (by omega)
  obtain ⟨m, hm⟩ : ∃ m, n * 12 = m := ⟨_, rfl⟩
  rw [hm] at e0
  have E0 := Hx.mk e0; have E1 := Hx.mk e1; have E2 := Hx.mk e2; have E3 := Hx.mk e3; have E4 := Hx.mk e4; have E5 := Hx.mk e5
  have g : ∀ o o', ((w.alloc o).alloc o').cell? ⟨1, 0, none⟩ = some (.int .i64 12) := fun o o' => (oldc2 w o o' hs.olt 0).trans hs.o0
  clear hr E e0 e1 e2 e3 e4 e5 hs
  have m0 : -12000000 ≤ m := by omega
  have m1 : m ≤ 12000000 := by omega
  go_enter Tryd.func23, Tryd.ntmps23
  go_wp2
  have d0 := E0.out.symm; have d1 := E1.out.symm; have d2 := E2.out.symm; have d3 := E3.out.symm; have d4 := E4.out.symm; have d5 := E5.out.symm
  simp only [d0, d1, d2, d3, d4, d5]
  exact bodyPost_ret (v := PV r) (by simp [results, Tryd.results23, go_sem]) rfl ⟨rfl, (by repeat (first | with_reducible exact Below.refl _ _ | (with_reducible refine Below.setCell ?_ ?side _; case side => (first | omega | (simp <;> omega))) | (with_reducible refine Below.alloc ?_ ?side _; case side => (first | omega | (simp <;> omega))) | with_reducible apply below_drewN))⟩
theorem ip0 (v : Nat → Int) : ∀ w, (Instr.index 23 (PV v) (.int .i64 0)).run Tryd.prog w = .ok (.int .i64 (v 0)) w := fun _ => by kernel_rfl
theorem ip1 (v : Nat → Int) : ∀ w, (Instr.index 23 (PV v) (.int .i64 1)).run Tryd.prog w = .ok (.int .i64 (v 1)) w := fun _ => by kernel_rfl
theorem ip2 (v : Nat → Int) : ∀ w, (Instr.index 23 (PV v) (.int .i64 2)).run Tryd.prog w = .ok (.int .i64 (v 2)) w := fun _ => by kernel_rfl
theorem ip3 (v : Nat → Int) : ∀ w, (Instr.index 23 (PV v) (.int .i64 3)).run Tryd.prog w = .ok (.int .i64 (v 3)) w := fun _ => by kernel_rfl
theorem ip4 (v : Nat → Int) : ∀ w, (Instr.index 23 (PV v) (.int .i64 4)).run Tryd.prog w = .ok (.int .i64 (v 4)) w := fun _ => by kernel_rfl
theorem ip5 (v : Nat → Int) : ∀ w, (Instr.index 23 (PV v) (.int .i64 5)).run Tryd.prog w = .ok (.int .i64 (v 5)) w := fun _ => by kernel_rfl
set_option maxRecDepth 100000 in
theorem quot_any (a b c : Nat → Int) (hc : ∀ i, i < 6 → c i = a i - b i) (ha : ∀ i, i < 6 → -1000000 ≤ a i ∧ a i ≤ 1000000) (hb : ∀ i, i < 6 → -1000000 ≤ b i ∧ b i ≤ 1000000) (w : World) : Calls Tryd.prog 32 #[PV a, PV b] w fun e w' => e = .returned (PV c) ∧ Below w.heap.size w w' := by
  have i0 := ip0 b
  obtain ⟨l0, u0⟩ := ha 0 (by omega)
  obtain ⟨x0, y0⟩ := hb 0 (by omega)
  have i1 := ip1 b
  obtain ⟨l1, u1⟩ := ha 1 (by omega)
  obtain ⟨x1, y1⟩ := hb 1 (by omega)
  have i2 := ip2 b
  obtain ⟨l2, u2⟩ := ha 2 (by omega)
  obtain ⟨x2, y2⟩ := hb 2 (by omega)
  have i3 := ip3 b
  obtain ⟨l3, u3⟩ := ha 3 (by omega)
  obtain ⟨x3, y3⟩ := hb 3 (by omega)
  have i4 := ip4 b
  obtain ⟨l4, u4⟩ := ha 4 (by omega)
  obtain ⟨x4, y4⟩ := hb 4 (by omega)
  have i5 := ip5 b
  obtain ⟨l5, u5⟩ := ha 5 (by omega)
  obtain ⟨x5, y5⟩ := hb 5 (by omega)
  have E0 := Hx.mk (hc 0 (by omega))
  have E1 := Hx.mk (hc 1 (by omega))
  have E2 := Hx.mk (hc 2 (by omega))
  have E3 := Hx.mk (hc 3 (by omega))
  have E4 := Hx.mk (hc 4 (by omega))
  have E5 := Hx.mk (hc 5 (by omega))
  clear hc ha hb
  go_enter Tryd.func32, Tryd.ntmps32
  go_wp2
  refine wp_loop_rounds 7 ?_
  rw [rounds_succ]
  go_wp2
  rw [rounds_succ]
  go_wp2
  rw [rounds_succ]
  go_wp2
  rw [rounds_succ]
  go_wp2
  rw [rounds_succ]
  go_wp2
  rw [rounds_succ]
  go_wp2
  rw [rounds_succ]
  go_wp2
  have d0 := E0.out.symm; have d1 := E1.out.symm; have d2 := E2.out.symm; have d3 := E3.out.symm; have d4 := E4.out.symm; have d5 := E5.out.symm
  simp only [d0, d1, d2, d3, d4, d5]
  exact bodyPost_ret (v := PV c) (by simp [results, Tryd.results32, go_sem]) rfl ⟨rfl, (((Below.refl _ _).alloc (Nat.le_refl _) _).alloc (by simp) _).alloc (by simp; omega) _⟩
end Go.Proofs.YtomgihlkbmaleaaDoor

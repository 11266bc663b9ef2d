/- pitch.sum. -/
import Derived.Test.YtomgihlkbmaleaaDoorP1
import Derived.LoopN
namespace Go.Proofs.YtomgihlkbmaleaaDoor
open Go.RowKit M
def Lim (m : Int) (v : Nat → Int) : Prop := ∀ i, i < 6 → -m ≤ v i ∧ v i ≤ m
set_option maxHeartbeats 1000000 in
theorem sum_any (a b c : Nat → Int) (n : Int) (w : World) (ha : Hx (Lim 1000000 a)) (hb : Hx (Lim 1000000 fun i => n * b i)) (hc : Hx (∀ i, i < 6 → c i = a i + n * b i)) :
    Calls Tryd.prog 27 #[PV a, PV b, .int .i64 n] w fun e w' => e = .returned (PV c) ∧ Below w.heap.size w w' := by
  have i0 := at0 b
  obtain ⟨p0, e0⟩ : ∃ p, n * b 0 = p := ⟨_, rfl⟩
  obtain ⟨l0, u0⟩ := ha.out 0 (by omega)
  have hp0 := hb.out 0 (by omega)
  simp only [e0] at hp0
  obtain ⟨x0, y0⟩ := hp0
  have c0 := Hx.mk (hc.out 0 (by omega))
  rw [e0] at c0
  have i1 := at1 b
  obtain ⟨p1, e1⟩ : ∃ p, n * b 1 = p := ⟨_, rfl⟩
  obtain ⟨l1, u1⟩ := ha.out 1 (by omega)
  have hp1 := hb.out 1 (by omega)
  simp only [e1] at hp1
  obtain ⟨x1, y1⟩ := hp1
  have c1 := Hx.mk (hc.out 1 (by omega))
  rw [e1] at c1
  have i2 := at2 b
  obtain ⟨p2, e2⟩ : ∃ p, n * b 2 = p := ⟨_, rfl⟩
  obtain ⟨l2, u2⟩ := ha.out 2 (by omega)
  have hp2 := hb.out 2 (by omega)
  simp only [e2] at hp2
  obtain ⟨x2, y2⟩ := hp2
  have c2 := Hx.mk (hc.out 2 (by omega))
  rw [e2] at c2
  have i3 := at3 b
  obtain ⟨p3, e3⟩ : ∃ p, n * b 3 = p := ⟨_, rfl⟩
  obtain ⟨l3, u3⟩ := ha.out 3 (by omega)
  have hp3 := hb.out 3 (by omega)
  simp only [e3] at hp3
  obtain ⟨x3, y3⟩ := hp3
  have c3 := Hx.mk (hc.out 3 (by omega))
  rw [e3] at c3
  have i4 := at4 b
  obtain ⟨p4, e4⟩ : ∃ p, n * b 4 = p := ⟨_, rfl⟩
  obtain ⟨l4, u4⟩ := ha.out 4 (by omega)
  have hp4 := hb.out 4 (by omega)
  simp only [e4] at hp4
  obtain ⟨x4, y4⟩ := hp4
  have c4 := Hx.mk (hc.out 4 (by omega))
  rw [e4] at c4
  have i5 := at5 b
  obtain ⟨p5, e5⟩ : ∃ p, n * b 5 = p := ⟨_, rfl⟩
  obtain ⟨l5, u5⟩ := ha.out 5 (by omega)
  have hp5 := hb.out 5 (by omega)
  simp only [e5] at hp5
  obtain ⟨x5, y5⟩ := hp5
  have c5 := Hx.mk (hc.out 5 (by omega))
  rw [e5] at c5
  go_enter Tryd.func27, Tryd.ntmps27
  go_wp2
  refine wp_loop_rounds 7 ?_
  rw [rounds_succ]
  go_wp2
  rw [rounds_succ]
  go_wp2
  rw [rounds_succ]
  go_wp2
  rw [rounds_succ]
  go_wp2
  rw [rounds_succ]
  go_wp2
  rw [rounds_succ]
  go_wp2
  rw [rounds_succ]
  go_wp2
  have d0 := c0.out.symm; have d1 := c1.out.symm; have d2 := c2.out.symm; have d3 := c3.out.symm; have d4 := c4.out.symm; have d5 := c5.out.symm
  simp only [d0, d1, d2, d3, d4, d5]
  exact bodyPost_ret (v := PV c) (by simp [results, Tryd.results27, go_sem]) rfl ⟨rfl, (((Below.refl _ _).alloc (Nat.le_refl _) _).alloc (by simp) _).alloc (by simp; omega) _⟩
end Go.Proofs.YtomgihlkbmaleaaDoor

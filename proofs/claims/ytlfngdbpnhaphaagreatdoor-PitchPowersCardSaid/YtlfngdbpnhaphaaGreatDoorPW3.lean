/- PitchPowers, put together. -/
import Derived.Test.YtlfngdbpnhaphaaGreatDoorPW1
import Derived.Test.YtlfngdbpnhaphaaGreatDoorPW2
namespace Go.Proofs.YtlfngdbpnhaphaaGreatDoor
open Go.RowKit M
theorem mul_between {k n x : Int} (h0 : 0 ≤ k) (h1 : k ≤ n) (l : -576 ≤ n * x) (u : n * x ≤ 576) : -576 ≤ k * x ∧ k * x ≤ 576 := by
  rcases Int.le_total 0 x with hx | hx
  · have a1 := Int.mul_le_mul_of_nonneg_right h1 hx
    have a2 := Int.mul_nonneg h0 hx
    omega
  · have a1 := Int.mul_le_mul_of_nonpos_right h1 hx
    have a2 := Int.mul_nonpos_of_nonneg_of_nonpos h0 hx
    omega
theorem powers_all (a b : Nat → Int) (n d : Int) (w : World) (hg : Gv w) :
    Calls Tryz.prog 7 #[PV a, PV b, .int .i64 n, .int .i64 d] w fun e w' => e = .returned (.bool true) ∧ Below w.heap.size w w' := by
  obtain ⟨p, e, hp⟩ := powR_ex a n d
  obtain ⟨q, f, hq⟩ := powR_ex b n d
  by_cases e0 : e = 0
  · by_cases f0 : f = 0
    · by_cases n0 : n < 1
      · exact powers_n a b n d w hg p q e f e0 f0 n0 ⟨hp.call⟩ ⟨hq.call⟩
      · obtain ⟨va, _, n1, d0, d1, hpa, vp⟩ := hp.val e0
        obtain ⟨vb, _, _, _, _, hqb, vq⟩ := hq.val f0
        subst e0; subst f0
        have K3 := Hx.mk fun w hP => pcmp_ok a b w hP va vb
        have K4 : Hx (∀ w, Pm w → Calls Tryz.prog 25 #[PV p, PV q] w fun e w' => e = .returned (.tuple #[.int .i64 (sg fun i => a i - b i), .int .i64 0]) ∧ Below w.heap.size w w') := ⟨fun w hP => by
          have := pcmp_ok p q w hP vp vq
          rw [sg_quo (a := a) (b := b) (n := n) (d := d) (by omega) (by omega) hpa hqb] at this; exact this⟩
        obtain ⟨r, g, hr⟩ := powR_ex a 1 d
        have hP0 : Hx (∀ i, (fun (k : Int) (i : Nat) => k * a i) 0 i = 0) := ⟨fun i => by simp⟩
        have loop : d = 1 → Hx (∀ w, (Op.equalIn 10000 23 (PV ((fun (k : Int) (i : Nat) => k * a i) n)) (PV p)).run Tryz.prog w = .ok true w) ∧
            Hx (∀ k, 0 ≤ k → k < n → ∀ w, Calls Tryz.prog 19 #[PV ((fun (k : Int) (i : Nat) => k * a i) k), PV a] w (OutV w ((fun (k : Int) (i : Nat) => k * a i) (k + 1)) 0)) := by
          intro hd
          subst hd
          have hb : ∀ k, 0 ≤ k → k ≤ n → bdB (fun i => k * a i) 576 = true := fun k k0 k1 => bdB_yes.2 fun i hi => by
            have h1 := hpa i hi
            have h2 := bdB_yes.1 vp i hi
            exact mul_between k0 k1 (by omega) (by omega)
          refine ⟨⟨eq6_is 23 (by kernel_rfl) _ p true ⟨fun _ i hi => by have := hpa i hi; simp only; omega, fun _ => rfl⟩⟩, ⟨fun k k0 k1 w => ?_⟩⟩
          obtain ⟨c1, c2⟩ := com_of (a := fun i => k * a i) (b := a) (n := 1) (r := fun i => (k + 1) * a i) (hb k k0 (by omega)) va (hb (k + 1) (by omega) (by omega)) fun i => by rw [Int.add_mul]
          exact pmul_any _ a _ _ w c1 c2
        by_cases g0 : g = 0
        · subst g0
          obtain ⟨_, _, _, _, _, hra, vr⟩ := hr.val rfl
          have K6 := Hx.mk fun w => pow_is (v := r) (u := a) (n := d) (d := 1) vr va (by omega) (by omega) (by omega) (by omega) (fun i hi => by have := hra i hi; omega) w
          have K7 := Hx.mk fun w => pow_is (v := r) (u := p) (n := n) (d := 1) vr vp (by omega) (by omega) (by omega) (by omega) (fun i hi => by
            have h1 := hra i hi
            have h2 := hpa i hi
            rw [Int.one_mul] at h1 ⊢
            rw [h1] at h2
            have h3 : d * (n * r i) = d * p i := by rw [← h2]; ac_rfl
            exact Int.eq_of_mul_eq_mul_left (by omega) h3) w
          by_cases n2 : 12 < n
          · exact powers_y_big a b n d w hg (by omega) n2 p q r _ ⟨hp.call⟩ ⟨hq.call⟩ K3 K4 ⟨hr.call⟩ K6 K7
          · by_cases hd : d = 1
            · obtain ⟨L1, L2⟩ := loop hd
              subst hd
              exact powers_y_loop a b n w hg (by omega) (by omega) p (fun (k : Int) (i : Nat) => k * a i) hP0 L1 L2 q r _ ⟨hp.call⟩ ⟨hq.call⟩ K3 K4 ⟨hr.call⟩ K6 K7
            · exact powers_y_div a b n d w hg (by omega) (by omega) hd p q r _ ⟨hp.call⟩ ⟨hq.call⟩ K3 K4 ⟨hr.call⟩ K6 K7
        · by_cases n2 : 12 < n
          · exact powers_n_big a b n d w hg (by omega) n2 p q r _ ⟨hp.call⟩ ⟨hq.call⟩ K3 K4 g g0 ⟨hr.call⟩
          · by_cases hd : d = 1
            · obtain ⟨L1, L2⟩ := loop hd
              subst hd
              exact powers_n_loop a b n w hg (by omega) (by omega) p (fun (k : Int) (i : Nat) => k * a i) hP0 L1 L2 q r _ ⟨hp.call⟩ ⟨hq.call⟩ K3 K4 g g0 ⟨hr.call⟩
            · exact powers_n_div a b n d w hg (by omega) (by omega) hd p q r _ ⟨hp.call⟩ ⟨hq.call⟩ K3 K4 g g0 ⟨hr.call⟩
    · exact powers_f a b n d w hg p q e f e0 f0 ⟨hp.call⟩ ⟨hq.call⟩
  · exact powers_e a b n d w hg p q e f e0 ⟨hp.call⟩ ⟨hq.call⟩
end Go.Proofs.YtlfngdbpnhaphaaGreatDoor

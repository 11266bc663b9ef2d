/- TemperKernel: the law's walk. -/
import Derived.Test.YtnbamjoadankmaaZA
import Derived.Test.YtnbamjoadankmaaLY
namespace Go.Proofs.Ytnbamjoadankmaa
open Go.RowKit D
/-- What is in a kernel. -/
theorem KerS.mem {C : Nat → Nat → Int} {k u : Nat} {O : Nat → Nat → Int} {p : Nat → Nat} (h : KerS C k u O p) (v : Nat → Int) : Sp O u 6 v ↔ ∀ t, t < k → dot 6 (C t) v = 0 := by
  refine ⟨fun ⟨c, hc⟩ t ht => ?_, h.all v⟩
  have e : dot 6 (C t) v = sm 6 (fun j => sm u (fun i => c i * (C t j * O i j))) := sm_congr fun j hj => by
    rw [hc j hj, ← sm_mul]; exact sm_congr fun i _ => by grind
  rw [e, sm_comm, sm_congr (g := fun _ => 0) fun i hi => ?_, sm_zero]
  have e2 := sm_mul 6 (c i) (fun j => C t j * O i j)
  rw [e2]
  show c i * dot 6 (C t) (O i) = 0
  rw [h.orth i t hi ht, Int.mul_zero]
/-- What a law of temper has in memory: a temperament and an interval. -/
structure Lk (w : World) (a : Option Addr) (n c : Nat) (M : Nat → Nat → Int) (v : Nat → Int) (W : World) : Prop where
  m : Boxed W w.heap.size 57 (.slice a n c)
  v : VB W (w.heap.size + 1) v
  R : CV W a n M
  b : Below w.heap.size w W
theorem Lk.keep {w : World} {a : Option Addr} {n c : Nat} {M : Nat → Nat → Int} {v : Nat → Int} {W W' : World} (h : Lk w a n c M v W) (hb : Below W.heap.size W W') : Lk w a n c M v W' :=
  ⟨(hb.block _ h.m.lt).trans h.m, h.v.keep (hb.block _ h.v.lt), h.R.keep hb, h.b.trans (hb.mono h.b.size)⟩
/-- Kernel of a temperament. -/
theorem tker_ok (a : Option Addr) (n c : Nat) (M : Nat → Nat → Int) (w : World) (hc1 : n ≤ c) (hc2 : c ≤ maxLen) (hR : CV w a n M) (ht : Tm M n) : Calls Try.prog 54 #[.agg #[.slice a n c]] w fun e w'' => ∃ ho hc u O p, e = .returned (.tuple #[.slice ho u hc, .int .i64 0]) ∧ u ≤ hc ∧ hc ≤ maxLen ∧ u ≤ 6 ∧ u + n = 6 ∧ n ≤ 3 ∧ Bx (KerS M n u O p) ∧ Bx (CV w'' ho u O) ∧ Bx (Below w.heap.size w w'') :=
  (TKernel_any a n c M w hc1 hc2 hR).mono fun e w'' ⟨h, hb⟩ => by
    rcases h with ⟨_, h⟩ | ⟨h, _⟩
    · obtain ⟨ho, hc, u, O, p, he, h1, h2, h6, hk, hcv⟩ := h.split.resolve_left (fun h => h.1.out ht.vm)
      have hq := ker_count hk.out.2.hf hk.out.2.orth hk.out.2.all ht.rank
      exact ⟨ho, hc, u, O, p, he, h1, h2, h6, by omega, ht.three, ⟨hk.out.2⟩, hcv, hb⟩
    · exact absurd ht h
theorem tmp_ok (a : Option Addr) (n c : Nat) (M : Nat → Nat → Int) (v : Nat → Int) (W : World) (hc1 : n ≤ c) (hc2 : c ≤ maxLen) (hR : CV W a n M) (ht : Tm M n) (hv : Iv v) : Calls Try.prog 52 #[.agg #[.slice a n c], PV v] W fun e w' => ∃ b : Bool, Bx (b = true ↔ ∀ i, i < n → img M v i = 0) ∧ e = .returned (.tuple #[.bool b, .int .i64 0]) ∧ Bx (Below W.heap.size W w') :=
  (Tempers_any a n c M v W hc1 hc2 hR).mono fun e w' ⟨h, hb⟩ => by
    rcases h with ⟨_, _, b, h1, h2⟩ | ⟨h, _⟩
    · exact ⟨b, ⟨h1⟩, h2, hb⟩
    · exact absurd ⟨ht, hv⟩ h
set_option maxRecDepth 100000 in
set_option maxHeartbeats 16000000 in
theorem tkernel_law (a : Option Addr) (n c : Nat) (M : Nat → Nat → Int) (v : Nat → Int) (w : World) (hc1 : n ≤ c) (hc2 : c ≤ maxLen) (hR : CV w a n M) :
    Calls Try.prog 13 #[.agg #[.slice a n c], PV v] w fun e w' => e = .returned (.bool true) ∧ Below w.heap.size w w' := by
  have M1 : Bx True := ⟨trivial⟩
  have M2 : Bx True := ⟨trivial⟩
  have M3 : Bx True := ⟨trivial⟩
  have M4 : Bx True := ⟨trivial⟩
  have M5 : Bx True := ⟨trivial⟩
  have M6 : Bx True := ⟨trivial⟩
  obtain ⟨W, hW⟩ : ∃ W, (w.alloc (.cells #[.slice a n c] 57)).alloc (.cells #[.int .i64 (v 0), .int .i64 (v 1), .int .i64 (v 2), .int .i64 (v 3), .int .i64 (v 4), .int .i64 (v 5)] 36) = W := ⟨_, rfl⟩
  obtain ⟨h0, h1, hb, _⟩ := map_boxes w a n c v W hW
  have L0 : Bx (Lk w a n c M v W) := ⟨h0, h1, hR.keep hb, hb⟩
  obtain ⟨b, hb1⟩ := bool_of (Tm M n)
  obtain ⟨b2, hb2⟩ := bool_of (Iv v)
  have HB1 := Bx.mk hb1
  have HB2 := Bx.mk hb2
  have H1 := Bx.mk (fun W (L : Lk w a n c M v W) => tvalid_any a n c M W hc1 hc2 L.R b hb1)
  have H2 := Bx.mk (fun W => interval_any v W b2 hb2)
  have H3 := Bx.mk (fun W (L : Lk w a n c M v W) => tker_ok a n c M W hc1 hc2 L.R)
  have H4 := Bx.mk (fun W (L : Lk w a n c M v W) => tmp_ok a n c M v W hc1 hc2 L.R)
  have H5 := Bx.mk (fun ho u hc K W h1 h2 => lmember_any ho u hc K v W h1 h2)
  unfold PV at H2 H4 H5 ⊢
  have im := L0.out.m.cell
  have iv0 := L0.out.v.c0
  have iv1 := L0.out.v.c1
  have iv2 := L0.out.v.c2
  have iv3 := L0.out.v.c3
  have iv4 := L0.out.v.c4
  have iv5 := L0.out.v.c5
  clear hR h0 h1 hb hb1 hb2
  go_enter Try.func13, Try.ntmps13
  go_wp2_with (first
    | (clear M1; go_at_call 46; refine (thead_any _).mono ?_; clear im iv0 iv1 iv2 iv3 iv4 iv5 hW; rintro e w1 ⟨rfl, k1⟩
       have L1 := Bx.mk (L0.out.keep k1)
       have im := L1.out.m.cell
       have iv0 := L1.out.v.c0
       have iv1 := L1.out.v.c1
       have iv2 := L1.out.v.c2
       have iv3 := L1.out.v.c3
       have iv4 := L1.out.v.c4
       have iv5 := L1.out.v.c5
       clear k1)
    | (clear M2; go_at_call 47; refine (H1.out w1 L1.out).mono ?_; clear im iv0 iv1 iv2 iv3 iv4 iv5; rintro e w2 ⟨rfl, k2⟩
       have L2 := Bx.mk (L1.out.keep k2)
       have im := L2.out.m.cell
       have iv0 := L2.out.v.c0
       have iv1 := L2.out.v.c1
       have iv2 := L2.out.v.c2
       have iv3 := L2.out.v.c3
       have iv4 := L2.out.v.c4
       have iv5 := L2.out.v.c5
       clear k2
       cases b)
    | (clear M3; go_at_call 63; refine (H2.out w2).mono ?_; clear im iv0 iv1 iv2 iv3 iv4 iv5; rintro e w3 ⟨rfl, k3⟩
       have L3 := Bx.mk (L2.out.keep k3)
       have im := L3.out.m.cell
       have iv0 := L3.out.v.c0
       have iv1 := L3.out.v.c1
       have iv2 := L3.out.v.c2
       have iv3 := L3.out.v.c3
       have iv4 := L3.out.v.c4
       have iv5 := L3.out.v.c5
       clear k3
       cases b2)
    | (clear M4; go_at_call 54; refine (H3.out w3 L3.out (HB1.out.1 (by trivial))).mono ?_; clear im iv0 iv1 iv2 iv3 iv4 iv5; rintro e w4 ⟨ho, kc, u, K, p, rfl, huc, hcm, hu6, hun, hn3, HS, HK, k4⟩
       have L4 := Bx.mk (L3.out.keep k4.out)
       have im := L4.out.m.cell
       have iv0 := L4.out.v.c0
       have iv1 := L4.out.v.c1
       have iv2 := L4.out.v.c2
       have iv3 := L4.out.v.c3
       have iv4 := L4.out.v.c4
       have iv5 := L4.out.v.c5
       clear k4)
    | (clear M5; go_at_call 52; refine (H4.out w4 L4.out (HB1.out.1 (by trivial)) (HB2.out.1 (by trivial))).mono ?_; clear im iv0 iv1 iv2 iv3 iv4 iv5; rintro e w5 ⟨t, ht, rfl, k5⟩
       have L5 := Bx.mk (L4.out.keep k5.out)
       have HK5 := Bx.mk (HK.out.keep k5.out)
       have iv0 := L5.out.v.c0
       have iv1 := L5.out.v.c1
       have iv2 := L5.out.v.c2
       have iv3 := L5.out.v.c3
       have iv4 := L5.out.v.c4
       have iv5 := L5.out.v.c5
       clear k5)
    | (clear M6; go_at_call 32; refine (H5.out ho u kc K w5 huc hcm HK5.out).mono ?_; clear iv0 iv1 iv2 iv3 iv4 iv5; rintro e w6 ⟨lo, nn, lc, bm, cm, rfl, hm, k6⟩
       have L6 := Bx.mk (L5.out.keep k6.out)
       have hall : (cm = 0 ∧ bm = t) ∨ (cm = 3 ∧ bm = false) ∨ (cm = 1 ∧ bm = false) := by
         rcases hm.out with ⟨h1, _, _, h2⟩ | h | ⟨h1, h2, _⟩
         · exact .inl ⟨h1, Bool.eq_iff_iff.2 (h2.trans ((HS.out.mem v).trans ht.out.symm))⟩
         · exact .inr (.inl h)
         · exact .inr (.inr ⟨h1, h2⟩)
       clear k6 hm
       rcases hall with ⟨rfl, rfl⟩ | ⟨rfl, rfl⟩ | ⟨rfl, rfl⟩))
  all_goals (go_ret; exact ⟨by simp, Lk.b (by first | exact L6.out | exact L3.out | exact L2.out)⟩)
end Go.Proofs.Ytnbamjoadankmaa

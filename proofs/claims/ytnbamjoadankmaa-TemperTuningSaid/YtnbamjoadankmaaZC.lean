/- TemperPure: the law's walk. -/
import Derived.Test.YtnbamjoadankmaaZA
import Derived.Test.YtnbamjoadankmaaYZ
namespace Go.Proofs.Ytnbamjoadankmaa
open Go.RowKit D
/-- What a law of temper has in memory. -/
structure Lw (w : World) (a go : Option Addr) (n gn c : Nat) (M G : Nat → Nat → Int) (v u : Nat → Int) (W : World) : Prop where
  m : Boxed W w.heap.size 57 (.slice a n c)
  v : VT W (w.heap.size + 1) 36 v
  u : VT W (w.heap.size + 1 + 1) 36 u
  R : CV W a n M
  S : CV W go gn G
  b : Below w.heap.size w W
theorem Lw.keep {w : World} {a go : Option Addr} {n gn c : Nat} {M G : Nat → Nat → Int} {v u : Nat → Int} {W W' : World} (h : Lw w a go n gn c M G v u W) (hb : Below W.heap.size W W') : Lw w a go n gn c M G v u W' :=
  ⟨(hb.block _ h.m.lt).trans h.m, h.v.keep (hb.block _ h.v.lt), h.u.keep (hb.block _ h.u.lt), h.R.keep hb, h.S.keep hb, h.b.trans (hb.mono h.b.size)⟩
theorem Lw.start (w : World) (a go : Option Addr) (n gn c : Nat) (M G : Nat → Nat → Int) (v u : Nat → Int) (hR : CV w a n M) (hS : CV w go gn G) : ∀ W, ((w.alloc (.cells #[.slice a n c] 57)).alloc (.cells #[.int .i64 (v 0), .int .i64 (v 1), .int .i64 (v 2), .int .i64 (v 3), .int .i64 (v 4), .int .i64 (v 5)] 36)).alloc (.cells #[.int .i64 (u 0), .int .i64 (u 1), .int .i64 (u 2), .int .i64 (u 3), .int .i64 (u 4), .int .i64 (u 5)] 36) = W → Lw w a go n gn c M G v u W := by
  rintro W rfl
  have h0 := Boxed.new w 57 (.slice a n c)
  have b0 := above_new w (.cells #[.slice a n c] 57)
  obtain ⟨W1, hW1⟩ : ∃ W1, w.alloc (.cells #[.slice a n c] 57) = W1 := ⟨_, rfl⟩
  have hs : W1.heap.size = w.heap.size + 1 := by rw [← hW1]; simp
  rw [hW1] at h0 b0 ⊢
  clear hW1
  obtain ⟨k1, k2, k3, k4⟩ := two6 W1 36 36 v u _ rfl
  rw [hs] at k1 k2
  exact ⟨(k3.block _ (by omega)).trans h0, k1, k2, (hR.keep b0).keep k3, (hS.keep b0).keep k3, b0.trans (k3.mono b0.size)⟩
theorem Lw.dr {w : World} {a go : Option Addr} {n gn c : Nat} {M G : Nat → Nat → Int} {v u : Nat → Int} {W : World} (h : Lw w a go n gn c M G v u W) : Lw w a go n gn c M G v u W.drew := h.keep (below_drew (Below.refl _ _))
theorem Lw.seven {w : World} {a go : Option Addr} {n gn c : Nat} {M G : Nat → Nat → Int} {v u : Nat → Int} {W : World} (h : Lw w a go n gn c M G v u W) : W.cell? ⟨w.heap.size, 0, none⟩ = some (.slice a n c) ∧ W.cell? ⟨w.heap.size + 1, 0, none⟩ = some (.int .i64 (v 0)) ∧ W.cell? ⟨w.heap.size + 1, 1, none⟩ = some (.int .i64 (v 1)) ∧ W.cell? ⟨w.heap.size + 1, 2, none⟩ = some (.int .i64 (v 2)) ∧ W.cell? ⟨w.heap.size + 1, 3, none⟩ = some (.int .i64 (v 3)) ∧ W.cell? ⟨w.heap.size + 1, 4, none⟩ = some (.int .i64 (v 4)) ∧ W.cell? ⟨w.heap.size + 1, 5, none⟩ = some (.int .i64 (v 5)) := ⟨h.m.cell, h.v.c0, h.v.c1, h.v.c2, h.v.c3, h.v.c4, h.v.c5⟩
/-- What Pure answers, in three ways. -/
theorem pure_three (a go : Option Addr) (n c gn gc : Nat) (M G : Nat → Nat → Int) (v : Nat → Int) (w : World) (hc1 : n ≤ c) (hc2 : c ≤ maxLen) (hR : CV w a n M) (hgc : gn ≤ gc) (hgm : gc ≤ maxLen) (hS : CV w go gn G) :
    Calls Try.prog 61 #[.agg #[.slice a n c], .slice go gn gc, PV v] w fun e w' => ((Bx (TuneOk M G n gn v) ∧ Bx (Pv (tu M v G n)) ∧ ∃ b : Bool, Bx (b = true ↔ Pu M G v n) ∧ e = .returned (.tuple #[.bool b, .int .i64 0])) ∨ (e = .returned (.tuple #[.bool false, .int .i64 3])) ∨ (e = .returned (.tuple #[.bool false, .int .i64 1]))) ∧ Bx (Below w.heap.size w w') :=
  (pure_any a go n c gn gc M G v w hc1 hc2 hR hgc hgm hS).mono fun e w' ⟨h, hb⟩ => by
    refine ⟨?_, ⟨hb⟩⟩
    rcases h with ⟨h1, h2, b, h3, h4⟩ | ⟨_, _, h⟩ | ⟨_, h⟩
    · exact .inl ⟨⟨h1⟩, ⟨h2⟩, b, ⟨h3⟩, h4⟩
    · exact .inr (.inl h)
    · exact .inr (.inr h)
/-- Pure of valid arguments. -/
theorem pure_ok (a go : Option Addr) (n c gn gc : Nat) (M G : Nat → Nat → Int) (v : Nat → Int) (w : World) (hc1 : n ≤ c) (hc2 : c ≤ maxLen) (hR : CV w a n M) (hgc : gn ≤ gc) (hgm : gc ≤ maxLen) (hS : CV w go gn G) (ok : TuneOk M G n gn v) (hp : Pv (tu M v G n)) (b : Bool) (hb : b = true ↔ Pu M G v n) :
    Calls Try.prog 61 #[.agg #[.slice a n c], .slice go gn gc, PV v] w fun e w' => e = .returned (.tuple #[.bool b, .int .i64 0]) ∧ Below w.heap.size w w' :=
  (pure_any a go n c gn gc M G v w hc1 hc2 hR hgc hgm hS).mono fun e w' ⟨h, hb'⟩ => by
    rcases h with ⟨_, _, b', h3, h4⟩ | ⟨_, h, _⟩ | ⟨h, _⟩
    · obtain rfl : b' = b := Bool.eq_iff_iff.2 (h3.trans hb.symm)
      exact ⟨h4, hb'⟩
    · exact absurd hp h
    · exact absurd ok h
theorem TuneOk.with {M G : Nat → Nat → Int} {n gn : Nat} {v u : Nat → Int} (h : TuneOk M G n gn v) (hu : Iv u) : TuneOk M G n gn u := ⟨h.1, hu, h.2.2.1, h.2.2.2⟩
theorem Pv.at {u v : Nat → Int} (h : Pv u) (e : ∀ j, j < 6 → (v j).natAbs = (u j).natAbs) : Pv v := fun j hj => by have := h j hj; have := e j hj; omega
theorem pv_neg {M G : Nat → Nat → Int} {v : Nat → Int} {n : Nat} (h : Pv (tu M v G n)) : Pv (tu M (fun j => -(v j)) G n) := h.at fun j _ => by rw [tu_neg]; omega
theorem pv_zero {M G : Nat → Nat → Int} {n : Nat} : Pv (tu M (fun _ => 0) G n) := fun j _ => by rw [tu_none (fun i _ => img_zero M i)]; omega
theorem pv_pure {M G : Nat → Nat → Int} {v : Nat → Int} {n : Nat} (h : Pu M G v n) (hv : Iv v) : Pv (tu M v G n) := fun j hj => by rw [h j hj]; have := hv j hj; omega
set_option maxRecDepth 100000 in
set_option maxHeartbeats 32000000 in
theorem tpure_law (a go : Option Addr) (n c gn gc : Nat) (M G : Nat → Nat → Int) (v u : Nat → Int) (w : World) (hc1 : n ≤ c) (hc2 : c ≤ maxLen) (hgc : gn ≤ gc) (hgm : gc ≤ maxLen) (hR : CV w a n M) (hS : CV w go gn G) :
    Calls Try.prog 17 #[.agg #[.slice a n c], .slice go gn gc, PV v, PV u] w fun e w' => e = .returned (.bool true) ∧ Below w.heap.size w w' := by
  have M1 : Bx True := ⟨trivial⟩
  have M2 : Bx True := ⟨trivial⟩
  have M3 : Bx True := ⟨trivial⟩
  have M4 : Bx True := ⟨trivial⟩
  have M5 : Bx True := ⟨trivial⟩
  have M6 : Bx True := ⟨trivial⟩
  have M7 : Bx True := ⟨trivial⟩
  have M8 : Bx True := ⟨trivial⟩
  have M9 : Bx True := ⟨trivial⟩
  have M10 : Bx True := ⟨trivial⟩
  obtain ⟨W, hW⟩ : ∃ W, ((w.alloc (.cells #[.slice a n c] 57)).alloc (.cells #[.int .i64 (v 0), .int .i64 (v 1), .int .i64 (v 2), .int .i64 (v 3), .int .i64 (v 4), .int .i64 (v 5)] 36)).alloc (.cells #[.int .i64 (u 0), .int .i64 (u 1), .int .i64 (u 2), .int .i64 (u 3), .int .i64 (u 4), .int .i64 (u 5)] 36) = W := ⟨_, rfl⟩
  have L0 := Bx.mk (Lw.start w a go n gn c M G v u hR hS W hW)
  have H := Bx.mk (fun x W (L : Lw w a go n gn c M G v u W) => pure_three a go n c gn gc M G x W hc1 hc2 L.R hgc hgm L.S)
  have HO := Bx.mk (fun x W (L : Lw w a go n gn c M G v u W) => pure_ok a go n c gn gc M G x W hc1 hc2 L.R hgc hgm L.S)
  have HTm := Bx.mk (fun W (L : Lw w a go n gn c M G v u W) (ht : Tm M n) (hv : Iv v) => (Tempers_any a n c M v W hc1 hc2 L.R).mono (R' := fun e w' => ∃ b : Bool, Bx (b = true ↔ ∀ i, i < n → img M v i = 0) ∧ e = .returned (.tuple #[.bool b, .int .i64 0]) ∧ Bx (Below W.heap.size W w')) fun e w' ⟨h, hb⟩ => by
    rcases h with ⟨_, _, b, h1, h2⟩ | ⟨h, _⟩
    · exact ⟨b, ⟨h1⟩, h2, hb⟩
    · exact absurd ⟨ht, hv⟩ h)
  obtain ⟨y, hy⟩ : ∃ y : Nat → Int, (fun j => -(v j)) = y := ⟨_, rfl⟩
  obtain ⟨s, hs⟩ : ∃ s : Nat → Int, (fun j => v j + u j) = s := ⟨_, rfl⟩
  have HY := Bx.mk hy
  have HSs := Bx.mk hs
  have HIn := Bx.mk (fun W (hv : Iv v) => tinverse_any v W (fun j hj => by have := hv j hj; omega))
  have HYP := Bx.mk (fun W (L : Lw w a go n gn c M G v u W) (ok : TuneOk M G n gn v) (pv : Pv (tu M v G n)) (b : Bool) (h : b = true ↔ Pu M G v n) => pure_ok a go n c gn gc M G (fun j => -(v j)) W hc1 hc2 L.R hgc hgm L.S (ok.with ok.2.1.neg) (pv_neg pv) b (h.trans Pu.neg.symm))
  have HSP := Bx.mk (fun W (L : Lw w a go n gn c M G v u W) (ok : TuneOk M G n gn v) (hs : Iv (fun j => v j + u j)) (h : Pu M G v n) (h' : Pu M G u n) => pure_ok a go n c gn gc M G (fun j => v j + u j) W hc1 hc2 L.R hgc hgm L.S (ok.with hs) (pv_pure (h.add h') hs) true ⟨fun _ => h.add h', fun _ => rfl⟩)
  have HPl := Bx.mk (fun W (hv : Iv v) (hu : Iv u) => tplus_any v u W (fun j hj => by have := hv j hj; omega) (fun j hj => by have := hu j hj; omega))
  obtain ⟨bs, hbs⟩ := bool_of (Iv s)
  have HI := Bx.mk hbs
  have HIv := Bx.mk (fun W => interval_any s W bs hbs)
  obtain ⟨z, hz⟩ := bool_of (∀ j, j < 6 → v j = (fun _ => (0 : Int)) j)
  have HZ := Bx.mk hz
  have E0 := eq6_is 36 Try.underlying36 v (fun _ => 0) z hz
  simp only [hy, hs] at HIn HPl HYP HSP
  unfold PV at H HO HTm HIn HPl HIv HYP HSP E0 ⊢
  try simp only [] at E0
  have HF := Bx.mk (fun W L => HO.out (fun _ => 0) W L)
  try simp only [] at HF
  have im := L0.out.m.cell
  have iv0 := L0.out.v.c0
  have iv1 := L0.out.v.c1
  have iv2 := L0.out.v.c2
  have iv3 := L0.out.v.c3
  have iv4 := L0.out.v.c4
  have iv5 := L0.out.v.c5
  have iu0 := L0.out.u.c0
  have iu1 := L0.out.u.c1
  have iu2 := L0.out.u.c2
  have iu3 := L0.out.u.c3
  have iu4 := L0.out.u.c4
  have iu5 := L0.out.u.c5
  clear hR hS hy hs hbs hz
  go_enter Try.func17, Try.ntmps17
  go_wp2_with (first
    | (clear M1; go_at_call 46; refine (thead_any _).mono ?_; clear im iv0 iv1 iv2 iv3 iv4 iv5 iu0 iu1 iu2 iu3 iu4 iu5 hW; rintro e w1 ⟨rfl, k1⟩
       have L1 := Bx.mk (L0.out.keep k1)
       have im := L1.out.m.cell
       have iv0 := L1.out.v.c0
       have iv1 := L1.out.v.c1
       have iv2 := L1.out.v.c2
       have iv3 := L1.out.v.c3
       have iv4 := L1.out.v.c4
       have iv5 := L1.out.v.c5
       have iu0 := L1.out.u.c0
       have iu1 := L1.out.u.c1
       have iu2 := L1.out.u.c2
       have iu3 := L1.out.u.c3
       have iu4 := L1.out.u.c4
       have iu5 := L1.out.u.c5
       clear k1)
    | (clear M2; go_at_call 61; refine (H.out v w1 L1.out).mono ?_; clear im iv0 iv1 iv2 iv3 iv4 iv5 iu0 iu1 iu2 iu3 iu4 iu5; rintro e w2 ⟨ho, k2⟩
       have L2 := Bx.mk (L1.out.keep k2.out)
       have im := L2.out.m.cell
       have iv0 := L2.out.v.c0
       have iv1 := L2.out.v.c1
       have iv2 := L2.out.v.c2
       have iv3 := L2.out.v.c3
       have iv4 := L2.out.v.c4
       have iv5 := L2.out.v.c5
       have iu0 := L2.out.u.c0
       have iu1 := L2.out.u.c1
       have iu2 := L2.out.u.c2
       have iu3 := L2.out.u.c3
       have iu4 := L2.out.u.c4
       have iu5 := L2.out.u.c5
       clear k2
       rcases ho with ⟨ok1, pv1, b1, h1, rfl⟩ | rfl | rfl
       try have P7 := Bx.mk (fun W L => HYP.out W L ok1.out pv1.out b1 h1.out))
    | (clear M3; go_at_call 61; refine (H.out u w2 L2.out).mono ?_; clear im iv0 iv1 iv2 iv3 iv4 iv5 iu0 iu1 iu2 iu3 iu4 iu5; rintro e w3 ⟨ho, k3⟩
       have L3 := Bx.mk (L2.out.keep k3.out)
       have im := L3.out.m.cell
       have iv0 := L3.out.v.c0
       have iv1 := L3.out.v.c1
       have iv2 := L3.out.v.c2
       have iv3 := L3.out.v.c3
       have iv4 := L3.out.v.c4
       have iv5 := L3.out.v.c5
       have iu0 := L3.out.u.c0
       have iu1 := L3.out.u.c1
       have iu2 := L3.out.u.c2
       have iu3 := L3.out.u.c3
       have iu4 := L3.out.u.c4
       have iu5 := L3.out.u.c5
       clear k3
       rcases ho with ⟨ok2, pv2, b2, h2, rfl⟩ | rfl | rfl)
    | (clear M4; go_at_call 52; refine (HTm.out w3 L3.out ok1.out.1 ok1.out.2.1).mono ?_; clear im iv0 iv1 iv2 iv3 iv4 iv5 iu0 iu1 iu2 iu3 iu4 iu5; rintro e w4 ⟨t, h4, rfl, k4⟩
       have L4 := Bx.mk (L3.out.keep k4.out)
       have im := L4.out.m.cell
       have iv0 := L4.out.v.c0
       have iv1 := L4.out.v.c1
       have iv2 := L4.out.v.c2
       have iv3 := L4.out.v.c3
       have iv4 := L4.out.v.c4
       have iv5 := L4.out.v.c5
       have iu0 := L4.out.u.c0
       have iu1 := L4.out.u.c1
       have iu2 := L4.out.u.c2
       have iu3 := L4.out.u.c3
       have iu4 := L4.out.u.c4
       have iu5 := L4.out.u.c5
       clear k4)
    | (clear M5; go_at_call 61; refine (HF.out w4 L4.out (ok1.out.with Iv.zero) pv_zero true (by simp [Pu.zero])).mono ?_; clear im iv0 iv1 iv2 iv3 iv4 iv5 iu0 iu1 iu2 iu3 iu4 iu5; rintro e w5 ⟨rfl, k5⟩
       have L5 := Bx.mk (L4.out.keep k5)
       have im := L5.out.m.cell
       have iv0 := L5.out.v.c0
       have iv1 := L5.out.v.c1
       have iv2 := L5.out.v.c2
       have iv3 := L5.out.v.c3
       have iv4 := L5.out.v.c4
       have iv5 := L5.out.v.c5
       have iu0 := L5.out.u.c0
       have iu1 := L5.out.u.c1
       have iu2 := L5.out.u.c2
       have iu3 := L5.out.u.c3
       have iu4 := L5.out.u.c4
       have iu5 := L5.out.u.c5
       clear k5
       have hall : b1 = false ∨ (b1 = true ∧ t = false) ∨ (b1 = true ∧ t = true ∧ z = true) := by
         rcases Bool.eq_false_or_eq_true b1 with h | h
         · rcases Bool.eq_false_or_eq_true t with h' | h'
           · exact .inr (.inr ⟨h, h', HZ.out.2 fun j hj => (h1.out.1 h).none (h4.out.1 h') j hj⟩)
           · exact .inr (.inl ⟨h, h'⟩)
         · exact .inl h
       rcases hall with rfl | ⟨rfl, rfl⟩ | ⟨rfl, rfl, rfl⟩))
  all_goals first
    | (go_ret; exact ⟨rfl, Lw.b (by first | exact L5.out | exact L4.out | exact L3.out)⟩)
    | skip
  all_goals go_region_held3 (fun w' => w'.cell? ⟨w.heap.size, 0, none⟩ = some (.slice a n c) ∧ w'.cell? ⟨w.heap.size + 1, 0, none⟩ = some (.int .i64 (v 0)) ∧ w'.cell? ⟨w.heap.size + 1, 1, none⟩ = some (.int .i64 (v 1)) ∧ w'.cell? ⟨w.heap.size + 1, 2, none⟩ = some (.int .i64 (v 2)) ∧ w'.cell? ⟨w.heap.size + 1, 3, none⟩ = some (.int .i64 (v 3)) ∧ w'.cell? ⟨w.heap.size + 1, 4, none⟩ = some (.int .i64 (v 4)) ∧ w'.cell? ⟨w.heap.size + 1, 5, none⟩ = some (.int .i64 (v 5)))
    (first
      | go_keep
      | exact HS2
      | exact HS3)
    (first
      | (go_at_call 64; refine (HIn.out _ ok1.out.2.1).mono ?_; rintro e w6 ⟨rfl, k6⟩
         have L6 := Bx.mk ((L5.out.dr).keep k6)
         have HS2 : w6.cell? ⟨w.heap.size, 0, none⟩ = some (.slice a n c) ∧ w6.cell? ⟨w.heap.size + 1, 0, none⟩ = some (.int .i64 (v 0)) ∧ w6.cell? ⟨w.heap.size + 1, 1, none⟩ = some (.int .i64 (v 1)) ∧ w6.cell? ⟨w.heap.size + 1, 2, none⟩ = some (.int .i64 (v 2)) ∧ w6.cell? ⟨w.heap.size + 1, 3, none⟩ = some (.int .i64 (v 3)) ∧ w6.cell? ⟨w.heap.size + 1, 4, none⟩ = some (.int .i64 (v 4)) ∧ w6.cell? ⟨w.heap.size + 1, 5, none⟩ = some (.int .i64 (v 5)) := L6.out.seven)
      | (go_at_call 61; refine (P7.out w6 L6.out).mono ?_; rintro e w7 ⟨rfl, k7⟩
         have L7 := Bx.mk (L6.out.keep k7)
         have HS3 : w7.cell? ⟨w.heap.size, 0, none⟩ = some (.slice a n c) ∧ w7.cell? ⟨w.heap.size + 1, 0, none⟩ = some (.int .i64 (v 0)) ∧ w7.cell? ⟨w.heap.size + 1, 1, none⟩ = some (.int .i64 (v 1)) ∧ w7.cell? ⟨w.heap.size + 1, 2, none⟩ = some (.int .i64 (v 2)) ∧ w7.cell? ⟨w.heap.size + 1, 3, none⟩ = some (.int .i64 (v 3)) ∧ w7.cell? ⟨w.heap.size + 1, 4, none⟩ = some (.int .i64 (v 4)) ∧ w7.cell? ⟨w.heap.size + 1, 5, none⟩ = some (.int .i64 (v 5)) := L7.out.seven))
  all_goals (
    have im := L7.out.m.cell
    have iv0 := L7.out.v.c0
    have iv1 := L7.out.v.c1
    have iv2 := L7.out.v.c2
    have iv3 := L7.out.v.c3
    have iv4 := L7.out.v.c4
    have iv5 := L7.out.v.c5
    have iu0 := L7.out.u.c0
    have iu1 := L7.out.u.c1
    have iu2 := L7.out.u.c2
    have iu3 := L7.out.u.c3
    have iu4 := L7.out.u.c4
    have iu5 := L7.out.u.c5)
  all_goals go_wp2_with (first
    | (clear M6; go_at_call 65; refine (HPl.out w7 ok1.out.2.1 ok2.out.2.1).mono ?_; clear im iv0 iv1 iv2 iv3 iv4 iv5 iu0 iu1 iu2 iu3 iu4 iu5; rintro e w8 ⟨rfl, k8⟩
       have A8 := above_new w8 (.cells #[.int .i64 (s 0), .int .i64 (s 1), .int .i64 (s 2), .int .i64 (s 3), .int .i64 (s 4), .int .i64 (s 5)] 36)
       have L8 := Bx.mk ((L7.out.keep k8).keep A8)
       have S8 := Bx.mk (VT.new w8 36 s)
       have im := L8.out.m.cell
       have s0 := S8.out.c0
       have s1 := S8.out.c1
       have s2 := S8.out.c2
       have s3 := S8.out.c3
       have s4 := S8.out.c4
       have s5 := S8.out.c5
       clear k8 A8
       cases b2)
    | (clear M7; go_at_call 63; refine (HIv.out _).mono ?_; clear im s0 s1 s2 s3 s4 s5; rintro e w9 ⟨rfl, k9⟩
       have L9 := Bx.mk (L8.out.keep k9)
       have S9 := Bx.mk (S8.out.keep (k9.block _ S8.out.lt))
       have im := L9.out.m.cell
       have s0 := S9.out.c0
       have s1 := S9.out.c1
       have s2 := S9.out.c2
       have s3 := S9.out.c3
       have s4 := S9.out.c4
       have s5 := S9.out.c5
       clear k9
       cases bs)
    | (clear M8; go_at_call 61; refine (HSP.out w9 L9.out ok1.out (HI.out.1 (by trivial)) (h1.out.1 (by trivial)) (h2.out.1 (by trivial))).mono ?_; rintro e w10 ⟨rfl, k10⟩
       have L10 := Bx.mk (L9.out.keep k10)
       clear k10))
  all_goals (go_ret; exact ⟨rfl, Lw.b (by first | exact L10.out | exact L9.out | exact L8.out)⟩)
end Go.Proofs.Ytnbamjoadankmaa

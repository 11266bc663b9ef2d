/- TemperTuning: the law's walk. -/
import Derived.Test.YtnbamjoadankmaaZD
import Derived.Test.YtnbamjoadankmaaYL
namespace Go.Proofs.Ytnbamjoadankmaa
open Go.RowKit D
/-- What the law has in memory. -/
structure Lt (w : World) (a go ho : Option Addr) (n gn hn c : Nat) (M G H : Nat → Nat → Int) (v u : Nat → Int) (W : World) : Prop where
  l : Lw w a go n gn c M G v u W
  T : CV W ho hn H
theorem Lt.keep {w : World} {a go ho : Option Addr} {n gn hn c : Nat} {M G H : Nat → Nat → Int} {v u : Nat → Int} {W W' : World} (h : Lt w a go ho n gn hn c M G H v u W) (hb : Below W.heap.size W W') : Lt w a go ho n gn hn c M G H v u W' := ⟨h.l.keep hb, h.T.keep hb⟩
theorem Lt.dr {w : World} {a go ho : Option Addr} {n gn hn c : Nat} {M G H : Nat → Nat → Int} {v u : Nat → Int} {W : World} (h : Lt w a go ho n gn hn c M G H v u W) : Lt w a go ho n gn hn c M G H v u W.drew := h.keep (below_drew (Below.refl _ _))
theorem Lt.cells {w : World} {a go ho : Option Addr} {n gn hn c : Nat} {M G H : Nat → Nat → Int} {v u : Nat → Int} {W : World} (h : Lt w a go ho n gn hn c M G H v u W) : W.cell? ⟨w.heap.size, 0, none⟩ = some (.slice a n c) ∧ W.cell? ⟨w.heap.size + 1, 0, none⟩ = some (.int .i64 (v 0)) ∧ W.cell? ⟨w.heap.size + 1, 1, none⟩ = some (.int .i64 (v 1)) ∧ W.cell? ⟨w.heap.size + 1, 2, none⟩ = some (.int .i64 (v 2)) ∧ W.cell? ⟨w.heap.size + 1, 3, none⟩ = some (.int .i64 (v 3)) ∧ W.cell? ⟨w.heap.size + 1, 4, none⟩ = some (.int .i64 (v 4)) ∧ W.cell? ⟨w.heap.size + 1, 5, none⟩ = some (.int .i64 (v 5)) ∧ W.cell? ⟨w.heap.size + 1 + 1, 0, none⟩ = some (.int .i64 (u 0)) ∧ W.cell? ⟨w.heap.size + 1 + 1, 1, none⟩ = some (.int .i64 (u 1)) ∧ W.cell? ⟨w.heap.size + 1 + 1, 2, none⟩ = some (.int .i64 (u 2)) ∧ W.cell? ⟨w.heap.size + 1 + 1, 3, none⟩ = some (.int .i64 (u 3)) ∧ W.cell? ⟨w.heap.size + 1 + 1, 4, none⟩ = some (.int .i64 (u 4)) ∧ W.cell? ⟨w.heap.size + 1 + 1, 5, none⟩ = some (.int .i64 (u 5)) := ⟨h.l.m.cell, h.l.v.c0, h.l.v.c1, h.l.v.c2, h.l.v.c3, h.l.v.c4, h.l.v.c5, h.l.u.c0, h.l.u.c1, h.l.u.c2, h.l.u.c3, h.l.u.c4, h.l.u.c5⟩
/-- What Tune answers is one thing. -/
theorem tune_det (a go : Option Addr) (n c gn gc : Nat) (M G : Nat → Nat → Int) (x : Nat → Int) (hc1 : n ≤ c) (hc2 : c ≤ maxLen) (hgc : gn ≤ gc) (hgm : gc ≤ maxLen) : ∃ (p : Nat → Int) (k : Int), (∀ W, CV W a n M → CV W go gn G → Calls Try.prog 59 #[.agg #[.slice a n c], .slice go gn gc, PV x] W fun e w' => e = .returned (.tuple #[PV p, .int .i64 k]) ∧ Below W.heap.size W w') ∧ ((k = 0 ∧ TuneOk M G n gn x ∧ p = tu M x G n ∧ Pv p) ∨ ((k == 0) = false ∧ ¬ (TuneOk M G n gn x ∧ Pv (tu M x G n)))) := by
  by_cases h : TuneOk M G n gn x
  · by_cases hp : Pv (tu M x G n)
    · refine ⟨_, 0, fun W hR hS => (tune_any a go n c gn gc M G x W hc1 hc2 hR hgc hgm hS).mono fun e w' ⟨ho, hb⟩ => ?_, .inl ⟨rfl, h, rfl, hp⟩⟩
      rcases ho.three with ⟨_, _, he⟩ | ⟨hn, _⟩ | ⟨hn, _⟩
      · exact ⟨he, hb⟩
      · exact absurd hp hn.out.2
      · exact absurd h hn.out
    · refine ⟨fun _ => 0, 3, fun W hR hS => (tune_any a go n c gn gc M G x W hc1 hc2 hR hgc hgm hS).mono fun e w' ⟨ho, hb⟩ => ?_, .inr ⟨rfl, fun k => hp k.2⟩⟩
      rcases ho.three with ⟨_, hn, _⟩ | ⟨_, he⟩ | ⟨hn, _⟩
      · exact absurd hn hp
      · exact ⟨he, hb⟩
      · exact absurd h hn.out
  · refine ⟨fun _ => 0, 1, fun W hR hS => (tune_any a go n c gn gc M G x W hc1 hc2 hR hgc hgm hS).mono fun e w' ⟨ho, hb⟩ => ?_, .inr ⟨rfl, fun k => h k.1⟩⟩
    rcases ho.three with ⟨hn, _, _⟩ | ⟨hn, _⟩ | ⟨_, he⟩
    · exact absurd hn h
    · exact absurd hn.out.1 h
    · exact ⟨he, hb⟩
/-- What Mul answers is one thing. -/
theorem mul_det (x y : Nat → Int) : ∃ (s : Nat → Int) (k : Int), (∀ W, Calls Try.prog 67 #[PV x, PV y] W fun e w' => e = .returned (.tuple #[PV s, .int .i64 k]) ∧ Below W.heap.size W w') ∧ ((k = 0 ∧ (∀ j, s j = x j + y j) ∧ Pv s) ∨ ((k == 0) = false ∧ ¬ (Pv x ∧ Pv y ∧ Pv (fun j => x j + y j)))) := by
  have e1 : ∀ j, sv x y 1 j = x j + y j := fun j => by unfold sv; omega
  have e2 : Pv (sv x y 1) ↔ Pv (fun j => x j + y j) := by rw [show sv x y 1 = fun j => x j + y j from funext e1]
  by_cases h : Pv x ∧ Pv y
  · by_cases hp : Pv (sv x y 1)
    · refine ⟨_, 0, fun W => (mul_any x y W).mono fun e w' ⟨ho, hb⟩ => ?_, .inl ⟨rfl, e1, hp⟩⟩
      rcases ho with ⟨_, _, ⟨_, he⟩ | ⟨hn, _⟩⟩ | ⟨hn, _⟩
      · exact ⟨he, hb⟩
      · exact absurd hp hn
      · exact absurd h hn
    · refine ⟨fun _ => 0, 3, fun W => (mul_any x y W).mono fun e w' ⟨ho, hb⟩ => ?_, .inr ⟨rfl, fun k => hp (e2.2 k.2.2)⟩⟩
      rcases ho with ⟨_, _, ⟨hn, _⟩ | ⟨_, he⟩⟩ | ⟨hn, _⟩
      · exact absurd hn hp
      · exact ⟨he, hb⟩
      · exact absurd h hn
  · refine ⟨fun _ => 0, 1, fun W => (mul_any x y W).mono fun e w' ⟨ho, hb⟩ => ?_, .inr ⟨rfl, fun k => h ⟨k.1, k.2.1⟩⟩⟩
    rcases ho with ⟨h1, h2, _⟩ | ⟨_, he⟩
    · exact absurd ⟨h1, h2⟩ h
    · exact ⟨he, hb⟩
theorem map_range_eq {f g : Nat → Int} : ∀ n, (List.range n).map f = (List.range n).map g → ∀ i, i < n → f i = g i := fun n h i hi => by
  have := congrArg (·[i]?) h
  simpa [hi] using this
theorem img_ci (a : Option Addr) (n c : Nat) (M : Nat → Nat → Int) (x : Nat → Int) (w : World) (hc1 : n ≤ c) (hc2 : c ≤ maxLen) (hR : CV w a n M) (ht : Tm M n) (hv : Iv x) : Calls Try.prog 49 #[.agg #[.slice a n c], PV x] w fun e w' => ∃ ao cc, e = .returned (.tuple #[.slice ao n cc, .int .i64 0]) ∧ n ≤ cc ∧ cc ≤ maxLen ∧ Bx (CI w' ao ((List.range n).map (img M x))) ∧ Bx (Below w.heap.size w w') :=
  (Image_any a n c M x w hc1 hc2 hR).mono fun e w' ⟨h, hb⟩ => by
    rcases h with ⟨_, _, ao, cc, he, h1, h2, h3⟩ | ⟨h, _⟩
    · exact ⟨ao, cc, he, h1, h2, h3, hb⟩
    · exact absurd ⟨ht, hv⟩ h
theorem keep_start (w : World) (o1 o2 o0 : Obj) {ho : Option Addr} {hn : Nat} {H : Nat → Nat → Int} (hT : CV w ho hn H) : ∀ W, ((w.alloc o0).alloc o1).alloc o2 = W → CV W ho hn H := by
  rintro W rfl
  exact ((hT.keep (above_new w o0)).keep (above_new _ o1)).keep (above_new _ o2)
set_option maxRecDepth 100000 in
set_option maxHeartbeats 32000000 in
theorem ttuning_bad (a go ho : Option Addr) (n gn hn c gc hc : Nat) (M G H : Nat → Nat → Int) (v u : Nat → Int) (w : World) (hc1 : n ≤ c) (hc2 : c ≤ maxLen) (hgc : gn ≤ gc) (hgm : gc ≤ maxLen) (hhc : hn ≤ hc) (hhm : hc ≤ maxLen) (hR : CV w a n M) (hS : CV w go gn G) (hT : CV w ho hn H) (p q : Nat → Int) (kp kq : Int)
    (hp : ∀ W, CV W a n M → CV W go gn G → Calls Try.prog 59 #[.agg #[.slice a n c], .slice go gn gc, PV v] W fun e w' => e = .returned (.tuple #[PV p, .int .i64 kp]) ∧ Below W.heap.size W w')
    (hq : ∀ W, CV W a n M → CV W go gn G → Calls Try.prog 59 #[.agg #[.slice a n c], .slice go gn gc, PV u] W fun e w' => e = .returned (.tuple #[PV q, .int .i64 kq]) ∧ Below W.heap.size W w')
    (hbad : (kp == 0) = false ∨ (kp = 0 ∧ (kq == 0) = false)) : Calls Try.prog 16 #[.agg #[.slice a n c], .slice go gn gc, .slice ho hn hc, PV v, PV u] w fun e w' => e = .returned (.bool true) ∧ Below w.heap.size w w' := by
  have M1 : Bx True := ⟨trivial⟩
  have M2 : Bx True := ⟨trivial⟩
  have M3 : Bx True := ⟨trivial⟩
  obtain ⟨W, hW⟩ : ∃ W, ((w.alloc (.cells #[.slice a n c] 57)).alloc (.cells #[.int .i64 (v 0), .int .i64 (v 1), .int .i64 (v 2), .int .i64 (v 3), .int .i64 (v 4), .int .i64 (v 5)] 36)).alloc (.cells #[.int .i64 (u 0), .int .i64 (u 1), .int .i64 (u 2), .int .i64 (u 3), .int .i64 (u 4), .int .i64 (u 5)] 36) = W := ⟨_, rfl⟩
  have L00 := Lw.start w a go n gn c M G v u hR hS W hW
  have L0 : Bx (Lt w a go ho n gn hn c M G H v u W) := ⟨L00, keep_start w (.cells #[.int .i64 (v 0), .int .i64 (v 1), .int .i64 (v 2), .int .i64 (v 3), .int .i64 (v 4), .int .i64 (v 5)] 36) (.cells #[.int .i64 (u 0), .int .i64 (u 1), .int .i64 (u 2), .int .i64 (u 3), .int .i64 (u 4), .int .i64 (u 5)] 36) (.cells #[.slice a n c] 57) hT W hW⟩
  have HP := Bx.mk (fun W (L : Lt w a go ho n gn hn c M G H v u W) => hp W L.l.R L.l.S)
  have HQ := Bx.mk (fun W (L : Lt w a go ho n gn hn c M G H v u W) => hq W L.l.R L.l.S)
  unfold PV at HP HQ ⊢
  have im := L0.out.l.m.cell
  have iv0 := L0.out.l.v.c0
  have iv1 := L0.out.l.v.c1
  have iv2 := L0.out.l.v.c2
  have iv3 := L0.out.l.v.c3
  have iv4 := L0.out.l.v.c4
  have iv5 := L0.out.l.v.c5
  have iu0 := L0.out.l.u.c0
  have iu1 := L0.out.l.u.c1
  have iu2 := L0.out.l.u.c2
  have iu3 := L0.out.l.u.c3
  have iu4 := L0.out.l.u.c4
  have iu5 := L0.out.l.u.c5
  clear hR hS hT L00 hp hq
  rcases hbad with hbad | ⟨rfl, hbad⟩
  all_goals
    go_enter Try.func16, Try.ntmps16
    go_wp2_with (first
      | (clear M1; go_at_call 46; refine (thead_any _).mono ?_; clear im iv0 iv1 iv2 iv3 iv4 iv5 iu0 iu1 iu2 iu3 iu4 iu5 hW; rintro e w1 ⟨rfl, k1⟩
         have L1 := Bx.mk (L0.out.keep k1)
         have im := L1.out.l.m.cell
         have iv0 := L1.out.l.v.c0
         have iv1 := L1.out.l.v.c1
         have iv2 := L1.out.l.v.c2
         have iv3 := L1.out.l.v.c3
         have iv4 := L1.out.l.v.c4
         have iv5 := L1.out.l.v.c5
         clear k1)
      | (clear M2; go_at_call 59; refine (HP.out w1 L1.out).mono ?_; clear im iv0 iv1 iv2 iv3 iv4 iv5; rintro e w2 ⟨rfl, k2⟩
         have L2 := Bx.mk ((L1.out.keep k2).keep (above_new w2 (.cells #[.int .i64 (p 0), .int .i64 (p 1), .int .i64 (p 2), .int .i64 (p 3), .int .i64 (p 4), .int .i64 (p 5)] 65)))
         have P2 := Bx.mk (VT.new w2 65 p)
         have im := L2.out.l.m.cell
         have iu0 := L2.out.l.u.c0
         have iu1 := L2.out.l.u.c1
         have iu2 := L2.out.l.u.c2
         have iu3 := L2.out.l.u.c3
         have iu4 := L2.out.l.u.c4
         have iu5 := L2.out.l.u.c5
         clear k2)
      | (clear M3; go_at_call 59; refine (HQ.out _ L2.out).mono ?_; clear im iu0 iu1 iu2 iu3 iu4 iu5; rintro e w3 ⟨rfl, k3⟩
         have L3 := Bx.mk ((L2.out.keep k3).keep (above_new w3 (.cells #[.int .i64 (q 0), .int .i64 (q 1), .int .i64 (q 2), .int .i64 (q 3), .int .i64 (q 4), .int .i64 (q 5)] 65)))
         have P3 := Bx.mk ((P2.out.keep (k3.block _ P2.out.lt)).keep ((above_new w3 (.cells #[.int .i64 (q 0), .int .i64 (q 1), .int .i64 (q 2), .int .i64 (q 3), .int .i64 (q 4), .int .i64 (q 5)] 65)).block _ (Nat.lt_of_lt_of_le P2.out.lt k3.size)))
         have Q3 := Bx.mk (VT.new w3 65 q)
         have im := L3.out.l.m.cell
         have iv0 := L3.out.l.v.c0
         have iv1 := L3.out.l.v.c1
         have iv2 := L3.out.l.v.c2
         have iv3 := L3.out.l.v.c3
         have iv4 := L3.out.l.v.c4
         have iv5 := L3.out.l.v.c5
         clear k3))
    go_ret
    exact ⟨rfl, L3.out.l.b⟩
end Go.Proofs.Ytnbamjoadankmaa

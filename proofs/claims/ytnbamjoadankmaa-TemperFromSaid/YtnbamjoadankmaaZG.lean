/- TemperFrom: the law's walk. -/
import Derived.Test.YtnbamjoadankmaaZE
import Derived.Test.YtnbamjoadankmaaYZ
namespace Go.Proofs.Ytnbamjoadankmaa
open Go.RowKit D
theorem dot_span {O : Nat → Nat → Int} {u : Nat} {y z : Nat → Int} (h : Sp O u 6 y) (h0 : ∀ i, i < u → dot 6 (O i) z = 0) : dot 6 y z = 0 := by
  obtain ⟨c, hc⟩ := h
  have e : dot 6 y z = sm 6 (fun j => sm u (fun i => c i * (O i j * z j))) := sm_congr fun j hj => by
    show y j * z j = _
    rw [hc j hj, Int.mul_comm, ← sm_mul]; exact sm_congr fun i _ => by grind
  rw [e, sm_comm, sm_congr (g := fun _ => 0) fun i hi => ?_, sm_zero]
  have e2 := sm_mul 6 (c i) (fun j => O i j * z j)
  rw [e2]
  show c i * dot 6 (O i) z = 0
  rw [h0 i hi, Int.mul_zero]
/-- The temperament of the kernel tempers out the same. -/
theorem ker_twice {M K O : Nat → Nat → Int} {n u s : Nat} {p q : Nat → Nat} (h : KerS M n u K p) (k : KerS K u s O q) (v : Nat → Int) : (∀ i, i < s → img O v i = 0) ↔ ∀ i, i < n → img M v i = 0 := by
  refine ⟨fun h0 i hi => ?_, fun h0 i hi => ?_⟩
  · exact dot_span (k.all (M i) fun t ht => (dot_comm _ _ _).trans (h.orth t i ht hi)) h0
  · show dot 6 (O i) v = 0
    rw [dot_comm]
    exact dot_span (h.all v h0) fun t ht => k.orth i t hi ht
theorem from_two (ao : Option Addr) (u c n : Nat) (K M : Nat → Nat → Int) (p : Nat → Nat) (v : Nat → Int) (w : World) (hc1 : u ≤ c) (hc2 : c ≤ maxLen) (hR : CV w ao u K) (h : KerS M n u K p) (ht : Tm M n) (hv : Iv v) (hun : u + n = 6) (tt : Bool) (htt : tt = true ↔ ∀ i, i < n → img M v i = 0) :
    Calls Try.prog 57 #[.slice ao u c] w fun e w' => (e = .returned (.tuple #[.agg #[.slice none 0 0], .int .i64 1]) ∨ e = .returned (.tuple #[.agg #[.slice none 0 0], .int .i64 3]) ∨ ∃ ho s hc O, e = .returned (.tuple #[.agg #[.slice ho s hc], .int .i64 0]) ∧ s ≤ hc ∧ hc ≤ maxLen ∧ Bx (CV w' ho s O) ∧ Bx (Tm O s) ∧ Bx ((∀ i, i < s → img O v i = 0) ↔ tt = true)) ∧ Bx (Below w.heap.size w w') :=
  (from_any ao u c K w hc1 hc2 hR).mono fun e w' ⟨ho, hb⟩ => by
    refine ⟨?_, hb⟩
    rcases ho with ⟨_, he⟩ | ⟨_, _, s, O, q, hk, ho⟩
    · exact .inl he
    · have hs : s = n := by
        have := ker_count hk.hf hk.orth hk.all (r := u) (fun k => h.hf.rank (fun i hi => Sp.unit hi) (fun i hi => Sp.unit hi) k)
        omega
      rcases ho with ⟨h0, _⟩ | ⟨_, _, _, he⟩ | ⟨hT, ho, hc, he, h1, h2, h3⟩
      · have := ht.some; have := ht.three; omega
      · exact .inr (.inl he)
      · exact .inr (.inr ⟨ho, s, hc, O, he, h1, h2, ⟨h3⟩, ⟨hT⟩, ⟨(ker_twice h hk v).trans htt.symm⟩⟩)
theorem dot_small {x r : Nat → Int} (hr : ∀ j, j < 6 → -1000 ≤ r j ∧ r j ≤ 1000) (hx : Iv x) : wrap64 (dot 6 x r) = dot 6 x r := by
  have h : (dot 6 x r).natAbs ≤ 6 * 48000 := sm6_bound (f := fun j => x j * r j) (B := 48000) (fun j hj => by
    have p1 := hr j hj
    have p2 := hx j hj
    rw [Int.natAbs_mul]
    exact Nat.le_trans (Nat.mul_le_mul (show (x j).natAbs ≤ 48 by omega) (show (r j).natAbs ≤ 1000 by omega)) (by decide)) 6 (Nat.le_refl _)
  unfold wrap64; omega
/-- What From answers, in two ways. -/
theorem from_one (ao : Option Addr) (n c : Nat) (C : Nat → Nat → Int) (w : World) (hc1 : n ≤ c) (hc2 : c ≤ maxLen) (hR : CV w ao n C) :
    Calls Try.prog 57 #[.slice ao n c] w fun e w' => (∃ k : Int, (k == 0) = false ∧ e = .returned (.tuple #[.agg #[.slice none 0 0], .int .i64 k]) ∨ ∃ ho u hc O p, e = .returned (.tuple #[.agg #[.slice ho u hc], .int .i64 0]) ∧ u ≤ hc ∧ hc ≤ maxLen ∧ n ≤ 8 ∧ Bx (∀ j, j < n → Iv (C j)) ∧ Bx (KerS C n u O p) ∧ Bx (CV w' ho u O) ∧ Bx (Tm O u)) ∧ Bx (Below w.heap.size w w') :=
  (from_any ao n c C w hc1 hc2 hR).mono fun e w' ⟨ho, hb⟩ => by
    refine ⟨?_, hb⟩
    rcases ho with ⟨_, he⟩ | ⟨hv, hI, s, O, q, hk, ho⟩
    · exact ⟨1, .inl ⟨rfl, he⟩⟩
    · rcases ho with ⟨_, he⟩ | ⟨_, _, _, he⟩ | ⟨hT, ho, hc, he, h1, h2, h3⟩
      · exact ⟨4, .inl ⟨rfl, he⟩⟩
      · exact ⟨3, .inl ⟨rfl, he⟩⟩
      · exact ⟨0, .inr ⟨ho, s, hc, O, q, he, h1, h2, hv.1, ⟨hI⟩, ⟨hk⟩, ⟨h3⟩, ⟨hT⟩⟩⟩
/-- What the law has in memory. -/
structure Lf (w : World) (a0 a2 : Option Addr) (n0 n2 c2 : Nat) (C M : Nat → Nat → Int) (r v : Nat → Int) (W : World) : Prop where
  r : VT W w.heap.size 36 r
  m : Boxed W (w.heap.size + 1) 57 (.slice a2 n2 c2)
  v : VT W (w.heap.size + 1 + 1) 36 v
  C : CV W a0 n0 C
  R : CV W a2 n2 M
  b : Below w.heap.size w W
theorem Lf.keep {w : World} {a0 a2 : Option Addr} {n0 n2 c2 : Nat} {C M : Nat → Nat → Int} {r v : Nat → Int} {W W' : World} (h : Lf w a0 a2 n0 n2 c2 C M r v W) (hb : Below W.heap.size W W') : Lf w a0 a2 n0 n2 c2 C M r v W' :=
  ⟨h.r.keep (hb.block _ h.r.lt), (hb.block _ h.m.lt).trans h.m, h.v.keep (hb.block _ h.v.lt), h.C.keep hb, h.R.keep hb, h.b.trans (hb.mono h.b.size)⟩
theorem Lf.start (w : World) (a0 a2 : Option Addr) (n0 n2 c2 : Nat) (C M : Nat → Nat → Int) (r v : Nat → Int) (hC : CV w a0 n0 C) (hR : CV w a2 n2 M) : ∀ W, ((w.alloc (.cells #[.int .i64 (r 0), .int .i64 (r 1), .int .i64 (r 2), .int .i64 (r 3), .int .i64 (r 4), .int .i64 (r 5)] 36)).alloc (.cells #[.slice a2 n2 c2] 57)).alloc (.cells #[.int .i64 (v 0), .int .i64 (v 1), .int .i64 (v 2), .int .i64 (v 3), .int .i64 (v 4), .int .i64 (v 5)] 36) = W → Lf w a0 a2 n0 n2 c2 C M r v W := by
  rintro W rfl
  have h0 := VT.new w 36 r
  have b0 := above_new w (.cells #[.int .i64 (r 0), .int .i64 (r 1), .int .i64 (r 2), .int .i64 (r 3), .int .i64 (r 4), .int .i64 (r 5)] 36)
  obtain ⟨W1, hW1⟩ : ∃ W1, w.alloc (.cells #[.int .i64 (r 0), .int .i64 (r 1), .int .i64 (r 2), .int .i64 (r 3), .int .i64 (r 4), .int .i64 (r 5)] 36) = W1 := ⟨_, rfl⟩
  have hs : W1.heap.size = w.heap.size + 1 := by rw [← hW1]; simp
  rw [hW1] at h0 b0 ⊢
  clear hW1
  have h1 := Boxed.new W1 57 (.slice a2 n2 c2)
  have b1 := above_new W1 (.cells #[.slice a2 n2 c2] 57)
  obtain ⟨W2, hW2⟩ : ∃ W2, W1.alloc (.cells #[.slice a2 n2 c2] 57) = W2 := ⟨_, rfl⟩
  have hs2 : W2.heap.size = w.heap.size + 1 + 1 := by rw [← hW2]; simp [hs]
  rw [hs] at h1
  rw [hW2] at h1 b1 ⊢
  clear hW2
  have h2 := VT.new W2 36 v
  have b2 := above_new W2 (.cells #[.int .i64 (v 0), .int .i64 (v 1), .int .i64 (v 2), .int .i64 (v 3), .int .i64 (v 4), .int .i64 (v 5)] 36)
  rw [hs2] at h2
  exact ⟨(h0.keep (b1.block _ h0.lt)).keep (b2.block _ (by omega)), (b2.block _ (by omega)).trans h1, h2, ((hC.keep b0).keep b1).keep b2, ((hR.keep b0).keep b1).keep b2, (b0.trans (b1.mono b0.size)).trans (b2.mono (by omega))⟩
theorem sevenc {x4 wr w6 : World} {tb bc oc n0 i : Nat} {ho : Option Addr} {u hc : Nat} {C : Nat → Nat → Int} (h : Boxed wr tb 57 (.slice ho u hc)) (k : Below wr.drew.heap.size wr.drew w6) (hcr : ∀ i j, i < n0 → j < 6 → x4.cell? ⟨bc, oc + i * 6 + j, none⟩ = some (.int .i64 (C i j))) (hb : bc < x4.heap.size) (hB : Below x4.heap.size x4 w6) (hi : i < n0) : w6.cell? ⟨tb, 0, none⟩ = some (.slice ho u hc) ∧ w6.cell? ⟨bc, oc + i * 6, none⟩ = some (.int .i64 (C i 0)) ∧ w6.cell? ⟨bc, oc + i * 6 + 1, none⟩ = some (.int .i64 (C i 1)) ∧ w6.cell? ⟨bc, oc + i * 6 + 2, none⟩ = some (.int .i64 (C i 2)) ∧ w6.cell? ⟨bc, oc + i * 6 + 3, none⟩ = some (.int .i64 (C i 3)) ∧ w6.cell? ⟨bc, oc + i * 6 + 4, none⟩ = some (.int .i64 (C i 4)) ∧ w6.cell? ⟨bc, oc + i * 6 + 5, none⟩ = some (.int .i64 (C i 5)) :=
  ⟨Boxed.cell (show Boxed w6 tb 57 (.slice ho u hc) from (k.block _ h.lt).trans h), row_six hcr hb hB hi⟩
set_option maxRecDepth 100000 in
set_option maxHeartbeats 64000000 in
theorem tfrom_law (a0 a2 : Option Addr) (n0 c0 n2 c2 : Nat) (C M : Nat → Nat → Int) (r v : Nat → Int) (w : World) (hc1 : n0 ≤ c0) (hc2 : c0 ≤ maxLen) (hc3 : n2 ≤ c2) (hc4 : c2 ≤ maxLen) (hC : CV w a0 n0 C) (hR : CV w a2 n2 M) :
    Calls Try.prog 15 #[.slice a0 n0 c0, PV r, .agg #[.slice a2 n2 c2], PV v] w fun e w' => e = .returned (.bool true) ∧ Below w.heap.size w w' := by
  have M1 : Bx True := ⟨trivial⟩
  have M2 : Bx True := ⟨trivial⟩
  have M3 : Bx True := ⟨trivial⟩
  have M4 : Bx True := ⟨trivial⟩
  have M5 : Bx True := ⟨trivial⟩
  have M6 : Bx True := ⟨trivial⟩
  have N1 : Bx True := ⟨trivial⟩
  have N2 : Bx True := ⟨trivial⟩
  have N3 : Bx True := ⟨trivial⟩
  have N4 : Bx True := ⟨trivial⟩
  have N5 : Bx True := ⟨trivial⟩
  have N6 : Bx True := ⟨trivial⟩
  have N7 : Bx True := ⟨trivial⟩
  obtain ⟨W, hW⟩ : ∃ W, ((w.alloc (.cells #[.int .i64 (r 0), .int .i64 (r 1), .int .i64 (r 2), .int .i64 (r 3), .int .i64 (r 4), .int .i64 (r 5)] 36)).alloc (.cells #[.slice a2 n2 c2] 57)).alloc (.cells #[.int .i64 (v 0), .int .i64 (v 1), .int .i64 (v 2), .int .i64 (v 3), .int .i64 (v 4), .int .i64 (v 5)] 36) = W := ⟨_, rfl⟩
  have L0 := Bx.mk (Lf.start w a0 a2 n0 n2 c2 C M r v hC hR W hW)
  have hmx : Try.prog.follows .mixedOrders = true := by kernel_rfl
  obtain ⟨b, hb1⟩ := bool_of (Tm M n2)
  obtain ⟨b2, hb2⟩ := bool_of (Iv v)
  have HB1 := Bx.mk hb1
  have HB2 := Bx.mk hb2
  have HFr := Bx.mk (fun W (L : Lf w a0 a2 n0 n2 c2 C M r v W) => from_one a0 n0 c0 C W hc1 hc2 L.C)
  have H1 := Bx.mk (fun W (L : Lf w a0 a2 n0 n2 c2 C M r v W) => tvalid_any a2 n2 c2 M W hc3 hc4 L.R b hb1)
  have H2 := Bx.mk (fun W => interval_any v W b2 hb2)
  have H3 := Bx.mk (fun W (L : Lf w a0 a2 n0 n2 c2 C M r v W) => tker_ok a2 n2 c2 M W hc3 hc4 L.R)
  have H4 := Bx.mk (fun W (L : Lf w a0 a2 n0 n2 c2 C M r v W) => tmp_ok a2 n2 c2 M v W hc3 hc4 L.R)
  have HTv := Bx.mk (fun so us sc O W h1 h2 => tmp_ok so us sc O v W h1 h2)
  have HTc := Bx.mk (fun ho u hc O j W (h1 : u ≤ hc) (h2 : hc ≤ maxLen) => tmp_ok ho u hc O (C j) W h1 h2)
  have HMm := Bx.mk (fun ho u hc O W h1 h2 => lmember_any ho u hc O r W h1 h2)
  have HDt := Bx.mk (fun j W => tdot_any (C j) r W)
  unfold PV at H2 H4 HTv HTc HMm HDt ⊢
  have ir0 := L0.out.r.c0
  have ir1 := L0.out.r.c1
  have ir2 := L0.out.r.c2
  have ir3 := L0.out.r.c3
  have ir4 := L0.out.r.c4
  have ir5 := L0.out.r.c5
  have im := L0.out.m.cell
  have iv0 := L0.out.v.c0
  have iv1 := L0.out.v.c1
  have iv2 := L0.out.v.c2
  have iv3 := L0.out.v.c3
  have iv4 := L0.out.v.c4
  have iv5 := L0.out.v.c5
  clear hC hR hb1 hb2
  go_enter Try.func15, Try.ntmps15
  go_wp2_with (first
    | (clear M1; go_at_call 46; refine (thead_any _).mono ?_; clear ir0 ir1 ir2 ir3 ir4 ir5 im iv0 iv1 iv2 iv3 iv4 iv5 hW; rintro e w1 ⟨rfl, k1⟩
       have L1 := Bx.mk (L0.out.keep k1)
       clear k1)
    | (clear M2; go_at_call 57; refine (HFr.out w1 L1.out).mono ?_; rintro e w2 ⟨⟨k, ho⟩, k2⟩
       have L2 := Bx.mk (L1.out.keep k2.out)
       clear k2
       (rcases ho with ⟨hk0, rfl⟩ | ⟨ho, u, hc, O, p, rfl, huc, hcm, hn8, HIv, HS, HC, HT⟩) <;> first | (have hh := hk0; have LH := Bx.mk (L2.out.keep (above_new w2 (.cells #[.slice none 0 0] 57))); have im := LH.out.m.cell) | (have L3 := Bx.mk (L2.out.keep (above_new w2 (.cells #[.slice ho u hc] 57))); have T3 := Bx.mk (Boxed.new w2 57 (.slice ho u hc)); have HC3 := Bx.mk (HC.out.keep (above_new w2 (.cells #[.slice ho u hc] 57)))))
    | (clear N1; go_at_call 47; refine (H1.out _ LH.out).mono ?_; clear im; rintro e z1 ⟨rfl, l1⟩
       have Q1 := Bx.mk (LH.out.keep l1)
       have im := Q1.out.m.cell
       have iv0 := Q1.out.v.c0
       have iv1 := Q1.out.v.c1
       have iv2 := Q1.out.v.c2
       have iv3 := Q1.out.v.c3
       have iv4 := Q1.out.v.c4
       have iv5 := Q1.out.v.c5
       clear l1
       cases b)
    | (clear N2; go_at_call 63; refine (H2.out z1).mono ?_; clear im iv0 iv1 iv2 iv3 iv4 iv5; rintro e z2 ⟨rfl, l2⟩
       have Q2 := Bx.mk (Q1.out.keep l2)
       have im := Q2.out.m.cell
       have iv0 := Q2.out.v.c0
       have iv1 := Q2.out.v.c1
       have iv2 := Q2.out.v.c2
       have iv3 := Q2.out.v.c3
       have iv4 := Q2.out.v.c4
       have iv5 := Q2.out.v.c5
       clear l2
       cases b2)
    | (clear N3; go_at_call 54; refine (H3.out z2 Q2.out (HB1.out.1 (by trivial))).mono ?_; clear im iv0 iv1 iv2 iv3 iv4 iv5; rintro e z3 ⟨ko, kc, u', K, pk, rfl, hukc, hkcm, hu6', hun, hn3, HSk, HKc, l3⟩
       have Q3 := Bx.mk (Q2.out.keep l3.out)
       have im := Q3.out.m.cell
       have iv0 := Q3.out.v.c0
       have iv1 := Q3.out.v.c1
       have iv2 := Q3.out.v.c2
       have iv3 := Q3.out.v.c3
       have iv4 := Q3.out.v.c4
       have iv5 := Q3.out.v.c5
       clear l3)
    | (clear N4; go_at_call 52; refine (H4.out z3 Q3.out (HB1.out.1 (by trivial)) (HB2.out.1 (by trivial))).mono ?_; clear im iv0 iv1 iv2 iv3 iv4 iv5; rintro e z4 ⟨tt, htt, rfl, l4⟩
       have Q4 := Bx.mk (Q3.out.keep l4.out)
       have HK4 := Bx.mk (HKc.out.keep l4.out)
       clear l4)
    | (clear N5; go_at_call 57; refine (from_two ko u' kc n2 K M pk v z4 hukc hkcm HK4.out HSk.out (HB1.out.1 (by trivial)) (HB2.out.1 (by trivial)) hun tt htt.out).mono ?_; rintro e z5 ⟨ho5, l5⟩
       have Q5 := Bx.mk (Q4.out.keep l5.out)
       clear l5
       (rcases ho5 with rfl | rfl | ⟨so, us, sc, O5, rfl, husc, hscm, HC5, HT5, HE5⟩) <;> first | (have hh := husc; have LV := Bx.mk (Q5.out.keep (above_new z5 (.cells #[.slice so us sc] 57))); have ix := (Boxed.new z5 57 (.slice so us sc)).cell; have iv0 := LV.out.v.c0; have iv1 := LV.out.v.c1; have iv2 := LV.out.v.c2; have iv3 := LV.out.v.c3; have iv4 := LV.out.v.c4; have iv5 := LV.out.v.c5) | (have LZ := Bx.mk (Q5.out.keep (above_new z5 (.cells #[.slice none 0 0] 57)))))
    | (clear N6; go_at_call 52; refine (HTv.out so us sc O5 _ husc hscm (HC5.out.keep (above_new z5 (.cells #[.slice so us sc] 57))) HT5.out (HB2.out.1 (by trivial))).mono ?_; clear ix iv0 iv1 iv2 iv3 iv4 iv5; rintro e z6 ⟨t6, ht6, rfl, l6⟩
       have LZ := Bx.mk (LV.out.keep l6.out)
       obtain rfl : t6 = tt := Bool.eq_iff_iff.2 (ht6.out.trans HE5.out)
       clear l6))
  all_goals first
    | (go_ret; exact ⟨by simp, Lf.b (by first | exact LZ.out | exact Q2.out | exact Q1.out)⟩)
    | skip
  obtain ⟨x3, hx3⟩ : ∃ x3, w2.alloc (.cells #[.slice ho u hc] 57) = x3 := ⟨_, rfl⟩
  have hT3 := T3.out
  rw [hx3] at L3 HC3 hT3
  try rw [hx3]
  clear hx3 T3
  obtain ⟨tb, htb⟩ : ∃ tb, w2.heap.size = tb := ⟨_, rfl⟩
  rw [htb] at hT3
  try rw [htb]
  clear htb
  have HTB := Bx.mk hT3
  clear hT3
  go_loopw [12, 13] (fun ours ix wr => ∃ (l : Nat) (q : Bool), l ≤ 6 ∧ ix = .int .i64 l ∧ ours = .bool q ∧ Bx (q = true → ∀ j, j < l → -1000 ≤ r j ∧ r j ≤ 1000) ∧ wr = x3) (fun _ ix _ => 6 - (intOf ix).toNat)
  case atStart => exact ⟨0, true, by omega, rfl, rfl, ⟨fun _ j hj => by omega⟩, rfl⟩
  case round =>
    obtain ⟨l, q, hl, rfl, rfl, HQ, rfl⟩ := hrel
    by_cases hl6 : l < 6
    · have hl6' : (l : Int) < 6 := by omega
      have c0 := L3.out.r.cellk hl6
      obtain ⟨x, hx⟩ : ∃ x, r l = x := ⟨_, rfl⟩
      rw [hx] at c0
      have HX := Bx.mk hx
      clear hx
      cases q with
      | false =>
        go_wp2_with fail
        exact ⟨⟨l + 1, false, by omega, by go_num, rfl, ⟨fun e => by cases e⟩, by trivial⟩, by simp [intOf]; omega⟩
      | true =>
        by_cases h1 : x ≥ -1000
        · by_cases h2 : x ≤ 1000
          · go_wp2_with fail
            exact ⟨⟨l + 1, true, by omega, by go_num, rfl, ⟨fun _ j hj => by
              by_cases e : j = l
              · rw [e, HX.out]; omega
              · exact HQ.out rfl j (by omega)⟩, by trivial⟩, by simp [intOf]; omega⟩
          · go_wp2_with fail
            exact ⟨⟨l + 1, false, by omega, by go_num, rfl, ⟨fun e => by cases e⟩, by trivial⟩, by simp [intOf]; omega⟩
        · go_wp2_with fail
          exact ⟨⟨l + 1, false, by omega, by go_num, rfl, ⟨fun e => by cases e⟩, by trivial⟩, by simp [intOf]; omega⟩
    · obtain rfl : l = 6 := by omega
      obtain ⟨x4, hx4⟩ : ∃ x4, x4 = wr := ⟨_, rfl⟩
      subst hx4
      go_wp2_with fail
      go_loopw [12, 14] (fun ours ix wz => ∃ (i : Nat) (q : Bool), i ≤ n0 ∧ ix = .int .i64 i ∧ ours = .bool q ∧ Bx (q = true → (∀ j, j < 6 → -1000 ≤ r j ∧ r j ≤ 1000) ∧ ∀ t, t < i → dot 6 (C t) r = 0) ∧ Bx (Below x4.heap.size x4 wz)) (fun _ ix _ => n0 - (intOf ix).toNat)
      case atStart => exact ⟨0, q, by omega, rfl, rfl, ⟨fun e => ⟨HQ.out e, fun t ht => by omega⟩⟩, ⟨Below.refl _ _⟩⟩
      case round =>
        obtain ⟨i, q, hi, rfl, rfl, HQ2, IB⟩ := hrel
        have LW := Bx.mk (L3.out.keep IB.out)
        have TW : Bx (Boxed wr tb 57 (.slice ho u hc)) := ⟨(IB.out.block _ HTB.out.lt).trans HTB.out⟩
        have CW := Bx.mk (HC3.out.keep IB.out)
        have it := TW.out.cell
        by_cases hlt : i < n0
        · obtain ⟨bc, oc, rfl, hbc, hcc⟩ := L3.out.C (by omega)
          have hlt' : (i : Int) < n0 := by omega
          have HCC := Bx.mk hcc
          obtain ⟨f0, f1, f2, f3, f4, f5⟩ := row_six hcc hbc IB.out hlt
          have HX := Bx.mk (HTc.out ho u hc O i wr.drew huc hcm (CW.out.keep (below_drew (Below.refl _ _))) HT.out (HIv.out i hlt))
          clear hcc
          go_wp2_with fail
          go_region_held3 (fun w' => w'.cell? ⟨tb, 0, none⟩ = some (.slice ho u hc) ∧ w'.cell? ⟨bc, oc + i * 6, none⟩ = some (.int .i64 (C i 0)) ∧ w'.cell? ⟨bc, oc + i * 6 + 1, none⟩ = some (.int .i64 (C i 1)) ∧ w'.cell? ⟨bc, oc + i * 6 + 2, none⟩ = some (.int .i64 (C i 2)) ∧ w'.cell? ⟨bc, oc + i * 6 + 3, none⟩ = some (.int .i64 (C i 3)) ∧ w'.cell? ⟨bc, oc + i * 6 + 4, none⟩ = some (.int .i64 (C i 4)) ∧ w'.cell? ⟨bc, oc + i * 6 + 5, none⟩ = some (.int .i64 (C i 5)))
            (first
              | go_keep
              | exact HS2)
            (first
              | (go_at_call 52; refine (HX.out).mono ?_; rintro e w6 ⟨b6, hb6, rfl, k6⟩
                 obtain rfl : b6 = true := hb6.out.2 fun t ht => (dot_comm 6 (O t) (C i)).trans (HS.out.orth t i ht hlt)
                 have IB6 : Bx (Below x4.heap.size x4 w6) := ⟨(below_drew IB.out).trans (k6.out.mono IB.out.size)⟩
                 have HS2 : w6.cell? ⟨tb, 0, none⟩ = some (.slice ho u hc) ∧ w6.cell? ⟨bc, oc + i * 6, none⟩ = some (.int .i64 (C i 0)) ∧ w6.cell? ⟨bc, oc + i * 6 + 1, none⟩ = some (.int .i64 (C i 1)) ∧ w6.cell? ⟨bc, oc + i * 6 + 2, none⟩ = some (.int .i64 (C i 2)) ∧ w6.cell? ⟨bc, oc + i * 6 + 3, none⟩ = some (.int .i64 (C i 3)) ∧ w6.cell? ⟨bc, oc + i * 6 + 4, none⟩ = some (.int .i64 (C i 4)) ∧ w6.cell? ⟨bc, oc + i * 6 + 5, none⟩ = some (.int .i64 (C i 5)) := sevenc (TW.out) k6.out HCC.out hbc IB6.out hlt))
          clear f0 f1 f2 f3 f4 f5 it
          go_wp2_with fail
          cases q with
          | false =>
            go_region
            all_goals go_wp2_with fail
            all_goals first
              | exact ⟨⟨i + 1, false, by omega, by go_num, rfl, ⟨fun e => by cases e⟩, IB6⟩, by simp [intOf]; omega⟩
              | exact ⟨⟨i + 1, false, by omega, by go_num, rfl, ⟨fun e => by cases e⟩, ⟨below_drew IB6.out⟩⟩, by simp [intOf]; omega⟩
              | exact ⟨⟨_, _, _, _, _, _, _, _, _, _, _, _, _, _, _, _, _, _, _, _, _, _, _, _, _, _, _, _, _, _, _, _, _, _, _, _, ⟨i + 1, false, by omega, by go_num, rfl, ⟨fun e => by cases e⟩, IB6⟩, rfl⟩, by simp [intOf]; omega⟩
              | exact ⟨⟨_, _, _, _, _, _, _, _, _, _, _, _, _, _, _, _, _, _, _, _, _, _, _, _, _, _, _, _, _, _, _, _, _, _, _, _, ⟨i + 1, false, by omega, by go_num, rfl, ⟨fun e => by cases e⟩, ⟨below_drew IB6.out⟩⟩, rfl⟩, by simp [intOf]; omega⟩
          | true =>
            obtain ⟨f0, f1, f2, f3, f4, f5⟩ := row_six HCC.out hbc IB6.out hlt
            have L6 := Bx.mk (L3.out.keep IB6.out)
            have g0 := L6.out.r.c0
            have g1 := L6.out.r.c1
            have g2 := L6.out.r.c2
            have g3 := L6.out.r.c3
            have g4 := L6.out.r.c4
            have g5 := L6.out.r.c5
            have PP := fun w => HDt.out i w
            rw [dot_small (fun j hj => (HQ2.out rfl).1 j hj) (HIv.out i hlt)] at PP
            obtain ⟨D, hD⟩ : ∃ D, dot 6 (C i) r = D := ⟨_, rfl⟩
            rw [hD] at PP
            have HD := Bx.mk hD
            have HPP := Bx.mk PP
            have HQ3 := Bx.mk (HQ2.out rfl)
            clear PP hD
            by_cases hz : D = 0
            · have HQ4 : Bx ((∀ j, j < 6 → -1000 ≤ r j ∧ r j ≤ 1000) ∧ ∀ t, t < i + 1 → dot 6 (C t) r = 0) := ⟨HQ3.out.1, fun t ht => by
                by_cases e : t = i
                · rw [e, HD.out]; exact hz
                · exact HQ3.out.2 t (by omega)⟩
              go_region_with (first
                | (go_at_call 66; refine (HPP.out _).mono ?_; rintro e w7 ⟨rfl, k7⟩
                   have IB7 : Bx (Below x4.heap.size x4 w7) := ⟨(below_drew IB6.out).trans (k7.mono IB6.out.size)⟩
                   clear k7))
              all_goals go_wp2_with fail
              all_goals first
                | exact ⟨⟨i + 1, true, by omega, by go_num, rfl, ⟨fun _ => HQ4.out⟩, IB7⟩, by simp [intOf]; omega⟩
                | exact ⟨⟨_, _, _, _, _, _, _, _, _, _, _, _, _, _, _, _, _, _, _, _, _, _, _, _, _, _, _, _, _, _, _, _, _, _, _, _, ⟨i + 1, true, by omega, by go_num, rfl, ⟨fun _ => HQ4.out⟩, IB7⟩, rfl⟩, by simp [intOf]; omega⟩
            · have hdz : (D == 0) = false := by simpa using hz
              go_region_with (first
                | (go_at_call 66; refine (HPP.out _).mono ?_; rintro e w7 ⟨rfl, k7⟩
                   have IB7 : Bx (Below x4.heap.size x4 w7) := ⟨(below_drew IB6.out).trans (k7.mono IB6.out.size)⟩
                   clear k7))
              all_goals go_wp2_with fail
              all_goals first
                | exact ⟨⟨i + 1, false, by omega, by go_num, rfl, ⟨fun e => by cases e⟩, IB7⟩, by simp [intOf]; omega⟩
                | exact ⟨⟨_, _, _, _, _, _, _, _, _, _, _, _, _, _, _, _, _, _, _, _, _, _, _, _, _, _, _, _, _, _, _, _, _, _, _, _, ⟨i + 1, false, by omega, by go_num, rfl, ⟨fun e => by cases e⟩, IB7⟩, rfl⟩, by simp [intOf]; omega⟩
        · obtain rfl : i = n0 := by omega
          have HSp := Bx.mk (show q = true → Sp O u 6 r from fun e => HS.out.all r (HQ2.out e).2)
          have g0 := LW.out.r.c0
          have g1 := LW.out.r.c1
          have g2 := LW.out.r.c2
          have g3 := LW.out.r.c3
          have g4 := LW.out.r.c4
          have g5 := LW.out.r.c5
          go_wp2_with (first
            | (clear M3; go_at_call 32; refine (HMm.out ho u hc O wr huc hcm CW.out).mono ?_; clear it g0 g1 g2 g3 g4 g5; rintro e w8 ⟨lo, nn, lc, bm, cm, rfl, hm, k8⟩
               have L8 := Bx.mk (LW.out.keep k8.out)
               have C8 := Bx.mk (CW.out.keep k8.out)
               have it : w8.cell? ⟨tb, 0, none⟩ = some (.slice ho u hc) := Boxed.cell (show Boxed w8 tb 57 (.slice ho u hc) from (k8.out.block _ TW.out.lt).trans TW.out)
               have hall : (q = false) ∨ (q = true ∧ cm = 0 ∧ bm = true) ∨ (q = true ∧ cm = 3) ∨ (q = true ∧ cm = 1) := by
                 rcases Bool.eq_false_or_eq_true q with h | h
                 · rcases hm.out with ⟨h1, _, _, h2⟩ | h1 | ⟨h1, _⟩
                   · exact .inr (.inl ⟨h, h1, h2.2 (HSp.out h)⟩)
                   · exact .inr (.inr (.inl ⟨h, h1.1⟩))
                   · exact .inr (.inr (.inr ⟨h, h1⟩))
                 · exact .inl h
               clear k8 hm
               rcases hall with rfl | ⟨rfl, rfl, rfl⟩ | ⟨rfl, rfl⟩ | ⟨rfl, rfl⟩)
            | (clear M4; go_at_call 47; refine (tvalid_any ho u hc O w8 huc hcm C8.out true (by simp [HT.out])).mono ?_; clear it; rintro e w9 ⟨rfl, k9⟩
               have LH := Bx.mk (L8.out.keep k9)
               have im := LH.out.m.cell
               clear k9)
            | (clear N1; go_at_call 47; refine (H1.out _ LH.out).mono ?_; clear im; rintro e z1 ⟨rfl, l1⟩
               have Q1 := Bx.mk (LH.out.keep l1)
               have im := Q1.out.m.cell
               have iv0 := Q1.out.v.c0
               have iv1 := Q1.out.v.c1
               have iv2 := Q1.out.v.c2
               have iv3 := Q1.out.v.c3
               have iv4 := Q1.out.v.c4
               have iv5 := Q1.out.v.c5
               clear l1
               cases b)
            | (clear N2; go_at_call 63; refine (H2.out z1).mono ?_; clear im iv0 iv1 iv2 iv3 iv4 iv5; rintro e z2 ⟨rfl, l2⟩
               have Q2 := Bx.mk (Q1.out.keep l2)
               have im := Q2.out.m.cell
               have iv0 := Q2.out.v.c0
               have iv1 := Q2.out.v.c1
               have iv2 := Q2.out.v.c2
               have iv3 := Q2.out.v.c3
               have iv4 := Q2.out.v.c4
               have iv5 := Q2.out.v.c5
               clear l2
               cases b2)
            | (clear N3; go_at_call 54; refine (H3.out z2 Q2.out (HB1.out.1 (by trivial))).mono ?_; clear im iv0 iv1 iv2 iv3 iv4 iv5; rintro e z3 ⟨ko, kc, u', K, pk, rfl, hukc, hkcm, hu6', hun, hn3, HSk, HKc, l3⟩
               have Q3 := Bx.mk (Q2.out.keep l3.out)
               have im := Q3.out.m.cell
               have iv0 := Q3.out.v.c0
               have iv1 := Q3.out.v.c1
               have iv2 := Q3.out.v.c2
               have iv3 := Q3.out.v.c3
               have iv4 := Q3.out.v.c4
               have iv5 := Q3.out.v.c5
               clear l3)
            | (clear N4; go_at_call 52; refine (H4.out z3 Q3.out (HB1.out.1 (by trivial)) (HB2.out.1 (by trivial))).mono ?_; clear im iv0 iv1 iv2 iv3 iv4 iv5; rintro e z4 ⟨tt, htt, rfl, l4⟩
               have Q4 := Bx.mk (Q3.out.keep l4.out)
               have HK4 := Bx.mk (HKc.out.keep l4.out)
               clear l4)
            | (clear N5; go_at_call 57; refine (from_two ko u' kc n2 K M pk v z4 hukc hkcm HK4.out HSk.out (HB1.out.1 (by trivial)) (HB2.out.1 (by trivial)) hun tt htt.out).mono ?_; rintro e z5 ⟨ho5, l5⟩
               have Q5 := Bx.mk (Q4.out.keep l5.out)
               clear l5
               (rcases ho5 with rfl | rfl | ⟨so, us, sc, O5, rfl, husc, hscm, HC5, HT5, HE5⟩) <;> first | (have hh := husc; have LV := Bx.mk (Q5.out.keep (above_new z5 (.cells #[.slice so us sc] 57))); have ix := (Boxed.new z5 57 (.slice so us sc)).cell; have iv0 := LV.out.v.c0; have iv1 := LV.out.v.c1; have iv2 := LV.out.v.c2; have iv3 := LV.out.v.c3; have iv4 := LV.out.v.c4; have iv5 := LV.out.v.c5) | (have LZ := Bx.mk (Q5.out.keep (above_new z5 (.cells #[.slice none 0 0] 57)))))
            | (clear N6; go_at_call 52; refine (HTv.out so us sc O5 _ husc hscm (HC5.out.keep (above_new z5 (.cells #[.slice so us sc] 57))) HT5.out (HB2.out.1 (by trivial))).mono ?_; clear ix iv0 iv1 iv2 iv3 iv4 iv5; rintro e z6 ⟨t6, ht6, rfl, l6⟩
               have LZ := Bx.mk (LV.out.keep l6.out)
               obtain rfl : t6 = tt := Bool.eq_iff_iff.2 (ht6.out.trans HE5.out)
               clear l6))
          all_goals (go_ret; exact ⟨by simp, Lf.b (by first | exact LZ.out | exact Q2.out | exact Q1.out)⟩)
end Go.Proofs.Ytnbamjoadankmaa

/- TemperTuning: the law's walk where both intervals have tuned pitches. -/
import Derived.Test.YtnbamjoadankmaaZK
namespace Go.Proofs.Ytnbamjoadankmaa
open Go.RowKit D
theorem rs12 {wa W : World} {bg og bh oh n m i : Nat} {G H : Nat → Nat → Int} (hg : ∀ i j, i < n → j < 6 → wa.cell? ⟨bg, og + i * 6 + j, none⟩ = some (.int .i64 (G i j))) (hbg : bg < wa.heap.size) (hh : ∀ i j, i < m → j < 6 → wa.cell? ⟨bh, oh + i * 6 + j, none⟩ = some (.int .i64 (H i j))) (hbh : bh < wa.heap.size) (hB : Below wa.heap.size wa W) (hn : i < n) (hm : i < m) : W.cell? ⟨bg, og + i * 6, none⟩ = some (.int .i64 (G i 0)) ∧ W.cell? ⟨bg, og + i * 6 + 1, none⟩ = some (.int .i64 (G i 1)) ∧ W.cell? ⟨bg, og + i * 6 + 2, none⟩ = some (.int .i64 (G i 2)) ∧ W.cell? ⟨bg, og + i * 6 + 3, none⟩ = some (.int .i64 (G i 3)) ∧ W.cell? ⟨bg, og + i * 6 + 4, none⟩ = some (.int .i64 (G i 4)) ∧ W.cell? ⟨bg, og + i * 6 + 5, none⟩ = some (.int .i64 (G i 5)) ∧ W.cell? ⟨bh, oh + i * 6, none⟩ = some (.int .i64 (H i 0)) ∧ W.cell? ⟨bh, oh + i * 6 + 1, none⟩ = some (.int .i64 (H i 1)) ∧ W.cell? ⟨bh, oh + i * 6 + 2, none⟩ = some (.int .i64 (H i 2)) ∧ W.cell? ⟨bh, oh + i * 6 + 3, none⟩ = some (.int .i64 (H i 3)) ∧ W.cell? ⟨bh, oh + i * 6 + 4, none⟩ = some (.int .i64 (H i 4)) ∧ W.cell? ⟨bh, oh + i * 6 + 5, none⟩ = some (.int .i64 (H i 5)) := by
  obtain ⟨a0, a1, a2, a3, a4, a5⟩ := row_six hg hbg hB hn
  exact ⟨a0, a1, a2, a3, a4, a5, row_six hh hbh hB hm⟩
theorem leaf {w : World} {a go ho : Option Addr} {n gn hn c : Nat} {M G H : Nat → Nat → Int} {v u : Nat → Int} {wc y : World} {pb qb rb : Nat} {p q r : Nat → Int} {kr : Int} (LC : Lt w a go ho n gn hn c M G H v u wc) (PC : VT wc pb 65 p) (QC : VT wc qb 65 q) (B : Below wc.heap.size wc y) (R : VT y rb 65 r) : ∃ rb' : Nat, Value.pointer (some ⟨rb, 0, none⟩) = .pointer (some ⟨rb', 0, none⟩) ∧ Value.int .i64 kr = .int .i64 kr ∧ Bx (Lt w a go ho n gn hn c M G H v u y) ∧ Bx (VT y pb 65 p) ∧ Bx (VT y qb 65 q) ∧ Bx (VT y rb' 65 r) :=
  ⟨rb, rfl, rfl, ⟨LC.keep B⟩, ⟨PC.keep (B.block _ PC.lt)⟩, ⟨QC.keep (B.block _ QC.lt)⟩, ⟨R⟩⟩
set_option maxRecDepth 100000 in
set_option maxHeartbeats 64000000 in
theorem ttuning_ok (a go ho : Option Addr) (n gn hn c gc hc : Nat) (M G H : Nat → Nat → Int) (v u : Nat → Int) (w : World) (hc1 : n ≤ c) (hc2 : c ≤ maxLen) (hgc : gn ≤ gc) (hgm : gc ≤ maxLen) (hhc : hn ≤ hc) (hhm : hc ≤ maxLen) (hR : CV w a n M) (hS : CV w go gn G) (hT : CV w ho hn H) (p q r s : Nat → Int) (kr ks : Int) (okv : TuneOk M G n gn v) (oku : TuneOk M G n gn u) (pp : p = tu M v G n) (pq : q = tu M u G n) (vp : Pv p) (vq : Pv q)
    (hp : ∀ W, CV W a n M → CV W go gn G → Calls Try.prog 59 #[.agg #[.slice a n c], .slice go gn gc, PV v] W fun e w' => e = .returned (.tuple #[PV p, .int .i64 0]) ∧ Below W.heap.size W w')
    (hq : ∀ W, CV W a n M → CV W go gn G → Calls Try.prog 59 #[.agg #[.slice a n c], .slice go gn gc, PV u] W fun e w' => e = .returned (.tuple #[PV q, .int .i64 0]) ∧ Below W.heap.size W w')
    (hr : ∀ W, CV W a n M → CV W go gn G → Calls Try.prog 59 #[.agg #[.slice a n c], .slice go gn gc, PV (fun j => v j + u j)] W fun e w' => e = .returned (.tuple #[PV r, .int .i64 kr]) ∧ Below W.heap.size W w')
    (hs : ∀ W, Calls Try.prog 67 #[PV p, PV q] W fun e w' => e = .returned (.tuple #[PV s, .int .i64 ks]) ∧ Below W.heap.size W w')
    (hrs : (kr == 0) = false ∨ (kr = 0 ∧ ks = 0 ∧ ∀ j, j < 6 → r j = s j)) : Calls Try.prog 16 #[.agg #[.slice a n c], .slice go gn gc, .slice ho hn hc, PV v, PV u] w fun e w' => e = .returned (.bool true) ∧ Below w.heap.size w w' := by
  have M1 : Bx True := ⟨trivial⟩
  have M2 : Bx True := ⟨trivial⟩
  have M3 : Bx True := ⟨trivial⟩
  have M4 : Bx True := ⟨trivial⟩
  have M5 : Bx True := ⟨trivial⟩
  have M6 : Bx True := ⟨trivial⟩
  have M7 : Bx True := ⟨trivial⟩
  have M8 : Bx True := ⟨trivial⟩
  have M9 : Bx True := ⟨trivial⟩
  have M10 : Bx True := ⟨trivial⟩
  have M11 : Bx True := ⟨trivial⟩
  have M12 : Bx True := ⟨trivial⟩
  obtain ⟨W, hW⟩ : ∃ W, ((w.alloc (.cells #[.slice a n c] 57)).alloc (.cells #[.int .i64 (v 0), .int .i64 (v 1), .int .i64 (v 2), .int .i64 (v 3), .int .i64 (v 4), .int .i64 (v 5)] 36)).alloc (.cells #[.int .i64 (u 0), .int .i64 (u 1), .int .i64 (u 2), .int .i64 (u 3), .int .i64 (u 4), .int .i64 (u 5)] 36) = W := ⟨_, rfl⟩
  have L00 := Lw.start w a go n gn c M G v u hR hS W hW
  have L0 : Bx (Lt w a go ho n gn hn c M G H v u W) := ⟨L00, keep_start w (.cells #[.int .i64 (v 0), .int .i64 (v 1), .int .i64 (v 2), .int .i64 (v 3), .int .i64 (v 4), .int .i64 (v 5)] 36) (.cells #[.int .i64 (u 0), .int .i64 (u 1), .int .i64 (u 2), .int .i64 (u 3), .int .i64 (u 4), .int .i64 (u 5)] 36) (.cells #[.slice a n c] 57) hT W hW⟩
  have HP := Bx.mk (fun W (L : Lt w a go ho n gn hn c M G H v u W) => hp W L.l.R L.l.S)
  have HQ := Bx.mk (fun W (L : Lt w a go ho n gn hn c M G H v u W) => hq W L.l.R L.l.S)
  have HRr := Bx.mk (fun W (L : Lt w a go ho n gn hn c M G H v u W) => hr W L.l.R L.l.S)
  have HMu := Bx.mk hs
  have OKV := Bx.mk okv
  have HPP := Bx.mk pp
  have HVP := Bx.mk vp
  have OKU := Bx.mk oku
  have HIm := Bx.mk (fun x W (L : Lt w a go ho n gn hn c M G H v u W) => img_ci a n c M x W hc1 hc2 L.l.R okv.1)
  have HTm := Bx.mk (fun W (L : Lt w a go ho n gn hn c M G H v u W) => (Tempers_any a n c M v W hc1 hc2 L.l.R).mono (R' := fun e w' => ∃ b : Bool, Bx (b = true ↔ ∀ i, i < n → img M v i = 0) ∧ e = .returned (.tuple #[.bool b, .int .i64 0]) ∧ Bx (Below W.heap.size W w')) fun e w' ⟨h, hb⟩ => by
    rcases h with ⟨_, _, b, h1, h2⟩ | ⟨h, _⟩
    · exact ⟨b, ⟨h1⟩, h2, hb⟩
    · exact absurd ⟨okv.1, okv.2.1⟩ h)
  have HPl := Bx.mk (fun W => tplus_any v u W (fun j hj => by have := okv.2.1 j hj; omega) (fun j hj => by have := oku.2.1 j hj; omega))
  obtain ⟨y, hy⟩ : ∃ y : Nat → Int, (fun j => v j + u j) = y := ⟨_, rfl⟩
  simp only [hy] at HPl HRr
  obtain ⟨zpq, hzpq⟩ := bool_of (∀ j, j < 6 → p j = q j)
  obtain ⟨z0, hz0⟩ := bool_of (∀ j, j < 6 → p j = (fun _ => (0 : Int)) j)
  obtain ⟨zrs, hzrs⟩ := bool_of (∀ j, j < 6 → r j = s j)
  have E1 := eq6_is 65 Try.underlying65 p q zpq hzpq
  have E2 := eq6_is 65 Try.underlying65 p (fun _ => 0) z0 hz0
  have E3 := eq6_is 65 Try.underlying65 r s zrs hzrs
  obtain ⟨bi, hbi⟩ := bool_of ((List.range n).map (img M v) = (List.range n).map (img M u))
  have HBI := Bx.mk hbi
  have F1 := Bx.mk (show bi = true → zpq = true from fun e => hzpq.2 fun j _ => by rw [pp, pq]; exact tu_same (fun i hi => map_range_eq n (hbi.1 e) i hi) j)
  have F2 := Bx.mk (show (∀ i, i < n → img M v i = 0) → z0 = true from fun e => hz0.2 fun j _ => by rw [pp]; exact tu_none e j)
  have F3 := Bx.mk (show (kr == 0) = false ∨ (kr = 0 ∧ ks = 0 ∧ zrs = true) from hrs.imp_right fun ⟨h1, h2, h3⟩ => ⟨h1, h2, hzrs.2 h3⟩)
  unfold PV at HP HQ HRr HMu HIm HTm HPl E1 E2 E3 ⊢
  try simp only [] at E2
  have im := L0.out.l.m.cell
  have iv0 := L0.out.l.v.c0
  have iv1 := L0.out.l.v.c1
  have iv2 := L0.out.l.v.c2
  have iv3 := L0.out.l.v.c3
  have iv4 := L0.out.l.v.c4
  have iv5 := L0.out.l.v.c5
  have iu0 := L0.out.l.u.c0
  have iu1 := L0.out.l.u.c1
  have iu2 := L0.out.l.u.c2
  have iu3 := L0.out.l.u.c3
  have iu4 := L0.out.l.u.c4
  have iu5 := L0.out.l.u.c5
  clear hR hS hT L00 hp hq hr hs okv oku pp pq vp vq hbi hzpq hz0 hzrs hrs hy
  go_enter Try.func16, Try.ntmps16
  go_upto_region 9 with (first
    | (clear M1; go_at_call 46; refine (thead_any _).mono ?_; clear im iv0 iv1 iv2 iv3 iv4 iv5 iu0 iu1 iu2 iu3 iu4 iu5 hW; rintro e w1 ⟨rfl, k1⟩
       have L1 := Bx.mk (L0.out.keep k1)
       have im := L1.out.l.m.cell
       have iv0 := L1.out.l.v.c0
       have iv1 := L1.out.l.v.c1
       have iv2 := L1.out.l.v.c2
       have iv3 := L1.out.l.v.c3
       have iv4 := L1.out.l.v.c4
       have iv5 := L1.out.l.v.c5
       clear k1)
    | (clear M2; go_at_call 59; refine (HP.out w1 L1.out).mono ?_; clear im iv0 iv1 iv2 iv3 iv4 iv5; rintro e w2 ⟨rfl, k2⟩
       have L2 := Bx.mk ((L1.out.keep k2).keep (above_new w2 (.cells #[.int .i64 (p 0), .int .i64 (p 1), .int .i64 (p 2), .int .i64 (p 3), .int .i64 (p 4), .int .i64 (p 5)] 65)))
       have P2 := Bx.mk (VT.new w2 65 p)
       have im := L2.out.l.m.cell
       have iu0 := L2.out.l.u.c0
       have iu1 := L2.out.l.u.c1
       have iu2 := L2.out.l.u.c2
       have iu3 := L2.out.l.u.c3
       have iu4 := L2.out.l.u.c4
       have iu5 := L2.out.l.u.c5
       clear k2)
    | (clear M3; go_at_call 59; refine (HQ.out _ L2.out).mono ?_; clear im iu0 iu1 iu2 iu3 iu4 iu5; rintro e w3 ⟨rfl, k3⟩
       have L3 := Bx.mk ((L2.out.keep k3).keep (above_new w3 (.cells #[.int .i64 (q 0), .int .i64 (q 1), .int .i64 (q 2), .int .i64 (q 3), .int .i64 (q 4), .int .i64 (q 5)] 65)))
       have P3 := Bx.mk ((P2.out.keep (k3.block _ P2.out.lt)).keep ((above_new w3 (.cells #[.int .i64 (q 0), .int .i64 (q 1), .int .i64 (q 2), .int .i64 (q 3), .int .i64 (q 4), .int .i64 (q 5)] 65)).block _ (Nat.lt_of_lt_of_le P2.out.lt k3.size)))
       have Q3 := Bx.mk (VT.new w3 65 q)
       have im := L3.out.l.m.cell
       have iv0 := L3.out.l.v.c0
       have iv1 := L3.out.l.v.c1
       have iv2 := L3.out.l.v.c2
       have iv3 := L3.out.l.v.c3
       have iv4 := L3.out.l.v.c4
       have iv5 := L3.out.l.v.c5
       clear k3)
    | (clear M4; go_at_call 49; refine (HIm.out v _ L3.out OKV.out.2.1).mono ?_; clear im iv0 iv1 iv2 iv3 iv4 iv5; rintro e w4 ⟨ao, ac, rfl, hac, hacm, A4, k4⟩
       have L4 := Bx.mk (L3.out.keep k4.out)
       have P4 := Bx.mk (P3.out.keep (k4.out.block _ P3.out.lt))
       have Q4 := Bx.mk (Q3.out.keep (k4.out.block _ Q3.out.lt))
       have im := L4.out.l.m.cell
       have iu0 := L4.out.l.u.c0
       have iu1 := L4.out.l.u.c1
       have iu2 := L4.out.l.u.c2
       have iu3 := L4.out.l.u.c3
       have iu4 := L4.out.l.u.c4
       have iu5 := L4.out.l.u.c5
       clear k4)
    | (clear M5; go_at_call 49; refine (HIm.out u _ L4.out OKU.out.2.1).mono ?_; clear im iu0 iu1 iu2 iu3 iu4 iu5; rintro e w5 ⟨bo, bc, rfl, hbc, hbcm, B5, k5⟩
       have L5 := Bx.mk (L4.out.keep k5.out)
       have P5 := Bx.mk (P4.out.keep (k5.out.block _ P4.out.lt))
       have Q5 := Bx.mk (Q4.out.keep (k5.out.block _ Q4.out.lt))
       have A5 := Bx.mk (A4.out.keep k5.out)
       have im := L5.out.l.m.cell
       have iv0 := L5.out.l.v.c0
       have iv1 := L5.out.l.v.c1
       have iv2 := L5.out.l.v.c2
       have iv3 := L5.out.l.v.c3
       have iv4 := L5.out.l.v.c4
       have iv5 := L5.out.l.v.c5
       clear k5)
    | (clear M6; go_at_call 52; refine (HTm.out _ L5.out).mono ?_; clear im iv0 iv1 iv2 iv3 iv4 iv5; rintro e w6 ⟨t, ht, rfl, k6⟩
       have L6 := Bx.mk (L5.out.keep k6.out)
       have P6 := Bx.mk (P5.out.keep (k6.out.block _ P5.out.lt))
       have Q6 := Bx.mk (Q5.out.keep (k6.out.block _ Q5.out.lt))
       have A6 := Bx.mk (A5.out.keep k6.out)
       have B6 := Bx.mk (B5.out.keep k6.out)
       clear k6))
  go_cut [101] (fun cnd wx => cnd = .bool false ∧ Bx (Lt w a go ho n gn hn c M G H v u wx) ∧ Bx (VT wx w2.heap.size 65 p) ∧ Bx (VT wx w3.heap.size 65 q))
  case first =>
    go_wp2_with (first
      | (go_at_call 51; refine (ints7_any _ _ _ _ n n _ _ _ (by simp) (by simp) hac hacm hbc hbcm A6.out B6.out bi HBI.out).mono ?_; rintro e w7 ⟨rfl, k7⟩
         have L7 := Bx.mk (L6.out.keep k7)
         have P7 := Bx.mk (P6.out.keep (k7.block _ P6.out.lt))
         have Q7 := Bx.mk (Q6.out.keep (k7.block _ Q6.out.lt))
         have ip0 := P7.out.c0
         have ip1 := P7.out.c1
         have ip2 := P7.out.c2
         have ip3 := P7.out.c3
         have ip4 := P7.out.c4
         have ip5 := P7.out.c5
         have iq0 := Q7.out.c0
         have iq1 := Q7.out.c1
         have iq2 := Q7.out.c2
         have iq3 := Q7.out.c3
         have iq4 := Q7.out.c4
         have iq5 := Q7.out.c5
         have hall : (bi = false ∧ t = false) ∨ (bi = true ∧ zpq = true ∧ t = false) ∨ (bi = false ∧ t = true ∧ z0 = true) ∨ (bi = true ∧ zpq = true ∧ t = true ∧ z0 = true) := by
           rcases Bool.eq_false_or_eq_true bi with h | h <;> rcases Bool.eq_false_or_eq_true t with h' | h'
           · exact .inr (.inr (.inr ⟨h, F1.out h, h', F2.out (ht.out.1 h')⟩))
           · exact .inr (.inl ⟨h, F1.out h, h'⟩)
           · exact .inr (.inr (.inl ⟨h, h', F2.out (ht.out.1 h')⟩))
           · exact .inl ⟨h, h'⟩
         clear k7 HBI F1 F2
         rcases hall with ⟨rfl, rfl⟩ | ⟨rfl, rfl, rfl⟩ | ⟨rfl, rfl, rfl⟩ | ⟨rfl, rfl, rfl, rfl⟩))
    all_goals go_meet
    all_goals exact ⟨rfl, L7, P7, Q7⟩
  case rest =>
    obtain ⟨rfl, LC, PC, QC⟩ := hcut
    go_wp2_with fail
    go_cut [22, 23] (fun rp kk wx => ∃ rb : Nat, rp = .pointer (some ⟨rb, 0, none⟩) ∧ kk = .int .i64 kr ∧ Bx (Lt w a go ho n gn hn c M G H v u wx) ∧ Bx (VT wx w2.heap.size 65 p) ∧ Bx (VT wx w3.heap.size 65 q) ∧ Bx (VT wx rb 65 r))
    case first =>
      have HS1 : wc.drew.cell? ⟨w.heap.size, 0, none⟩ = some (.slice a n c) ∧ wc.drew.cell? ⟨w.heap.size + 1, 0, none⟩ = some (.int .i64 (v 0)) ∧ wc.drew.cell? ⟨w.heap.size + 1, 1, none⟩ = some (.int .i64 (v 1)) ∧ wc.drew.cell? ⟨w.heap.size + 1, 2, none⟩ = some (.int .i64 (v 2)) ∧ wc.drew.cell? ⟨w.heap.size + 1, 3, none⟩ = some (.int .i64 (v 3)) ∧ wc.drew.cell? ⟨w.heap.size + 1, 4, none⟩ = some (.int .i64 (v 4)) ∧ wc.drew.cell? ⟨w.heap.size + 1, 5, none⟩ = some (.int .i64 (v 5)) ∧ wc.drew.cell? ⟨w.heap.size + 1 + 1, 0, none⟩ = some (.int .i64 (u 0)) ∧ wc.drew.cell? ⟨w.heap.size + 1 + 1, 1, none⟩ = some (.int .i64 (u 1)) ∧ wc.drew.cell? ⟨w.heap.size + 1 + 1, 2, none⟩ = some (.int .i64 (u 2)) ∧ wc.drew.cell? ⟨w.heap.size + 1 + 1, 3, none⟩ = some (.int .i64 (u 3)) ∧ wc.drew.cell? ⟨w.heap.size + 1 + 1, 4, none⟩ = some (.int .i64 (u 4)) ∧ wc.drew.cell? ⟨w.heap.size + 1 + 1, 5, none⟩ = some (.int .i64 (u 5)) := LC.out.dr.cells
      have HS0 : (wc.alloc (.cells #[.int .i64 0, .int .i64 0, .int .i64 0, .int .i64 0, .int .i64 0, .int .i64 0] 65)).drew.cell? ⟨w.heap.size, 0, none⟩ = some (.slice a n c) ∧ (wc.alloc (.cells #[.int .i64 0, .int .i64 0, .int .i64 0, .int .i64 0, .int .i64 0, .int .i64 0] 65)).drew.cell? ⟨w.heap.size + 1, 0, none⟩ = some (.int .i64 (v 0)) ∧ (wc.alloc (.cells #[.int .i64 0, .int .i64 0, .int .i64 0, .int .i64 0, .int .i64 0, .int .i64 0] 65)).drew.cell? ⟨w.heap.size + 1, 1, none⟩ = some (.int .i64 (v 1)) ∧ (wc.alloc (.cells #[.int .i64 0, .int .i64 0, .int .i64 0, .int .i64 0, .int .i64 0, .int .i64 0] 65)).drew.cell? ⟨w.heap.size + 1, 2, none⟩ = some (.int .i64 (v 2)) ∧ (wc.alloc (.cells #[.int .i64 0, .int .i64 0, .int .i64 0, .int .i64 0, .int .i64 0, .int .i64 0] 65)).drew.cell? ⟨w.heap.size + 1, 3, none⟩ = some (.int .i64 (v 3)) ∧ (wc.alloc (.cells #[.int .i64 0, .int .i64 0, .int .i64 0, .int .i64 0, .int .i64 0, .int .i64 0] 65)).drew.cell? ⟨w.heap.size + 1, 4, none⟩ = some (.int .i64 (v 4)) ∧ (wc.alloc (.cells #[.int .i64 0, .int .i64 0, .int .i64 0, .int .i64 0, .int .i64 0, .int .i64 0] 65)).drew.cell? ⟨w.heap.size + 1, 5, none⟩ = some (.int .i64 (v 5)) ∧ (wc.alloc (.cells #[.int .i64 0, .int .i64 0, .int .i64 0, .int .i64 0, .int .i64 0, .int .i64 0] 65)).drew.cell? ⟨w.heap.size + 1 + 1, 0, none⟩ = some (.int .i64 (u 0)) ∧ (wc.alloc (.cells #[.int .i64 0, .int .i64 0, .int .i64 0, .int .i64 0, .int .i64 0, .int .i64 0] 65)).drew.cell? ⟨w.heap.size + 1 + 1, 1, none⟩ = some (.int .i64 (u 1)) ∧ (wc.alloc (.cells #[.int .i64 0, .int .i64 0, .int .i64 0, .int .i64 0, .int .i64 0, .int .i64 0] 65)).drew.cell? ⟨w.heap.size + 1 + 1, 2, none⟩ = some (.int .i64 (u 2)) ∧ (wc.alloc (.cells #[.int .i64 0, .int .i64 0, .int .i64 0, .int .i64 0, .int .i64 0, .int .i64 0] 65)).drew.cell? ⟨w.heap.size + 1 + 1, 3, none⟩ = some (.int .i64 (u 3)) ∧ (wc.alloc (.cells #[.int .i64 0, .int .i64 0, .int .i64 0, .int .i64 0, .int .i64 0, .int .i64 0] 65)).drew.cell? ⟨w.heap.size + 1 + 1, 4, none⟩ = some (.int .i64 (u 4)) ∧ (wc.alloc (.cells #[.int .i64 0, .int .i64 0, .int .i64 0, .int .i64 0, .int .i64 0, .int .i64 0] 65)).drew.cell? ⟨w.heap.size + 1 + 1, 5, none⟩ = some (.int .i64 (u 5)) := (LC.out.keep (above_new wc _)).dr.cells
      clear HP HQ HMu HIm HTm E1 E2 E3 F1 F2 F3 OKV OKU HBI ht A4 A5 A6 B5 B6 L0 L1 L2 L3 L4 L5 L6 P2 P3 P4 P5 P6 Q3 Q4 Q5 Q6 hac hacm hbc hbcm hc1 hc2 hgc hgm hhc hhm
      go_region_held3 (fun w' => w'.cell? ⟨w.heap.size, 0, none⟩ = some (.slice a n c) ∧ w'.cell? ⟨w.heap.size + 1, 0, none⟩ = some (.int .i64 (v 0)) ∧ w'.cell? ⟨w.heap.size + 1, 1, none⟩ = some (.int .i64 (v 1)) ∧ w'.cell? ⟨w.heap.size + 1, 2, none⟩ = some (.int .i64 (v 2)) ∧ w'.cell? ⟨w.heap.size + 1, 3, none⟩ = some (.int .i64 (v 3)) ∧ w'.cell? ⟨w.heap.size + 1, 4, none⟩ = some (.int .i64 (v 4)) ∧ w'.cell? ⟨w.heap.size + 1, 5, none⟩ = some (.int .i64 (v 5)) ∧ w'.cell? ⟨w.heap.size + 1 + 1, 0, none⟩ = some (.int .i64 (u 0)) ∧ w'.cell? ⟨w.heap.size + 1 + 1, 1, none⟩ = some (.int .i64 (u 1)) ∧ w'.cell? ⟨w.heap.size + 1 + 1, 2, none⟩ = some (.int .i64 (u 2)) ∧ w'.cell? ⟨w.heap.size + 1 + 1, 3, none⟩ = some (.int .i64 (u 3)) ∧ w'.cell? ⟨w.heap.size + 1 + 1, 4, none⟩ = some (.int .i64 (u 4)) ∧ w'.cell? ⟨w.heap.size + 1 + 1, 5, none⟩ = some (.int .i64 (u 5)))
        (first
          | with_reducible exact HS1
          | with_reducible exact HS2
          | with_reducible exact HS3
          | with_reducible exact HS4
          | with_reducible exact HS0
          | with_reducible exact HS5
          | with_reducible exact HS6
          | with_reducible exact HS7
          | go_keep)
        (first
          | (go_at_call 65; refine (HPl.out _).mono ?_; rintro e w8 ⟨rfl, k8⟩
             first
               | (have k8a : Below wc.drew.heap.size wc.drew w8 := by with_reducible exact k8
                  have K8 : Bx (Below wc.heap.size wc w8) := ⟨(below_drew (Below.refl wc.heap.size wc)).trans k8a⟩)
               | (have k8a : Below (wc.alloc (.cells #[.int .i64 0, .int .i64 0, .int .i64 0, .int .i64 0, .int .i64 0, .int .i64 0] 65)).drew.heap.size (wc.alloc (.cells #[.int .i64 0, .int .i64 0, .int .i64 0, .int .i64 0, .int .i64 0, .int .i64 0] 65)).drew w8 := by with_reducible exact k8
                  have K8 : Bx (Below wc.heap.size wc w8) := ⟨(below_drew (above_new wc (.cells #[.int .i64 0, .int .i64 0, .int .i64 0, .int .i64 0, .int .i64 0, .int .i64 0] 65))).trans (k8a.mono (by simp))⟩
                  have HZ8 : Bx (VT w8 wc.heap.size 65 (fun _ => 0)) := ⟨(VT.new wc 65 (fun _ => 0)).keep (k8a.block _ (VT.new wc 65 (fun _ => 0)).lt)⟩
                  have zc0 := HZ8.out.c0; have zf0 := HZ8.out.f 0; have zc1 := HZ8.out.c1; have zf1 := HZ8.out.f 1; have zc2 := HZ8.out.c2; have zf2 := HZ8.out.f 2; have zc3 := HZ8.out.c3; have zf3 := HZ8.out.f 3; have zc4 := HZ8.out.c4; have zf4 := HZ8.out.f 4; have zc5 := HZ8.out.c5; have zf5 := HZ8.out.f 5)
             have L8 := Bx.mk (LC.out.keep K8.out)
             have HS5 : (w8.alloc (.cells #[.int .i64 0, .int .i64 0, .int .i64 0, .int .i64 0, .int .i64 0, .int .i64 0] 65)).cell? ⟨w.heap.size, 0, none⟩ = some (.slice a n c) ∧ (w8.alloc (.cells #[.int .i64 0, .int .i64 0, .int .i64 0, .int .i64 0, .int .i64 0, .int .i64 0] 65)).cell? ⟨w.heap.size + 1, 0, none⟩ = some (.int .i64 (v 0)) ∧ (w8.alloc (.cells #[.int .i64 0, .int .i64 0, .int .i64 0, .int .i64 0, .int .i64 0, .int .i64 0] 65)).cell? ⟨w.heap.size + 1, 1, none⟩ = some (.int .i64 (v 1)) ∧ (w8.alloc (.cells #[.int .i64 0, .int .i64 0, .int .i64 0, .int .i64 0, .int .i64 0, .int .i64 0] 65)).cell? ⟨w.heap.size + 1, 2, none⟩ = some (.int .i64 (v 2)) ∧ (w8.alloc (.cells #[.int .i64 0, .int .i64 0, .int .i64 0, .int .i64 0, .int .i64 0, .int .i64 0] 65)).cell? ⟨w.heap.size + 1, 3, none⟩ = some (.int .i64 (v 3)) ∧ (w8.alloc (.cells #[.int .i64 0, .int .i64 0, .int .i64 0, .int .i64 0, .int .i64 0, .int .i64 0] 65)).cell? ⟨w.heap.size + 1, 4, none⟩ = some (.int .i64 (v 4)) ∧ (w8.alloc (.cells #[.int .i64 0, .int .i64 0, .int .i64 0, .int .i64 0, .int .i64 0, .int .i64 0] 65)).cell? ⟨w.heap.size + 1, 5, none⟩ = some (.int .i64 (v 5)) ∧ (w8.alloc (.cells #[.int .i64 0, .int .i64 0, .int .i64 0, .int .i64 0, .int .i64 0, .int .i64 0] 65)).cell? ⟨w.heap.size + 1 + 1, 0, none⟩ = some (.int .i64 (u 0)) ∧ (w8.alloc (.cells #[.int .i64 0, .int .i64 0, .int .i64 0, .int .i64 0, .int .i64 0, .int .i64 0] 65)).cell? ⟨w.heap.size + 1 + 1, 1, none⟩ = some (.int .i64 (u 1)) ∧ (w8.alloc (.cells #[.int .i64 0, .int .i64 0, .int .i64 0, .int .i64 0, .int .i64 0, .int .i64 0] 65)).cell? ⟨w.heap.size + 1 + 1, 2, none⟩ = some (.int .i64 (u 2)) ∧ (w8.alloc (.cells #[.int .i64 0, .int .i64 0, .int .i64 0, .int .i64 0, .int .i64 0, .int .i64 0] 65)).cell? ⟨w.heap.size + 1 + 1, 3, none⟩ = some (.int .i64 (u 3)) ∧ (w8.alloc (.cells #[.int .i64 0, .int .i64 0, .int .i64 0, .int .i64 0, .int .i64 0, .int .i64 0] 65)).cell? ⟨w.heap.size + 1 + 1, 4, none⟩ = some (.int .i64 (u 4)) ∧ (w8.alloc (.cells #[.int .i64 0, .int .i64 0, .int .i64 0, .int .i64 0, .int .i64 0, .int .i64 0] 65)).cell? ⟨w.heap.size + 1 + 1, 5, none⟩ = some (.int .i64 (u 5)) := (L8.out.keep (above_new w8 _)).cells
             have HS2 : w8.cell? ⟨w.heap.size, 0, none⟩ = some (.slice a n c) ∧ w8.cell? ⟨w.heap.size + 1, 0, none⟩ = some (.int .i64 (v 0)) ∧ w8.cell? ⟨w.heap.size + 1, 1, none⟩ = some (.int .i64 (v 1)) ∧ w8.cell? ⟨w.heap.size + 1, 2, none⟩ = some (.int .i64 (v 2)) ∧ w8.cell? ⟨w.heap.size + 1, 3, none⟩ = some (.int .i64 (v 3)) ∧ w8.cell? ⟨w.heap.size + 1, 4, none⟩ = some (.int .i64 (v 4)) ∧ w8.cell? ⟨w.heap.size + 1, 5, none⟩ = some (.int .i64 (v 5)) ∧ w8.cell? ⟨w.heap.size + 1 + 1, 0, none⟩ = some (.int .i64 (u 0)) ∧ w8.cell? ⟨w.heap.size + 1 + 1, 1, none⟩ = some (.int .i64 (u 1)) ∧ w8.cell? ⟨w.heap.size + 1 + 1, 2, none⟩ = some (.int .i64 (u 2)) ∧ w8.cell? ⟨w.heap.size + 1 + 1, 3, none⟩ = some (.int .i64 (u 3)) ∧ w8.cell? ⟨w.heap.size + 1 + 1, 4, none⟩ = some (.int .i64 (u 4)) ∧ w8.cell? ⟨w.heap.size + 1 + 1, 5, none⟩ = some (.int .i64 (u 5)) := L8.out.cells)
          | (go_at_call 59; refine (HRr.out _ (by first | with_reducible exact L8.out | with_reducible exact L8.out.keep (above_new w8 (.cells #[.int .i64 0, .int .i64 0, .int .i64 0, .int .i64 0, .int .i64 0, .int .i64 0] 65)))).mono ?_; rintro e w9 ⟨rfl, k9⟩
             first
               | (have k9a : Below w8.heap.size w8 w9 := by with_reducible exact k9
                  have K9 : Bx (Below w8.heap.size w8 w9) := ⟨k9a⟩
                  first
                    | (have HZ9 : Bx (VT w9 wc.heap.size 65 (fun _ => 0)) := ⟨HZ8.out.keep (k9a.block _ HZ8.out.lt)⟩
                       clear zc0 zc1 zc2 zc3 zc4 zc5 zf0 zf1 zf2 zf3 zf4 zf5
                       have BD := (K8.out.trans (k9a.mono K8.out.size)).trans (but_below (but_lit wc.heap.size w9 r) (n := wc.heap.size) (Nat.le_refl _) (Nat.le_trans K8.out.size k9a.size))
                       have LD := Bx.mk (LC.out.keep BD)
                       have HS4 : ((((((w9.setCell ⟨wc.heap.size, 0, none⟩ (.int .i64 (r 0))).setCell ⟨wc.heap.size, 1, none⟩ (.int .i64 (r 1))).setCell ⟨wc.heap.size, 2, none⟩ (.int .i64 (r 2))).setCell ⟨wc.heap.size, 3, none⟩ (.int .i64 (r 3))).setCell ⟨wc.heap.size, 4, none⟩ (.int .i64 (r 4))).setCell ⟨wc.heap.size, 5, none⟩ (.int .i64 (r 5))).cell? ⟨w.heap.size, 0, none⟩ = some (.slice a n c) ∧ ((((((w9.setCell ⟨wc.heap.size, 0, none⟩ (.int .i64 (r 0))).setCell ⟨wc.heap.size, 1, none⟩ (.int .i64 (r 1))).setCell ⟨wc.heap.size, 2, none⟩ (.int .i64 (r 2))).setCell ⟨wc.heap.size, 3, none⟩ (.int .i64 (r 3))).setCell ⟨wc.heap.size, 4, none⟩ (.int .i64 (r 4))).setCell ⟨wc.heap.size, 5, none⟩ (.int .i64 (r 5))).cell? ⟨w.heap.size + 1, 0, none⟩ = some (.int .i64 (v 0)) ∧ ((((((w9.setCell ⟨wc.heap.size, 0, none⟩ (.int .i64 (r 0))).setCell ⟨wc.heap.size, 1, none⟩ (.int .i64 (r 1))).setCell ⟨wc.heap.size, 2, none⟩ (.int .i64 (r 2))).setCell ⟨wc.heap.size, 3, none⟩ (.int .i64 (r 3))).setCell ⟨wc.heap.size, 4, none⟩ (.int .i64 (r 4))).setCell ⟨wc.heap.size, 5, none⟩ (.int .i64 (r 5))).cell? ⟨w.heap.size + 1, 1, none⟩ = some (.int .i64 (v 1)) ∧ ((((((w9.setCell ⟨wc.heap.size, 0, none⟩ (.int .i64 (r 0))).setCell ⟨wc.heap.size, 1, none⟩ (.int .i64 (r 1))).setCell ⟨wc.heap.size, 2, none⟩ (.int .i64 (r 2))).setCell ⟨wc.heap.size, 3, none⟩ (.int .i64 (r 3))).setCell ⟨wc.heap.size, 4, none⟩ (.int .i64 (r 4))).setCell ⟨wc.heap.size, 5, none⟩ (.int .i64 (r 5))).cell? ⟨w.heap.size + 1, 2, none⟩ = some (.int .i64 (v 2)) ∧ ((((((w9.setCell ⟨wc.heap.size, 0, none⟩ (.int .i64 (r 0))).setCell ⟨wc.heap.size, 1, none⟩ (.int .i64 (r 1))).setCell ⟨wc.heap.size, 2, none⟩ (.int .i64 (r 2))).setCell ⟨wc.heap.size, 3, none⟩ (.int .i64 (r 3))).setCell ⟨wc.heap.size, 4, none⟩ (.int .i64 (r 4))).setCell ⟨wc.heap.size, 5, none⟩ (.int .i64 (r 5))).cell? ⟨w.heap.size + 1, 3, none⟩ = some (.int .i64 (v 3)) ∧ ((((((w9.setCell ⟨wc.heap.size, 0, none⟩ (.int .i64 (r 0))).setCell ⟨wc.heap.size, 1, none⟩ (.int .i64 (r 1))).setCell ⟨wc.heap.size, 2, none⟩ (.int .i64 (r 2))).setCell ⟨wc.heap.size, 3, none⟩ (.int .i64 (r 3))).setCell ⟨wc.heap.size, 4, none⟩ (.int .i64 (r 4))).setCell ⟨wc.heap.size, 5, none⟩ (.int .i64 (r 5))).cell? ⟨w.heap.size + 1, 4, none⟩ = some (.int .i64 (v 4)) ∧ ((((((w9.setCell ⟨wc.heap.size, 0, none⟩ (.int .i64 (r 0))).setCell ⟨wc.heap.size, 1, none⟩ (.int .i64 (r 1))).setCell ⟨wc.heap.size, 2, none⟩ (.int .i64 (r 2))).setCell ⟨wc.heap.size, 3, none⟩ (.int .i64 (r 3))).setCell ⟨wc.heap.size, 4, none⟩ (.int .i64 (r 4))).setCell ⟨wc.heap.size, 5, none⟩ (.int .i64 (r 5))).cell? ⟨w.heap.size + 1, 5, none⟩ = some (.int .i64 (v 5)) ∧ ((((((w9.setCell ⟨wc.heap.size, 0, none⟩ (.int .i64 (r 0))).setCell ⟨wc.heap.size, 1, none⟩ (.int .i64 (r 1))).setCell ⟨wc.heap.size, 2, none⟩ (.int .i64 (r 2))).setCell ⟨wc.heap.size, 3, none⟩ (.int .i64 (r 3))).setCell ⟨wc.heap.size, 4, none⟩ (.int .i64 (r 4))).setCell ⟨wc.heap.size, 5, none⟩ (.int .i64 (r 5))).cell? ⟨w.heap.size + 1 + 1, 0, none⟩ = some (.int .i64 (u 0)) ∧ ((((((w9.setCell ⟨wc.heap.size, 0, none⟩ (.int .i64 (r 0))).setCell ⟨wc.heap.size, 1, none⟩ (.int .i64 (r 1))).setCell ⟨wc.heap.size, 2, none⟩ (.int .i64 (r 2))).setCell ⟨wc.heap.size, 3, none⟩ (.int .i64 (r 3))).setCell ⟨wc.heap.size, 4, none⟩ (.int .i64 (r 4))).setCell ⟨wc.heap.size, 5, none⟩ (.int .i64 (r 5))).cell? ⟨w.heap.size + 1 + 1, 1, none⟩ = some (.int .i64 (u 1)) ∧ ((((((w9.setCell ⟨wc.heap.size, 0, none⟩ (.int .i64 (r 0))).setCell ⟨wc.heap.size, 1, none⟩ (.int .i64 (r 1))).setCell ⟨wc.heap.size, 2, none⟩ (.int .i64 (r 2))).setCell ⟨wc.heap.size, 3, none⟩ (.int .i64 (r 3))).setCell ⟨wc.heap.size, 4, none⟩ (.int .i64 (r 4))).setCell ⟨wc.heap.size, 5, none⟩ (.int .i64 (r 5))).cell? ⟨w.heap.size + 1 + 1, 2, none⟩ = some (.int .i64 (u 2)) ∧ ((((((w9.setCell ⟨wc.heap.size, 0, none⟩ (.int .i64 (r 0))).setCell ⟨wc.heap.size, 1, none⟩ (.int .i64 (r 1))).setCell ⟨wc.heap.size, 2, none⟩ (.int .i64 (r 2))).setCell ⟨wc.heap.size, 3, none⟩ (.int .i64 (r 3))).setCell ⟨wc.heap.size, 4, none⟩ (.int .i64 (r 4))).setCell ⟨wc.heap.size, 5, none⟩ (.int .i64 (r 5))).cell? ⟨w.heap.size + 1 + 1, 3, none⟩ = some (.int .i64 (u 3)) ∧ ((((((w9.setCell ⟨wc.heap.size, 0, none⟩ (.int .i64 (r 0))).setCell ⟨wc.heap.size, 1, none⟩ (.int .i64 (r 1))).setCell ⟨wc.heap.size, 2, none⟩ (.int .i64 (r 2))).setCell ⟨wc.heap.size, 3, none⟩ (.int .i64 (r 3))).setCell ⟨wc.heap.size, 4, none⟩ (.int .i64 (r 4))).setCell ⟨wc.heap.size, 5, none⟩ (.int .i64 (r 5))).cell? ⟨w.heap.size + 1 + 1, 4, none⟩ = some (.int .i64 (u 4)) ∧ ((((((w9.setCell ⟨wc.heap.size, 0, none⟩ (.int .i64 (r 0))).setCell ⟨wc.heap.size, 1, none⟩ (.int .i64 (r 1))).setCell ⟨wc.heap.size, 2, none⟩ (.int .i64 (r 2))).setCell ⟨wc.heap.size, 3, none⟩ (.int .i64 (r 3))).setCell ⟨wc.heap.size, 4, none⟩ (.int .i64 (r 4))).setCell ⟨wc.heap.size, 5, none⟩ (.int .i64 (r 5))).cell? ⟨w.heap.size + 1 + 1, 5, none⟩ = some (.int .i64 (u 5)) := LD.out.cells
                       clear BD
                       have zc0 := HZ9.out.c0; have zf0 := HZ9.out.f 0; have zc1 := HZ9.out.c1; have zf1 := HZ9.out.f 1; have zc2 := HZ9.out.c2; have zf2 := HZ9.out.f 2; have zc3 := HZ9.out.c3; have zf3 := HZ9.out.f 3; have zc4 := HZ9.out.c4; have zf4 := HZ9.out.f 4; have zc5 := HZ9.out.c5; have zf5 := HZ9.out.f 5)
                    | skip)
               | (have k9a : Below (w8.alloc (.cells #[.int .i64 0, .int .i64 0, .int .i64 0, .int .i64 0, .int .i64 0, .int .i64 0] 65)).heap.size (w8.alloc (.cells #[.int .i64 0, .int .i64 0, .int .i64 0, .int .i64 0, .int .i64 0, .int .i64 0] 65)) w9 := by with_reducible exact k9
                  have K9 : Bx (Below w8.heap.size w8 w9) := ⟨(above_new w8 _).trans (k9a.mono (by simp))⟩
                  have BD := (K8.out.trans (K9.out.mono K8.out.size)).trans (but_below (but_lit w8.heap.size w9 r) (n := wc.heap.size) K8.out.size (Nat.le_trans K8.out.size K9.out.size))
                  have LD := Bx.mk (LC.out.keep BD)
                  have HS4 : ((((((w9.setCell ⟨w8.heap.size, 0, none⟩ (.int .i64 (r 0))).setCell ⟨w8.heap.size, 1, none⟩ (.int .i64 (r 1))).setCell ⟨w8.heap.size, 2, none⟩ (.int .i64 (r 2))).setCell ⟨w8.heap.size, 3, none⟩ (.int .i64 (r 3))).setCell ⟨w8.heap.size, 4, none⟩ (.int .i64 (r 4))).setCell ⟨w8.heap.size, 5, none⟩ (.int .i64 (r 5))).cell? ⟨w.heap.size, 0, none⟩ = some (.slice a n c) ∧ ((((((w9.setCell ⟨w8.heap.size, 0, none⟩ (.int .i64 (r 0))).setCell ⟨w8.heap.size, 1, none⟩ (.int .i64 (r 1))).setCell ⟨w8.heap.size, 2, none⟩ (.int .i64 (r 2))).setCell ⟨w8.heap.size, 3, none⟩ (.int .i64 (r 3))).setCell ⟨w8.heap.size, 4, none⟩ (.int .i64 (r 4))).setCell ⟨w8.heap.size, 5, none⟩ (.int .i64 (r 5))).cell? ⟨w.heap.size + 1, 0, none⟩ = some (.int .i64 (v 0)) ∧ ((((((w9.setCell ⟨w8.heap.size, 0, none⟩ (.int .i64 (r 0))).setCell ⟨w8.heap.size, 1, none⟩ (.int .i64 (r 1))).setCell ⟨w8.heap.size, 2, none⟩ (.int .i64 (r 2))).setCell ⟨w8.heap.size, 3, none⟩ (.int .i64 (r 3))).setCell ⟨w8.heap.size, 4, none⟩ (.int .i64 (r 4))).setCell ⟨w8.heap.size, 5, none⟩ (.int .i64 (r 5))).cell? ⟨w.heap.size + 1, 1, none⟩ = some (.int .i64 (v 1)) ∧ ((((((w9.setCell ⟨w8.heap.size, 0, none⟩ (.int .i64 (r 0))).setCell ⟨w8.heap.size, 1, none⟩ (.int .i64 (r 1))).setCell ⟨w8.heap.size, 2, none⟩ (.int .i64 (r 2))).setCell ⟨w8.heap.size, 3, none⟩ (.int .i64 (r 3))).setCell ⟨w8.heap.size, 4, none⟩ (.int .i64 (r 4))).setCell ⟨w8.heap.size, 5, none⟩ (.int .i64 (r 5))).cell? ⟨w.heap.size + 1, 2, none⟩ = some (.int .i64 (v 2)) ∧ ((((((w9.setCell ⟨w8.heap.size, 0, none⟩ (.int .i64 (r 0))).setCell ⟨w8.heap.size, 1, none⟩ (.int .i64 (r 1))).setCell ⟨w8.heap.size, 2, none⟩ (.int .i64 (r 2))).setCell ⟨w8.heap.size, 3, none⟩ (.int .i64 (r 3))).setCell ⟨w8.heap.size, 4, none⟩ (.int .i64 (r 4))).setCell ⟨w8.heap.size, 5, none⟩ (.int .i64 (r 5))).cell? ⟨w.heap.size + 1, 3, none⟩ = some (.int .i64 (v 3)) ∧ ((((((w9.setCell ⟨w8.heap.size, 0, none⟩ (.int .i64 (r 0))).setCell ⟨w8.heap.size, 1, none⟩ (.int .i64 (r 1))).setCell ⟨w8.heap.size, 2, none⟩ (.int .i64 (r 2))).setCell ⟨w8.heap.size, 3, none⟩ (.int .i64 (r 3))).setCell ⟨w8.heap.size, 4, none⟩ (.int .i64 (r 4))).setCell ⟨w8.heap.size, 5, none⟩ (.int .i64 (r 5))).cell? ⟨w.heap.size + 1, 4, none⟩ = some (.int .i64 (v 4)) ∧ ((((((w9.setCell ⟨w8.heap.size, 0, none⟩ (.int .i64 (r 0))).setCell ⟨w8.heap.size, 1, none⟩ (.int .i64 (r 1))).setCell ⟨w8.heap.size, 2, none⟩ (.int .i64 (r 2))).setCell ⟨w8.heap.size, 3, none⟩ (.int .i64 (r 3))).setCell ⟨w8.heap.size, 4, none⟩ (.int .i64 (r 4))).setCell ⟨w8.heap.size, 5, none⟩ (.int .i64 (r 5))).cell? ⟨w.heap.size + 1, 5, none⟩ = some (.int .i64 (v 5)) ∧ ((((((w9.setCell ⟨w8.heap.size, 0, none⟩ (.int .i64 (r 0))).setCell ⟨w8.heap.size, 1, none⟩ (.int .i64 (r 1))).setCell ⟨w8.heap.size, 2, none⟩ (.int .i64 (r 2))).setCell ⟨w8.heap.size, 3, none⟩ (.int .i64 (r 3))).setCell ⟨w8.heap.size, 4, none⟩ (.int .i64 (r 4))).setCell ⟨w8.heap.size, 5, none⟩ (.int .i64 (r 5))).cell? ⟨w.heap.size + 1 + 1, 0, none⟩ = some (.int .i64 (u 0)) ∧ ((((((w9.setCell ⟨w8.heap.size, 0, none⟩ (.int .i64 (r 0))).setCell ⟨w8.heap.size, 1, none⟩ (.int .i64 (r 1))).setCell ⟨w8.heap.size, 2, none⟩ (.int .i64 (r 2))).setCell ⟨w8.heap.size, 3, none⟩ (.int .i64 (r 3))).setCell ⟨w8.heap.size, 4, none⟩ (.int .i64 (r 4))).setCell ⟨w8.heap.size, 5, none⟩ (.int .i64 (r 5))).cell? ⟨w.heap.size + 1 + 1, 1, none⟩ = some (.int .i64 (u 1)) ∧ ((((((w9.setCell ⟨w8.heap.size, 0, none⟩ (.int .i64 (r 0))).setCell ⟨w8.heap.size, 1, none⟩ (.int .i64 (r 1))).setCell ⟨w8.heap.size, 2, none⟩ (.int .i64 (r 2))).setCell ⟨w8.heap.size, 3, none⟩ (.int .i64 (r 3))).setCell ⟨w8.heap.size, 4, none⟩ (.int .i64 (r 4))).setCell ⟨w8.heap.size, 5, none⟩ (.int .i64 (r 5))).cell? ⟨w.heap.size + 1 + 1, 2, none⟩ = some (.int .i64 (u 2)) ∧ ((((((w9.setCell ⟨w8.heap.size, 0, none⟩ (.int .i64 (r 0))).setCell ⟨w8.heap.size, 1, none⟩ (.int .i64 (r 1))).setCell ⟨w8.heap.size, 2, none⟩ (.int .i64 (r 2))).setCell ⟨w8.heap.size, 3, none⟩ (.int .i64 (r 3))).setCell ⟨w8.heap.size, 4, none⟩ (.int .i64 (r 4))).setCell ⟨w8.heap.size, 5, none⟩ (.int .i64 (r 5))).cell? ⟨w.heap.size + 1 + 1, 3, none⟩ = some (.int .i64 (u 3)) ∧ ((((((w9.setCell ⟨w8.heap.size, 0, none⟩ (.int .i64 (r 0))).setCell ⟨w8.heap.size, 1, none⟩ (.int .i64 (r 1))).setCell ⟨w8.heap.size, 2, none⟩ (.int .i64 (r 2))).setCell ⟨w8.heap.size, 3, none⟩ (.int .i64 (r 3))).setCell ⟨w8.heap.size, 4, none⟩ (.int .i64 (r 4))).setCell ⟨w8.heap.size, 5, none⟩ (.int .i64 (r 5))).cell? ⟨w.heap.size + 1 + 1, 4, none⟩ = some (.int .i64 (u 4)) ∧ ((((((w9.setCell ⟨w8.heap.size, 0, none⟩ (.int .i64 (r 0))).setCell ⟨w8.heap.size, 1, none⟩ (.int .i64 (r 1))).setCell ⟨w8.heap.size, 2, none⟩ (.int .i64 (r 2))).setCell ⟨w8.heap.size, 3, none⟩ (.int .i64 (r 3))).setCell ⟨w8.heap.size, 4, none⟩ (.int .i64 (r 4))).setCell ⟨w8.heap.size, 5, none⟩ (.int .i64 (r 5))).cell? ⟨w.heap.size + 1 + 1, 5, none⟩ = some (.int .i64 (u 5)) := LD.out.cells
                  clear BD
                  have HY9 : Bx (VT w9 w8.heap.size 65 (fun _ => 0)) := ⟨(VT.new w8 65 (fun _ => 0)).keep (k9a.block _ (VT.new w8 65 (fun _ => 0)).lt)⟩
                  have zc0 := HY9.out.c0; have zf0 := HY9.out.f 0; have zc1 := HY9.out.c1; have zf1 := HY9.out.f 1; have zc2 := HY9.out.c2; have zf2 := HY9.out.f 2; have zc3 := HY9.out.c3; have zf3 := HY9.out.f 3; have zc4 := HY9.out.c4; have zf4 := HY9.out.f 4; have zc5 := HY9.out.c5; have zf5 := HY9.out.f 5)
             have L9 := Bx.mk (L8.out.keep K9.out)
             have HS6 : (w9.alloc (.cells #[.int .i64 0, .int .i64 0, .int .i64 0, .int .i64 0, .int .i64 0, .int .i64 0] 65)).cell? ⟨w.heap.size, 0, none⟩ = some (.slice a n c) ∧ (w9.alloc (.cells #[.int .i64 0, .int .i64 0, .int .i64 0, .int .i64 0, .int .i64 0, .int .i64 0] 65)).cell? ⟨w.heap.size + 1, 0, none⟩ = some (.int .i64 (v 0)) ∧ (w9.alloc (.cells #[.int .i64 0, .int .i64 0, .int .i64 0, .int .i64 0, .int .i64 0, .int .i64 0] 65)).cell? ⟨w.heap.size + 1, 1, none⟩ = some (.int .i64 (v 1)) ∧ (w9.alloc (.cells #[.int .i64 0, .int .i64 0, .int .i64 0, .int .i64 0, .int .i64 0, .int .i64 0] 65)).cell? ⟨w.heap.size + 1, 2, none⟩ = some (.int .i64 (v 2)) ∧ (w9.alloc (.cells #[.int .i64 0, .int .i64 0, .int .i64 0, .int .i64 0, .int .i64 0, .int .i64 0] 65)).cell? ⟨w.heap.size + 1, 3, none⟩ = some (.int .i64 (v 3)) ∧ (w9.alloc (.cells #[.int .i64 0, .int .i64 0, .int .i64 0, .int .i64 0, .int .i64 0, .int .i64 0] 65)).cell? ⟨w.heap.size + 1, 4, none⟩ = some (.int .i64 (v 4)) ∧ (w9.alloc (.cells #[.int .i64 0, .int .i64 0, .int .i64 0, .int .i64 0, .int .i64 0, .int .i64 0] 65)).cell? ⟨w.heap.size + 1, 5, none⟩ = some (.int .i64 (v 5)) ∧ (w9.alloc (.cells #[.int .i64 0, .int .i64 0, .int .i64 0, .int .i64 0, .int .i64 0, .int .i64 0] 65)).cell? ⟨w.heap.size + 1 + 1, 0, none⟩ = some (.int .i64 (u 0)) ∧ (w9.alloc (.cells #[.int .i64 0, .int .i64 0, .int .i64 0, .int .i64 0, .int .i64 0, .int .i64 0] 65)).cell? ⟨w.heap.size + 1 + 1, 1, none⟩ = some (.int .i64 (u 1)) ∧ (w9.alloc (.cells #[.int .i64 0, .int .i64 0, .int .i64 0, .int .i64 0, .int .i64 0, .int .i64 0] 65)).cell? ⟨w.heap.size + 1 + 1, 2, none⟩ = some (.int .i64 (u 2)) ∧ (w9.alloc (.cells #[.int .i64 0, .int .i64 0, .int .i64 0, .int .i64 0, .int .i64 0, .int .i64 0] 65)).cell? ⟨w.heap.size + 1 + 1, 3, none⟩ = some (.int .i64 (u 3)) ∧ (w9.alloc (.cells #[.int .i64 0, .int .i64 0, .int .i64 0, .int .i64 0, .int .i64 0, .int .i64 0] 65)).cell? ⟨w.heap.size + 1 + 1, 4, none⟩ = some (.int .i64 (u 4)) ∧ (w9.alloc (.cells #[.int .i64 0, .int .i64 0, .int .i64 0, .int .i64 0, .int .i64 0, .int .i64 0] 65)).cell? ⟨w.heap.size + 1 + 1, 5, none⟩ = some (.int .i64 (u 5)) := (L9.out.keep (above_new w9 _)).cells
             have HS7 : (w9.alloc (.cells #[.int .i64 (r 0), .int .i64 (r 1), .int .i64 (r 2), .int .i64 (r 3), .int .i64 (r 4), .int .i64 (r 5)] 65)).cell? ⟨w.heap.size, 0, none⟩ = some (.slice a n c) ∧ (w9.alloc (.cells #[.int .i64 (r 0), .int .i64 (r 1), .int .i64 (r 2), .int .i64 (r 3), .int .i64 (r 4), .int .i64 (r 5)] 65)).cell? ⟨w.heap.size + 1, 0, none⟩ = some (.int .i64 (v 0)) ∧ (w9.alloc (.cells #[.int .i64 (r 0), .int .i64 (r 1), .int .i64 (r 2), .int .i64 (r 3), .int .i64 (r 4), .int .i64 (r 5)] 65)).cell? ⟨w.heap.size + 1, 1, none⟩ = some (.int .i64 (v 1)) ∧ (w9.alloc (.cells #[.int .i64 (r 0), .int .i64 (r 1), .int .i64 (r 2), .int .i64 (r 3), .int .i64 (r 4), .int .i64 (r 5)] 65)).cell? ⟨w.heap.size + 1, 2, none⟩ = some (.int .i64 (v 2)) ∧ (w9.alloc (.cells #[.int .i64 (r 0), .int .i64 (r 1), .int .i64 (r 2), .int .i64 (r 3), .int .i64 (r 4), .int .i64 (r 5)] 65)).cell? ⟨w.heap.size + 1, 3, none⟩ = some (.int .i64 (v 3)) ∧ (w9.alloc (.cells #[.int .i64 (r 0), .int .i64 (r 1), .int .i64 (r 2), .int .i64 (r 3), .int .i64 (r 4), .int .i64 (r 5)] 65)).cell? ⟨w.heap.size + 1, 4, none⟩ = some (.int .i64 (v 4)) ∧ (w9.alloc (.cells #[.int .i64 (r 0), .int .i64 (r 1), .int .i64 (r 2), .int .i64 (r 3), .int .i64 (r 4), .int .i64 (r 5)] 65)).cell? ⟨w.heap.size + 1, 5, none⟩ = some (.int .i64 (v 5)) ∧ (w9.alloc (.cells #[.int .i64 (r 0), .int .i64 (r 1), .int .i64 (r 2), .int .i64 (r 3), .int .i64 (r 4), .int .i64 (r 5)] 65)).cell? ⟨w.heap.size + 1 + 1, 0, none⟩ = some (.int .i64 (u 0)) ∧ (w9.alloc (.cells #[.int .i64 (r 0), .int .i64 (r 1), .int .i64 (r 2), .int .i64 (r 3), .int .i64 (r 4), .int .i64 (r 5)] 65)).cell? ⟨w.heap.size + 1 + 1, 1, none⟩ = some (.int .i64 (u 1)) ∧ (w9.alloc (.cells #[.int .i64 (r 0), .int .i64 (r 1), .int .i64 (r 2), .int .i64 (r 3), .int .i64 (r 4), .int .i64 (r 5)] 65)).cell? ⟨w.heap.size + 1 + 1, 2, none⟩ = some (.int .i64 (u 2)) ∧ (w9.alloc (.cells #[.int .i64 (r 0), .int .i64 (r 1), .int .i64 (r 2), .int .i64 (r 3), .int .i64 (r 4), .int .i64 (r 5)] 65)).cell? ⟨w.heap.size + 1 + 1, 3, none⟩ = some (.int .i64 (u 3)) ∧ (w9.alloc (.cells #[.int .i64 (r 0), .int .i64 (r 1), .int .i64 (r 2), .int .i64 (r 3), .int .i64 (r 4), .int .i64 (r 5)] 65)).cell? ⟨w.heap.size + 1 + 1, 4, none⟩ = some (.int .i64 (u 4)) ∧ (w9.alloc (.cells #[.int .i64 (r 0), .int .i64 (r 1), .int .i64 (r 2), .int .i64 (r 3), .int .i64 (r 4), .int .i64 (r 5)] 65)).cell? ⟨w.heap.size + 1 + 1, 5, none⟩ = some (.int .i64 (u 5)) := (L9.out.keep (above_new w9 _)).cells
             have HS3 : w9.cell? ⟨w.heap.size, 0, none⟩ = some (.slice a n c) ∧ w9.cell? ⟨w.heap.size + 1, 0, none⟩ = some (.int .i64 (v 0)) ∧ w9.cell? ⟨w.heap.size + 1, 1, none⟩ = some (.int .i64 (v 1)) ∧ w9.cell? ⟨w.heap.size + 1, 2, none⟩ = some (.int .i64 (v 2)) ∧ w9.cell? ⟨w.heap.size + 1, 3, none⟩ = some (.int .i64 (v 3)) ∧ w9.cell? ⟨w.heap.size + 1, 4, none⟩ = some (.int .i64 (v 4)) ∧ w9.cell? ⟨w.heap.size + 1, 5, none⟩ = some (.int .i64 (v 5)) ∧ w9.cell? ⟨w.heap.size + 1 + 1, 0, none⟩ = some (.int .i64 (u 0)) ∧ w9.cell? ⟨w.heap.size + 1 + 1, 1, none⟩ = some (.int .i64 (u 1)) ∧ w9.cell? ⟨w.heap.size + 1 + 1, 2, none⟩ = some (.int .i64 (u 2)) ∧ w9.cell? ⟨w.heap.size + 1 + 1, 3, none⟩ = some (.int .i64 (u 3)) ∧ w9.cell? ⟨w.heap.size + 1 + 1, 4, none⟩ = some (.int .i64 (u 4)) ∧ w9.cell? ⟨w.heap.size + 1 + 1, 5, none⟩ = some (.int .i64 (u 5)) := L9.out.cells))
      all_goals go_wp2_with fail
      all_goals go_meet
      · exact leaf LC.out PC.out QC.out ((K8.out.trans (K9.out.mono K8.out.size)).trans ((above_new w9 _).mono (Nat.le_trans K8.out.size K9.out.size))) (VT.new w9 65 r)
      · exact leaf LC.out PC.out QC.out ((K8.out.trans (K9.out.mono K8.out.size)).trans (but_below (but_lit w8.heap.size w9 r) (n := wc.heap.size) K8.out.size (Nat.le_trans K8.out.size K9.out.size))) (HY9.out.lit r)
      · exact leaf LC.out PC.out QC.out ((K8.out.trans (K9.out.mono K8.out.size)).trans (but_below (but_lit wc.heap.size w9 r) (n := wc.heap.size) (Nat.le_refl _) (Nat.le_trans K8.out.size K9.out.size))) (HZ9.out.lit r)
    case rest =>
      obtain ⟨rb, rfl, rfl, LD, PD, QD, RD⟩ := hcut
      have ip0 := PD.out.c0
      have ip1 := PD.out.c1
      have ip2 := PD.out.c2
      have ip3 := PD.out.c3
      have ip4 := PD.out.c4
      have ip5 := PD.out.c5
      have iq0 := QD.out.c0
      have iq1 := QD.out.c1
      have iq2 := QD.out.c2
      have iq3 := QD.out.c3
      have iq4 := QD.out.c4
      have iq5 := QD.out.c5
      go_upto_region 13 with (first
        | (clear M9; go_at_call 67; refine (HMu.out _).mono ?_; clear ip0 ip1 ip2 ip3 ip4 ip5 iq0 iq1 iq2 iq3 iq4 iq5; rintro e w10 ⟨rfl, k10⟩
           have A10 := above_new w10 (.cells #[.int .i64 (s 0), .int .i64 (s 1), .int .i64 (s 2), .int .i64 (s 3), .int .i64 (s 4), .int .i64 (s 5)] 65)
           have HW10 := Bx.mk (LD.out.keep k10).l.b.size
           have L10 := Bx.mk ((LD.out.keep k10).keep A10)
           have P10 := Bx.mk ((PD.out.keep (k10.block _ PD.out.lt)).keep (A10.block _ (Nat.lt_of_lt_of_le PD.out.lt k10.size)))
           have R10 := Bx.mk ((RD.out.keep (k10.block _ RD.out.lt)).keep (A10.block _ (Nat.lt_of_lt_of_le RD.out.lt k10.size)))
           have S10 := Bx.mk (VT.new w10 65 s)
           have ir0 := R10.out.c0
           have ir1 := R10.out.c1
           have ir2 := R10.out.c2
           have ir3 := R10.out.c3
           have ir4 := R10.out.c4
           have ir5 := R10.out.c5
           have is0 := S10.out.c0
           have is1 := S10.out.c1
           have is2 := S10.out.c2
           have is3 := S10.out.c3
           have is4 := S10.out.c4
           have is5 := S10.out.c5
           clear k10 A10))
      go_cut [127] (fun cnd wx => cnd = .bool false ∧ Bx (Lt w a go ho n gn hn c M G H v u wx) ∧ Bx (VT wx w2.heap.size 65 p) ∧ Bx (VT wx w10.heap.size 65 s))
      case first =>
        rcases F3.out with hk | ⟨rfl, rfl, rfl⟩
        all_goals go_wp2_with fail
        all_goals go_meet
        all_goals exact ⟨rfl, L10, P10, S10⟩
      case rest =>
        obtain ⟨rfl, LE, PE, SE⟩ := hcut
        by_cases hne : hn = gn
        · subst hne
          have hh3 : hn ≤ 3 := by have h1 : hn = n := OKV.out.2.2.1; have h2 := OKV.out.1.three; omega
          obtain ⟨tj, htj, htj2⟩ := Option.map_eq_some_iff.1 info_pitch2
          simp only [Prod.mk.injEq] at htj2
          obtain ⟨hy0, hy1, hy2⟩ := htj2
          have HTJ := Bx.mk htj
          clear htj
          obtain ⟨wa, hwa⟩ : ∃ wa, wa = wc := ⟨_, rfl⟩
          subst hwa
          have HO0 := Bx.mk (own_start (w := wa) (G := fun i j => G i j + H i j) rfl)
          have BA0 := Bx.mk (above_new wa (.cells #[] 65))
          clear HP HQ HRr HIm HTm HPl E1 E2 F1 F2 F3 HBI ht A4 A5 A6 B5 B6 L0 L1 L2 L3 L4 L5 L6 P2 P3 P4 P5 P6 Q3 Q4 Q5 Q6 hac hacm hbc hbcm LD PD QD RD L10 P10 R10 S10 LC PC QC
          go_wp2_with fail
          go_loopw [26, 27] (fun sl ix wr => ∃ i : Nat, i ≤ hn ∧ ix = .int .i64 i ∧ Bx (wr.ownsRow wa.heap.size 65 6 sl i (rowsL (fun i j => G i j + H i j) i)) ∧ Bx (Below wa.heap.size wa wr)) (fun _ ix _ => hn - (intOf ix).toNat)
          case atStart => exact ⟨0, by omega, rfl, HO0, BA0⟩
          case round =>
            obtain ⟨i, hi, rfl, HO, IB⟩ := hrel
            by_cases hlt : i < hn
            · obtain ⟨bg, og, rfl, hbg, hcg⟩ := LE.out.l.S (by omega)
              obtain ⟨bh, oh, rfl, hbh, hch⟩ := LE.out.T (by omega)
              have hlt' : (i : Int) < hn := by omega
              have hltg : (i : Int) < gc := by omega
              have hlth : (i : Int) < hc := by omega
              have HCG := Bx.mk hcg
              have HCH := Bx.mk hch
              obtain ⟨z, kz, hz, hzr⟩ := mul_det (G i) (H i)
              have HMz := Bx.mk hz
              have HZR := Bx.mk hzr
              unfold PV at HMz
              obtain ⟨f0, f1, f2, f3, f4, f5⟩ := row_six hcg hbg IB.out hlt
              obtain ⟨g0, g1, g2, g3, g4, g5⟩ := row_six hch hbh IB.out hlt
              clear hcg hch hz hzr
              go_wp2_with fail
              go_cut [28, 29] (fun rp kk wx => ∃ rb : Nat, rp = .pointer (some ⟨rb, 0, none⟩) ∧ kk = .int .i64 kz ∧ Bx (Below wr.heap.size wr wx) ∧ Bx (VT wx rb 65 z))
              case first =>
                have HS1 : wr.drew.cell? ⟨bg, og + i * 6, none⟩ = some (.int .i64 (G i 0)) ∧ wr.drew.cell? ⟨bg, og + i * 6 + 1, none⟩ = some (.int .i64 (G i 1)) ∧ wr.drew.cell? ⟨bg, og + i * 6 + 2, none⟩ = some (.int .i64 (G i 2)) ∧ wr.drew.cell? ⟨bg, og + i * 6 + 3, none⟩ = some (.int .i64 (G i 3)) ∧ wr.drew.cell? ⟨bg, og + i * 6 + 4, none⟩ = some (.int .i64 (G i 4)) ∧ wr.drew.cell? ⟨bg, og + i * 6 + 5, none⟩ = some (.int .i64 (G i 5)) ∧ wr.drew.cell? ⟨bh, oh + i * 6, none⟩ = some (.int .i64 (H i 0)) ∧ wr.drew.cell? ⟨bh, oh + i * 6 + 1, none⟩ = some (.int .i64 (H i 1)) ∧ wr.drew.cell? ⟨bh, oh + i * 6 + 2, none⟩ = some (.int .i64 (H i 2)) ∧ wr.drew.cell? ⟨bh, oh + i * 6 + 3, none⟩ = some (.int .i64 (H i 3)) ∧ wr.drew.cell? ⟨bh, oh + i * 6 + 4, none⟩ = some (.int .i64 (H i 4)) ∧ wr.drew.cell? ⟨bh, oh + i * 6 + 5, none⟩ = some (.int .i64 (H i 5)) := rs12 HCG.out hbg HCH.out hbh (below_drew IB.out) hlt hlt
                have HS0 : (wr.alloc (.cells #[.int .i64 0, .int .i64 0, .int .i64 0, .int .i64 0, .int .i64 0, .int .i64 0] 65)).drew.cell? ⟨bg, og + i * 6, none⟩ = some (.int .i64 (G i 0)) ∧ (wr.alloc (.cells #[.int .i64 0, .int .i64 0, .int .i64 0, .int .i64 0, .int .i64 0, .int .i64 0] 65)).drew.cell? ⟨bg, og + i * 6 + 1, none⟩ = some (.int .i64 (G i 1)) ∧ (wr.alloc (.cells #[.int .i64 0, .int .i64 0, .int .i64 0, .int .i64 0, .int .i64 0, .int .i64 0] 65)).drew.cell? ⟨bg, og + i * 6 + 2, none⟩ = some (.int .i64 (G i 2)) ∧ (wr.alloc (.cells #[.int .i64 0, .int .i64 0, .int .i64 0, .int .i64 0, .int .i64 0, .int .i64 0] 65)).drew.cell? ⟨bg, og + i * 6 + 3, none⟩ = some (.int .i64 (G i 3)) ∧ (wr.alloc (.cells #[.int .i64 0, .int .i64 0, .int .i64 0, .int .i64 0, .int .i64 0, .int .i64 0] 65)).drew.cell? ⟨bg, og + i * 6 + 4, none⟩ = some (.int .i64 (G i 4)) ∧ (wr.alloc (.cells #[.int .i64 0, .int .i64 0, .int .i64 0, .int .i64 0, .int .i64 0, .int .i64 0] 65)).drew.cell? ⟨bg, og + i * 6 + 5, none⟩ = some (.int .i64 (G i 5)) ∧ (wr.alloc (.cells #[.int .i64 0, .int .i64 0, .int .i64 0, .int .i64 0, .int .i64 0, .int .i64 0] 65)).drew.cell? ⟨bh, oh + i * 6, none⟩ = some (.int .i64 (H i 0)) ∧ (wr.alloc (.cells #[.int .i64 0, .int .i64 0, .int .i64 0, .int .i64 0, .int .i64 0, .int .i64 0] 65)).drew.cell? ⟨bh, oh + i * 6 + 1, none⟩ = some (.int .i64 (H i 1)) ∧ (wr.alloc (.cells #[.int .i64 0, .int .i64 0, .int .i64 0, .int .i64 0, .int .i64 0, .int .i64 0] 65)).drew.cell? ⟨bh, oh + i * 6 + 2, none⟩ = some (.int .i64 (H i 2)) ∧ (wr.alloc (.cells #[.int .i64 0, .int .i64 0, .int .i64 0, .int .i64 0, .int .i64 0, .int .i64 0] 65)).drew.cell? ⟨bh, oh + i * 6 + 3, none⟩ = some (.int .i64 (H i 3)) ∧ (wr.alloc (.cells #[.int .i64 0, .int .i64 0, .int .i64 0, .int .i64 0, .int .i64 0, .int .i64 0] 65)).drew.cell? ⟨bh, oh + i * 6 + 4, none⟩ = some (.int .i64 (H i 4)) ∧ (wr.alloc (.cells #[.int .i64 0, .int .i64 0, .int .i64 0, .int .i64 0, .int .i64 0, .int .i64 0] 65)).drew.cell? ⟨bh, oh + i * 6 + 5, none⟩ = some (.int .i64 (H i 5)) := rs12 HCG.out hbg HCH.out hbh (below_drew (IB.out.trans ((above_new wr (.cells #[.int .i64 0, .int .i64 0, .int .i64 0, .int .i64 0, .int .i64 0, .int .i64 0] 65)).mono IB.out.size))) hlt hlt
                go_region_held3 (fun w' => w'.cell? ⟨bg, og + i * 6, none⟩ = some (.int .i64 (G i 0)) ∧ w'.cell? ⟨bg, og + i * 6 + 1, none⟩ = some (.int .i64 (G i 1)) ∧ w'.cell? ⟨bg, og + i * 6 + 2, none⟩ = some (.int .i64 (G i 2)) ∧ w'.cell? ⟨bg, og + i * 6 + 3, none⟩ = some (.int .i64 (G i 3)) ∧ w'.cell? ⟨bg, og + i * 6 + 4, none⟩ = some (.int .i64 (G i 4)) ∧ w'.cell? ⟨bg, og + i * 6 + 5, none⟩ = some (.int .i64 (G i 5)) ∧ w'.cell? ⟨bh, oh + i * 6, none⟩ = some (.int .i64 (H i 0)) ∧ w'.cell? ⟨bh, oh + i * 6 + 1, none⟩ = some (.int .i64 (H i 1)) ∧ w'.cell? ⟨bh, oh + i * 6 + 2, none⟩ = some (.int .i64 (H i 2)) ∧ w'.cell? ⟨bh, oh + i * 6 + 3, none⟩ = some (.int .i64 (H i 3)) ∧ w'.cell? ⟨bh, oh + i * 6 + 4, none⟩ = some (.int .i64 (H i 4)) ∧ w'.cell? ⟨bh, oh + i * 6 + 5, none⟩ = some (.int .i64 (H i 5)))
                  (first
                    | with_reducible exact HS1
                    | with_reducible exact HS0
                    | with_reducible exact HS2
                    | with_reducible exact HS4
                    | with_reducible exact HS5
                    | with_reducible exact HS7
                    | go_keep)
                  (first
                    | (go_at_call 67; refine (HMz.out _).mono ?_; rintro e w6 ⟨rfl, k6⟩
                       first
                         | (have k6a : Below wr.drew.heap.size wr.drew w6 := by with_reducible exact k6
                            have K6 : Bx (Below wr.heap.size wr w6) := ⟨(below_drew (Below.refl wr.heap.size wr)).trans k6a⟩)
                         | (have k6a : Below (wr.alloc (.cells #[.int .i64 0, .int .i64 0, .int .i64 0, .int .i64 0, .int .i64 0, .int .i64 0] 65)).drew.heap.size (wr.alloc (.cells #[.int .i64 0, .int .i64 0, .int .i64 0, .int .i64 0, .int .i64 0, .int .i64 0] 65)).drew w6 := by with_reducible exact k6
                            have K6 : Bx (Below wr.heap.size wr w6) := ⟨(below_drew (above_new wr (.cells #[.int .i64 0, .int .i64 0, .int .i64 0, .int .i64 0, .int .i64 0, .int .i64 0] 65))).trans (k6a.mono (by simp))⟩
                            have HZ6 : Bx (VT w6 wr.heap.size 65 (fun _ => 0)) := ⟨(VT.new wr 65 (fun _ => 0)).keep (k6a.block _ (VT.new wr 65 (fun _ => 0)).lt)⟩
                            have HS4 : ((((((w6.setCell ⟨wr.heap.size, 0, none⟩ (.int .i64 (z 0))).setCell ⟨wr.heap.size, 1, none⟩ (.int .i64 (z 1))).setCell ⟨wr.heap.size, 2, none⟩ (.int .i64 (z 2))).setCell ⟨wr.heap.size, 3, none⟩ (.int .i64 (z 3))).setCell ⟨wr.heap.size, 4, none⟩ (.int .i64 (z 4))).setCell ⟨wr.heap.size, 5, none⟩ (.int .i64 (z 5))).cell? ⟨bg, og + i * 6, none⟩ = some (.int .i64 (G i 0)) ∧ ((((((w6.setCell ⟨wr.heap.size, 0, none⟩ (.int .i64 (z 0))).setCell ⟨wr.heap.size, 1, none⟩ (.int .i64 (z 1))).setCell ⟨wr.heap.size, 2, none⟩ (.int .i64 (z 2))).setCell ⟨wr.heap.size, 3, none⟩ (.int .i64 (z 3))).setCell ⟨wr.heap.size, 4, none⟩ (.int .i64 (z 4))).setCell ⟨wr.heap.size, 5, none⟩ (.int .i64 (z 5))).cell? ⟨bg, og + i * 6 + 1, none⟩ = some (.int .i64 (G i 1)) ∧ ((((((w6.setCell ⟨wr.heap.size, 0, none⟩ (.int .i64 (z 0))).setCell ⟨wr.heap.size, 1, none⟩ (.int .i64 (z 1))).setCell ⟨wr.heap.size, 2, none⟩ (.int .i64 (z 2))).setCell ⟨wr.heap.size, 3, none⟩ (.int .i64 (z 3))).setCell ⟨wr.heap.size, 4, none⟩ (.int .i64 (z 4))).setCell ⟨wr.heap.size, 5, none⟩ (.int .i64 (z 5))).cell? ⟨bg, og + i * 6 + 2, none⟩ = some (.int .i64 (G i 2)) ∧ ((((((w6.setCell ⟨wr.heap.size, 0, none⟩ (.int .i64 (z 0))).setCell ⟨wr.heap.size, 1, none⟩ (.int .i64 (z 1))).setCell ⟨wr.heap.size, 2, none⟩ (.int .i64 (z 2))).setCell ⟨wr.heap.size, 3, none⟩ (.int .i64 (z 3))).setCell ⟨wr.heap.size, 4, none⟩ (.int .i64 (z 4))).setCell ⟨wr.heap.size, 5, none⟩ (.int .i64 (z 5))).cell? ⟨bg, og + i * 6 + 3, none⟩ = some (.int .i64 (G i 3)) ∧ ((((((w6.setCell ⟨wr.heap.size, 0, none⟩ (.int .i64 (z 0))).setCell ⟨wr.heap.size, 1, none⟩ (.int .i64 (z 1))).setCell ⟨wr.heap.size, 2, none⟩ (.int .i64 (z 2))).setCell ⟨wr.heap.size, 3, none⟩ (.int .i64 (z 3))).setCell ⟨wr.heap.size, 4, none⟩ (.int .i64 (z 4))).setCell ⟨wr.heap.size, 5, none⟩ (.int .i64 (z 5))).cell? ⟨bg, og + i * 6 + 4, none⟩ = some (.int .i64 (G i 4)) ∧ ((((((w6.setCell ⟨wr.heap.size, 0, none⟩ (.int .i64 (z 0))).setCell ⟨wr.heap.size, 1, none⟩ (.int .i64 (z 1))).setCell ⟨wr.heap.size, 2, none⟩ (.int .i64 (z 2))).setCell ⟨wr.heap.size, 3, none⟩ (.int .i64 (z 3))).setCell ⟨wr.heap.size, 4, none⟩ (.int .i64 (z 4))).setCell ⟨wr.heap.size, 5, none⟩ (.int .i64 (z 5))).cell? ⟨bg, og + i * 6 + 5, none⟩ = some (.int .i64 (G i 5)) ∧ ((((((w6.setCell ⟨wr.heap.size, 0, none⟩ (.int .i64 (z 0))).setCell ⟨wr.heap.size, 1, none⟩ (.int .i64 (z 1))).setCell ⟨wr.heap.size, 2, none⟩ (.int .i64 (z 2))).setCell ⟨wr.heap.size, 3, none⟩ (.int .i64 (z 3))).setCell ⟨wr.heap.size, 4, none⟩ (.int .i64 (z 4))).setCell ⟨wr.heap.size, 5, none⟩ (.int .i64 (z 5))).cell? ⟨bh, oh + i * 6, none⟩ = some (.int .i64 (H i 0)) ∧ ((((((w6.setCell ⟨wr.heap.size, 0, none⟩ (.int .i64 (z 0))).setCell ⟨wr.heap.size, 1, none⟩ (.int .i64 (z 1))).setCell ⟨wr.heap.size, 2, none⟩ (.int .i64 (z 2))).setCell ⟨wr.heap.size, 3, none⟩ (.int .i64 (z 3))).setCell ⟨wr.heap.size, 4, none⟩ (.int .i64 (z 4))).setCell ⟨wr.heap.size, 5, none⟩ (.int .i64 (z 5))).cell? ⟨bh, oh + i * 6 + 1, none⟩ = some (.int .i64 (H i 1)) ∧ ((((((w6.setCell ⟨wr.heap.size, 0, none⟩ (.int .i64 (z 0))).setCell ⟨wr.heap.size, 1, none⟩ (.int .i64 (z 1))).setCell ⟨wr.heap.size, 2, none⟩ (.int .i64 (z 2))).setCell ⟨wr.heap.size, 3, none⟩ (.int .i64 (z 3))).setCell ⟨wr.heap.size, 4, none⟩ (.int .i64 (z 4))).setCell ⟨wr.heap.size, 5, none⟩ (.int .i64 (z 5))).cell? ⟨bh, oh + i * 6 + 2, none⟩ = some (.int .i64 (H i 2)) ∧ ((((((w6.setCell ⟨wr.heap.size, 0, none⟩ (.int .i64 (z 0))).setCell ⟨wr.heap.size, 1, none⟩ (.int .i64 (z 1))).setCell ⟨wr.heap.size, 2, none⟩ (.int .i64 (z 2))).setCell ⟨wr.heap.size, 3, none⟩ (.int .i64 (z 3))).setCell ⟨wr.heap.size, 4, none⟩ (.int .i64 (z 4))).setCell ⟨wr.heap.size, 5, none⟩ (.int .i64 (z 5))).cell? ⟨bh, oh + i * 6 + 3, none⟩ = some (.int .i64 (H i 3)) ∧ ((((((w6.setCell ⟨wr.heap.size, 0, none⟩ (.int .i64 (z 0))).setCell ⟨wr.heap.size, 1, none⟩ (.int .i64 (z 1))).setCell ⟨wr.heap.size, 2, none⟩ (.int .i64 (z 2))).setCell ⟨wr.heap.size, 3, none⟩ (.int .i64 (z 3))).setCell ⟨wr.heap.size, 4, none⟩ (.int .i64 (z 4))).setCell ⟨wr.heap.size, 5, none⟩ (.int .i64 (z 5))).cell? ⟨bh, oh + i * 6 + 4, none⟩ = some (.int .i64 (H i 4)) ∧ ((((((w6.setCell ⟨wr.heap.size, 0, none⟩ (.int .i64 (z 0))).setCell ⟨wr.heap.size, 1, none⟩ (.int .i64 (z 1))).setCell ⟨wr.heap.size, 2, none⟩ (.int .i64 (z 2))).setCell ⟨wr.heap.size, 3, none⟩ (.int .i64 (z 3))).setCell ⟨wr.heap.size, 4, none⟩ (.int .i64 (z 4))).setCell ⟨wr.heap.size, 5, none⟩ (.int .i64 (z 5))).cell? ⟨bh, oh + i * 6 + 5, none⟩ = some (.int .i64 (H i 5)) := rs12 HCG.out hbg HCH.out hbh ((IB.out.trans (K6.out.mono IB.out.size)).trans ((but_below (but_lit wr.heap.size w6 z) (n := wa.heap.size) IB.out.size (Nat.le_trans IB.out.size K6.out.size)))) hlt hlt
                            have zc0 := HZ6.out.c0; have zf0 := HZ6.out.f 0; have zc1 := HZ6.out.c1; have zf1 := HZ6.out.f 1; have zc2 := HZ6.out.c2; have zf2 := HZ6.out.f 2; have zc3 := HZ6.out.c3; have zf3 := HZ6.out.f 3; have zc4 := HZ6.out.c4; have zf4 := HZ6.out.f 4; have zc5 := HZ6.out.c5; have zf5 := HZ6.out.f 5)
                       have J6 := IB.out.trans (K6.out.mono IB.out.size)
                       have HS2 : w6.cell? ⟨bg, og + i * 6, none⟩ = some (.int .i64 (G i 0)) ∧ w6.cell? ⟨bg, og + i * 6 + 1, none⟩ = some (.int .i64 (G i 1)) ∧ w6.cell? ⟨bg, og + i * 6 + 2, none⟩ = some (.int .i64 (G i 2)) ∧ w6.cell? ⟨bg, og + i * 6 + 3, none⟩ = some (.int .i64 (G i 3)) ∧ w6.cell? ⟨bg, og + i * 6 + 4, none⟩ = some (.int .i64 (G i 4)) ∧ w6.cell? ⟨bg, og + i * 6 + 5, none⟩ = some (.int .i64 (G i 5)) ∧ w6.cell? ⟨bh, oh + i * 6, none⟩ = some (.int .i64 (H i 0)) ∧ w6.cell? ⟨bh, oh + i * 6 + 1, none⟩ = some (.int .i64 (H i 1)) ∧ w6.cell? ⟨bh, oh + i * 6 + 2, none⟩ = some (.int .i64 (H i 2)) ∧ w6.cell? ⟨bh, oh + i * 6 + 3, none⟩ = some (.int .i64 (H i 3)) ∧ w6.cell? ⟨bh, oh + i * 6 + 4, none⟩ = some (.int .i64 (H i 4)) ∧ w6.cell? ⟨bh, oh + i * 6 + 5, none⟩ = some (.int .i64 (H i 5)) := rs12 HCG.out hbg HCH.out hbh J6 hlt hlt
                       have HS5 : (w6.alloc (.cells #[.int .i64 0, .int .i64 0, .int .i64 0, .int .i64 0, .int .i64 0, .int .i64 0] 65)).cell? ⟨bg, og + i * 6, none⟩ = some (.int .i64 (G i 0)) ∧ (w6.alloc (.cells #[.int .i64 0, .int .i64 0, .int .i64 0, .int .i64 0, .int .i64 0, .int .i64 0] 65)).cell? ⟨bg, og + i * 6 + 1, none⟩ = some (.int .i64 (G i 1)) ∧ (w6.alloc (.cells #[.int .i64 0, .int .i64 0, .int .i64 0, .int .i64 0, .int .i64 0, .int .i64 0] 65)).cell? ⟨bg, og + i * 6 + 2, none⟩ = some (.int .i64 (G i 2)) ∧ (w6.alloc (.cells #[.int .i64 0, .int .i64 0, .int .i64 0, .int .i64 0, .int .i64 0, .int .i64 0] 65)).cell? ⟨bg, og + i * 6 + 3, none⟩ = some (.int .i64 (G i 3)) ∧ (w6.alloc (.cells #[.int .i64 0, .int .i64 0, .int .i64 0, .int .i64 0, .int .i64 0, .int .i64 0] 65)).cell? ⟨bg, og + i * 6 + 4, none⟩ = some (.int .i64 (G i 4)) ∧ (w6.alloc (.cells #[.int .i64 0, .int .i64 0, .int .i64 0, .int .i64 0, .int .i64 0, .int .i64 0] 65)).cell? ⟨bg, og + i * 6 + 5, none⟩ = some (.int .i64 (G i 5)) ∧ (w6.alloc (.cells #[.int .i64 0, .int .i64 0, .int .i64 0, .int .i64 0, .int .i64 0, .int .i64 0] 65)).cell? ⟨bh, oh + i * 6, none⟩ = some (.int .i64 (H i 0)) ∧ (w6.alloc (.cells #[.int .i64 0, .int .i64 0, .int .i64 0, .int .i64 0, .int .i64 0, .int .i64 0] 65)).cell? ⟨bh, oh + i * 6 + 1, none⟩ = some (.int .i64 (H i 1)) ∧ (w6.alloc (.cells #[.int .i64 0, .int .i64 0, .int .i64 0, .int .i64 0, .int .i64 0, .int .i64 0] 65)).cell? ⟨bh, oh + i * 6 + 2, none⟩ = some (.int .i64 (H i 2)) ∧ (w6.alloc (.cells #[.int .i64 0, .int .i64 0, .int .i64 0, .int .i64 0, .int .i64 0, .int .i64 0] 65)).cell? ⟨bh, oh + i * 6 + 3, none⟩ = some (.int .i64 (H i 3)) ∧ (w6.alloc (.cells #[.int .i64 0, .int .i64 0, .int .i64 0, .int .i64 0, .int .i64 0, .int .i64 0] 65)).cell? ⟨bh, oh + i * 6 + 4, none⟩ = some (.int .i64 (H i 4)) ∧ (w6.alloc (.cells #[.int .i64 0, .int .i64 0, .int .i64 0, .int .i64 0, .int .i64 0, .int .i64 0] 65)).cell? ⟨bh, oh + i * 6 + 5, none⟩ = some (.int .i64 (H i 5)) := rs12 HCG.out hbg HCH.out hbh (J6.trans ((above_new w6 _).mono J6.size)) hlt hlt
                       have HS7 : (w6.alloc (.cells #[.int .i64 (z 0), .int .i64 (z 1), .int .i64 (z 2), .int .i64 (z 3), .int .i64 (z 4), .int .i64 (z 5)] 65)).cell? ⟨bg, og + i * 6, none⟩ = some (.int .i64 (G i 0)) ∧ (w6.alloc (.cells #[.int .i64 (z 0), .int .i64 (z 1), .int .i64 (z 2), .int .i64 (z 3), .int .i64 (z 4), .int .i64 (z 5)] 65)).cell? ⟨bg, og + i * 6 + 1, none⟩ = some (.int .i64 (G i 1)) ∧ (w6.alloc (.cells #[.int .i64 (z 0), .int .i64 (z 1), .int .i64 (z 2), .int .i64 (z 3), .int .i64 (z 4), .int .i64 (z 5)] 65)).cell? ⟨bg, og + i * 6 + 2, none⟩ = some (.int .i64 (G i 2)) ∧ (w6.alloc (.cells #[.int .i64 (z 0), .int .i64 (z 1), .int .i64 (z 2), .int .i64 (z 3), .int .i64 (z 4), .int .i64 (z 5)] 65)).cell? ⟨bg, og + i * 6 + 3, none⟩ = some (.int .i64 (G i 3)) ∧ (w6.alloc (.cells #[.int .i64 (z 0), .int .i64 (z 1), .int .i64 (z 2), .int .i64 (z 3), .int .i64 (z 4), .int .i64 (z 5)] 65)).cell? ⟨bg, og + i * 6 + 4, none⟩ = some (.int .i64 (G i 4)) ∧ (w6.alloc (.cells #[.int .i64 (z 0), .int .i64 (z 1), .int .i64 (z 2), .int .i64 (z 3), .int .i64 (z 4), .int .i64 (z 5)] 65)).cell? ⟨bg, og + i * 6 + 5, none⟩ = some (.int .i64 (G i 5)) ∧ (w6.alloc (.cells #[.int .i64 (z 0), .int .i64 (z 1), .int .i64 (z 2), .int .i64 (z 3), .int .i64 (z 4), .int .i64 (z 5)] 65)).cell? ⟨bh, oh + i * 6, none⟩ = some (.int .i64 (H i 0)) ∧ (w6.alloc (.cells #[.int .i64 (z 0), .int .i64 (z 1), .int .i64 (z 2), .int .i64 (z 3), .int .i64 (z 4), .int .i64 (z 5)] 65)).cell? ⟨bh, oh + i * 6 + 1, none⟩ = some (.int .i64 (H i 1)) ∧ (w6.alloc (.cells #[.int .i64 (z 0), .int .i64 (z 1), .int .i64 (z 2), .int .i64 (z 3), .int .i64 (z 4), .int .i64 (z 5)] 65)).cell? ⟨bh, oh + i * 6 + 2, none⟩ = some (.int .i64 (H i 2)) ∧ (w6.alloc (.cells #[.int .i64 (z 0), .int .i64 (z 1), .int .i64 (z 2), .int .i64 (z 3), .int .i64 (z 4), .int .i64 (z 5)] 65)).cell? ⟨bh, oh + i * 6 + 3, none⟩ = some (.int .i64 (H i 3)) ∧ (w6.alloc (.cells #[.int .i64 (z 0), .int .i64 (z 1), .int .i64 (z 2), .int .i64 (z 3), .int .i64 (z 4), .int .i64 (z 5)] 65)).cell? ⟨bh, oh + i * 6 + 4, none⟩ = some (.int .i64 (H i 4)) ∧ (w6.alloc (.cells #[.int .i64 (z 0), .int .i64 (z 1), .int .i64 (z 2), .int .i64 (z 3), .int .i64 (z 4), .int .i64 (z 5)] 65)).cell? ⟨bh, oh + i * 6 + 5, none⟩ = some (.int .i64 (H i 5)) := rs12 HCG.out hbg HCH.out hbh (J6.trans ((above_new w6 _).mono J6.size)) hlt hlt
                       clear J6))
                all_goals go_wp2_with fail
                all_goals go_meet
                · exact ⟨w6.heap.size, rfl, rfl, ⟨K6.out.trans ((above_new w6 (.cells #[.int .i64 (z 0), .int .i64 (z 1), .int .i64 (z 2), .int .i64 (z 3), .int .i64 (z 4), .int .i64 (z 5)] 65)).mono K6.out.size)⟩, ⟨VT.new w6 65 z⟩⟩
                · exact ⟨wr.heap.size, rfl, rfl, ⟨K6.out.trans (but_below (but_lit wr.heap.size w6 z) (n := wr.heap.size) (Nat.le_refl _) K6.out.size)⟩, ⟨HZ6.out.lit z⟩⟩
              case rest =>
                obtain ⟨rb, rfl, rfl, KB, ZB⟩ := hcut
                have JB := Bx.mk (IB.out.trans (KB.out.mono IB.out.size))
                rcases HZR.out with ⟨rfl, hz1, _⟩ | ⟨hk, _⟩
                · have HZ1 := Bx.mk hz1
                  clear hz1
                  have zb0 := ZB.out.c0
                  have zb1 := ZB.out.c1
                  have zb2 := ZB.out.c2
                  have zb3 := ZB.out.c3
                  have zb4 := ZB.out.c4
                  have zb5 := ZB.out.c5
                  have HO6 := Bx.mk (own_keep (own_keep HO.out (fun k _ hk => KB.out.block k hk)) (fun k _ hk => (above_new wc (.cells #[.int .i64 (z 0), .int .i64 (z 1), .int .i64 (z 2), .int .i64 (z 3), .int .i64 (z 4), .int .i64 (z 5)] 65)).block k hk))
                  have JC := Bx.mk (JB.out.trans ((above_new wc (.cells #[.int .i64 (z 0), .int .i64 (z 1), .int .i64 (z 2), .int .i64 (z 3), .int .i64 (z 4), .int .i64 (z 5)] 65)).mono JB.out.size))
                  have hbs := JC.out.size
                  go_wp2_with (first
                    | (at_builtin; refine wpList_append_any rfl (.tmp 156) (.tmp 158) 58 rfl wa.heap.size 65 tj _ 6 48 Try.underlying58 HTJ.out hy0 hy1 hy2 rfl (by decide) _ i (rowsL (fun i j => G i j + H i j) i) rfl HO6.out (some ⟨wc.heap.size, 0, none⟩) 1 1 (rowsL (fun _ => z) 1) rfl (rowsL_length (fun _ => z) 1) (fun e => by cases e) (cv_news (cv_one wc z)) (rowsL_one (fun _ => z) 1) (by unfold maxLen; omega) (by omega) hbs ?_
                       intro v8 w8 ho8 hg8
                       have B8 := Bx.mk (Below.grown JC.out hg8 hbs (fun k hk => (own_lt HO6.out k hk).1))
                       rw [rowsL_more (G := fun i j => G i j + H i j) (z := z) (i := i) (fun j _ => (HZ1.out j).symm)] at ho8
                       have HO8 := Bx.mk ho8
                       clear ho8 hg8))
                  first
                    | exact ⟨⟨i + 1, by omega, by go_num, HO8, B8⟩, by simp [intOf]; omega⟩
                    | exact ⟨⟨_, _, _, _, _, _, _, _, _, _, _, _, _, _, _, _, _, _, _, _, _, _, _, _, _, _, _, _, _, _, ⟨i + 1, by omega, by go_num, HO8, B8⟩, rfl⟩, by simp [intOf]; omega⟩
                · have hk' : (kz != 0) = true := by simp [bne, hk]
                  go_wp2_with fail
                  go_ret
                  exact ⟨rfl, (LE.out.keep JB.out).l.b⟩
            · obtain rfl : i = hn := by omega
              obtain ⟨jo, jc, rfl, hij, hjm, hcj⟩ := own_pitch_cv HO.out
              have LW := Bx.mk (LE.out.keep IB.out)
              have PW := Bx.mk (PE.out.keep (IB.out.block _ PE.out.lt))
              have SW := Bx.mk (SE.out.keep (IB.out.block _ SE.out.lt))
              have HJ := Bx.mk hcj
              obtain ⟨t1, kt, ht1, htr⟩ := tune_det a ho n c i hc M H v hc1 hc2 hhc hhm
              obtain ⟨u1, ku, hu1, hur⟩ := tune_det a jo n c i jc M (fun i j => G i j + H i j) v hc1 hc2 hij hjm
              obtain ⟨s1, ks1, hs1, hsr⟩ := mul_det p t1
              have HT1 := Bx.mk (fun W (L : Lt w a go ho n i i c M G H v u W) => ht1 W L.l.R L.T)
              have HU1 := Bx.mk (fun W (L : Lt w a go ho n i i c M G H v u W) (h : CV W jo i (fun i j => G i j + H i j)) => hu1 W L.l.R h)
              have HS1 := Bx.mk hs1
              obtain ⟨zz1, hzz1⟩ := bool_of (∀ j, j < 6 → s1 j = u1 j)
              have E4 := eq6_is 65 Try.underlying65 s1 u1 zz1 hzz1
              have hall : ((kt == 0) = false ∨ (kt = 0 ∧ (ku == 0) = false)) ∨ (kt = 0 ∧ ku = 0 ∧ ks1 = 0 ∧ zz1 = true) := by
                rcases htr with ⟨h1, _, h3, h4⟩ | ⟨h1, _⟩
                · rcases hur with ⟨g1, _, g3, g4⟩ | ⟨g1, _⟩
                  · have e : ∀ j, p j + t1 j = u1 j := fun j => by rw [HPP.out, h3, g3]; exact (tu_both M v G H n j).symm
                    have e2 : (fun j => p j + t1 j) = u1 := funext e
                    rcases hsr with ⟨f1, f2, _⟩ | ⟨_, f2⟩
                    · exact .inr ⟨h1, g1, f1, hzz1.2 fun j _ => (f2 j).trans (e j)⟩
                    · exact absurd ⟨HVP.out, h4, by rw [e2]; exact g4⟩ f2
                  · exact .inl (.inr ⟨h1, g1⟩)
                · exact .inl (.inl h1)
              have HALL := Bx.mk hall
              unfold PV at HT1 HU1 HS1 E4
              clear hcj ht1 hu1 hs1 htr hur hsr hzz1 hall
              have im := LW.out.l.m.cell
              have iv0 := LW.out.l.v.c0
              have iv1 := LW.out.l.v.c1
              have iv2 := LW.out.l.v.c2
              have iv3 := LW.out.l.v.c3
              have iv4 := LW.out.l.v.c4
              have iv5 := LW.out.l.v.c5
              go_upto_region 27 with (first
                | (clear M10; go_at_call 59; refine (HT1.out _ LW.out).mono ?_; clear im iv0 iv1 iv2 iv3 iv4 iv5; rintro e x1 ⟨rfl, j1⟩
                   have A1 := above_new x1 (.cells #[.int .i64 (t1 0), .int .i64 (t1 1), .int .i64 (t1 2), .int .i64 (t1 3), .int .i64 (t1 4), .int .i64 (t1 5)] 65)
                   have X1 := Bx.mk ((LW.out.keep j1).keep A1)
                   have PX1 := Bx.mk ((PW.out.keep (j1.block _ PW.out.lt)).keep (A1.block _ (Nat.lt_of_lt_of_le PW.out.lt j1.size)))
                   have SX1 := Bx.mk ((SW.out.keep (j1.block _ SW.out.lt)).keep (A1.block _ (Nat.lt_of_lt_of_le SW.out.lt j1.size)))
                   have HJ1 := Bx.mk ((HJ.out.keep j1).keep A1)
                   have T1 := Bx.mk (VT.new x1 65 t1)
                   have im := X1.out.l.m.cell
                   have iv0 := X1.out.l.v.c0
                   have iv1 := X1.out.l.v.c1
                   have iv2 := X1.out.l.v.c2
                   have iv3 := X1.out.l.v.c3
                   have iv4 := X1.out.l.v.c4
                   have iv5 := X1.out.l.v.c5
                   clear j1 A1)
                | (clear M11; go_at_call 59; refine (HU1.out _ X1.out HJ1.out).mono ?_; clear im iv0 iv1 iv2 iv3 iv4 iv5; rintro e x2 ⟨rfl, j2⟩
                   have A2 := above_new x2 (.cells #[.int .i64 (u1 0), .int .i64 (u1 1), .int .i64 (u1 2), .int .i64 (u1 3), .int .i64 (u1 4), .int .i64 (u1 5)] 65)
                   have X2 := Bx.mk ((X1.out.keep j2).keep A2)
                   have PX2 := Bx.mk ((PX1.out.keep (j2.block _ PX1.out.lt)).keep (A2.block _ (Nat.lt_of_lt_of_le PX1.out.lt j2.size)))
                   have SX2 := Bx.mk ((SX1.out.keep (j2.block _ SX1.out.lt)).keep (A2.block _ (Nat.lt_of_lt_of_le SX1.out.lt j2.size)))
                   have T2 := Bx.mk ((T1.out.keep (j2.block _ T1.out.lt)).keep (A2.block _ (Nat.lt_of_lt_of_le T1.out.lt j2.size)))
                   have U2 := Bx.mk (VT.new x2 65 u1)
                   have HNE := Bx.mk (Nat.lt_of_lt_of_le SX1.out.lt j2.size)
                   clear j2 A2))
              rcases HALL.out with hbad | ⟨rfl, rfl, rfl, rfl⟩
              · rcases hbad with hk | ⟨rfl, hk⟩
                · have hk' : (kt != 0) = true := by simp [bne, hk]
                  go_wp2_with fail
                  go_ret
                  exact ⟨rfl, X2.out.l.b⟩
                · have hk' : (ku != 0) = true := by simp [bne, hk]
                  go_wp2_with fail
                  go_ret
                  exact ⟨rfl, X2.out.l.b⟩
              · 
                have ip0 := PX2.out.c0
                have ip1 := PX2.out.c1
                have ip2 := PX2.out.c2
                have ip3 := PX2.out.c3
                have ip4 := PX2.out.c4
                have ip5 := PX2.out.c5
                have it0 := T2.out.c0
                have it1 := T2.out.c1
                have it2 := T2.out.c2
                have it3 := T2.out.c3
                have it4 := T2.out.c4
                have it5 := T2.out.c5
                go_wp2_with (first
                  | (go_at_call 67; refine (HS1.out _).mono ?_; rintro e x3 ⟨rfl, j3⟩
                     have X3 := Bx.mk (X2.out.keep j3)
                     have S3 := Bx.mk (SX2.out.keep (j3.block _ SX2.out.lt))
                     have U3 := Bx.mk (U2.out.keep (j3.block _ U2.out.lt))
                     have ic0 := S3.out.c0
                     have ic1 := S3.out.c1
                     have ic2 := S3.out.c2
                     have ic3 := S3.out.c3
                     have ic4 := S3.out.c4
                     have ic5 := S3.out.c5
                     have if0 := S3.out.f 0
                     have if1 := S3.out.f 1
                     have if2 := S3.out.f 2
                     have if3 := S3.out.f 3
                     have if4 := S3.out.f 4
                     have if5 := S3.out.f 5
                     have iw0 := U3.out.c0
                     have iw1 := U3.out.c1
                     have iw2 := U3.out.c2
                     have iw3 := U3.out.c3
                     have iw4 := U3.out.c4
                     have iw5 := U3.out.c5
                     have hne3 : ¬ x2.heap.size = w10.heap.size := by have := HNE.out; omega
                     have hne4 : ¬ w10.heap.size = x2.heap.size := by have := HNE.out; omega
                     clear j3))
                have hBF := X3.out.l.b.trans (but_below (but_lit w10.heap.size x3 s1) (n := w.heap.size) HW10.out X3.out.l.b.size)
                go_ret
                exact ⟨rfl, hBF⟩
        · have hd : ((hn : Int) == (gn : Int)) = false := by simp; omega
          go_wp2_with fail
          go_ret
          exact ⟨rfl, LE.out.l.b⟩
end Go.Proofs.Ytnbamjoadankmaa

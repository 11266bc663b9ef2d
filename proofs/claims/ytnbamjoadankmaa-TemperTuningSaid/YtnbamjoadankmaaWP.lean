/- The program's lattice: steps that keep a state of their own. -/
import Derived.Test.YtnbamjoadankmaaVN
namespace Go.Proofs.Ytnbamjoadankmaa
open Go.RowKit Go.Shelf D
/-- But for the blocks of a set all that was there is as it was. -/
structure Exc (S : Nat → Prop) (w w' : World) : Prop where
  os : w'.os = w.os
  tape : w'.tape = w.tape
  output : w'.output = w.output
  size : w.heap.size ≤ w'.heap.size
  block : ∀ k, k < w.heap.size → ¬ S k → w'.heap[k]? = w.heap[k]?
/-- A state of steps: it lives in the blocks of a set, at or above those of w0. -/
structure Sst (w0 : World) (J : Nat → (Nat → Prop) → World → Prop) : Prop where
  lt : ∀ t S W b, J t S W → S b → w0.heap.size ≤ b ∧ b < W.heap.size
  keep : ∀ t S W W', J t S W → W.heap.size ≤ W'.heap.size → (∀ b, S b → W'.heap[b]? = W.heap[b]?) → J t S W'
/-- What a step does to the state. -/
def Stp (J : Nat → (Nat → Prop) → World → Prop) (t : Nat) (S : Nat → Prop) (W W' : World) : Prop :=
  ∃ S', J t S' W' ∧ Exc S W W' ∧ ∀ k, k < W.heap.size → S' k → S k
def E3 (a b : Nat) (S : Nat → Prop) (k : Nat) : Prop := k = a ∨ k = b ∨ S k
theorem Exc.refl (S : Nat → Prop) (w : World) : Exc S w w := ⟨rfl, rfl, rfl, Nat.le_refl _, fun _ _ _ => rfl⟩
theorem Exc.trans {S T : Nat → Prop} {x y z : World} (h : Exc S x y) (k : Exc T y z) (hT : ∀ i, i < x.heap.size → T i → S i) : Exc S x z :=
  ⟨k.os.trans h.os, k.tape.trans h.tape, k.output.trans h.output, Nat.le_trans h.size k.size, fun i hi hs => (k.block i (Nat.lt_of_lt_of_le hi h.size) (fun ht => hs (hT i hi ht))).trans (h.block i hi hs)⟩
theorem Exc.of_below {S : Nat → Prop} {x y : World} (h : Below x.heap.size x y) : Exc S x y := ⟨h.os, h.tape, h.output, h.size, fun i hi _ => h.block i hi⟩
theorem Exc.of_but {b : Nat} {x y : World} (h : But b x y) : Exc (fun k => k = b) x y := ⟨h.os, h.tape, h.output, h.size, fun i hi hb => h.block i hi hb⟩
theorem Exc.below {S : Nat → Prop} {x y z : World} (h : Exc S x y) (k : Below y.heap.size y z) : Exc S x z := h.trans (Exc.of_below (S := fun _ => False) k) (fun _ _ h => h.elim)
theorem Exc.but {S : Nat → Prop} {b : Nat} {x y z : World} (h : Exc S x y) (k : But b y z) (hb : x.heap.size ≤ b ∨ S b) : Exc S x z :=
  h.trans (Exc.of_but k) (fun i hi e => by rcases hb with hb | hb; · omega
                                           · rw [e]; exact hb)
theorem Exc.base {S : Nat → Prop} {w x y : World} (h : Exc S x y) (hw : Below w.heap.size w x) (hS : ∀ k, S k → w.heap.size ≤ k) : Below w.heap.size w y :=
  ⟨h.os.trans hw.os, h.tape.trans hw.tape, h.output.trans hw.output, Nat.le_trans hw.size h.size, fun k hk => (h.block k (Nat.lt_of_lt_of_le hk hw.size) (fun hs => by have := hS k hs; omega)).trans (hw.block k hk)⟩
/-- The state between two steps. -/
structure Tj (J : Nat → (Nat → Prop) → World → Prop) (S0 : Nat → Prop) (W1 : World) (ab vb eb t : Nat) (W : World) (x : Nat → Int) : Prop where
  ta : VB W ab x
  tv : VB W vb x
  te : Boxed W eb 25 (.int .i64 0)
  tw : Exc (E3 vb eb S0) W1 W
  st : ∃ S, J t S W ∧ ¬ S ab ∧ ∀ k, k < W1.heap.size → S k → S0 k
theorem Tj.base {w0 : World} {J : Nat → (Nat → Prop) → World → Prop} {S0 : Nat → Prop} {W1 W : World} {ab vb eb t : Nat} {x : Nat → Int} (h : Tj J S0 W1 ab vb eb t W x) (hw : Below w0.heap.size w0 W1) (h1 : w0.heap.size ≤ vb) (h2 : vb < eb) (h3 : ∀ k, S0 k → w0.heap.size ≤ k) : Below w0.heap.size w0 W :=
  h.tw.base hw (fun k hk => by rcases hk with rfl | rfl | hk; · exact h1
                               · omega
                               · exact h3 k hk)
theorem mid_factj {J : Nat → (Nat → Prop) → World → Prop} {S0 S : Nat → Prop} {W1 wr w2 : World} {ab vb eb t : Nat} {x : Nat → Int} (HT : Tj J S0 W1 ab vb eb t wr x) (hab : ¬ S ab) (hsub : ∀ k, k < W1.heap.size → S k → S0 k) (hS0 : ∀ k, S0 k → k < vb) (hX : Exc S wr w2) {c : Nat} (hc : c < W1.heap.size) (h1 : vb ≤ c) : w2.heap[c]? = wr.heap[c]? :=
  hX.block c (Nat.lt_of_lt_of_le hc HT.tw.size) (fun h => by have := hS0 c (hsub c hc h); omega)
theorem go_factj {w0 : World} {J : Nat → (Nat → Prop) → World → Prop} (hJ : Sst w0 J) {S0 S S' : Nat → Prop} {W1 wr w2 W3 w4 : World} {ab vb eb l t t' : Nat} {r : Loop} {x x' : Nat → Int} (hab : ab = W1.heap.size) (HT : Tj J S0 W1 ab vb eb t wr x) (hSa : ¬ S ab) (hsub : ∀ k, k < W1.heap.size → S k → S0 k) (hS0 : ∀ k, S0 k → k < vb)
    (hX : Exc S wr w2) (hJ2 : J t' S' w2) (hS2 : ∀ k, k < wr.heap.size → S' k → S k) (hb : But ab w2 W3) (hv3 : VB W3 ab x') (h1 : vb < ab) (h2 : eb < ab) (h3 : l < ab) (h4 : vb < eb) (h5 : eb < l) (hl : W1.heap[l]? = some (.loop r)) (B4 : Below W3.heap.size W3 w4) :
    VB w4 ab x' ∧ VB w4 vb x ∧ Boxed w4 eb 25 (.int .i64 0) ∧ Exc (E3 vb eb S0) W1 w4 ∧ w4.heap[l]? = some (.loop r) ∧ J t' S' w4 ∧ ¬ S' ab ∧ (∀ k, k < W1.heap.size → S' k → S0 k) := by
  have z1 := HT.tw.size
  have z2 := hX.size
  have z3 := hb.size
  have hla := HT.ta.lt
  have hSa' : ¬ S' ab := fun h => hSa (hS2 ab hla h)
  have hsub' : ∀ k, k < W1.heap.size → S' k → S0 k := fun k hk h => hsub k hk (hS2 k (by omega) h)
  have key : ∀ k, k < ab → ¬ S k → w4.heap[k]? = wr.heap[k]? := fun k hk hs => (B4.block k (by omega)).trans ((hb.block k (by omega) (by omega)).trans (hX.block k (by omega) hs))
  have nS : ∀ k, k < ab → vb ≤ k → ¬ S k := fun k hk hv h => by have := hS0 k (hsub k (by omega) h); omega
  have nE : ¬ E3 vb eb S0 l := fun h => by
    rcases h with h | h | h
    · omega
    · omega
    · have := hS0 l h; omega
  have hX2 : Exc (E3 vb eb S0) W1 w2 := HT.tw.trans hX (fun i hi h => .inr (.inr (hsub i hi h)))
  refine ⟨hv3.keep (B4.block ab hv3.lt), HT.tv.keep (key vb h1 (nS vb h1 (Nat.le_refl _))), (key eb h2 (nS eb h2 (by omega))).trans HT.te, (hX2.but hb (.inl (by omega))).below B4, (key l h3 (nS l h3 (by omega))).trans ((HT.tw.block l (by omega) nE).trans hl), ?_, hSa', hsub'⟩
  exact hJ.keep _ _ w2 _ hJ2 (by have := B4.size; omega) (fun b hb' => (B4.block b (by have := (hJ.lt _ _ _ b hJ2 hb').2; omega)).trans (hb.block b (hJ.lt _ _ _ b hJ2 hb').2 (fun e => hSa' (e ▸ hb'))))
theorem on_factj {w0 : World} {J : Nat → (Nat → Prop) → World → Prop} (hJ : Sst w0 J) {S0 S' : Nat → Prop} {W1 w4 w5 : World} {ab vb eb t' : Nat} {x x' : Nat → Int} (hS0 : ∀ k, S0 k → k < vb) (h1 : vb < ab) (h2 : eb < ab) (h4 : vb < eb) (hvl : vb < W1.heap.size)
    (G : VB w4 ab x' ∧ VB w4 vb x ∧ Boxed w4 eb 25 (.int .i64 0) ∧ Exc (E3 vb eb S0) W1 w4 ∧ J t' S' w4 ∧ ¬ S' ab ∧ (∀ k, k < W1.heap.size → S' k → S0 k)) (hb5 : But vb w4 w5) (hv5 : VB w5 vb x') : Tj J S0 W1 ab vb eb t' w5 x' := by
  obtain ⟨G1, G2, G3, G4, G6, G7, G8⟩ := G
  refine ⟨G1.keep (hb5.block _ G1.lt (by omega)), hv5, (hb5.block eb G3.lt (by omega)).trans G3, G4.but hb5 (.inr (.inl rfl)), S', ?_, G7, G8⟩
  exact hJ.keep _ _ w4 _ G6 hb5.size (fun b hb' => hb5.block b (hJ.lt _ _ _ b G6 hb').2 (fun e => by subst e; have := hS0 b (G8 b hvl hb'); omega))
theorem stop_factj {J : Nat → (Nat → Prop) → World → Prop} {S0 S : Nat → Prop} {W1 wr w2 W3 w4 : World} {ab vb eb t : Nat} {x : Nat → Int} (hab : ab = W1.heap.size) (HT : Tj J S0 W1 ab vb eb t wr x) (hsub : ∀ k, k < W1.heap.size → S k → S0 k) (hS0 : ∀ k, S0 k → k < vb) (hX : Exc S wr w2) (hb : But ab w2 W3) (h1 : vb < eb) (h2 : eb < ab) (B4 : Below W3.heap.size W3 w4) :
    Boxed (w4.setCell ⟨eb, 0, none⟩ (.int .i64 3)) eb 25 (.int .i64 3) ∧ Exc (E3 vb eb S0) W1 (w4.setCell ⟨eb, 0, none⟩ (.int .i64 3)) := by
  have z1 := HT.tw.size
  have z2 := hX.size
  have z3 := hb.size
  have nS : ¬ S eb := fun h => by have := hS0 eb (hsub eb (by omega) h); omega
  have k : Boxed w4 eb _ _ := (B4.block eb (by omega)).trans ((hb.block eb (by omega) (by omega)).trans ((hX.block eb (by omega) nS).trans HT.te))
  have hX2 : Exc (E3 vb eb S0) W1 w2 := HT.tw.trans hX (fun i hi h => .inr (.inr (hsub i hi h)))
  exact ⟨k.set _, ((hX2.but hb (.inl (by omega))).below B4).but (But.set w4 0 _) (.inr (.inr (.inl rfl)))⟩
theorem boxed_midj {J : Nat → (Nat → Prop) → World → Prop} {S0 S : Nat → Prop} {W1 wr w2 W3 : World} {ab vb eb t : Nat} {x : Nat → Int} (hab : ab = W1.heap.size) (HT : Tj J S0 W1 ab vb eb t wr x) (hsub : ∀ k, k < W1.heap.size → S k → S0 k) (hS0 : ∀ k, S0 k → k < vb) (hX : Exc S wr w2) (hb : But ab w2 W3) (h1 : vb < eb) (h2 : eb < ab) : Boxed W3 eb 25 (.int .i64 0) := by
  have z1 := HT.tw.size
  have z2 := hX.size
  have nS : ¬ S eb := fun h => by have := hS0 eb (hsub eb (by omega) h); omega
  exact (hb.block eb (by omega) (by omega)).trans ((hX.block eb (by omega) nS).trans HT.te)
theorem cell_same {W W' : World} {b k : Nat} (h : W'.heap[b]? = W.heap[b]?) : W'.cell? ⟨b, k, none⟩ = W.cell? ⟨b, k, none⟩ := World.cell?_of_block (w := W) h
end Go.Proofs.Ytnbamjoadankmaa
/- The program's lattice: the remainders with the step that notes the coefficients. -/
namespace Go.Proofs.Ytnbamjoadankmaa
open Go.RowKit Go.Shelf D
attribute [local go_sem] Oper.semAt_some run_store_fn
theorem ne_e3 {S0 : Nat → Prop} {vb eb be : Nat} (h1 : vb < be) (h2 : eb < be) (hS0 : ∀ k, S0 k → k < vb) : ¬ E3 vb eb S0 be := fun h => by
  rcases h with h | h | h
  · omega
  · omega
  · have := hS0 be h; omega
theorem vv_step {xs : Nat → Nat → Int} {t : Nat} (h : ∀ k, k ≤ t → Vv (xs k)) (h1 : Vv (xs (t + 1))) : ∀ k, k ≤ t + 1 → Vv (xs k) := fun k hk => by
  by_cases e : k = t + 1
  · rw [e]; exact h1
  · exact h k (by omega)
set_option maxRecDepth 100000 in
set_option maxHeartbeats 16000000 in
theorem rem_noted (n : Nat) (w0 W1 : World) (l : Nat) (r : Loop) (fo co : Option Addr) (fc cc q : Nat) (n1b n2b : Nat) (xs : Nat → Nat → Int) (J : Nat → (Nat → Prop) → World → Prop) (S0 : Nat → Prop) (sb so sc bv bb bs be vb eb : Nat)
    (hJ : Sst w0 J) (hq6 : q ≤ 6) (lf : q ≤ fc) (hB1 : Below w0.heap.size w0 W1)
    (hst0 : W1.cell? ⟨sb, so, none⟩ = some (.func (.func 127) #[] #[.pointer (some ⟨n1b, 0, none⟩), .pointer (some ⟨n2b, 0, none⟩)]))
    (hsb : sb < W1.heap.size) (h8 : ¬ E3 vb eb S0 sb) (hS0 : ∀ k, S0 k → k < vb) (hSl : ∀ k, S0 k → w0.heap.size ≤ k) (hJ0 : J 0 S0 W1)
    (h1 : w0.heap.size ≤ vb) (h2 : vb < eb) (h3 : eb < bb) (h4 : eb < bv) (h5 : eb < be) (h6 : eb < bs) (h7 : eb < l)
    (hbB : PB W1 bb (.slice fo q fc) (.slice co q cc)) (hbV : VB W1 bv (xs 0)) (hbE : Boxed W1 be 52 (.func (.func 130) #[] #[.pointer (some ⟨eb, 0, none⟩)])) (hbS : Boxed W1 bs 146 (.slice (some ⟨sb, so, none⟩) 1 sc)) (hl : W1.heap[l]? = some (.loop r))
    (hv : VB W1 vb (xs 0)) (he : Boxed W1 eb 25 (.int .i64 0)) (hx0 : Vv (xs 0))
    (hY : ∀ m x W, W.heap[l]? = some (.loop r) → (∃ y, VB W vb y) → YieldAt Fence.wide m Try.prog l #[PV x] W fun e W' => e = .returned (.bool true) ∧ But vb W W' ∧ VB W' vb x)
    (hstep0 : ∀ i S W, i < q → J i S W → Below w0.heap.size w0 W → Vv (xs i) → Calls Try.prog 127 #[.int .i64 (i : Nat), PV (xs i), .pointer (some ⟨n1b, 0, none⟩), .pointer (some ⟨n2b, 0, none⟩)] W fun e W' => e = .returned (PV (xs (i + 1))) ∧ Stp J (i + 1) S W W') :
    CallsIn Fence.wide n Try.prog 155 #[.func (.yield l) #[] #[], .pointer (some ⟨bv, 0, none⟩), .pointer (some ⟨bb, 0, none⟩), .pointer (some ⟨bs, 0, none⟩), .pointer (some ⟨be, 0, none⟩)] W1 fun e W' =>
      (∃ v, e = .returned v) ∧ Exc (E3 vb eb S0) W1 W' ∧ (((∀ k, k ≤ q → Vv (xs k)) ∧ VB W' vb (xs q) ∧ Boxed W' eb 25 (.int .i64 0) ∧ ∃ S, J q S W' ∧ ∀ k, k < W1.heap.size → S k → S0 k) ∨ ((∃ k, k ≤ q ∧ ¬ Vv (xs k)) ∧ Boxed W' eb 25 (.int .i64 3))) := by
  have hdd : ∀ k : Nat, (Fence.wide.depth.isSome = true → 1 ≤ k) := fun k h => by cases h
  have HY := Bx.mk hY
  have HB1 := Bx.mk hB1
  have HX0 := Bx.mk hx0
  have HJ := Bx.mk hJ
  have HS0 := Bx.mk hS0
  have HSl := Bx.mk hSl
  have HJ0 := Bx.mk hJ0
  have w01 := hB1.size
  have s1 := hbV.lt
  have s2 := hbB.lt
  have s3 := hbE.lt
  have s4 := hbS.lt
  have s5 := (Array.getElem?_eq_some_iff.1 hl).1
  have s6 := he.lt
  have a0 := hbV.c0
  have a1 := hbV.c1
  have a2 := hbV.c2
  have a3 := hbV.c3
  have a4 := hbV.c4
  have a5 := hbV.c5
  have HB0 := Bx.mk (Below.refl W1.heap.size W1 |>.alloc (Nat.le_refl _) (.cells #[.int .i64 0, .int .i64 0, .int .i64 0, .int .i64 0, .int .i64 0, .int .i64 0] 36))
  have bB0 := hbB.keep (HB0.out.block bb s2)
  have b0 := hbB.c0
  have n1 : bb ≠ W1.heap.size := by omega
  have n2 : W1.heap.size ≠ bb := by omega
  refine callsIn_of_wp Try.func155 rfl trivial ?_ rfl
  simp only [Try.ntmps155, List.size_toArray, List.length_cons, List.length_nil, Nat.reduceAdd, Nat.reduceSub, Array.replicate_succ, Array.replicate_zero, List.push_toArray, List.append_toArray, List.nil_append, List.cons_append]
  gi_wp2
  gi_loopw [14] (fun ix wr => ∃ i : Nat, ix = .int .i64 i ∧ i ≤ q ∧ Bx (Tj J S0 W1 W1.heap.size vb eb i wr (xs i)) ∧ Bx (∀ k, k ≤ i → Vv (xs k))) (fun ix _ => q - (intOf ix).toNat)
  case atStart =>
    refine ⟨0, rfl, Nat.zero_le _, ⟨?_⟩, ⟨fun k hk => ?_⟩⟩
    · have hB := (Below.refl W1.heap.size W1).alloc (Nat.le_refl _) (.cells #[.int .i64 (xs 0 0), .int .i64 (xs 0 1), .int .i64 (xs 0 2), .int .i64 (xs 0 3), .int .i64 (xs 0 4), .int .i64 (xs 0 5)] 36)
      exact ⟨VB.new W1 (xs 0), hv.keep (hB.block vb hv.lt), (hB.block eb s6).trans he, Exc.of_below hB, S0, HJ.out.keep _ _ W1 _ HJ0.out hB.size (fun b hb => hB.block b (HJ.out.lt _ _ _ b HJ0.out hb).2), fun h => absurd (HJ.out.lt _ _ _ _ HJ0.out h).2 (Nat.lt_irrefl _), fun _ _ h => h⟩
    · obtain rfl : k = 0 := by omega
      exact HX0.out
  case round =>
    obtain ⟨i, rfl, hiq, HT, HV⟩ := hrel
    by_cases hlt : i < q
    · have hlt' : (i : Int) < (q : Int) := by omega
      have bSr : Boxed wr bs _ _ := (HT.out.tw.block bs s4 (fun h => ne_e3 (by omega) (by omega) HS0.out h)).trans hbS
      have c1 := bSr.cell
      gi_wp2
      gi_loopw [19] (fun kx wk => (kx = .int .i64 0 ∧ Bx (Tj J S0 W1 W1.heap.size vb eb i wk (xs i)) ∧ Bx (∀ k, k ≤ i → Vv (xs k))) ∨ (kx = .int .i64 1 ∧ Bx (Tj J S0 W1 W1.heap.size vb eb (i + 1) wk (xs (i + 1))) ∧ Bx (∀ k, k ≤ (i + 1) → Vv (xs k)))) (fun kx _ => 1 - (intOf kx).toNat)
      case atStart => exact .inl ⟨rfl, HT, HV⟩
      case round =>
        rcases hrel with ⟨rfl, HK, HKV⟩ | ⟨rfl, HK, HKV⟩
        · have hK := HK.out
          obtain ⟨S, hJs, hSa, hSs⟩ := hK.st
          obtain ⟨x, hx⟩ : ∃ x, xs i = x := ⟨_, rfl⟩
          obtain ⟨x', hx'⟩ : ∃ x', xs (i + 1) = x' := ⟨_, rfl⟩
          have hBk := Bx.mk (hK.base HB1.out h1 h2 HSl.out)
          have HR0 := Bx.mk (hstep0 i S _ hlt hJs hBk.out (HKV.out _ (Nat.le_refl _)))
          rw [hx, hx'] at HR0
          rw [hx] at HK hK
          have c0 := hK.ta.c0
          have c2 := hK.ta.c1
          have c3 := hK.ta.c2
          have c4 := hK.ta.c3
          have c5 := hK.ta.c4
          have c6 := hK.ta.c5
          have hsk := hK.tw.size
          have hlk := hK.ta.lt
          have hst' := (cell_same (k := so) (hK.tw.block sb hsb (fun h => h8 h))).trans hst0
          have ne1 : be ≠ W1.heap.size := by omega
          have ne2 : W1.heap.size ≠ be := by omega
          have HE0 := Bx.mk hbE
          have HL0 := Bx.mk hl
          have HV0 := Bx.mk hv
          unfold PV at HR0
          clear hK hJs
          by_cases hn : Vv x'
          · gi_wp2_with (first
              | (refine ⟨trivial, ?_⟩; (try refine ⟨hdd _, ?_⟩); gi_at_call 127; refine (callsIn_wide.2 HR0.out).mono ?_; clear HR0; rintro e w2 ⟨rfl, S', hJ2, hX2, hS2⟩
                 have V2 := HK.out.ta.keep (hX2.block _ hlk hSa)
                 have f0 := V2.f 0
                 have f1 := V2.f 1
                 have f2 := V2.f 2
                 have f3 := V2.f 3
                 have f4 := V2.f 4
                 have f5 := V2.f 5
                 have d0 := V2.c0
                 have d1 := V2.c1
                 have d2 := V2.c2
                 have d3 := V2.c3
                 have d4 := V2.c4
                 have d5 := V2.c5
                 have E2 : Boxed w2 be _ _ := (mid_factj HK.out hSa hSs HS0.out hX2 s3 (by omega)).trans ((HK.out.tw.block be s3 (fun h => ne_e3 (by omega) (by omega) HS0.out h)).trans HE0.out)
                 have e2 := E2.cell
                 have HX2 := Bx.mk hX2
                 have HJ2 := Bx.mk hJ2
                 have HS2 := Bx.mk hS2
                 have HV3 := Bx.mk (V2.lit x')
                 have HEN := Bx.mk (fun W3 (hb : But W1.heap.size w2 W3) (hv3 : VB W3 W1.heap.size x') => (ends_go x' eb W3 hn (boxed_midj rfl HK.out hSs HS0.out HX2.out hb h2 s6)).mono (R' := fun e w4 => e = .returned (.bool false) ∧ Bx (VB w4 W1.heap.size x' ∧ VB w4 vb x ∧ Boxed w4 eb 25 (.int .i64 0) ∧ Exc (E3 vb eb S0) W1 w4 ∧ w4.heap[l]? = some (.loop r) ∧ J (i + 1) S' w4 ∧ ¬ S' W1.heap.size ∧ (∀ k, k < W1.heap.size → S' k → S0 k))) fun e w4 h => ⟨h.1, ⟨go_factj HJ.out rfl HK.out hSa hSs HS0.out HX2.out HJ2.out HS2.out hb hv3 (by omega) s6 s5 h2 h7 HL0.out h.2⟩⟩)
                 unfold PV at HEN
                 clear V2 hX2 hJ2 hS2)
              | (refine ⟨trivial, ?_⟩; (try refine ⟨hdd _, ?_⟩); gi_at_call 130; refine (callsIn_wide.2 (HEN.out _ (but_lit W1.heap.size w2 x') HV3.out)).mono ?_; clear HEN; rintro e w4 ⟨rfl, HG⟩
                 have g0 := HG.out.1.c0
                 have g1 := HG.out.1.c1
                 have g2 := HG.out.1.c2
                 have g3 := HG.out.1.c3
                 have g4 := HG.out.1.c4
                 have g5 := HG.out.1.c5
                 obtain ⟨fn, tmps, assign, body, hy, hR⟩ := HY.out (n - 1) x' w4 HG.out.2.2.2.2.1 ⟨_, HG.out.2.1⟩
                 unfold PV at hy)
              | ((try refine ⟨hdd _, ?_⟩); refine hR.mono ?_; clear hR; rintro e w5 ⟨rfl, hb5, hv5⟩))
            go_roundw
            case rel =>
              obtain ⟨G1, G2, G3, G4, G5, G6, G7, G8⟩ := HG.out
              exact .inr (⟨rfl, ⟨by rw [hx']; exact on_factj HJ.out HS0.out (by omega) s6 h2 (by omega) ⟨G1, G2, G3, G4, G6, G7, G8⟩ hb5 hv5⟩, ⟨fun k hk => vv_step HKV.out (by rw [hx']; exact hn) k hk⟩⟩)
            case measure => simp [intOf]
          · gi_wp2_with (first
              | (refine ⟨trivial, ?_⟩; (try refine ⟨hdd _, ?_⟩); gi_at_call 127; refine (callsIn_wide.2 HR0.out).mono ?_; clear HR0; rintro e w2 ⟨rfl, S', hJ2, hX2, hS2⟩
                 have V2 := HK.out.ta.keep (hX2.block _ hlk hSa)
                 have f0 := V2.f 0
                 have f1 := V2.f 1
                 have f2 := V2.f 2
                 have f3 := V2.f 3
                 have f4 := V2.f 4
                 have f5 := V2.f 5
                 have d0 := V2.c0
                 have d1 := V2.c1
                 have d2 := V2.c2
                 have d3 := V2.c3
                 have d4 := V2.c4
                 have d5 := V2.c5
                 have E2 : Boxed w2 be _ _ := (mid_factj HK.out hSa hSs HS0.out hX2 s3 (by omega)).trans ((HK.out.tw.block be s3 (fun h => ne_e3 (by omega) (by omega) HS0.out h)).trans HE0.out)
                 have e2 := E2.cell
                 have HX2 := Bx.mk hX2
                 have HJ2 := Bx.mk hJ2
                 have HS2 := Bx.mk hS2
                 have HV3 := Bx.mk (V2.lit x')
                 have HEN := Bx.mk (fun W3 (hb : But W1.heap.size w2 W3) (_ : VB W3 W1.heap.size x') => (ends_stop x' eb W3 hn (boxed_midj rfl HK.out hSs HS0.out HX2.out hb h2 s6)).mono (R' := fun e w4 => e = .returned (.bool true) ∧ Bx (Boxed w4 eb 25 (.int .i64 3) ∧ Exc (E3 vb eb S0) W1 w4)) fun e w4 h => by
                   obtain ⟨he, w5, hb5, rfl⟩ := h
                   exact ⟨he, ⟨stop_factj rfl HK.out hSs HS0.out HX2.out hb h2 s6 hb5.out⟩⟩)
                 unfold PV at HEN
                 clear V2 hX2 hJ2 hS2)
              | (refine ⟨trivial, ?_⟩; (try refine ⟨hdd _, ?_⟩); gi_at_call 130; refine (callsIn_wide.2 (HEN.out _ (but_lit W1.heap.size w2 x') HV3.out)).mono ?_; clear HEN; rintro e w4 ⟨rfl, HG⟩))
            refine ⟨fun f h => (by cases h), ?_⟩
            gi_wp2
            exact ⟨rfl, _, by simp [results, Try.results155, go_sem]; rfl, ⟨_, rfl⟩, HG.out.2, .inr ⟨⟨(i + 1), by omega, by rw [hx']; exact hn⟩, HG.out.1⟩⟩
        · gi_wp2
          go_roundw
          case rel => exact ⟨i + 1, by simp, by omega, HK, HKV⟩
          case measure => simp [intOf]; omega
    · obtain rfl : i = q := by omega
      gi_wp2
      obtain ⟨S, hJs, _, hSs⟩ := HT.out.st
      exact ⟨rfl, _, by simp [results, Try.results155, go_sem]; rfl, ⟨_, rfl⟩, HT.out.tw, .inl ⟨HV.out, HT.out.tv, HT.out.te, S, hJs, hSs⟩⟩
end Go.Proofs.Ytnbamjoadankmaa
/- The program's lattice: the remainders with the two steps of an order. -/
namespace Go.Proofs.Ytnbamjoadankmaa
open Go.RowKit Go.Shelf D
attribute [local go_sem] Oper.semAt_some run_store_fn
theorem ne_e32 {S0 : Nat → Prop} {vb eb be : Nat} (h1 : vb < be) (h2 : eb < be) (hS0 : ∀ k, S0 k → k < vb) : ¬ E3 vb eb S0 be := fun h => by
  rcases h with h | h | h
  · omega
  · omega
  · have := hS0 be h; omega
theorem vv_step2 {xs : Nat → Nat → Int} {t : Nat} (h : ∀ k, k ≤ t → Vv (xs k)) (h1 : Vv (xs (t + 1))) : ∀ k, k ≤ t + 1 → Vv (xs k) := fun k hk => by
  by_cases e : k = t + 1
  · rw [e]; exact h1
  · exact h k (by omega)
set_option maxRecDepth 100000 in
set_option maxHeartbeats 16000000 in
theorem rem_mult (n : Nat) (w0 W1 : World) (l : Nat) (r : Loop) (fo co : Option Addr) (fc cc q : Nat) (n1b n2b : Nat) (xs : Nat → Nat → Int) (J : Nat → (Nat → Prop) → World → Prop) (S0 : Nat → Prop) (sb so sc bv bb bs be vb eb : Nat)
    (hJ : Sst w0 J) (hq6 : q ≤ 6) (lf : q ≤ fc) (hB1 : Below w0.heap.size w0 W1)
    (hst0 : W1.cell? ⟨sb, so, none⟩ = some (.func (.func 92) #[] #[.pointer (some ⟨n1b, 0, none⟩), .pointer (some ⟨n2b, 0, none⟩)]))
    (hst1 : W1.cell? ⟨sb, so + 1, none⟩ = some (.func (.func 86) #[.agg #[.slice fo q fc, .slice co q cc]] #[]))
    (hsb : sb < W1.heap.size) (h8 : ¬ E3 vb eb S0 sb) (hS0 : ∀ k, S0 k → k < vb) (hSl : ∀ k, S0 k → w0.heap.size ≤ k) (hJ0 : J 0 S0 W1)
    (h1 : w0.heap.size ≤ vb) (h2 : vb < eb) (h3 : eb < bb) (h4 : eb < bv) (h5 : eb < be) (h6 : eb < bs) (h7 : eb < l)
    (hbB : PB W1 bb (.slice fo q fc) (.slice co q cc)) (hbV : VB W1 bv (xs 0)) (hbE : Boxed W1 be 52 (.func (.func 130) #[] #[.pointer (some ⟨eb, 0, none⟩)])) (hbS : Boxed W1 bs 146 (.slice (some ⟨sb, so, none⟩) 2 sc)) (hl : W1.heap[l]? = some (.loop r))
    (hv : VB W1 vb (xs 0)) (he : Boxed W1 eb 25 (.int .i64 0)) (hx0 : Vv (xs 0))
    (hY : ∀ m x W, W.heap[l]? = some (.loop r) → (∃ y, VB W vb y) → YieldAt Fence.wide m Try.prog l #[PV x] W fun e W' => e = .returned (.bool true) ∧ But vb W W' ∧ VB W' vb x)
    (hstep0 : ∀ i S W, i < q → J (2 * i) S W → Below w0.heap.size w0 W → Vv (xs (2 * i)) → Calls Try.prog 92 #[.int .i64 (i : Nat), PV (xs (2 * i)), .pointer (some ⟨n1b, 0, none⟩), .pointer (some ⟨n2b, 0, none⟩)] W fun e W' => e = .returned (PV (xs (2 * i + 1))) ∧ Stp J (2 * i + 1) S W W')
    (hstep1 : ∀ i S W, i < q → J (2 * i + 1) S W → Below w0.heap.size w0 W → Vv (xs (2 * i + 1)) → Calls Try.prog 86 #[.agg #[.slice fo q fc, .slice co q cc], .int .i64 (i : Nat), PV (xs (2 * i + 1))] W fun e W' => e = .returned (PV (xs (2 * i + 1 + 1))) ∧ Stp J (2 * i + 1 + 1) S W W') :
    CallsIn Fence.wide n Try.prog 155 #[.func (.yield l) #[] #[], .pointer (some ⟨bv, 0, none⟩), .pointer (some ⟨bb, 0, none⟩), .pointer (some ⟨bs, 0, none⟩), .pointer (some ⟨be, 0, none⟩)] W1 fun e W' =>
      (∃ v, e = .returned v) ∧ Exc (E3 vb eb S0) W1 W' ∧ (((∀ k, k ≤ (2 * q) → Vv (xs k)) ∧ VB W' vb (xs (2 * q)) ∧ Boxed W' eb 25 (.int .i64 0) ∧ ∃ S, J (2 * q) S W' ∧ ∀ k, k < W1.heap.size → S k → S0 k) ∨ ((∃ k, k ≤ (2 * q) ∧ ¬ Vv (xs k)) ∧ Boxed W' eb 25 (.int .i64 3))) := by
  have hdd : ∀ k : Nat, (Fence.wide.depth.isSome = true → 1 ≤ k) := fun k h => by cases h
  have HY := Bx.mk hY
  have HB1 := Bx.mk hB1
  have HX0 := Bx.mk hx0
  have HJ := Bx.mk hJ
  have HS0 := Bx.mk hS0
  have HSl := Bx.mk hSl
  have HJ0 := Bx.mk hJ0
  have w01 := hB1.size
  have s1 := hbV.lt
  have s2 := hbB.lt
  have s3 := hbE.lt
  have s4 := hbS.lt
  have s5 := (Array.getElem?_eq_some_iff.1 hl).1
  have s6 := he.lt
  have a0 := hbV.c0
  have a1 := hbV.c1
  have a2 := hbV.c2
  have a3 := hbV.c3
  have a4 := hbV.c4
  have a5 := hbV.c5
  have HB0 := Bx.mk (Below.refl W1.heap.size W1 |>.alloc (Nat.le_refl _) (.cells #[.int .i64 0, .int .i64 0, .int .i64 0, .int .i64 0, .int .i64 0, .int .i64 0] 36))
  have bB0 := hbB.keep (HB0.out.block bb s2)
  have b0 := hbB.c0
  have n1 : bb ≠ W1.heap.size := by omega
  have n2 : W1.heap.size ≠ bb := by omega
  refine callsIn_of_wp Try.func155 rfl trivial ?_ rfl
  simp only [Try.ntmps155, List.size_toArray, List.length_cons, List.length_nil, Nat.reduceAdd, Nat.reduceSub, Array.replicate_succ, Array.replicate_zero, List.push_toArray, List.append_toArray, List.nil_append, List.cons_append]
  gi_wp2
  gi_loopw [14] (fun ix wr => ∃ i : Nat, ix = .int .i64 i ∧ i ≤ q ∧ Bx (Tj J S0 W1 W1.heap.size vb eb (2 * i) wr (xs (2 * i))) ∧ Bx (∀ k, k ≤ (2 * i) → Vv (xs k))) (fun ix _ => q - (intOf ix).toNat)
  case atStart =>
    refine ⟨0, rfl, Nat.zero_le _, ⟨?_⟩, ⟨fun k hk => ?_⟩⟩
    · have hB := (Below.refl W1.heap.size W1).alloc (Nat.le_refl _) (.cells #[.int .i64 (xs 0 0), .int .i64 (xs 0 1), .int .i64 (xs 0 2), .int .i64 (xs 0 3), .int .i64 (xs 0 4), .int .i64 (xs 0 5)] 36)
      exact ⟨VB.new W1 (xs 0), hv.keep (hB.block vb hv.lt), (hB.block eb s6).trans he, Exc.of_below hB, S0, HJ.out.keep _ _ W1 _ HJ0.out hB.size (fun b hb => hB.block b (HJ.out.lt _ _ _ b HJ0.out hb).2), fun h => absurd (HJ.out.lt _ _ _ _ HJ0.out h).2 (Nat.lt_irrefl _), fun _ _ h => h⟩
    · obtain rfl : k = 0 := by omega
      exact HX0.out
  case round =>
    obtain ⟨i, rfl, hiq, HT, HV⟩ := hrel
    by_cases hlt : i < q
    · have hlt' : (i : Int) < (q : Int) := by omega
      have bSr : Boxed wr bs _ _ := (HT.out.tw.block bs s4 (fun h => ne_e32 (by omega) (by omega) HS0.out h)).trans hbS
      have c1 := bSr.cell
      gi_wp2
      gi_loopw [19] (fun kx wk => (kx = .int .i64 0 ∧ Bx (Tj J S0 W1 W1.heap.size vb eb (2 * i) wk (xs (2 * i))) ∧ Bx (∀ k, k ≤ (2 * i) → Vv (xs k))) ∨ (kx = .int .i64 1 ∧ Bx (Tj J S0 W1 W1.heap.size vb eb (2 * i + 1) wk (xs (2 * i + 1))) ∧ Bx (∀ k, k ≤ (2 * i + 1) → Vv (xs k))) ∨ (kx = .int .i64 2 ∧ Bx (Tj J S0 W1 W1.heap.size vb eb (2 * i + 1 + 1) wk (xs (2 * i + 1 + 1))) ∧ Bx (∀ k, k ≤ (2 * i + 1 + 1) → Vv (xs k)))) (fun kx _ => 2 - (intOf kx).toNat)
      case atStart => exact .inl ⟨rfl, HT, HV⟩
      case round =>
        rcases hrel with ⟨rfl, HK, HKV⟩ | ⟨rfl, HK, HKV⟩ | ⟨rfl, HK, HKV⟩
        · have hK := HK.out
          obtain ⟨S, hJs, hSa, hSs⟩ := hK.st
          obtain ⟨x, hx⟩ : ∃ x, xs (2 * i) = x := ⟨_, rfl⟩
          obtain ⟨x', hx'⟩ : ∃ x', xs (2 * i + 1) = x' := ⟨_, rfl⟩
          have hBk := Bx.mk (hK.base HB1.out h1 h2 HSl.out)
          have HR0 := Bx.mk (hstep0 i S _ hlt hJs hBk.out (HKV.out _ (Nat.le_refl _)))
          rw [hx, hx'] at HR0
          rw [hx] at HK hK
          have c0 := hK.ta.c0
          have c2 := hK.ta.c1
          have c3 := hK.ta.c2
          have c4 := hK.ta.c3
          have c5 := hK.ta.c4
          have c6 := hK.ta.c5
          have hsk := hK.tw.size
          have hlk := hK.ta.lt
          have hst' := (cell_same (k := so) (hK.tw.block sb hsb (fun h => h8 h))).trans hst0
          have ne1 : be ≠ W1.heap.size := by omega
          have ne2 : W1.heap.size ≠ be := by omega
          have HE0 := Bx.mk hbE
          have HL0 := Bx.mk hl
          have HV0 := Bx.mk hv
          unfold PV at HR0
          clear hK hJs
          by_cases hn : Vv x'
          · gi_wp2_with (first
              | (refine ⟨trivial, ?_⟩; (try refine ⟨hdd _, ?_⟩); gi_at_call 92; refine (callsIn_wide.2 HR0.out).mono ?_; clear HR0; rintro e w2 ⟨rfl, S', hJ2, hX2, hS2⟩
                 have V2 := HK.out.ta.keep (hX2.block _ hlk hSa)
                 have f0 := V2.f 0
                 have f1 := V2.f 1
                 have f2 := V2.f 2
                 have f3 := V2.f 3
                 have f4 := V2.f 4
                 have f5 := V2.f 5
                 have d0 := V2.c0
                 have d1 := V2.c1
                 have d2 := V2.c2
                 have d3 := V2.c3
                 have d4 := V2.c4
                 have d5 := V2.c5
                 have E2 : Boxed w2 be _ _ := (mid_factj HK.out hSa hSs HS0.out hX2 s3 (by omega)).trans ((HK.out.tw.block be s3 (fun h => ne_e32 (by omega) (by omega) HS0.out h)).trans HE0.out)
                 have e2 := E2.cell
                 have HX2 := Bx.mk hX2
                 have HJ2 := Bx.mk hJ2
                 have HS2 := Bx.mk hS2
                 have HV3 := Bx.mk (V2.lit x')
                 have HEN := Bx.mk (fun W3 (hb : But W1.heap.size w2 W3) (hv3 : VB W3 W1.heap.size x') => (ends_go x' eb W3 hn (boxed_midj rfl HK.out hSs HS0.out HX2.out hb h2 s6)).mono (R' := fun e w4 => e = .returned (.bool false) ∧ Bx (VB w4 W1.heap.size x' ∧ VB w4 vb x ∧ Boxed w4 eb 25 (.int .i64 0) ∧ Exc (E3 vb eb S0) W1 w4 ∧ w4.heap[l]? = some (.loop r) ∧ J (2 * i + 1) S' w4 ∧ ¬ S' W1.heap.size ∧ (∀ k, k < W1.heap.size → S' k → S0 k))) fun e w4 h => ⟨h.1, ⟨go_factj HJ.out rfl HK.out hSa hSs HS0.out HX2.out HJ2.out HS2.out hb hv3 (by omega) s6 s5 h2 h7 HL0.out h.2⟩⟩)
                 unfold PV at HEN
                 clear V2 hX2 hJ2 hS2)
              | (refine ⟨trivial, ?_⟩; (try refine ⟨hdd _, ?_⟩); gi_at_call 130; refine (callsIn_wide.2 (HEN.out _ (but_lit W1.heap.size w2 x') HV3.out)).mono ?_; clear HEN; rintro e w4 ⟨rfl, HG⟩
                 have g0 := HG.out.1.c0
                 have g1 := HG.out.1.c1
                 have g2 := HG.out.1.c2
                 have g3 := HG.out.1.c3
                 have g4 := HG.out.1.c4
                 have g5 := HG.out.1.c5
                 obtain ⟨fn, tmps, assign, body, hy, hR⟩ := HY.out (n - 1) x' w4 HG.out.2.2.2.2.1 ⟨_, HG.out.2.1⟩
                 unfold PV at hy)
              | ((try refine ⟨hdd _, ?_⟩); refine hR.mono ?_; clear hR; rintro e w5 ⟨rfl, hb5, hv5⟩))
            go_roundw
            case rel =>
              obtain ⟨G1, G2, G3, G4, G5, G6, G7, G8⟩ := HG.out
              exact .inr (.inl ⟨rfl, ⟨by rw [hx']; exact on_factj HJ.out HS0.out (by omega) s6 h2 (by omega) ⟨G1, G2, G3, G4, G6, G7, G8⟩ hb5 hv5⟩, ⟨fun k hk => vv_step2 HKV.out (by rw [hx']; exact hn) k hk⟩⟩)
            case measure => simp [intOf]
          · gi_wp2_with (first
              | (refine ⟨trivial, ?_⟩; (try refine ⟨hdd _, ?_⟩); gi_at_call 92; refine (callsIn_wide.2 HR0.out).mono ?_; clear HR0; rintro e w2 ⟨rfl, S', hJ2, hX2, hS2⟩
                 have V2 := HK.out.ta.keep (hX2.block _ hlk hSa)
                 have f0 := V2.f 0
                 have f1 := V2.f 1
                 have f2 := V2.f 2
                 have f3 := V2.f 3
                 have f4 := V2.f 4
                 have f5 := V2.f 5
                 have d0 := V2.c0
                 have d1 := V2.c1
                 have d2 := V2.c2
                 have d3 := V2.c3
                 have d4 := V2.c4
                 have d5 := V2.c5
                 have E2 : Boxed w2 be _ _ := (mid_factj HK.out hSa hSs HS0.out hX2 s3 (by omega)).trans ((HK.out.tw.block be s3 (fun h => ne_e32 (by omega) (by omega) HS0.out h)).trans HE0.out)
                 have e2 := E2.cell
                 have HX2 := Bx.mk hX2
                 have HJ2 := Bx.mk hJ2
                 have HS2 := Bx.mk hS2
                 have HV3 := Bx.mk (V2.lit x')
                 have HEN := Bx.mk (fun W3 (hb : But W1.heap.size w2 W3) (_ : VB W3 W1.heap.size x') => (ends_stop x' eb W3 hn (boxed_midj rfl HK.out hSs HS0.out HX2.out hb h2 s6)).mono (R' := fun e w4 => e = .returned (.bool true) ∧ Bx (Boxed w4 eb 25 (.int .i64 3) ∧ Exc (E3 vb eb S0) W1 w4)) fun e w4 h => by
                   obtain ⟨he, w5, hb5, rfl⟩ := h
                   exact ⟨he, ⟨stop_factj rfl HK.out hSs HS0.out HX2.out hb h2 s6 hb5.out⟩⟩)
                 unfold PV at HEN
                 clear V2 hX2 hJ2 hS2)
              | (refine ⟨trivial, ?_⟩; (try refine ⟨hdd _, ?_⟩); gi_at_call 130; refine (callsIn_wide.2 (HEN.out _ (but_lit W1.heap.size w2 x') HV3.out)).mono ?_; clear HEN; rintro e w4 ⟨rfl, HG⟩))
            refine ⟨fun f h => (by cases h), ?_⟩
            gi_wp2
            exact ⟨rfl, _, by simp [results, Try.results155, go_sem]; rfl, ⟨_, rfl⟩, HG.out.2, .inr ⟨⟨(2 * i + 1), by omega, by rw [hx']; exact hn⟩, HG.out.1⟩⟩
        · have hK := HK.out
          obtain ⟨S, hJs, hSa, hSs⟩ := hK.st
          obtain ⟨x, hx⟩ : ∃ x, xs (2 * i + 1) = x := ⟨_, rfl⟩
          obtain ⟨x', hx'⟩ : ∃ x', xs (2 * i + 1 + 1) = x' := ⟨_, rfl⟩
          have hBk := Bx.mk (hK.base HB1.out h1 h2 HSl.out)
          have HR0 := Bx.mk (hstep1 i S _ hlt hJs hBk.out (HKV.out _ (Nat.le_refl _)))
          rw [hx, hx'] at HR0
          rw [hx] at HK hK
          have c0 := hK.ta.c0
          have c2 := hK.ta.c1
          have c3 := hK.ta.c2
          have c4 := hK.ta.c3
          have c5 := hK.ta.c4
          have c6 := hK.ta.c5
          have hsk := hK.tw.size
          have hlk := hK.ta.lt
          have hst' := (cell_same (k := so + 1) (hK.tw.block sb hsb (fun h => h8 h))).trans hst1
          have ne1 : be ≠ W1.heap.size := by omega
          have ne2 : W1.heap.size ≠ be := by omega
          have HE0 := Bx.mk hbE
          have HL0 := Bx.mk hl
          have HV0 := Bx.mk hv
          unfold PV at HR0
          clear hK hJs
          by_cases hn : Vv x'
          · gi_wp2_with (first
              | (refine ⟨trivial, ?_⟩; (try refine ⟨hdd _, ?_⟩); gi_at_call 86; refine (callsIn_wide.2 HR0.out).mono ?_; clear HR0; rintro e w2 ⟨rfl, S', hJ2, hX2, hS2⟩
                 have V2 := HK.out.ta.keep (hX2.block _ hlk hSa)
                 have f0 := V2.f 0
                 have f1 := V2.f 1
                 have f2 := V2.f 2
                 have f3 := V2.f 3
                 have f4 := V2.f 4
                 have f5 := V2.f 5
                 have d0 := V2.c0
                 have d1 := V2.c1
                 have d2 := V2.c2
                 have d3 := V2.c3
                 have d4 := V2.c4
                 have d5 := V2.c5
                 have E2 : Boxed w2 be _ _ := (mid_factj HK.out hSa hSs HS0.out hX2 s3 (by omega)).trans ((HK.out.tw.block be s3 (fun h => ne_e32 (by omega) (by omega) HS0.out h)).trans HE0.out)
                 have e2 := E2.cell
                 have HX2 := Bx.mk hX2
                 have HJ2 := Bx.mk hJ2
                 have HS2 := Bx.mk hS2
                 have HV3 := Bx.mk (V2.lit x')
                 have HEN := Bx.mk (fun W3 (hb : But W1.heap.size w2 W3) (hv3 : VB W3 W1.heap.size x') => (ends_go x' eb W3 hn (boxed_midj rfl HK.out hSs HS0.out HX2.out hb h2 s6)).mono (R' := fun e w4 => e = .returned (.bool false) ∧ Bx (VB w4 W1.heap.size x' ∧ VB w4 vb x ∧ Boxed w4 eb 25 (.int .i64 0) ∧ Exc (E3 vb eb S0) W1 w4 ∧ w4.heap[l]? = some (.loop r) ∧ J (2 * i + 1 + 1) S' w4 ∧ ¬ S' W1.heap.size ∧ (∀ k, k < W1.heap.size → S' k → S0 k))) fun e w4 h => ⟨h.1, ⟨go_factj HJ.out rfl HK.out hSa hSs HS0.out HX2.out HJ2.out HS2.out hb hv3 (by omega) s6 s5 h2 h7 HL0.out h.2⟩⟩)
                 unfold PV at HEN
                 clear V2 hX2 hJ2 hS2)
              | (refine ⟨trivial, ?_⟩; (try refine ⟨hdd _, ?_⟩); gi_at_call 130; refine (callsIn_wide.2 (HEN.out _ (but_lit W1.heap.size w2 x') HV3.out)).mono ?_; clear HEN; rintro e w4 ⟨rfl, HG⟩
                 have g0 := HG.out.1.c0
                 have g1 := HG.out.1.c1
                 have g2 := HG.out.1.c2
                 have g3 := HG.out.1.c3
                 have g4 := HG.out.1.c4
                 have g5 := HG.out.1.c5
                 obtain ⟨fn, tmps, assign, body, hy, hR⟩ := HY.out (n - 1) x' w4 HG.out.2.2.2.2.1 ⟨_, HG.out.2.1⟩
                 unfold PV at hy)
              | ((try refine ⟨hdd _, ?_⟩); refine hR.mono ?_; clear hR; rintro e w5 ⟨rfl, hb5, hv5⟩))
            go_roundw
            case rel =>
              obtain ⟨G1, G2, G3, G4, G5, G6, G7, G8⟩ := HG.out
              exact .inr (.inr (⟨rfl, ⟨by rw [hx']; exact on_factj HJ.out HS0.out (by omega) s6 h2 (by omega) ⟨G1, G2, G3, G4, G6, G7, G8⟩ hb5 hv5⟩, ⟨fun k hk => vv_step2 HKV.out (by rw [hx']; exact hn) k hk⟩⟩))
            case measure => simp [intOf]
          · gi_wp2_with (first
              | (refine ⟨trivial, ?_⟩; (try refine ⟨hdd _, ?_⟩); gi_at_call 86; refine (callsIn_wide.2 HR0.out).mono ?_; clear HR0; rintro e w2 ⟨rfl, S', hJ2, hX2, hS2⟩
                 have V2 := HK.out.ta.keep (hX2.block _ hlk hSa)
                 have f0 := V2.f 0
                 have f1 := V2.f 1
                 have f2 := V2.f 2
                 have f3 := V2.f 3
                 have f4 := V2.f 4
                 have f5 := V2.f 5
                 have d0 := V2.c0
                 have d1 := V2.c1
                 have d2 := V2.c2
                 have d3 := V2.c3
                 have d4 := V2.c4
                 have d5 := V2.c5
                 have E2 : Boxed w2 be _ _ := (mid_factj HK.out hSa hSs HS0.out hX2 s3 (by omega)).trans ((HK.out.tw.block be s3 (fun h => ne_e32 (by omega) (by omega) HS0.out h)).trans HE0.out)
                 have e2 := E2.cell
                 have HX2 := Bx.mk hX2
                 have HJ2 := Bx.mk hJ2
                 have HS2 := Bx.mk hS2
                 have HV3 := Bx.mk (V2.lit x')
                 have HEN := Bx.mk (fun W3 (hb : But W1.heap.size w2 W3) (_ : VB W3 W1.heap.size x') => (ends_stop x' eb W3 hn (boxed_midj rfl HK.out hSs HS0.out HX2.out hb h2 s6)).mono (R' := fun e w4 => e = .returned (.bool true) ∧ Bx (Boxed w4 eb 25 (.int .i64 3) ∧ Exc (E3 vb eb S0) W1 w4)) fun e w4 h => by
                   obtain ⟨he, w5, hb5, rfl⟩ := h
                   exact ⟨he, ⟨stop_factj rfl HK.out hSs HS0.out HX2.out hb h2 s6 hb5.out⟩⟩)
                 unfold PV at HEN
                 clear V2 hX2 hJ2 hS2)
              | (refine ⟨trivial, ?_⟩; (try refine ⟨hdd _, ?_⟩); gi_at_call 130; refine (callsIn_wide.2 (HEN.out _ (but_lit W1.heap.size w2 x') HV3.out)).mono ?_; clear HEN; rintro e w4 ⟨rfl, HG⟩))
            refine ⟨fun f h => (by cases h), ?_⟩
            gi_wp2
            exact ⟨rfl, _, by simp [results, Try.results155, go_sem]; rfl, ⟨_, rfl⟩, HG.out.2, .inr ⟨⟨(2 * i + 1 + 1), by omega, by rw [hx']; exact hn⟩, HG.out.1⟩⟩
        · gi_wp2
          go_roundw
          case rel => exact ⟨i + 1, by simp, by omega, HK, HKV⟩
          case measure => simp [intOf]; omega
    · obtain rfl : i = q := by omega
      gi_wp2
      obtain ⟨S, hJs, _, hSs⟩ := HT.out.st
      exact ⟨rfl, _, by simp [results, Try.results155, go_sem]; rfl, ⟨_, rfl⟩, HT.out.tw, .inl ⟨HV.out, HT.out.tv, HT.out.te, S, hJs, hSs⟩⟩
end Go.Proofs.Ytnbamjoadankmaa
/- The program's lattice: the last remainder, with the step that notes the coefficients. -/
namespace Go.Proofs.Ytnbamjoadankmaa
open Go.RowKit Go.Shelf D
attribute [local go_sem] Oper.semAt_some run_store_fn
set_option maxRecDepth 100000 in
set_option maxHeartbeats 16000000 in
theorem last_noted (w0 : World) (fo co : Option Addr) (fc cc q : Nat) (n1b n2b : Nat) (xs : Nat → Nat → Int) (J : Nat → (Nat → Prop) → World → Prop) (S0 : Nat → Prop) (sb so sc : Nat) (w : World) (hJ : Sst w0 J) (hq6 : q ≤ 6) (lf : q ≤ fc) (hBw : Below w0.heap.size w0 w)
    (hst0 : w.cell? ⟨sb, so, none⟩ = some (.func (.func 127) #[] #[.pointer (some ⟨n1b, 0, none⟩), .pointer (some ⟨n2b, 0, none⟩)]))
    (hsb : sb < w.heap.size) (h8 : ¬ S0 sb) (hSl : ∀ k, S0 k → w0.heap.size ≤ k) (hJ0 : J 0 S0 w) (hx0 : Vv (xs 0))
    (hstep0 : ∀ i S W, i < q → J i S W → Below w0.heap.size w0 W → Vv (xs i) → Calls Try.prog 127 #[.int .i64 (i : Nat), PV (xs i), .pointer (some ⟨n1b, 0, none⟩), .pointer (some ⟨n2b, 0, none⟩)] W fun e W' => e = .returned (PV (xs (i + 1))) ∧ Stp J (i + 1) S W W') :
    Calls Try.prog 85 #[.agg #[.slice fo q fc, .slice co q cc], PV (xs 0), .slice (some ⟨sb, so, none⟩) 1 sc] w fun e w' =>
      ((e = .returned (.tuple #[PV (xs q), .int .i64 0]) ∧ (∀ k, k ≤ q → Vv (xs k)) ∧ ∃ S, J q S w') ∨ (e = .returned (.tuple #[PV fun _ => 0, .int .i64 3]) ∧ ∃ k, k ≤ q ∧ ¬ Vv (xs k))) ∧ Below w0.heap.size w0 w' := by
  refine (callsIn_wide (n := 9)).1 ?_
  have HT0 := Bx.mk hstep0
  have HX0 := Bx.mk hx0
  have HJ := Bx.mk hJ
  have HSl := Bx.mk hSl
  have HJ0 := Bx.mk hJ0
  have HBw := Bx.mk hBw
  have hw0 := hBw.size
  have HS0 := Bx.mk (fun k (h : S0 k) => (hJ.lt _ _ _ k hJ0 h).2)
  clear hJ hJ0 hSl hBw hstep0
  have HRE := Bx.mk (fun (x y : Value) eb so m sc W => remainders_any x y (xs 0) eb so m sc W)
  unfold PV at HRE ⊢
  refine callsIn_of_wp_marks Try.func85 rfl trivial ?_ rfl
  simp only [Try.ntmps85, List.size_toArray, List.length_cons, List.length_nil, Nat.reduceAdd, Nat.reduceSub, Array.replicate_succ, Array.replicate_zero, List.push_toArray, List.append_toArray, List.nil_append, List.cons_append]
  gi_wp2_with (refine ⟨trivial, ?_⟩; gi_at_call 131; refine (callsIn_wide.2 (HRE.out _ _ _ _ _ _ _)).mono ?_; rintro e w' ⟨rfl, rfl⟩)
  obtain ⟨V0, hV0⟩ : ∃ V0, ((((w.alloc (.cells #[.slice fo q fc, .slice co q cc] 100)).alloc (.cells #[.int .i64 ((xs 0) 0), .int .i64 ((xs 0) 1), .int .i64 ((xs 0) 2), .int .i64 ((xs 0) 3), .int .i64 ((xs 0) 4), .int .i64 ((xs 0) 5)] 36)).alloc (.cells #[.int .i64 0, .int .i64 0, .int .i64 0, .int .i64 0, .int .i64 0, .int .i64 0] 36)).alloc (.cells #[.int .i64 0] 25)) = V0 := ⟨_, rfl⟩
  obtain ⟨hv1, hv2, hv3, hv4, hv5⟩ := fourl_boxes w (.slice fo q fc) (.slice co q cc) (xs 0)
  rw [hV0] at hv1 hv2 hv3 hv4 hv5 ⊢
  clear hV0
  obtain ⟨W0, hW0⟩ : ∃ W0, fourw V0 (.slice fo q fc) (.slice co q cc) (xs 0) (.func (.func 130) #[] #[.pointer (some ⟨w.heap.size + 1 + 1 + 1, 0, none⟩)]) (.slice (some ⟨sb, so, none⟩) 1 sc) = W0 := ⟨_, rfl⟩
  obtain ⟨hw1, hw2, hw3, hw4, hw5, hw6⟩ := fourw_boxes V0 (.slice fo q fc) (.slice co q cc) (xs 0) (.func (.func 130) #[] #[.pointer (some ⟨w.heap.size + 1 + 1 + 1, 0, none⟩)]) (.slice (some ⟨sb, so, none⟩) 1 sc)
  rw [hW0] at hw1 hw2 hw3 hw4 hw5 hw6 ⊢
  clear hW0
  have hs0 : W0.heap.size = w.heap.size + 8 := by omega
  rw [hv5] at hw1 hw2 hw3 hw4
  have hB0 : Below w.heap.size w W0 := hv4.trans (hw5.mono (by omega))
  have hv1' : VB W0 (w.heap.size + 1) (xs 0) := hv1.keep (hw5.block _ (by omega))
  have hv2' : VB W0 (w.heap.size + 1 + 1) (fun _ => 0) := hv2.keep (hw5.block _ (by omega))
  have hv3' : Boxed W0 (w.heap.size + 1 + 1 + 1) 25 (.int .i64 0) := (hw5.block _ (by omega)).trans hv3
  refine vec_loop rfl (by omega) (gf := 155) (lb := #[.pointer (some ⟨w.heap.size + 1 + 1 + 1 + 1 + 1, 0, none⟩), .pointer (some ⟨w.heap.size + 1 + 1 + 1 + 1, 0, none⟩), .pointer (some ⟨w.heap.size + 1 + 1 + 1 + 1 + 1 + 1 + 1, 0, none⟩), .pointer (some ⟨w.heap.size + 1 + 1 + 1 + 1 + 1 + 1, 0, none⟩)]) rfl trivial (enters_of Try.func155 (by kernel_rfl) rfl) rfl (w.heap.size + 1) (by omega)
    (fun x => .agg #[.int .i64 (x 0), .int .i64 (x 1), .int .i64 (x 2), .int .i64 (x 3), .int .i64 (x 4), .int .i64 (x 5)])
    (fun x b => { tmps := #[.agg #[.slice fo q fc, .slice co q cc], .agg #[.int .i64 ((xs 0) 0), .int .i64 ((xs 0) 1), .int .i64 ((xs 0) 2), .int .i64 ((xs 0) 3), .int .i64 ((xs 0) 4), .int .i64 ((xs 0) 5)], .slice (some ⟨sb, so, none⟩) 1 sc, .pointer (some ⟨w.heap.size, 0, none⟩), .pointer (some ⟨w.heap.size + 1, 0, none⟩), undef, .pointer (some ⟨w.heap.size + 1 + 1, 0, none⟩), .int .i64 0, .pointer (some ⟨w.heap.size + 1 + 1 + 1, 0, none⟩), .func (.func 130) #[] #[.pointer (some ⟨w.heap.size + 1 + 1 + 1, 0, none⟩)], .pointer (some ⟨b, 0, none⟩), .func (.func 130) #[] #[.pointer (some ⟨w.heap.size + 1 + 1 + 1, 0, none⟩)], .agg #[.slice fo q fc, .slice co q cc], .agg #[.int .i64 ((xs 0) 0), .int .i64 ((xs 0) 1), .int .i64 ((xs 0) 2), .int .i64 ((xs 0) 3), .int .i64 ((xs 0) 4), .int .i64 ((xs 0) 5)], .func (.func 130) #[] #[.pointer (some ⟨w.heap.size + 1 + 1 + 1, 0, none⟩)], .slice (some ⟨sb, so, none⟩) 1 sc, .func (.func 155) #[] #[.pointer (some ⟨w.heap.size + 1 + 1 + 1 + 1 + 1, 0, none⟩), .pointer (some ⟨w.heap.size + 1 + 1 + 1 + 1, 0, none⟩), .pointer (some ⟨w.heap.size + 1 + 1 + 1 + 1 + 1 + 1 + 1, 0, none⟩), .pointer (some ⟨w.heap.size + 1 + 1 + 1 + 1 + 1 + 1, 0, none⟩)], .agg #[.int .i64 (x 0), .int .i64 (x 1), .int .i64 (x 2), .int .i64 (x 3), .int .i64 (x 4), .int .i64 (x 5)], undef, undef, undef, undef, undef, undef], defers := [] })
    ?assign ?body
    (fun W => Below w0.heap.size w0 W ∧ VB W (w.heap.size + 1 + 1) (fun _ => 0) ∧ (((∀ k, k ≤ q → Vv (xs k)) ∧ VB W (w.heap.size + 1) (xs q) ∧ Boxed W (w.heap.size + 1 + 1 + 1) 25 (.int .i64 0) ∧ ∃ S, J q S W ∧ ∀ k, k < w.heap.size + 10 → S k → k < w.heap.size) ∨ ((∃ k, k ≤ q ∧ ¬ Vv (xs k)) ∧ Boxed W (w.heap.size + 1 + 1 + 1) 25 (.int .i64 3))))
    (fun A o h => have hb := below_put A (n := W0.heap.size) (l := W0.heap.size + 1) (by omega) o; ⟨h.1.trans (hb.mono (by omega)), h.2.1.keep (hb.block _ (by omega)), h.2.2.imp (fun h => ⟨h.1, h.2.1.keep (hb.block _ (by omega)), (hb.block _ (by omega)).trans h.2.2.1, by
      obtain ⟨S, h1, h2⟩ := h.2.2.2
      exact ⟨S, HJ.out.keep _ _ A _ h1 hb.size (fun b hs => World.putObj_heap_other (fun e => by have := h2 b (by omega) hs; omega)), h2⟩⟩) (fun h => ⟨h.1, (hb.block _ (by omega)).trans h.2⟩)⟩)
    ?call ?done
  case assign =>
    intro l x W
    gi_wp2
    exact ⟨trivial, (Below.refl _ W).alloc (Nat.le_refl _) _, VB.new W x⟩
  case body =>
    intro l x b W y hb hy hne
    have c0 := hb.c0
    have c1 := hb.c1
    have c2 := hb.c2
    have c3 := hb.c3
    have c4 := hb.c4
    have c5 := hb.c5
    have f0 := hy.f 0
    have f1 := hy.f 1
    have f2 := hy.f 2
    have f3 := hy.f 3
    have f4 := hy.f 4
    have f5 := hy.f 5
    have d0 := hy.c0
    have d1 := hy.c1
    have d2 := hy.c2
    have d3 := hy.c3
    have d4 := hy.c4
    have d5 := hy.c5
    gi_wp2
    simp only [six6, Nat.zero_add]
  case call =>
    intro r W1 hB hsz hl hY
    have hb1 := fun k (hk : k < w.heap.size + 8) => hB.block k (by omega)
    have hBW1 : Below w.heap.size w W1 := hB0.trans (hB.mono (by omega))
    have hBW0 : Below w0.heap.size w0 W1 := HBw.out.trans (hBW1.mono hw0)
    refine (rem_noted (9 - 1) w0 W1 (W0.heap.size + 1) r fo co fc cc q n1b n2b xs J S0 sb so sc (w.heap.size + 1 + 1 + 1 + 1 + 1) (w.heap.size + 1 + 1 + 1 + 1) (w.heap.size + 1 + 1 + 1 + 1 + 1 + 1 + 1) (w.heap.size + 1 + 1 + 1 + 1 + 1 + 1) (w.heap.size + 1) (w.heap.size + 1 + 1 + 1)
      HJ.out hq6 lf hBW0 ((cell_same (hBW1.block sb hsb)).trans hst0) (by have := hBW1.size; omega) (fun h => by rcases h with h | h | h; (· omega); (· omega); (· exact h8 h)) (fun k hk => by have := HS0.out k hk; omega) HSl.out (HJ.out.keep _ _ w _ HJ0.out hBW1.size (fun b hb => hBW1.block b (HS0.out b hb)))
      (by omega) (by omega) (by omega) (by omega) (by omega) (by omega) (by omega) (hw1.keep (hb1 _ (by omega))) (hw2.keep (hb1 _ (by omega))) ((hb1 _ (by omega)).trans hw3) ((hb1 _ (by omega)).trans hw4) hl (hv1'.keep (hb1 _ (by omega))) ((hb1 _ (by omega)).trans hv3') HX0.out (fun m x W h1 h2 => yield_any rfl m (hY x W h1 h2)) HT0.out).mono ?_
    rintro e W' ⟨h1, h2, h3⟩
    have nE : ∀ k, w.heap.size ≤ k → k ≠ w.heap.size + 1 → k ≠ w.heap.size + 1 + 1 + 1 → ¬ E3 (w.heap.size + 1) (w.heap.size + 1 + 1 + 1) S0 k := fun k k1 k2 k3 h => by
      rcases h with h | h | h
      · exact k2 h
      · exact k3 h
      · have := HS0.out k h; omega
    refine ⟨h1, h2.size, fun k hk hk2 => h2.block k hk2 (nE k (by omega) (by omega) (by omega)), h2.base hBW0 (fun k hk => by
      rcases hk with hk | hk | hk
      · omega
      · omega
      · exact HSl.out k hk), (hv2'.keep (hb1 _ (by omega))).keep (h2.block _ (by omega) (nE _ (by omega) (by omega) (by omega))), ?_⟩
    rcases h3 with ⟨g1, g2, g3, S, g4, g5⟩ | h3
    · exact .inl ⟨g1, g2, g3, S, g4, fun k k1 k2 => HS0.out k (g5 k (by omega) k2)⟩
    · exact .inr h3
  case done =>
    rintro W ⟨hB, hv2, hR⟩ hs hD
    rcases hR with ⟨hk, hv, he, S, hJS, hSb⟩ | ⟨hk, he⟩
    · have ce := he.cell
      obtain ⟨x, hx⟩ : ∃ x, xs q = x := ⟨_, rfl⟩
      rw [hx] at hv
      have c0 := hv.c0
      have c1 := hv.c1
      have c2 := hv.c2
      have c3 := hv.c3
      have c4 := hv.c4
      have c5 := hv.c5
      have f0 := hv2.f 0
      have f1 := hv2.f 1
      have f2 := hv2.f 2
      have f3 := hv2.f 3
      have f4 := hv2.f 4
      have f5 := hv2.f 5
      have d0 := hv2.c0
      have d1 := hv2.c1
      have d2 := hv2.c2
      have d3 := hv2.c3
      have d4 := hv2.c4
      have d5 := hv2.c5
      have hb6 := but_lit (w.heap.size + 1 + 1) W x
      have V6 := hv2.lit x
      have hlD : W0.heap.size < W.heap.size := (Array.getElem?_eq_some_iff.1 hD).1
      have hK := (hb6.block W0.heap.size hlD (by omega)).trans hD
      have hBB := hB.trans (but_below hb6 (n := w0.heap.size) (by omega) (by omega))
      gi_wp2
      refine ⟨by simp, .inl ⟨_, _, rfl, run_takeDeferred hK, ?_⟩⟩
      have V7 := V6.keep (W' := World.putObj _ W0.heap.size (.deferred none)) (World.putObj_heap_other (by omega))
      have e0 := V7.c0
      have e1 := V7.c1
      have e2 := V7.c2
      have e3 := V7.c3
      have e4 := V7.c4
      have e5 := V7.c5
      refine ⟨.tuple #[.agg #[.int .i64 (x 0), .int .i64 (x 1), .int .i64 (x 2), .int .i64 (x 3), .int .i64 (x 4), .int .i64 (x 5)], .int .i64 0], ?_, .inl ⟨by rw [hx], hk, S, ?_⟩, hBB.trans (below_put _ (by omega) _)⟩
      · simp [results, Try.results85, go_sem, e0, e1, e2, e3, e4, e5]
      · exact HJ.out.keep _ _ W _ hJS (by have := hb6.size; simp only [World.putObj_size]; exact this) (fun b hs => (World.putObj_heap_other (fun e => by have := hSb b (by omega) hs; omega)).trans (hb6.block b (HJ.out.lt _ _ _ b hJS hs).2 (fun e => by have := hSb b (by omega) hs; omega)))
    · have ce := he.cell
      have f0 := hv2.f 0
      have f1 := hv2.f 1
      have f2 := hv2.f 2
      have f3 := hv2.f 3
      have f4 := hv2.f 4
      have f5 := hv2.f 5
      have d0 := hv2.c0
      have d1 := hv2.c1
      have d2 := hv2.c2
      have d3 := hv2.c3
      have d4 := hv2.c4
      have d5 := hv2.c5
      gi_wp2
      gi_region
      gi_wp2
      have hb6 : But (w.heap.size + 1 + 1) W ((((((W.setCell ⟨w.heap.size + 1 + 1, 0, none⟩ (.int .i64 0)).setCell ⟨w.heap.size + 1 + 1, 1, none⟩ (.int .i64 0)).setCell ⟨w.heap.size + 1 + 1, 2, none⟩ (.int .i64 0)).setCell ⟨w.heap.size + 1 + 1, 3, none⟩ (.int .i64 0)).setCell ⟨w.heap.size + 1 + 1, 4, none⟩ (.int .i64 0)).setCell ⟨w.heap.size + 1 + 1, 5, none⟩ (.int .i64 0)) := but_lit (w.heap.size + 1 + 1) W (fun _ => 0)
      have V6 : VB ((((((W.setCell ⟨w.heap.size + 1 + 1, 0, none⟩ (.int .i64 0)).setCell ⟨w.heap.size + 1 + 1, 1, none⟩ (.int .i64 0)).setCell ⟨w.heap.size + 1 + 1, 2, none⟩ (.int .i64 0)).setCell ⟨w.heap.size + 1 + 1, 3, none⟩ (.int .i64 0)).setCell ⟨w.heap.size + 1 + 1, 4, none⟩ (.int .i64 0)).setCell ⟨w.heap.size + 1 + 1, 5, none⟩ (.int .i64 0)) (w.heap.size + 1 + 1) (fun _ => 0) := hv2.lit (fun _ => 0)
      obtain ⟨Z, hZ⟩ : ∃ Z, ((((((W.setCell ⟨w.heap.size + 1 + 1, 0, none⟩ (.int .i64 0)).setCell ⟨w.heap.size + 1 + 1, 1, none⟩ (.int .i64 0)).setCell ⟨w.heap.size + 1 + 1, 2, none⟩ (.int .i64 0)).setCell ⟨w.heap.size + 1 + 1, 3, none⟩ (.int .i64 0)).setCell ⟨w.heap.size + 1 + 1, 4, none⟩ (.int .i64 0)).setCell ⟨w.heap.size + 1 + 1, 5, none⟩ (.int .i64 0)) = Z := ⟨_, rfl⟩
      rw [hZ] at hb6 V6 ⊢
      clear hZ
      have hlD : W0.heap.size < W.heap.size := (Array.getElem?_eq_some_iff.1 hD).1
      have hK : Z.drew.heap[W0.heap.size]? = _ := (hb6.block W0.heap.size hlD (by omega)).trans hD
      have hBB := below_drew (hB.trans (but_below hb6 (n := w0.heap.size) (by omega) (by omega)))
      have V6' : VB Z.drew (w.heap.size + 1 + 1) (fun _ => 0) := V6
      refine ⟨by simp, .inl ⟨_, _, rfl, run_takeDeferred hK, ?_⟩⟩
      have V7 := V6'.keep (W' := World.putObj _ W0.heap.size (.deferred none)) (World.putObj_heap_other (by omega))
      have e0 := V7.c0
      have e1 := V7.c1
      have e2 := V7.c2
      have e3 := V7.c3
      have e4 := V7.c4
      have e5 := V7.c5
      refine ⟨.tuple #[.agg #[.int .i64 0, .int .i64 0, .int .i64 0, .int .i64 0, .int .i64 0, .int .i64 0], .int .i64 3], ?_, .inr ⟨rfl, hk⟩, hBB.trans (below_put _ (by omega) _)⟩
      simp [results, Try.results85, go_sem, e0, e1, e2, e3, e4, e5]
end Go.Proofs.Ytnbamjoadankmaa
/- The program's lattice: the last remainder, with the two steps of an order. -/
namespace Go.Proofs.Ytnbamjoadankmaa
open Go.RowKit Go.Shelf D
attribute [local go_sem] Oper.semAt_some run_store_fn
set_option maxRecDepth 100000 in
set_option maxHeartbeats 16000000 in
theorem last_mult (w0 : World) (fo co : Option Addr) (fc cc q : Nat) (n1b n2b : Nat) (xs : Nat → Nat → Int) (J : Nat → (Nat → Prop) → World → Prop) (S0 : Nat → Prop) (sb so sc : Nat) (w : World) (hJ : Sst w0 J) (hq6 : q ≤ 6) (lf : q ≤ fc) (hBw : Below w0.heap.size w0 w)
    (hst0 : w.cell? ⟨sb, so, none⟩ = some (.func (.func 92) #[] #[.pointer (some ⟨n1b, 0, none⟩), .pointer (some ⟨n2b, 0, none⟩)]))
    (hst1 : w.cell? ⟨sb, so + 1, none⟩ = some (.func (.func 86) #[.agg #[.slice fo q fc, .slice co q cc]] #[]))
    (hsb : sb < w.heap.size) (h8 : ¬ S0 sb) (hSl : ∀ k, S0 k → w0.heap.size ≤ k) (hJ0 : J 0 S0 w) (hx0 : Vv (xs 0))
    (hstep0 : ∀ i S W, i < q → J (2 * i) S W → Below w0.heap.size w0 W → Vv (xs (2 * i)) → Calls Try.prog 92 #[.int .i64 (i : Nat), PV (xs (2 * i)), .pointer (some ⟨n1b, 0, none⟩), .pointer (some ⟨n2b, 0, none⟩)] W fun e W' => e = .returned (PV (xs (2 * i + 1))) ∧ Stp J (2 * i + 1) S W W')
    (hstep1 : ∀ i S W, i < q → J (2 * i + 1) S W → Below w0.heap.size w0 W → Vv (xs (2 * i + 1)) → Calls Try.prog 86 #[.agg #[.slice fo q fc, .slice co q cc], .int .i64 (i : Nat), PV (xs (2 * i + 1))] W fun e W' => e = .returned (PV (xs (2 * i + 1 + 1))) ∧ Stp J (2 * i + 1 + 1) S W W') :
    Calls Try.prog 85 #[.agg #[.slice fo q fc, .slice co q cc], PV (xs 0), .slice (some ⟨sb, so, none⟩) 2 sc] w fun e w' =>
      ((e = .returned (.tuple #[PV (xs (2 * q)), .int .i64 0]) ∧ (∀ k, k ≤ (2 * q) → Vv (xs k)) ∧ ∃ S, J (2 * q) S w') ∨ (e = .returned (.tuple #[PV fun _ => 0, .int .i64 3]) ∧ ∃ k, k ≤ (2 * q) ∧ ¬ Vv (xs k))) ∧ Below w0.heap.size w0 w' := by
  refine (callsIn_wide (n := 9)).1 ?_
  have HT0 := Bx.mk hstep0
  have HT1 := Bx.mk hstep1
  have HX0 := Bx.mk hx0
  have HJ := Bx.mk hJ
  have HSl := Bx.mk hSl
  have HJ0 := Bx.mk hJ0
  have HBw := Bx.mk hBw
  have hw0 := hBw.size
  have HS0 := Bx.mk (fun k (h : S0 k) => (hJ.lt _ _ _ k hJ0 h).2)
  clear hJ hJ0 hSl hBw hstep0 hstep1
  have HRE := Bx.mk (fun (x y : Value) eb so m sc W => remainders_any x y (xs 0) eb so m sc W)
  unfold PV at HRE ⊢
  refine callsIn_of_wp_marks Try.func85 rfl trivial ?_ rfl
  simp only [Try.ntmps85, List.size_toArray, List.length_cons, List.length_nil, Nat.reduceAdd, Nat.reduceSub, Array.replicate_succ, Array.replicate_zero, List.push_toArray, List.append_toArray, List.nil_append, List.cons_append]
  gi_wp2_with (refine ⟨trivial, ?_⟩; gi_at_call 131; refine (callsIn_wide.2 (HRE.out _ _ _ _ _ _ _)).mono ?_; rintro e w' ⟨rfl, rfl⟩)
  obtain ⟨V0, hV0⟩ : ∃ V0, ((((w.alloc (.cells #[.slice fo q fc, .slice co q cc] 100)).alloc (.cells #[.int .i64 ((xs 0) 0), .int .i64 ((xs 0) 1), .int .i64 ((xs 0) 2), .int .i64 ((xs 0) 3), .int .i64 ((xs 0) 4), .int .i64 ((xs 0) 5)] 36)).alloc (.cells #[.int .i64 0, .int .i64 0, .int .i64 0, .int .i64 0, .int .i64 0, .int .i64 0] 36)).alloc (.cells #[.int .i64 0] 25)) = V0 := ⟨_, rfl⟩
  obtain ⟨hv1, hv2, hv3, hv4, hv5⟩ := fourl_boxes w (.slice fo q fc) (.slice co q cc) (xs 0)
  rw [hV0] at hv1 hv2 hv3 hv4 hv5 ⊢
  clear hV0
  obtain ⟨W0, hW0⟩ : ∃ W0, fourw V0 (.slice fo q fc) (.slice co q cc) (xs 0) (.func (.func 130) #[] #[.pointer (some ⟨w.heap.size + 1 + 1 + 1, 0, none⟩)]) (.slice (some ⟨sb, so, none⟩) 2 sc) = W0 := ⟨_, rfl⟩
  obtain ⟨hw1, hw2, hw3, hw4, hw5, hw6⟩ := fourw_boxes V0 (.slice fo q fc) (.slice co q cc) (xs 0) (.func (.func 130) #[] #[.pointer (some ⟨w.heap.size + 1 + 1 + 1, 0, none⟩)]) (.slice (some ⟨sb, so, none⟩) 2 sc)
  rw [hW0] at hw1 hw2 hw3 hw4 hw5 hw6 ⊢
  clear hW0
  have hs0 : W0.heap.size = w.heap.size + 8 := by omega
  rw [hv5] at hw1 hw2 hw3 hw4
  have hB0 : Below w.heap.size w W0 := hv4.trans (hw5.mono (by omega))
  have hv1' : VB W0 (w.heap.size + 1) (xs 0) := hv1.keep (hw5.block _ (by omega))
  have hv2' : VB W0 (w.heap.size + 1 + 1) (fun _ => 0) := hv2.keep (hw5.block _ (by omega))
  have hv3' : Boxed W0 (w.heap.size + 1 + 1 + 1) 25 (.int .i64 0) := (hw5.block _ (by omega)).trans hv3
  refine vec_loop rfl (by omega) (gf := 155) (lb := #[.pointer (some ⟨w.heap.size + 1 + 1 + 1 + 1 + 1, 0, none⟩), .pointer (some ⟨w.heap.size + 1 + 1 + 1 + 1, 0, none⟩), .pointer (some ⟨w.heap.size + 1 + 1 + 1 + 1 + 1 + 1 + 1, 0, none⟩), .pointer (some ⟨w.heap.size + 1 + 1 + 1 + 1 + 1 + 1, 0, none⟩)]) rfl trivial (enters_of Try.func155 (by kernel_rfl) rfl) rfl (w.heap.size + 1) (by omega)
    (fun x => .agg #[.int .i64 (x 0), .int .i64 (x 1), .int .i64 (x 2), .int .i64 (x 3), .int .i64 (x 4), .int .i64 (x 5)])
    (fun x b => { tmps := #[.agg #[.slice fo q fc, .slice co q cc], .agg #[.int .i64 ((xs 0) 0), .int .i64 ((xs 0) 1), .int .i64 ((xs 0) 2), .int .i64 ((xs 0) 3), .int .i64 ((xs 0) 4), .int .i64 ((xs 0) 5)], .slice (some ⟨sb, so, none⟩) 2 sc, .pointer (some ⟨w.heap.size, 0, none⟩), .pointer (some ⟨w.heap.size + 1, 0, none⟩), undef, .pointer (some ⟨w.heap.size + 1 + 1, 0, none⟩), .int .i64 0, .pointer (some ⟨w.heap.size + 1 + 1 + 1, 0, none⟩), .func (.func 130) #[] #[.pointer (some ⟨w.heap.size + 1 + 1 + 1, 0, none⟩)], .pointer (some ⟨b, 0, none⟩), .func (.func 130) #[] #[.pointer (some ⟨w.heap.size + 1 + 1 + 1, 0, none⟩)], .agg #[.slice fo q fc, .slice co q cc], .agg #[.int .i64 ((xs 0) 0), .int .i64 ((xs 0) 1), .int .i64 ((xs 0) 2), .int .i64 ((xs 0) 3), .int .i64 ((xs 0) 4), .int .i64 ((xs 0) 5)], .func (.func 130) #[] #[.pointer (some ⟨w.heap.size + 1 + 1 + 1, 0, none⟩)], .slice (some ⟨sb, so, none⟩) 2 sc, .func (.func 155) #[] #[.pointer (some ⟨w.heap.size + 1 + 1 + 1 + 1 + 1, 0, none⟩), .pointer (some ⟨w.heap.size + 1 + 1 + 1 + 1, 0, none⟩), .pointer (some ⟨w.heap.size + 1 + 1 + 1 + 1 + 1 + 1 + 1, 0, none⟩), .pointer (some ⟨w.heap.size + 1 + 1 + 1 + 1 + 1 + 1, 0, none⟩)], .agg #[.int .i64 (x 0), .int .i64 (x 1), .int .i64 (x 2), .int .i64 (x 3), .int .i64 (x 4), .int .i64 (x 5)], undef, undef, undef, undef, undef, undef], defers := [] })
    ?assign ?body
    (fun W => Below w0.heap.size w0 W ∧ VB W (w.heap.size + 1 + 1) (fun _ => 0) ∧ (((∀ k, k ≤ (2 * q) → Vv (xs k)) ∧ VB W (w.heap.size + 1) (xs (2 * q)) ∧ Boxed W (w.heap.size + 1 + 1 + 1) 25 (.int .i64 0) ∧ ∃ S, J (2 * q) S W ∧ ∀ k, k < w.heap.size + 10 → S k → k < w.heap.size) ∨ ((∃ k, k ≤ (2 * q) ∧ ¬ Vv (xs k)) ∧ Boxed W (w.heap.size + 1 + 1 + 1) 25 (.int .i64 3))))
    (fun A o h => have hb := below_put A (n := W0.heap.size) (l := W0.heap.size + 1) (by omega) o; ⟨h.1.trans (hb.mono (by omega)), h.2.1.keep (hb.block _ (by omega)), h.2.2.imp (fun h => ⟨h.1, h.2.1.keep (hb.block _ (by omega)), (hb.block _ (by omega)).trans h.2.2.1, by
      obtain ⟨S, h1, h2⟩ := h.2.2.2
      exact ⟨S, HJ.out.keep _ _ A _ h1 hb.size (fun b hs => World.putObj_heap_other (fun e => by have := h2 b (by omega) hs; omega)), h2⟩⟩) (fun h => ⟨h.1, (hb.block _ (by omega)).trans h.2⟩)⟩)
    ?call ?done
  case assign =>
    intro l x W
    gi_wp2
    exact ⟨trivial, (Below.refl _ W).alloc (Nat.le_refl _) _, VB.new W x⟩
  case body =>
    intro l x b W y hb hy hne
    have c0 := hb.c0
    have c1 := hb.c1
    have c2 := hb.c2
    have c3 := hb.c3
    have c4 := hb.c4
    have c5 := hb.c5
    have f0 := hy.f 0
    have f1 := hy.f 1
    have f2 := hy.f 2
    have f3 := hy.f 3
    have f4 := hy.f 4
    have f5 := hy.f 5
    have d0 := hy.c0
    have d1 := hy.c1
    have d2 := hy.c2
    have d3 := hy.c3
    have d4 := hy.c4
    have d5 := hy.c5
    gi_wp2
    simp only [six6, Nat.zero_add]
  case call =>
    intro r W1 hB hsz hl hY
    have hb1 := fun k (hk : k < w.heap.size + 8) => hB.block k (by omega)
    have hBW1 : Below w.heap.size w W1 := hB0.trans (hB.mono (by omega))
    have hBW0 : Below w0.heap.size w0 W1 := HBw.out.trans (hBW1.mono hw0)
    refine (rem_mult (9 - 1) w0 W1 (W0.heap.size + 1) r fo co fc cc q n1b n2b xs J S0 sb so sc (w.heap.size + 1 + 1 + 1 + 1 + 1) (w.heap.size + 1 + 1 + 1 + 1) (w.heap.size + 1 + 1 + 1 + 1 + 1 + 1 + 1) (w.heap.size + 1 + 1 + 1 + 1 + 1 + 1) (w.heap.size + 1) (w.heap.size + 1 + 1 + 1)
      HJ.out hq6 lf hBW0 ((cell_same (hBW1.block sb hsb)).trans hst0) ((cell_same (hBW1.block sb hsb)).trans hst1) (by have := hBW1.size; omega) (fun h => by rcases h with h | h | h; (· omega); (· omega); (· exact h8 h)) (fun k hk => by have := HS0.out k hk; omega) HSl.out (HJ.out.keep _ _ w _ HJ0.out hBW1.size (fun b hb => hBW1.block b (HS0.out b hb)))
      (by omega) (by omega) (by omega) (by omega) (by omega) (by omega) (by omega) (hw1.keep (hb1 _ (by omega))) (hw2.keep (hb1 _ (by omega))) ((hb1 _ (by omega)).trans hw3) ((hb1 _ (by omega)).trans hw4) hl (hv1'.keep (hb1 _ (by omega))) ((hb1 _ (by omega)).trans hv3') HX0.out (fun m x W h1 h2 => yield_any rfl m (hY x W h1 h2)) HT0.out HT1.out).mono ?_
    rintro e W' ⟨h1, h2, h3⟩
    have nE : ∀ k, w.heap.size ≤ k → k ≠ w.heap.size + 1 → k ≠ w.heap.size + 1 + 1 + 1 → ¬ E3 (w.heap.size + 1) (w.heap.size + 1 + 1 + 1) S0 k := fun k k1 k2 k3 h => by
      rcases h with h | h | h
      · exact k2 h
      · exact k3 h
      · have := HS0.out k h; omega
    refine ⟨h1, h2.size, fun k hk hk2 => h2.block k hk2 (nE k (by omega) (by omega) (by omega)), h2.base hBW0 (fun k hk => by
      rcases hk with hk | hk | hk
      · omega
      · omega
      · exact HSl.out k hk), (hv2'.keep (hb1 _ (by omega))).keep (h2.block _ (by omega) (nE _ (by omega) (by omega) (by omega))), ?_⟩
    rcases h3 with ⟨g1, g2, g3, S, g4, g5⟩ | h3
    · exact .inl ⟨g1, g2, g3, S, g4, fun k k1 k2 => HS0.out k (g5 k (by omega) k2)⟩
    · exact .inr h3
  case done =>
    rintro W ⟨hB, hv2, hR⟩ hs hD
    rcases hR with ⟨hk, hv, he, S, hJS, hSb⟩ | ⟨hk, he⟩
    · have ce := he.cell
      obtain ⟨x, hx⟩ : ∃ x, xs (2 * q) = x := ⟨_, rfl⟩
      rw [hx] at hv
      have c0 := hv.c0
      have c1 := hv.c1
      have c2 := hv.c2
      have c3 := hv.c3
      have c4 := hv.c4
      have c5 := hv.c5
      have f0 := hv2.f 0
      have f1 := hv2.f 1
      have f2 := hv2.f 2
      have f3 := hv2.f 3
      have f4 := hv2.f 4
      have f5 := hv2.f 5
      have d0 := hv2.c0
      have d1 := hv2.c1
      have d2 := hv2.c2
      have d3 := hv2.c3
      have d4 := hv2.c4
      have d5 := hv2.c5
      have hb6 := but_lit (w.heap.size + 1 + 1) W x
      have V6 := hv2.lit x
      have hlD : W0.heap.size < W.heap.size := (Array.getElem?_eq_some_iff.1 hD).1
      have hK := (hb6.block W0.heap.size hlD (by omega)).trans hD
      have hBB := hB.trans (but_below hb6 (n := w0.heap.size) (by omega) (by omega))
      gi_wp2
      refine ⟨by simp, .inl ⟨_, _, rfl, run_takeDeferred hK, ?_⟩⟩
      have V7 := V6.keep (W' := World.putObj _ W0.heap.size (.deferred none)) (World.putObj_heap_other (by omega))
      have e0 := V7.c0
      have e1 := V7.c1
      have e2 := V7.c2
      have e3 := V7.c3
      have e4 := V7.c4
      have e5 := V7.c5
      refine ⟨.tuple #[.agg #[.int .i64 (x 0), .int .i64 (x 1), .int .i64 (x 2), .int .i64 (x 3), .int .i64 (x 4), .int .i64 (x 5)], .int .i64 0], ?_, .inl ⟨by rw [hx], hk, S, ?_⟩, hBB.trans (below_put _ (by omega) _)⟩
      · simp [results, Try.results85, go_sem, e0, e1, e2, e3, e4, e5]
      · exact HJ.out.keep _ _ W _ hJS (by have := hb6.size; simp only [World.putObj_size]; exact this) (fun b hs => (World.putObj_heap_other (fun e => by have := hSb b (by omega) hs; omega)).trans (hb6.block b (HJ.out.lt _ _ _ b hJS hs).2 (fun e => by have := hSb b (by omega) hs; omega)))
    · have ce := he.cell
      have f0 := hv2.f 0
      have f1 := hv2.f 1
      have f2 := hv2.f 2
      have f3 := hv2.f 3
      have f4 := hv2.f 4
      have f5 := hv2.f 5
      have d0 := hv2.c0
      have d1 := hv2.c1
      have d2 := hv2.c2
      have d3 := hv2.c3
      have d4 := hv2.c4
      have d5 := hv2.c5
      gi_wp2
      gi_region
      gi_wp2
      have hb6 : But (w.heap.size + 1 + 1) W ((((((W.setCell ⟨w.heap.size + 1 + 1, 0, none⟩ (.int .i64 0)).setCell ⟨w.heap.size + 1 + 1, 1, none⟩ (.int .i64 0)).setCell ⟨w.heap.size + 1 + 1, 2, none⟩ (.int .i64 0)).setCell ⟨w.heap.size + 1 + 1, 3, none⟩ (.int .i64 0)).setCell ⟨w.heap.size + 1 + 1, 4, none⟩ (.int .i64 0)).setCell ⟨w.heap.size + 1 + 1, 5, none⟩ (.int .i64 0)) := but_lit (w.heap.size + 1 + 1) W (fun _ => 0)
      have V6 : VB ((((((W.setCell ⟨w.heap.size + 1 + 1, 0, none⟩ (.int .i64 0)).setCell ⟨w.heap.size + 1 + 1, 1, none⟩ (.int .i64 0)).setCell ⟨w.heap.size + 1 + 1, 2, none⟩ (.int .i64 0)).setCell ⟨w.heap.size + 1 + 1, 3, none⟩ (.int .i64 0)).setCell ⟨w.heap.size + 1 + 1, 4, none⟩ (.int .i64 0)).setCell ⟨w.heap.size + 1 + 1, 5, none⟩ (.int .i64 0)) (w.heap.size + 1 + 1) (fun _ => 0) := hv2.lit (fun _ => 0)
      obtain ⟨Z, hZ⟩ : ∃ Z, ((((((W.setCell ⟨w.heap.size + 1 + 1, 0, none⟩ (.int .i64 0)).setCell ⟨w.heap.size + 1 + 1, 1, none⟩ (.int .i64 0)).setCell ⟨w.heap.size + 1 + 1, 2, none⟩ (.int .i64 0)).setCell ⟨w.heap.size + 1 + 1, 3, none⟩ (.int .i64 0)).setCell ⟨w.heap.size + 1 + 1, 4, none⟩ (.int .i64 0)).setCell ⟨w.heap.size + 1 + 1, 5, none⟩ (.int .i64 0)) = Z := ⟨_, rfl⟩
      rw [hZ] at hb6 V6 ⊢
      clear hZ
      have hlD : W0.heap.size < W.heap.size := (Array.getElem?_eq_some_iff.1 hD).1
      have hK : Z.drew.heap[W0.heap.size]? = _ := (hb6.block W0.heap.size hlD (by omega)).trans hD
      have hBB := below_drew (hB.trans (but_below hb6 (n := w0.heap.size) (by omega) (by omega)))
      have V6' : VB Z.drew (w.heap.size + 1 + 1) (fun _ => 0) := V6
      refine ⟨by simp, .inl ⟨_, _, rfl, run_takeDeferred hK, ?_⟩⟩
      have V7 := V6'.keep (W' := World.putObj _ W0.heap.size (.deferred none)) (World.putObj_heap_other (by omega))
      have e0 := V7.c0
      have e1 := V7.c1
      have e2 := V7.c2
      have e3 := V7.c3
      have e4 := V7.c4
      have e5 := V7.c5
      refine ⟨.tuple #[.agg #[.int .i64 0, .int .i64 0, .int .i64 0, .int .i64 0, .int .i64 0, .int .i64 0], .int .i64 3], ?_, .inr ⟨rfl, hk⟩, hBB.trans (below_put _ (by omega) _)⟩
      simp [results, Try.results85, go_sem, e0, e1, e2, e3, e4, e5]
end Go.Proofs.Ytnbamjoadankmaa

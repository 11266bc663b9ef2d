/- The program's lattice: the remainders of a vector are handed to the rounds of a loop. -/
import Derived.Test.YtnbamjoadankmaaVF
import Derived.Test.YtnbamjoadankmaaVJ
import Derived.Test.YtnbamjoadankmaaCH
namespace Go.Proofs.Ytnbamjoadankmaa
open Go.RowKit Go.Shelf D
attribute [local go_sem] Oper.semAt_some run_store_fn
/-- The remainders, one after another. -/
def rmd (O : Nat → Nat → Int) (p : Nat → Nat) (x : Nat → Int) : Nat → Nat → Int
  | 0 => x
  | k + 1 => fun j => rmd O p x k j + -(rmd O p x k (p k) / O k (p k)) * O k j
/-- A valid vector. -/
def Vv (v : Nat → Int) : Prop := ∀ j, j < 6 → -1000000000 ≤ v j ∧ v j ≤ 1000000000
/-- But for two blocks all that was there is as it was. -/
structure Two (a b : Nat) (w w' : World) : Prop where
  os : w'.os = w.os
  tape : w'.tape = w.tape
  output : w'.output = w.output
  size : w.heap.size ≤ w'.heap.size
  block : ∀ k, k < w.heap.size → k ≠ a → k ≠ b → w'.heap[k]? = w.heap[k]?
theorem Two.refl (a b : Nat) (w : World) : Two a b w w := ⟨rfl, rfl, rfl, Nat.le_refl _, fun _ _ _ _ => rfl⟩
theorem Two.trans {a b : Nat} {x y z : World} (h : Two a b x y) (k : Two a b y z) : Two a b x z :=
  ⟨k.os.trans h.os, k.tape.trans h.tape, k.output.trans h.output, Nat.le_trans h.size k.size, fun i hi h1 h2 => (k.block i (Nat.lt_of_lt_of_le hi h.size) h1 h2).trans (h.block i hi h1 h2)⟩
theorem Two.below {a b : Nat} {x y z : World} (h : Two a b x y) (k : Below y.heap.size y z) : Two a b x z := h.trans ⟨k.os, k.tape, k.output, k.size, fun i hi _ _ => k.block i hi⟩
theorem Two.but {a b : Nat} {x y z : World} (h : Two a b x y) (k : But a y z) : Two a b x z := h.trans ⟨k.os, k.tape, k.output, k.size, fun i hi h1 _ => k.block i hi h1⟩
theorem Two.new {a b c : Nat} {x y z : World} (h : Two a b x y) (k : But c y z) (hc : x.heap.size ≤ c) : Two a b x z :=
  ⟨k.os.trans h.os, k.tape.trans h.tape, k.output.trans h.output, Nat.le_trans h.size k.size, fun i hi h1 h2 => (k.block i (Nat.lt_of_lt_of_le hi h.size) (by omega)).trans (h.block i hi h1 h2)⟩
theorem Two.set {a b : Nat} {x y : World} (h : Two a b x y) (z : Value) : Two a b x (y.setCell ⟨b, 0, none⟩ z) := h.trans (by
  have k := But.set (b := b) y 0 z
  exact ⟨k.os, k.tape, k.output, k.size, fun i hi _ h2 => k.block i hi h2⟩)
theorem but_lit (b : Nat) (W : World) (v : Nat → Int) : But b W ((((((W.setCell ⟨b, 0, none⟩ (.int .i64 (v 0))).setCell ⟨b, 1, none⟩ (.int .i64 (v 1))).setCell ⟨b, 2, none⟩ (.int .i64 (v 2))).setCell ⟨b, 3, none⟩ (.int .i64 (v 3))).setCell ⟨b, 4, none⟩ (.int .i64 (v 4))).setCell ⟨b, 5, none⟩ (.int .i64 (v 5))) :=
  ((((((But.set W 0 _).trans (But.set _ 1 _)).trans (But.set _ 2 _)).trans (But.set _ 3 _)).trans (But.set _ 4 _)).trans (But.set _ 5 _))
theorem VB.lit {W : World} {b : Nat} {y : Nat → Int} (h : VB W b y) (v : Nat → Int) : VB ((((((W.setCell ⟨b, 0, none⟩ (.int .i64 (v 0))).setCell ⟨b, 1, none⟩ (.int .i64 (v 1))).setCell ⟨b, 2, none⟩ (.int .i64 (v 2))).setCell ⟨b, 3, none⟩ (.int .i64 (v 3))).setCell ⟨b, 4, none⟩ (.int .i64 (v 4))).setCell ⟨b, 5, none⟩ (.int .i64 (v 5))) b v := h.six v
theorem Two.base {a b : Nat} {w x y : World} (h : Two a b x y) (hw : Below w.heap.size w x) (h1 : w.heap.size ≤ a) (h2 : w.heap.size ≤ b) : Below w.heap.size w y :=
  ⟨h.os.trans hw.os, h.tape.trans hw.tape, h.output.trans hw.output, Nat.le_trans hw.size h.size, fun k hk => (h.block k (Nat.lt_of_lt_of_le hk hw.size) (by omega) (by omega)).trans (hw.block k hk)⟩
/-- The state between two steps. -/
structure Ts (W1 : World) (ab vb eb : Nat) (W : World) (x : Nat → Int) : Prop where
  ta : VB W ab x
  tv : VB W vb x
  te : Boxed W eb 25 (.int .i64 0)
  tw : Two vb eb W1 W
theorem go_facts {W1 wr w2 W3 w4 : World} {ab vb eb l : Nat} {r : Loop} {x x' : Nat → Int} (hab : ab = W1.heap.size) (HT : Ts W1 ab vb eb wr x) (B2 : Below wr.heap.size wr w2) (hb : But ab w2 W3) (hv3 : VB W3 ab x') (h1 : vb < ab) (h2 : eb < ab) (h3 : l < ab) (h4 : l ≠ vb) (h5 : l ≠ eb) (hl : W1.heap[l]? = some (.loop r)) (B4 : Below W3.heap.size W3 w4) :
    VB w4 ab x' ∧ VB w4 vb x ∧ Boxed w4 eb 25 (.int .i64 0) ∧ Two vb eb W1 w4 ∧ w4.heap[l]? = some (.loop r) := by
  have z1 := HT.tw.size
  have z2 := B2.size
  have z3 := hb.size
  have key : ∀ k, k < ab → w4.heap[k]? = wr.heap[k]? := fun k hk => (B4.block k (by omega)).trans ((hb.block k (by omega) (by omega)).trans (B2.block k (by omega)))
  refine ⟨hv3.keep (B4.block ab hv3.lt), HT.tv.keep (key vb h1), (key eb h2).trans HT.te, ((HT.tw.below B2).new hb (by omega)).below B4, (key l h3).trans ((HT.tw.block l (by omega) h4 h5).trans hl)⟩
theorem stop_facts {W1 wr w2 W3 w4 : World} {ab vb eb : Nat} {x x' : Nat → Int} (hab : ab = W1.heap.size) (HT : Ts W1 ab vb eb wr x) (B2 : Below wr.heap.size wr w2) (hb : But ab w2 W3) (h2 : eb < ab) (B4 : Below W3.heap.size W3 w4) :
    Boxed (w4.setCell ⟨eb, 0, none⟩ (.int .i64 3)) eb 25 (.int .i64 3) ∧ Two vb eb W1 (w4.setCell ⟨eb, 0, none⟩ (.int .i64 3)) := by
  have z1 := HT.tw.size
  have z2 := B2.size
  have z3 := hb.size
  have k : Boxed w4 eb _ _ := (B4.block eb (by omega)).trans ((hb.block eb (by omega) (by omega)).trans ((B2.block eb (by omega)).trans HT.te))
  exact ⟨k.set _, (((HT.tw.below B2).new hb (by omega)).below B4).set _⟩
theorem boxed_mid {W1 wr w2 W3 : World} {ab vb eb : Nat} {x : Nat → Int} (hab : ab = W1.heap.size) (HT : Ts W1 ab vb eb wr x) (B2 : Below wr.heap.size wr w2) (hb : But ab w2 W3) (h2 : eb < ab) : Boxed W3 eb 25 (.int .i64 0) := by
  have z1 := HT.tw.size
  have z2 := B2.size
  exact (hb.block eb (by omega) (by omega)).trans ((B2.block eb (by omega)).trans HT.te)
set_option maxRecDepth 100000 in
set_option maxHeartbeats 8000000 in
theorem rem_one (n : Nat) (w0 W1 : World) (l : Nat) (r : Loop) (fo co : Option Addr) (fc cc q : Nat) (O : Nat → Nat → Int) (p : Nat → Nat) (x0 : Nat → Int) (sb so sc bv bb bs be vb eb : Nat)
    (hS : BS w0 fo fc co cc q O p) (hB1 : Below w0.heap.size w0 W1) (hst : w0.cell? ⟨sb, so, none⟩ = some (.func (.func 86) #[.agg #[.slice fo q fc, .slice co q cc]] #[])) (hsb : sb < w0.heap.size)
    (h1 : w0.heap.size ≤ vb) (h2 : vb < eb) (h3 : eb < bb) (h4 : eb < bv) (h5 : eb < be) (h6 : eb < bs) (h7 : eb < l)
    (hbB : PB W1 bb (.slice fo q fc) (.slice co q cc)) (hbV : VB W1 bv x0) (hbE : Boxed W1 be 52 (.func (.func 130) #[] #[.pointer (some ⟨eb, 0, none⟩)])) (hbS : Boxed W1 bs 146 (.slice (some ⟨sb, so, none⟩) 1 sc)) (hl : W1.heap[l]? = some (.loop r))
    (hv : VB W1 vb x0) (he : Boxed W1 eb 25 (.int .i64 0)) (hx0 : Vv x0)
    (hY : ∀ m x W, W.heap[l]? = some (.loop r) → (∃ y, VB W vb y) → YieldAt Fence.wide m Try.prog l #[PV x] W fun e W' => e = .returned (.bool true) ∧ But vb W W' ∧ VB W' vb x) :
    CallsIn Fence.wide n Try.prog 155 #[.func (.yield l) #[] #[], .pointer (some ⟨bv, 0, none⟩), .pointer (some ⟨bb, 0, none⟩), .pointer (some ⟨bs, 0, none⟩), .pointer (some ⟨be, 0, none⟩)] W1 fun e W' =>
      (∃ v, e = .returned v) ∧ Two vb eb W1 W' ∧ (((∀ k, k ≤ q → Vv (rmd O p x0 k)) ∧ VB W' vb (rmd O p x0 q) ∧ Boxed W' eb 25 (.int .i64 0)) ∨ ((∃ k, k ≤ q ∧ ¬ Vv (rmd O p x0 k)) ∧ Boxed W' eb 25 (.int .i64 3))) := by
  have hdd : ∀ k : Nat, (Fence.wide.depth.isSome = true → 1 ≤ k) := fun k h => by cases h
  have hq6 := hS.six
  have lf := hS.lf
  have HS := Bx.mk hS
  have HY := Bx.mk hY
  have HB1 := Bx.mk hB1
  have HX0 := Bx.mk hx0
  have w01 := hB1.size
  have s1 := hbV.lt
  have s2 := hbB.lt
  have s3 := hbE.lt
  have s4 := hbS.lt
  have s5 := (Array.getElem?_eq_some_iff.1 hl).1
  have s6 := he.lt
  have a0 := hbV.c0
  have a1 := hbV.c1
  have a2 := hbV.c2
  have a3 := hbV.c3
  have a4 := hbV.c4
  have a5 := hbV.c5
  have HB0 := Bx.mk (Below.refl W1.heap.size W1 |>.alloc (Nat.le_refl _) (.cells #[.int .i64 0, .int .i64 0, .int .i64 0, .int .i64 0, .int .i64 0, .int .i64 0] 36))
  have bB0 := hbB.keep (HB0.out.block bb s2)
  have b0 := hbB.c0
  have n1 : bb ≠ W1.heap.size := by omega
  have n2 : W1.heap.size ≠ bb := by omega
  refine callsIn_of_wp Try.func155 rfl trivial ?_ rfl
  simp only [Try.ntmps155, List.size_toArray, List.length_cons, List.length_nil, Nat.reduceAdd, Nat.reduceSub, Array.replicate_succ, Array.replicate_zero, List.push_toArray, List.append_toArray, List.nil_append, List.cons_append]
  gi_wp2
  gi_loopw [14] (fun ix wr => ∃ i : Nat, ix = .int .i64 i ∧ i ≤ q ∧ Bx (Ts W1 W1.heap.size vb eb wr (rmd O p x0 i)) ∧ Bx (∀ k, k ≤ i → Vv (rmd O p x0 k))) (fun ix _ => q - (intOf ix).toNat)
  case atStart =>
    refine ⟨0, rfl, Nat.zero_le _, ⟨?_⟩, ⟨fun k hk => ?_⟩⟩
    · have hB := (Below.refl W1.heap.size W1).alloc (Nat.le_refl _) (.cells #[.int .i64 (x0 0), .int .i64 (x0 1), .int .i64 (x0 2), .int .i64 (x0 3), .int .i64 (x0 4), .int .i64 (x0 5)] 36)
      exact ⟨VB.new W1 x0, hv.keep (hB.block vb hv.lt), (hB.block eb s6).trans he, Two.below (Two.refl vb eb W1) hB⟩
    · obtain rfl : k = 0 := by omega
      exact HX0.out
  case round =>
    obtain ⟨i, rfl, hiq, HT, HV⟩ := hrel
    by_cases hlt : i < q
    · have hlt' : (i : Int) < (q : Int) := by omega
      have bSr : Boxed wr bs _ _ := (HT.out.tw.block bs s4 (by omega) (by omega)).trans hbS
      have c1 := bSr.cell
      obtain ⟨x, hx⟩ : ∃ x, rmd O p x0 i = x := ⟨_, rfl⟩
      obtain ⟨x', hx'⟩ : ∃ x', rmd O p x0 (i + 1) = x' := ⟨_, rfl⟩
      have hxx : (fun j => x j + -(x (p i) / O i (p i)) * O i j) = x' := by rw [← hx', ← hx]; rfl
      have hVx : Vv x := by rw [← hx]; exact HV.out i (Nat.le_refl _)
      have HRM := Bx.mk (fun w' (hb : Below w0.heap.size w0 w') => remainder_at fo co fc cc q O p i x w' (HS.out.keep hb) hlt hVx)
      rw [hxx] at HRM
      rw [hx] at HT
      gi_wp2
      gi_loopw [19] (fun kx wk => (kx = .int .i64 0 ∧ Bx (Ts W1 W1.heap.size vb eb wk x)) ∨ (kx = .int .i64 1 ∧ Bx (Ts W1 W1.heap.size vb eb wk x') ∧ Vv x')) (fun kx _ => 1 - (intOf kx).toNat)
      case atStart => exact .inl ⟨rfl, HT⟩
      case round =>
        rcases hrel with ⟨rfl, HK⟩ | ⟨rfl, HK, hvx'⟩
        · have hK := HK.out
          have c0 := hK.ta.c0
          have c2 := hK.ta.c1
          have c3 := hK.ta.c2
          have c4 := hK.ta.c3
          have c5 := hK.ta.c4
          have c6 := hK.ta.c5
          have hBk := Bx.mk (hK.tw.base HB1.out h1 (by omega))
          have hsk := hK.tw.size
          have hlk := hK.ta.lt
          have hst' : wr.cell? ⟨sb, so, none⟩ = some _ := (hBk.out.cell (p := ⟨sb, so, none⟩) hsb).trans hst
          have ne1 : be ≠ W1.heap.size := by omega
          have ne2 : W1.heap.size ≠ be := by omega
          have HE0 := Bx.mk hbE
          have HL0 := Bx.mk hl
          have HV0 := Bx.mk hv
          have HR0 := Bx.mk HRM.out
          unfold PV at HR0
          clear hK
          by_cases hn : Vv x'
          · gi_wp2_with (first
              | (refine ⟨trivial, ?_⟩; (try refine ⟨hdd _, ?_⟩); gi_at_call 86; refine (callsIn_wide.2 (HR0.out _ hBk.out)).mono ?_; clear HR0; rintro e w2 ⟨rfl, B2w⟩
                 have B2 := Bx.mk B2w
                 have V2 := HK.out.ta.keep (B2w.block _ hlk)
                 have f0 := V2.f 0
                 have f1 := V2.f 1
                 have f2 := V2.f 2
                 have f3 := V2.f 3
                 have f4 := V2.f 4
                 have f5 := V2.f 5
                 have d0 := V2.c0
                 have d1 := V2.c1
                 have d2 := V2.c2
                 have d3 := V2.c3
                 have d4 := V2.c4
                 have d5 := V2.c5
                 have E2 : Boxed w2 be _ _ := (B2w.block be (by omega)).trans ((HK.out.tw.block be s3 (by omega) (by omega)).trans HE0.out)
                 have e2 := E2.cell
                 have HEN := Bx.mk (fun W3 (hb : But W1.heap.size w2 W3) (hv3 : VB W3 W1.heap.size x') => (ends_go x' eb W3 hn (boxed_mid rfl HK.out B2w hb s6)).mono (R' := fun e w4 => e = .returned (.bool false) ∧ Bx (VB w4 W1.heap.size x' ∧ VB w4 vb x ∧ Boxed w4 eb 25 (.int .i64 0) ∧ Two vb eb W1 w4 ∧ w4.heap[l]? = some (.loop r))) fun e w4 h => ⟨h.1, ⟨go_facts rfl HK.out B2w hb hv3 (by omega) s6 s5 (by omega) (by omega) HL0.out h.2⟩⟩)
                 unfold PV at HEN
                 have HV3 := Bx.mk (V2.lit x')
                 clear B2w V2)
              | (refine ⟨trivial, ?_⟩; (try refine ⟨hdd _, ?_⟩); gi_at_call 130; refine (callsIn_wide.2 (HEN.out _ (but_lit W1.heap.size w2 x') HV3.out)).mono ?_; clear HEN; rintro e w4 ⟨rfl, HG⟩
                 have g0 := HG.out.1.c0
                 have g1 := HG.out.1.c1
                 have g2 := HG.out.1.c2
                 have g3 := HG.out.1.c3
                 have g4 := HG.out.1.c4
                 have g5 := HG.out.1.c5
                 obtain ⟨fn, tmps, assign, body, hy, hR⟩ := HY.out (n - 1) x' w4 HG.out.2.2.2.2 ⟨_, HG.out.2.1⟩
                 unfold PV at hy)
              | ((try refine ⟨hdd _, ?_⟩); refine hR.mono ?_; clear hR; rintro e w5 ⟨rfl, hb5, hv5⟩))
            go_roundw
            case rel =>
              obtain ⟨G1, G2, G3, G4, G5⟩ := HG.out
              exact .inr ⟨rfl, ⟨⟨G1.keep (hb5.block _ G1.lt (by omega)), hv5, (hb5.block eb G3.lt (by omega)).trans G3, G4.but hb5⟩⟩, hn⟩
            case measure => simp [intOf]
          · gi_wp2_with (first
              | (refine ⟨trivial, ?_⟩; (try refine ⟨hdd _, ?_⟩); gi_at_call 86; refine (callsIn_wide.2 (HR0.out _ hBk.out)).mono ?_; clear HR0; rintro e w2 ⟨rfl, B2w⟩
                 have B2 := Bx.mk B2w
                 have V2 := HK.out.ta.keep (B2w.block _ hlk)
                 have f0 := V2.f 0
                 have f1 := V2.f 1
                 have f2 := V2.f 2
                 have f3 := V2.f 3
                 have f4 := V2.f 4
                 have f5 := V2.f 5
                 have d0 := V2.c0
                 have d1 := V2.c1
                 have d2 := V2.c2
                 have d3 := V2.c3
                 have d4 := V2.c4
                 have d5 := V2.c5
                 have E2 : Boxed w2 be _ _ := (B2w.block be (by omega)).trans ((HK.out.tw.block be s3 (by omega) (by omega)).trans HE0.out)
                 have e2 := E2.cell
                 have HEN := Bx.mk (fun W3 (hb : But W1.heap.size w2 W3) (_ : VB W3 W1.heap.size x') => (ends_stop x' eb W3 hn (boxed_mid rfl HK.out B2w hb s6)).mono (R' := fun e w4 => e = .returned (.bool true) ∧ Bx (Boxed w4 eb 25 (.int .i64 3) ∧ Two vb eb W1 w4)) fun e w4 h => by
                   obtain ⟨he, w5, hb5, rfl⟩ := h
                   exact ⟨he, ⟨stop_facts (x' := x') rfl HK.out B2w hb s6 hb5.out⟩⟩)
                 unfold PV at HEN
                 have HV3 := Bx.mk (V2.lit x')
                 clear B2w V2)
              | (refine ⟨trivial, ?_⟩; (try refine ⟨hdd _, ?_⟩); gi_at_call 130; refine (callsIn_wide.2 (HEN.out _ (but_lit W1.heap.size w2 x') HV3.out)).mono ?_; clear HEN; rintro e w4 ⟨rfl, HG⟩))
            refine ⟨fun f h => (by cases h), ?_⟩
            gi_wp2
            exact ⟨rfl, _, by simp [results, Try.results155, go_sem]; rfl, ⟨_, rfl⟩, HG.out.2, .inr ⟨⟨i + 1, by omega, by rw [hx']; exact hn⟩, HG.out.1⟩⟩
        · gi_wp2
          go_roundw
          case rel => exact ⟨i + 1, by simp, by omega, by rw [hx']; exact HK, ⟨fun k hk => by
            by_cases e : k = i + 1
            · rw [e, hx']; exact hvx'
            · exact HV.out k (by omega)⟩⟩
          case measure => simp [intOf]; omega
    · obtain rfl : i = q := by omega
      gi_wp2
      exact ⟨rfl, _, by simp [results, Try.results155, go_sem]; rfl, ⟨_, rfl⟩, HT.out.tw, .inl ⟨HV.out, HT.out.tv, HT.out.te⟩⟩
end Go.Proofs.Ytnbamjoadankmaa
/- The program's lattice: the last remainder. -/
namespace Go.Proofs.Ytnbamjoadankmaa
open Go.RowKit Go.Shelf D
attribute [local go_sem] Oper.semAt_some run_store_fn
def fourw (w : World) (x y : Value) (v : Nat → Int) (en st : Value) : World := (((w.alloc (.cells #[x, y] 100)).alloc (.cells #[.int .i64 (v 0), .int .i64 (v 1), .int .i64 (v 2), .int .i64 (v 3), .int .i64 (v 4), .int .i64 (v 5)] 36)).alloc (.cells #[en] 52)).alloc (.cells #[st] 146)
theorem remainders_any (x y : Value) (v : Nat → Int) (eb : Nat) (so : Option Addr) (m sc : Nat) (w : World) :
    Calls Try.prog 131 #[.agg #[x, y], PV v, .func (.func 130) #[] #[.pointer (some ⟨eb, 0, none⟩)], .slice so m sc] w fun e w' =>
      e = .returned (.func (.func 155) #[] #[.pointer (some ⟨w.heap.size + 1, 0, none⟩), .pointer (some ⟨w.heap.size, 0, none⟩), .pointer (some ⟨w.heap.size + 1 + 1 + 1, 0, none⟩), .pointer (some ⟨w.heap.size + 1 + 1, 0, none⟩)]) ∧ w' = fourw w x y v (.func (.func 130) #[] #[.pointer (some ⟨eb, 0, none⟩)]) (.slice so m sc) := by
  unfold PV
  go_enter Try.func131, Try.ntmps131
  go_wp2_with fail
  go_ret
  exact ⟨rfl, rfl⟩
theorem fourw_boxes (w : World) (x y : Value) (v : Nat → Int) (en st : Value) : PB (fourw w x y v en st) w.heap.size x y ∧ VB (fourw w x y v en st) (w.heap.size + 1) v ∧ Boxed (fourw w x y v en st) (w.heap.size + 1 + 1) 52 en ∧ Boxed (fourw w x y v en st) (w.heap.size + 1 + 1 + 1) 146 st ∧ Below w.heap.size w (fourw w x y v en st) ∧ (fourw w x y v en st).heap.size = w.heap.size + 4 := by
  unfold fourw
  have b1 := (Below.refl (w.heap.size + 1) (w.alloc (.cells #[x, y] 100)))
  refine ⟨?_, ?_, ?_, ?_, (((((Below.refl _ w).alloc (Nat.le_refl _) _).alloc (by simp) _).alloc (by simp <;> omega) _).alloc (by simp <;> omega) _), by simp⟩
  · exact (PB.new w x y).keep ((((b1.alloc (by simp) _).alloc (by simp) _).alloc (by simp <;> omega) _).block _ (by omega))
  · have h := VB.new (w.alloc (.cells #[x, y] 100)) v
    have hl := h.lt
    rw [World.size_alloc] at h
    exact h.keep ((((Below.refl _ _).alloc (Nat.le_refl _) (.cells #[en] 52)).alloc (by simp) (.cells #[st] 146)).block _ (by rw [World.size_alloc] at hl; exact hl))
  · have h := (Boxed.new ((w.alloc (.cells #[x, y] 100)).alloc (.cells #[.int .i64 (v 0), .int .i64 (v 1), .int .i64 (v 2), .int .i64 (v 3), .int .i64 (v 4), .int .i64 (v 5)] 36)) 52 en).alloc (.cells #[st] 146)
    simp only [World.size_alloc] at h; exact h
  · have h := Boxed.new (((w.alloc (.cells #[x, y] 100)).alloc (.cells #[.int .i64 (v 0), .int .i64 (v 1), .int .i64 (v 2), .int .i64 (v 3), .int .i64 (v 4), .int .i64 (v 5)] 36)).alloc (.cells #[en] 52)) 146 st
    simp only [World.size_alloc] at h; exact h
theorem fourl_boxes (w : World) (x y : Value) (v : Nat → Int) : VB ((((w.alloc (.cells #[x, y] 100)).alloc (.cells #[.int .i64 (v 0), .int .i64 (v 1), .int .i64 (v 2), .int .i64 (v 3), .int .i64 (v 4), .int .i64 (v 5)] 36)).alloc (.cells #[.int .i64 0, .int .i64 0, .int .i64 0, .int .i64 0, .int .i64 0, .int .i64 0] 36)).alloc (.cells #[.int .i64 0] 25)) (w.heap.size + 1) v ∧
    VB ((((w.alloc (.cells #[x, y] 100)).alloc (.cells #[.int .i64 (v 0), .int .i64 (v 1), .int .i64 (v 2), .int .i64 (v 3), .int .i64 (v 4), .int .i64 (v 5)] 36)).alloc (.cells #[.int .i64 0, .int .i64 0, .int .i64 0, .int .i64 0, .int .i64 0, .int .i64 0] 36)).alloc (.cells #[.int .i64 0] 25)) (w.heap.size + 1 + 1) (fun _ => 0) ∧
    Boxed ((((w.alloc (.cells #[x, y] 100)).alloc (.cells #[.int .i64 (v 0), .int .i64 (v 1), .int .i64 (v 2), .int .i64 (v 3), .int .i64 (v 4), .int .i64 (v 5)] 36)).alloc (.cells #[.int .i64 0, .int .i64 0, .int .i64 0, .int .i64 0, .int .i64 0, .int .i64 0] 36)).alloc (.cells #[.int .i64 0] 25)) (w.heap.size + 1 + 1 + 1) 25 (.int .i64 0) ∧
    Below w.heap.size w ((((w.alloc (.cells #[x, y] 100)).alloc (.cells #[.int .i64 (v 0), .int .i64 (v 1), .int .i64 (v 2), .int .i64 (v 3), .int .i64 (v 4), .int .i64 (v 5)] 36)).alloc (.cells #[.int .i64 0, .int .i64 0, .int .i64 0, .int .i64 0, .int .i64 0, .int .i64 0] 36)).alloc (.cells #[.int .i64 0] 25)) ∧
    ((((w.alloc (.cells #[x, y] 100)).alloc (.cells #[.int .i64 (v 0), .int .i64 (v 1), .int .i64 (v 2), .int .i64 (v 3), .int .i64 (v 4), .int .i64 (v 5)] 36)).alloc (.cells #[.int .i64 0, .int .i64 0, .int .i64 0, .int .i64 0, .int .i64 0, .int .i64 0] 36)).alloc (.cells #[.int .i64 0] 25)).heap.size = w.heap.size + 4 := by
  refine ⟨?_, ?_, ?_, (((((Below.refl _ w).alloc (Nat.le_refl _) _).alloc (by simp) _).alloc (by simp <;> omega) _).alloc (by simp <;> omega) _), by simp⟩
  · have h := VB.new (w.alloc (.cells #[x, y] 100)) v
    have hl := h.lt
    rw [World.size_alloc] at h hl
    exact h.keep ((((Below.refl _ _).alloc (Nat.le_refl _) _).alloc (by simp) _).block _ (by simp))
  · have h := VB.new ((w.alloc (.cells #[x, y] 100)).alloc (.cells #[.int .i64 (v 0), .int .i64 (v 1), .int .i64 (v 2), .int .i64 (v 3), .int .i64 (v 4), .int .i64 (v 5)] 36)) (fun _ => 0)
    simp only [World.size_alloc] at h
    exact h.keep (((Below.refl _ _).alloc (Nat.le_refl _) _).block _ (by simp))
  · have h := Boxed.new (((w.alloc (.cells #[x, y] 100)).alloc (.cells #[.int .i64 (v 0), .int .i64 (v 1), .int .i64 (v 2), .int .i64 (v 3), .int .i64 (v 4), .int .i64 (v 5)] 36)).alloc (.cells #[.int .i64 0, .int .i64 0, .int .i64 0, .int .i64 0, .int .i64 0, .int .i64 0] 36)) 25 (.int .i64 0)
    simp only [World.size_alloc] at h; exact h
end Go.Proofs.Ytnbamjoadankmaa
/- The program's lattice: the last remainder. -/
namespace Go.Proofs.Ytnbamjoadankmaa
open Go.RowKit Go.Shelf D
attribute [local go_sem] Oper.semAt_some run_store_fn
theorem but_below {n b : Nat} {x y : World} (h : But b x y) (h1 : n ≤ b) (h2 : n ≤ x.heap.size) : Below n x y := ⟨h.os, h.tape, h.output, h.size, fun k hk => h.block k (by omega) (by omega)⟩
set_option maxRecDepth 100000 in
set_option maxHeartbeats 8000000 in
theorem last_one (fo co : Option Addr) (fc cc q : Nat) (O : Nat → Nat → Int) (p : Nat → Nat) (x0 : Nat → Int) (sb so sc : Nat) (w : World) (hS : BS w fo fc co cc q O p) (hst : w.cell? ⟨sb, so, none⟩ = some (.func (.func 86) #[.agg #[.slice fo q fc, .slice co q cc]] #[])) (hsb : sb < w.heap.size) (hx0 : Vv x0) :
    Calls Try.prog 85 #[.agg #[.slice fo q fc, .slice co q cc], PV x0, .slice (some ⟨sb, so, none⟩) 1 sc] w fun e w' =>
      ((e = .returned (.tuple #[PV (rmd O p x0 q), .int .i64 0]) ∧ ∀ k, k ≤ q → Vv (rmd O p x0 k)) ∨ (e = .returned (.tuple #[PV fun _ => 0, .int .i64 3]) ∧ ∃ k, k ≤ q ∧ ¬ Vv (rmd O p x0 k))) ∧ Below w.heap.size w w' := by
  refine (callsIn_wide (n := 9)).1 ?_
  have HS := Bx.mk hS
  have HX0 := Bx.mk hx0
  have HRE := Bx.mk (fun (x y : Value) eb so m sc W => remainders_any x y x0 eb so m sc W)
  unfold PV at HRE ⊢
  refine callsIn_of_wp_marks Try.func85 rfl trivial ?_ rfl
  simp only [Try.ntmps85, List.size_toArray, List.length_cons, List.length_nil, Nat.reduceAdd, Nat.reduceSub, Array.replicate_succ, Array.replicate_zero, List.push_toArray, List.append_toArray, List.nil_append, List.cons_append]
  gi_wp2_with (refine ⟨trivial, ?_⟩; gi_at_call 131; refine (callsIn_wide.2 (HRE.out _ _ _ _ _ _ _)).mono ?_; rintro e w' ⟨rfl, rfl⟩)
  obtain ⟨V0, hV0⟩ : ∃ V0, ((((w.alloc (.cells #[.slice fo q fc, .slice co q cc] 100)).alloc (.cells #[.int .i64 (x0 0), .int .i64 (x0 1), .int .i64 (x0 2), .int .i64 (x0 3), .int .i64 (x0 4), .int .i64 (x0 5)] 36)).alloc (.cells #[.int .i64 0, .int .i64 0, .int .i64 0, .int .i64 0, .int .i64 0, .int .i64 0] 36)).alloc (.cells #[.int .i64 0] 25)) = V0 := ⟨_, rfl⟩
  obtain ⟨hv1, hv2, hv3, hv4, hv5⟩ := fourl_boxes w (.slice fo q fc) (.slice co q cc) x0
  rw [hV0] at hv1 hv2 hv3 hv4 hv5 ⊢
  clear hV0
  obtain ⟨W0, hW0⟩ : ∃ W0, fourw V0 (.slice fo q fc) (.slice co q cc) x0 (.func (.func 130) #[] #[.pointer (some ⟨w.heap.size + 1 + 1 + 1, 0, none⟩)]) (.slice (some ⟨sb, so, none⟩) 1 sc) = W0 := ⟨_, rfl⟩
  obtain ⟨hw1, hw2, hw3, hw4, hw5, hw6⟩ := fourw_boxes V0 (.slice fo q fc) (.slice co q cc) x0 (.func (.func 130) #[] #[.pointer (some ⟨w.heap.size + 1 + 1 + 1, 0, none⟩)]) (.slice (some ⟨sb, so, none⟩) 1 sc)
  rw [hW0] at hw1 hw2 hw3 hw4 hw5 hw6 ⊢
  clear hW0
  have hs0 : W0.heap.size = w.heap.size + 8 := by omega
  rw [hv5] at hw1 hw2 hw3 hw4
  have hB0 : Below w.heap.size w W0 := hv4.trans (hw5.mono (by omega))
  have hv1' : VB W0 (w.heap.size + 1) x0 := hv1.keep (hw5.block _ (by omega))
  have hv2' : VB W0 (w.heap.size + 1 + 1) (fun _ => 0) := hv2.keep (hw5.block _ (by omega))
  have hv3' : Boxed W0 (w.heap.size + 1 + 1 + 1) 25 (.int .i64 0) := (hw5.block _ (by omega)).trans hv3
  refine vec_loop rfl (by omega) (gf := 155) (lb := #[.pointer (some ⟨w.heap.size + 1 + 1 + 1 + 1 + 1, 0, none⟩), .pointer (some ⟨w.heap.size + 1 + 1 + 1 + 1, 0, none⟩), .pointer (some ⟨w.heap.size + 1 + 1 + 1 + 1 + 1 + 1 + 1, 0, none⟩), .pointer (some ⟨w.heap.size + 1 + 1 + 1 + 1 + 1 + 1, 0, none⟩)]) rfl trivial (enters_of Try.func155 (by kernel_rfl) rfl) rfl (w.heap.size + 1) (by omega)
    (fun x => .agg #[.int .i64 (x 0), .int .i64 (x 1), .int .i64 (x 2), .int .i64 (x 3), .int .i64 (x 4), .int .i64 (x 5)])
    (fun x b => { tmps := #[.agg #[.slice fo q fc, .slice co q cc], .agg #[.int .i64 (x0 0), .int .i64 (x0 1), .int .i64 (x0 2), .int .i64 (x0 3), .int .i64 (x0 4), .int .i64 (x0 5)], .slice (some ⟨sb, so, none⟩) 1 sc, .pointer (some ⟨w.heap.size, 0, none⟩), .pointer (some ⟨w.heap.size + 1, 0, none⟩), undef, .pointer (some ⟨w.heap.size + 1 + 1, 0, none⟩), .int .i64 0, .pointer (some ⟨w.heap.size + 1 + 1 + 1, 0, none⟩), .func (.func 130) #[] #[.pointer (some ⟨w.heap.size + 1 + 1 + 1, 0, none⟩)], .pointer (some ⟨b, 0, none⟩), .func (.func 130) #[] #[.pointer (some ⟨w.heap.size + 1 + 1 + 1, 0, none⟩)], .agg #[.slice fo q fc, .slice co q cc], .agg #[.int .i64 (x0 0), .int .i64 (x0 1), .int .i64 (x0 2), .int .i64 (x0 3), .int .i64 (x0 4), .int .i64 (x0 5)], .func (.func 130) #[] #[.pointer (some ⟨w.heap.size + 1 + 1 + 1, 0, none⟩)], .slice (some ⟨sb, so, none⟩) 1 sc, .func (.func 155) #[] #[.pointer (some ⟨w.heap.size + 1 + 1 + 1 + 1 + 1, 0, none⟩), .pointer (some ⟨w.heap.size + 1 + 1 + 1 + 1, 0, none⟩), .pointer (some ⟨w.heap.size + 1 + 1 + 1 + 1 + 1 + 1 + 1, 0, none⟩), .pointer (some ⟨w.heap.size + 1 + 1 + 1 + 1 + 1 + 1, 0, none⟩)], .agg #[.int .i64 (x 0), .int .i64 (x 1), .int .i64 (x 2), .int .i64 (x 3), .int .i64 (x 4), .int .i64 (x 5)], undef, undef, undef, undef, undef, undef], defers := [] })
    ?assign ?body
    (fun W => Below w.heap.size w W ∧ VB W (w.heap.size + 1 + 1) (fun _ => 0) ∧ (((∀ k, k ≤ q → Vv (rmd O p x0 k)) ∧ VB W (w.heap.size + 1) (rmd O p x0 q) ∧ Boxed W (w.heap.size + 1 + 1 + 1) 25 (.int .i64 0)) ∨ ((∃ k, k ≤ q ∧ ¬ Vv (rmd O p x0 k)) ∧ Boxed W (w.heap.size + 1 + 1 + 1) 25 (.int .i64 3))))
    (fun A o h => have hb := below_put A (n := W0.heap.size) (l := W0.heap.size + 1) (by omega) o; ⟨h.1.trans (hb.mono (by omega)), h.2.1.keep (hb.block _ (by omega)), h.2.2.imp (fun h => ⟨h.1, h.2.1.keep (hb.block _ (by omega)), (hb.block _ (by omega)).trans h.2.2⟩) (fun h => ⟨h.1, (hb.block _ (by omega)).trans h.2⟩)⟩)
    ?call ?done
  case assign =>
    intro l x W
    gi_wp2
    exact ⟨trivial, (Below.refl _ W).alloc (Nat.le_refl _) _, VB.new W x⟩
  case body =>
    intro l x b W y hb hy hne
    have c0 := hb.c0
    have c1 := hb.c1
    have c2 := hb.c2
    have c3 := hb.c3
    have c4 := hb.c4
    have c5 := hb.c5
    have f0 := hy.f 0
    have f1 := hy.f 1
    have f2 := hy.f 2
    have f3 := hy.f 3
    have f4 := hy.f 4
    have f5 := hy.f 5
    have d0 := hy.c0
    have d1 := hy.c1
    have d2 := hy.c2
    have d3 := hy.c3
    have d4 := hy.c4
    have d5 := hy.c5
    gi_wp2
    simp only [six6, Nat.zero_add]
  case call =>
    intro r W1 hB hsz hl hY
    have hb1 := fun k (hk : k < w.heap.size + 8) => hB.block k (by omega)
    refine (rem_one (9 - 1) w W1 (W0.heap.size + 1) r fo co fc cc q O p x0 sb so sc (w.heap.size + 1 + 1 + 1 + 1 + 1) (w.heap.size + 1 + 1 + 1 + 1) (w.heap.size + 1 + 1 + 1 + 1 + 1 + 1 + 1) (w.heap.size + 1 + 1 + 1 + 1 + 1 + 1) (w.heap.size + 1) (w.heap.size + 1 + 1 + 1)
      HS.out (hB0.trans (hB.mono (by omega))) hst hsb (by omega) (by omega) (by omega) (by omega) (by omega) (by omega) (by omega) (hw1.keep (hb1 _ (by omega))) (hw2.keep (hb1 _ (by omega))) ((hb1 _ (by omega)).trans hw3) ((hb1 _ (by omega)).trans hw4) hl (hv1'.keep (hb1 _ (by omega))) ((hb1 _ (by omega)).trans hv3') HX0.out (fun m x W h1 h2 => yield_any rfl m (hY x W h1 h2))).mono ?_
    rintro e W' ⟨h1, h2, h3⟩
    exact ⟨h1, h2.size, fun k hk hk2 => h2.block k hk2 (by omega) (by omega), h2.base (hB0.trans (hB.mono (by omega))) (by omega) (by omega), (hv2'.keep (hb1 _ (by omega))).keep (h2.block _ (by omega) (by omega) (by omega)), h3⟩
  case done =>
    rintro W ⟨hB, hv2, hR⟩ hs hD
    rcases hR with ⟨hk, hv, he⟩ | ⟨hk, he⟩
    · have ce := he.cell
      obtain ⟨x, hx⟩ : ∃ x, rmd O p x0 q = x := ⟨_, rfl⟩
      rw [hx] at hv
      have c0 := hv.c0
      have c1 := hv.c1
      have c2 := hv.c2
      have c3 := hv.c3
      have c4 := hv.c4
      have c5 := hv.c5
      have f0 := hv2.f 0
      have f1 := hv2.f 1
      have f2 := hv2.f 2
      have f3 := hv2.f 3
      have f4 := hv2.f 4
      have f5 := hv2.f 5
      have d0 := hv2.c0
      have d1 := hv2.c1
      have d2 := hv2.c2
      have d3 := hv2.c3
      have d4 := hv2.c4
      have d5 := hv2.c5
      have hb6 := but_lit (w.heap.size + 1 + 1) W x
      have V6 := hv2.lit x
      have hlD : W0.heap.size < W.heap.size := (Array.getElem?_eq_some_iff.1 hD).1
      have hK := (hb6.block W0.heap.size hlD (by omega)).trans hD
      have hBB := hB.trans (but_below hb6 (n := w.heap.size) (by omega) (by omega))
      gi_wp2
      refine ⟨by simp, .inl ⟨_, _, rfl, run_takeDeferred hK, ?_⟩⟩
      have V7 := V6.keep (W' := World.putObj _ W0.heap.size (.deferred none)) (World.putObj_heap_other (by omega))
      have e0 := V7.c0
      have e1 := V7.c1
      have e2 := V7.c2
      have e3 := V7.c3
      have e4 := V7.c4
      have e5 := V7.c5
      refine ⟨.tuple #[.agg #[.int .i64 (x 0), .int .i64 (x 1), .int .i64 (x 2), .int .i64 (x 3), .int .i64 (x 4), .int .i64 (x 5)], .int .i64 0], ?_, .inl ⟨by rw [hx], hk⟩, hBB.trans (below_put _ (by omega) _)⟩
      simp [results, Try.results85, go_sem, e0, e1, e2, e3, e4, e5]
    · have ce := he.cell
      have f0 := hv2.f 0
      have f1 := hv2.f 1
      have f2 := hv2.f 2
      have f3 := hv2.f 3
      have f4 := hv2.f 4
      have f5 := hv2.f 5
      have d0 := hv2.c0
      have d1 := hv2.c1
      have d2 := hv2.c2
      have d3 := hv2.c3
      have d4 := hv2.c4
      have d5 := hv2.c5
      gi_wp2
      gi_region
      gi_wp2
      have hb6 : But (w.heap.size + 1 + 1) W ((((((W.setCell ⟨w.heap.size + 1 + 1, 0, none⟩ (.int .i64 0)).setCell ⟨w.heap.size + 1 + 1, 1, none⟩ (.int .i64 0)).setCell ⟨w.heap.size + 1 + 1, 2, none⟩ (.int .i64 0)).setCell ⟨w.heap.size + 1 + 1, 3, none⟩ (.int .i64 0)).setCell ⟨w.heap.size + 1 + 1, 4, none⟩ (.int .i64 0)).setCell ⟨w.heap.size + 1 + 1, 5, none⟩ (.int .i64 0)) := but_lit (w.heap.size + 1 + 1) W (fun _ => 0)
      have V6 : VB ((((((W.setCell ⟨w.heap.size + 1 + 1, 0, none⟩ (.int .i64 0)).setCell ⟨w.heap.size + 1 + 1, 1, none⟩ (.int .i64 0)).setCell ⟨w.heap.size + 1 + 1, 2, none⟩ (.int .i64 0)).setCell ⟨w.heap.size + 1 + 1, 3, none⟩ (.int .i64 0)).setCell ⟨w.heap.size + 1 + 1, 4, none⟩ (.int .i64 0)).setCell ⟨w.heap.size + 1 + 1, 5, none⟩ (.int .i64 0)) (w.heap.size + 1 + 1) (fun _ => 0) := hv2.lit (fun _ => 0)
      obtain ⟨Z, hZ⟩ : ∃ Z, ((((((W.setCell ⟨w.heap.size + 1 + 1, 0, none⟩ (.int .i64 0)).setCell ⟨w.heap.size + 1 + 1, 1, none⟩ (.int .i64 0)).setCell ⟨w.heap.size + 1 + 1, 2, none⟩ (.int .i64 0)).setCell ⟨w.heap.size + 1 + 1, 3, none⟩ (.int .i64 0)).setCell ⟨w.heap.size + 1 + 1, 4, none⟩ (.int .i64 0)).setCell ⟨w.heap.size + 1 + 1, 5, none⟩ (.int .i64 0)) = Z := ⟨_, rfl⟩
      rw [hZ] at hb6 V6 ⊢
      clear hZ
      have hlD : W0.heap.size < W.heap.size := (Array.getElem?_eq_some_iff.1 hD).1
      have hK : Z.drew.heap[W0.heap.size]? = _ := (hb6.block W0.heap.size hlD (by omega)).trans hD
      have hBB := below_drew (hB.trans (but_below hb6 (n := w.heap.size) (by omega) (by omega)))
      have V6' : VB Z.drew (w.heap.size + 1 + 1) (fun _ => 0) := V6
      refine ⟨by simp, .inl ⟨_, _, rfl, run_takeDeferred hK, ?_⟩⟩
      have V7 := V6'.keep (W' := World.putObj _ W0.heap.size (.deferred none)) (World.putObj_heap_other (by omega))
      have e0 := V7.c0
      have e1 := V7.c1
      have e2 := V7.c2
      have e3 := V7.c3
      have e4 := V7.c4
      have e5 := V7.c5
      refine ⟨.tuple #[.agg #[.int .i64 0, .int .i64 0, .int .i64 0, .int .i64 0, .int .i64 0, .int .i64 0], .int .i64 3], ?_, .inr ⟨rfl, hk⟩, hBB.trans (below_put _ (by omega) _)⟩
      simp [results, Try.results85, go_sem, e0, e1, e2, e3, e4, e5]
end Go.Proofs.Ytnbamjoadankmaa

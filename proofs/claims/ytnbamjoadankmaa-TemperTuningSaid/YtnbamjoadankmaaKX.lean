/- kernel of the program. -/
import Derived.Test.YtnbamjoadankmaaKW
import Derived.Deep.RegionHeld3
namespace Go.Proofs.Ytnbamjoadankmaa
open Go.RowKit D
theorem solS_at {G : Nat → Nat → Int} {cs : List Nat} (hn : cs.Nodup) {c i : Nat} (hi : i < cs.length) : -(G i c) = solS G cs c (i + 1) (cs.getD i 0) := by
  unfold solS; rw [idx_at hn hi, if_pos (Nat.lt_succ_self i)]
theorem solS_ne {G : Nat → Nat → Int} {cs : List Nat} {c i t : Nat} (hi : i < cs.length) (ht : t ≠ cs.getD i 0) : solS G cs c (i + 1) t = solS G cs c i t := by
  have h : cs.idxOf t ≠ i := fun e => ht (by
    subst e
    have := List.getElem_idxOf hi
    rw [List.getD_eq_getElem?_getD, List.getElem?_eq_getElem hi, this]; rfl)
  unfold solS
  by_cases h1 : cs.idxOf t < i
  · rw [if_pos h1, if_pos (by omega)]
  · rw [if_neg h1, if_neg (by omega)]
/-- The rows of the kernel that are written. -/
def mixK (O H : Nat → Nat → Int) (q t : Nat) : Nat → Nat → Int := fun r => if q ≤ r ∧ r < q + t then O (r - q) else H r
def leadI (G : Nat → Nat → Int) (c i : Nat) : Nat → Int := fun t => if t < i then G t c else 0
/-- The cells of a row. -/
def Vc (w : World) (b : Nat) (f : Nat → Int) : Prop := ∀ t, t < 6 → w.cell? ⟨b, t, none⟩ = some (.int .i64 (f t)) ∧ w.frozen? ⟨b, t, none⟩ = false
theorem Vc.keep {w w' : World} {b : Nat} {f : Nat → Int} (h : Vc w b f) (hk : w'.heap[b]? = w.heap[b]?) (hf : ∀ t, w'.frozen? ⟨b, t, none⟩ = w.frozen? ⟨b, t, none⟩) : Vc w' b f := fun t ht => ⟨(World.cell?_of_block (w := w) hk).trans (h t ht).1, (hf t).trans (h t ht).2⟩
/-- A world that keeps the blocks of another one. -/
structure Kp (x W : World) : Prop where
  size : x.heap.size ≤ W.heap.size
  block : ∀ b, b < x.heap.size → W.heap[b]? = x.heap[b]?
  below : ∀ base w0, base ≤ x.heap.size → Below base w0 x → Below base w0 W
theorem Kp.refl (x : World) : Kp x x := ⟨Nat.le_refl _, fun _ _ => rfl, fun _ _ _ h => h⟩
theorem Kp.alloc {x W : World} {o : Obj} (h : Kp x W) : Kp x (W.alloc o) :=
  ⟨by rw [World.size_alloc]; have := h.size; omega, fun b hb => (Below.heap_alloc _ _ _ (Nat.lt_of_lt_of_le hb h.size)).trans (h.block b hb), fun base w0 hb hw => (h.below base w0 hb hw).alloc (Nat.le_trans hb h.size) _⟩
theorem Kp.drew {x W : World} (h : Kp x W) : Kp x W.drew := ⟨h.size, h.block, fun base w0 hb hw => (h.below base w0 hb hw).drew⟩
theorem grown_out {x W W' : World} {u : Option Nat} (h : W.grownBy W' u) (k : Kp x W) (hu : ∀ q, u = some q → q < x.heap.size) : x.heap.size ≤ W'.heap.size ∧ (∀ b, b < x.heap.size → some b ≠ u → W'.heap[b]? = x.heap[b]?) ∧ (∀ base w0, base ≤ x.heap.size → Below base w0 x → (∀ q, u = some q → base ≤ q) → Below base w0 W') :=
  ⟨Nat.le_trans k.size h.size, fun b hb hne => (h.block b (Nat.lt_of_lt_of_le hb k.size) hne).trans (k.block b hb), fun base w0 hb hw hq => (k.below base w0 hb hw).grown h (Nat.le_trans hb k.size) hq⟩
theorem nb_news {W : World} {k : Nat} (f : Nat → Int) (t : TypeId) (h : W.heap[k]? = some (.cells #[.int .i64 (f 0), .int .i64 (f 1), .int .i64 (f 2), .int .i64 (f 3), .int .i64 (f 4), .int .i64 (f 5)] t)) : ∀ j u, (sixL f)[j]? = some u → W.cell? ((⟨k, 0, none⟩ : Addr).add j) = some u := fun j u hj => by
  have hl : j < 6 := by have := (List.getElem?_eq_some_iff.1 hj).1; simpa [sixL] using this
  rw [Addr.add_lit, Nat.zero_add]
  rw [sixL_get hl] at hj
  cases hj
  simp only [World.cell?, h]
  rcases six_cases' hl with rfl | rfl | rfl | rfl | rfl | rfl <;> rfl
def S12 (W : World) (B : Nat) (f g : Nat → Int) : Prop := W.cell? ⟨B, 0, none⟩ = some (.int .i64 (f 0)) ∧ W.cell? ⟨B, 1, none⟩ = some (.int .i64 (f 1)) ∧ W.cell? ⟨B, 2, none⟩ = some (.int .i64 (f 2)) ∧ W.cell? ⟨B, 3, none⟩ = some (.int .i64 (f 3)) ∧ W.cell? ⟨B, 4, none⟩ = some (.int .i64 (f 4)) ∧ W.cell? ⟨B, 5, none⟩ = some (.int .i64 (f 5)) ∧ W.cell? ⟨B + 1, 0, none⟩ = some (.int .i64 (g 0)) ∧ W.cell? ⟨B + 1, 1, none⟩ = some (.int .i64 (g 1)) ∧ W.cell? ⟨B + 1, 2, none⟩ = some (.int .i64 (g 2)) ∧ W.cell? ⟨B + 1, 3, none⟩ = some (.int .i64 (g 3)) ∧ W.cell? ⟨B + 1, 4, none⟩ = some (.int .i64 (g 4)) ∧ W.cell? ⟨B + 1, 5, none⟩ = some (.int .i64 (g 5))
theorem keep12 {w w' : World} {B : Nat} {f g : Nat → Int} (h0 : w'.heap[B]? = w.heap[B]?) (h1 : w'.heap[B + 1]? = w.heap[B + 1]?) (h : S12 w B f g) : w'.cell? ⟨B, 0, none⟩ = some (.int .i64 (f 0)) ∧ w'.cell? ⟨B, 1, none⟩ = some (.int .i64 (f 1)) ∧ w'.cell? ⟨B, 2, none⟩ = some (.int .i64 (f 2)) ∧ w'.cell? ⟨B, 3, none⟩ = some (.int .i64 (f 3)) ∧ w'.cell? ⟨B, 4, none⟩ = some (.int .i64 (f 4)) ∧ w'.cell? ⟨B, 5, none⟩ = some (.int .i64 (f 5)) ∧ w'.cell? ⟨B + 1, 0, none⟩ = some (.int .i64 (g 0)) ∧ w'.cell? ⟨B + 1, 1, none⟩ = some (.int .i64 (g 1)) ∧ w'.cell? ⟨B + 1, 2, none⟩ = some (.int .i64 (g 2)) ∧ w'.cell? ⟨B + 1, 3, none⟩ = some (.int .i64 (g 3)) ∧ w'.cell? ⟨B + 1, 4, none⟩ = some (.int .i64 (g 4)) ∧ w'.cell? ⟨B + 1, 5, none⟩ = some (.int .i64 (g 5)) := by
  obtain ⟨s0, s1, s2, s3, s4, s5, s6, s7, s8, s9, s10, s11⟩ := h
  exact ⟨(World.cell?_of_block (w := w) h0).trans s0, (World.cell?_of_block (w := w) h0).trans s1, (World.cell?_of_block (w := w) h0).trans s2, (World.cell?_of_block (w := w) h0).trans s3, (World.cell?_of_block (w := w) h0).trans s4, (World.cell?_of_block (w := w) h0).trans s5, (World.cell?_of_block (w := w) h1).trans s6, (World.cell?_of_block (w := w) h1).trans s7, (World.cell?_of_block (w := w) h1).trans s8, (World.cell?_of_block (w := w) h1).trans s9, (World.cell?_of_block (w := w) h1).trans s10, (World.cell?_of_block (w := w) h1).trans s11⟩
set_option maxRecDepth 100000 in
set_option maxHeartbeats 16000000 in
theorem pkernel_any (ao : Option Addr) (n c1 : Nat) (M : Nat → Nat → Int) (w : World) (hv : VM M n) (hc1 : n ≤ c1) (hR : CV w ao n M) :
    Calls Try.prog 76 #[.slice ao n c1] w fun e w' => ∃ (ko : Option Addr) (kc u : Nat) (O : Nat → Nat → Int) (p : Nat → Nat), e = .returned (.slice ko u kc) ∧ CV w' ko u O ∧ u ≤ kc ∧ kc ≤ maxLen ∧ u ≤ 6 ∧ Hf O u 6 p ∧ (∀ i k, i < u → k < n → dot 6 (M k) (O i) = 0) ∧ (∀ y, (∀ k, k < n → dot 6 (M k) y = 0) → Sp O u 6 y) ∧ Below w.heap.size w w' := by
  have hmx : Try.prog.follows .mixedOrders = true := by kernel_rfl
  have hn8 := hv.1
  obtain ⟨tj, htj, htj2⟩ := Option.map_eq_some_iff.1 info_rows2
  simp only [Prod.mk.injEq] at htj2
  obtain ⟨hy0, hy1, hy2⟩ := htj2
  have HTJ := Bx.mk htj
  have FA := Bx.mk (last2_any ao n c1 M w hv hc1 hR)
  have HV := Bx.mk hv
  have HR := Bx.mk hR
  clear htj hv hR
  go_enter Try.func76, Try.ntmps76
  go_wp2_with (first
    | (go_at_call 117; refine FA.out.mono ?_; clear FA; rintro e w2 ⟨is, cs, fo, ro, fc, rc, q, om, rfl, HQ, HOM, HGR, hq6, hom0, hom1, HMB, HF, HRV, HB2⟩))
  obtain ⟨w3, hw3⟩ : ∃ w3, w2.alloc (.cells #[.slice fo q fc, .int .i64 om, .slice ro q rc] 96) = w3 := ⟨_, rfl⟩
  have hs3 : w3.heap.size = w2.heap.size + 1 := by rw [← hw3]; simp
  have hF3 : FB w3 w2.heap.size (.slice fo q fc) (.int .i64 om) (.slice ro q rc) := by rw [← hw3]; exact World.alloc_heap_new w2 _
  have hB23 : Below w2.heap.size w2 w3 := by rw [← hw3]; exact (Below.refl _ w2).alloc (Nat.le_refl _) _
  have hof := own_keep HF.out fun k _ hks => hB23.block k hks
  have hor := own_keep HRV.out fun k _ hks => hB23.block k hks
  have hB3 : Below w.heap.size w w3 := HB2.out.trans (hB23.mono HB2.out.size)
  obtain ⟨G, hG⟩ : ∃ G : Nat → Nat → Int, (fun t c => mn (is.map M) (cs.set t c)) = G := ⟨_, rfl⟩
  rw [hG] at hor
  have HFB := Bx.mk hF3
  have HOF := Bx.mk (cn_of_owns hof)
  have HOR := Bx.mk (own_cv hor)
  have hrq : q ≤ rc := by
    rcases hor.2 with ⟨e, e2⟩ | ⟨g, cap, cur, e, _, _, h2, _⟩
    · omega
    · simp only [Value.slice.injEq] at e; omega
  have HB3 := Bx.mk hB3
  have HS3 := Bx.mk hs3
  have HGG : Bx (∀ k c, mn (is.map M) (cs.set k c) = G k c) := ⟨fun k c => by rw [← hG]⟩
  have HGB : Bx (∀ k c, k < q → c < 6 → (G k c).natAbs ≤ 1000000000) := ⟨fun k c hk hc => by rw [← hG]; exact HMB.out k c hk hc⟩
  have HND := Bx.mk (cs_nodup HGR.out.2)
  have HRS : Bx (q + (rest 6 cs).length = 6) := ⟨by rw [← HQ.out]; exact rest_six HND.out HGR.out.1.cols⟩
  obtain ⟨fo', fc', ef, lf, hfc, nf⟩ := HOF.out
  simp only [Value.slice.injEq] at ef
  obtain ⟨rfl, -, rfl⟩ := ef
  have NF := Bx.mk nf
  have lfq : q ≤ fc := by have := HQ.out; omega
  rw [hw3]
  clear hw3 hF3 hB23 hof hor hB3 HF HRV HB2 hs3 hG nf lf HMB HOF
  go_loopw [5, 6, 19] (fun lv' sv' ix wr => ∃ (c : Nat) (lv sv : Value), c ≤ 6 ∧ ix = .int .i64 c ∧ lv = lv' ∧ sv = sv' ∧ Bx (wr.ownsRow (w2.heap.size + 1) 36 6 lv (rest c cs).length (rowsL (leadR G cs) (rest c cs).length)) ∧ Bx (wr.ownsRow (w2.heap.size + 1) 36 6 sv (rest c cs).length (rowsL (solR G cs om) (rest c cs).length)) ∧ Bx (∀ q, lv.ownBlock = some q → sv.ownBlock ≠ some q) ∧ Bx (Below (w2.heap.size + 1) w3 wr)) (fun _ _ ix _ => 6 - (intOf ix).toNat)
  case atStart => exact ⟨0, _, _, by omega, rfl, rfl, rfl, ⟨World.ownsRow_nil _ _ _ _⟩, ⟨World.ownsRow_nil _ _ _ _⟩, ⟨fun q hq => by simp [Value.ownBlock] at hq⟩, ⟨Below.refl _ _⟩⟩
  case round =>
    obtain ⟨c, lv, sv, hc, rfl, rfl, rfl, HLV, HSV, HDI, HB⟩ := hrel
    have hfb := HFB.out.lt
    have e0 := (HFB.out.keep (HB.out.block _ (by omega))).c0
    have e1 := (HFB.out.keep (HB.out.block _ (by omega))).c1
    have e2 := (HFB.out.keep (HB.out.block _ (by omega))).c2
    have hw3s := HS3.out
    have hbw := HB.out.size
    by_cases hlt : c < 6
    · have CA := Bx.mk (contains_any fo q fc c cs wr HQ.out lfq (by omega) (NF.out.keep (by rw [hw3s]; exact HB.out)))
      cases hcc : cs.contains c with
      | true =>
        rw [hcc] at CA
        go_wp2_with (go_at_call 118; refine CA.out.mono ?_; clear CA; rintro e w4 ⟨rfl, HB4⟩)
        go_roundw
        case rel =>
          have er : rest (c + 1) cs = rest c cs := by rw [rest_one, hcc]; rfl
          exact ⟨c + 1, lv, sv, by omega, by go_num, rfl, rfl, ⟨by rw [er]; exact own_keep HLV.out fun k _ hks => HB4.block k hks⟩, ⟨by rw [er]; exact own_keep HSV.out fun k _ hks => HB4.block k hks⟩, HDI, ⟨HB.out.trans (HB4.mono (by omega))⟩⟩
        case measure => simp [intOf]; omega
      | false =>
        rw [hcc] at CA
        obtain ⟨l, hl⟩ : ∃ l, (rest c cs).length = l := ⟨_, rfl⟩
        have HFR := rest_at (cs := cs) hlt hcc
        have er : rest (c + 1) cs = rest c cs ++ [c] := by rw [rest_one, hcc]; rfl
        have HL1 : Bx ((rest (c + 1) cs).length = l + 1) := ⟨by rw [er, List.length_append, hl]; rfl⟩
        rw [hl] at HLV HSV HFR
        have hlu : q + l < 6 := by have := HRS.out; have := HFR.2; omega
        have HFC := Bx.mk HFR.1
        have HLL := Bx.mk hl
        have HCC := Bx.mk hcc
        clear hl HFR er hcc
        go_wp2_with (go_at_call 118; refine CA.out.mono ?_; clear CA; rintro e w4 ⟨rfl, HB4⟩
                     have hb40 := HB4.size
                     have HBa : Bx (Below (w2.heap.size + 1) w3 ((w4.alloc (.cells #[.int .i64 0, .int .i64 0, .int .i64 0, .int .i64 0, .int .i64 0, .int .i64 0] 36)).alloc (.cells #[.int .i64 0, .int .i64 0, .int .i64 0, .int .i64 0, .int .i64 0, .int .i64 0] 36))) := ⟨((HB.out.trans (HB4.mono (by omega))).alloc (by omega) _).alloc (by simp; omega) _⟩
                     have e3 := (HFB.out.keep (HBa.out.block _ (by omega))).c2)
        obtain ⟨B, hBB⟩ : ∃ B, w4.heap.size = B := ⟨_, rfl⟩
        have HA := box_cell2 w4 (fun _ => 0) (fun _ => 0) 36
        obtain ⟨w5, hw5⟩ : ∃ w5, (w4.alloc (.cells #[.int .i64 0, .int .i64 0, .int .i64 0, .int .i64 0, .int .i64 0, .int .i64 0] 36)).alloc (.cells #[.int .i64 0, .int .i64 0, .int .i64 0, .int .i64 0, .int .i64 0, .int .i64 0] 36) = w5 := ⟨_, rfl⟩
        have hs5 : w5.heap.size = B + 2 := by rw [← hw5, ← hBB]; simp
        have HV1 : Bx (Vc w5 B (leadI G c 0)) := ⟨fun t ht => ⟨by rw [← hw5, ← hBB]; have := HA.1 t ht; unfold leadI; rw [if_neg (by omega)]; exact this, by rw [← hw5, ← hBB]; simp [go_sem]⟩⟩
        have HV2 : Bx (Vc w5 (B + 1) (solS G cs c 0)) := ⟨fun t ht => ⟨by rw [← hw5, ← hBB]; have := HA.2 t ht; unfold solS; rw [if_neg (by omega)]; exact this, by rw [← hw5, ← hBB]; simp [go_sem]⟩⟩
        rw [hw5] at HBa
        have hB45 : Below B w4 w5 := by rw [← hw5, ← hBB]; exact ((Below.refl _ w4).alloc (Nat.le_refl _) _).alloc (by simp) _
        have HLV5 : Bx (w5.ownsRow (w2.heap.size + 1) 36 6 lv l (rowsL (leadR G cs) l)) := ⟨own_keep HLV.out fun k _ hks => (hB45.block k (by omega)).trans (HB4.block k hks)⟩
        have HSV5 : Bx (w5.ownsRow (w2.heap.size + 1) 36 6 sv l (rowsL (solR G cs om) l)) := ⟨own_keep HSV.out fun k _ hks => (hB45.block k (by omega)).trans (HB4.block k hks)⟩
        have HLB : Bx (∀ k, (lv.ownBlock = some k → k < B) ∧ (sv.ownBlock = some k → k < B)) := ⟨fun k => ⟨fun h => by have := (own_lt HLV.out k h).2; omega, fun h => by have := (own_lt HSV.out k h).2; omega⟩⟩
        have hB3 : w2.heap.size + 1 ≤ B := by omega
        rw [hw5]
        simp only [hBB, World.size_alloc]
        clear hw5 HA hB45 HLV HSV HB4 hb40 e0 e1 e2 e3 HB hbw hBB
        go_loopw [29] (fun ix wr => ∃ i : Nat, i ≤ q ∧ ix = .int .i64 i ∧ Bx (Vc wr B (leadI G c i)) ∧ Bx (Vc wr (B + 1) (solS G cs c i)) ∧ B + 2 ≤ wr.heap.size ∧ Bx (Below B w5 wr)) (fun ix _ => q - (intOf ix).toNat)
        case atStart => exact ⟨0, by omega, rfl, HV1, HV2, by omega, ⟨Below.refl _ _⟩⟩
        case round =>
          clear HV1 HV2
          obtain ⟨i, hi, rfl, HV1, HV2, hsz, HBi⟩ := hrel
          have HBw : Bx (Below (w2.heap.size + 1) w3 wr) := ⟨HBa.out.trans (HBi.out.mono (by omega))⟩
          by_cases hiq : i < q
          · obtain ⟨b, o, rfl, hb, hcr⟩ := HOR.out (by omega)
            obtain ⟨b5, o5, rfl, hb5, hcj⟩ := NF.out (by intro e; have := HQ.out; subst e; simp at this; omega)
            have hb' : b < w2.heap.size + 1 := by omega
            have hb5' : b5 < w2.heap.size + 1 := by omega
            have a0 := HBw.out.cell (p := ⟨b, o + i * 6 + 0, none⟩) hb'
            have a1 := HBw.out.cell (p := ⟨b, o + i * 6 + 1, none⟩) hb'
            have a2 := HBw.out.cell (p := ⟨b, o + i * 6 + 2, none⟩) hb'
            have a3 := HBw.out.cell (p := ⟨b, o + i * 6 + 3, none⟩) hb'
            have a4 := HBw.out.cell (p := ⟨b, o + i * 6 + 4, none⟩) hb'
            have a5 := HBw.out.cell (p := ⟨b, o + i * 6 + 5, none⟩) hb'
            rw [hcr i _ hiq (by omega)] at a0 a1 a2 a3 a4 a5
            rw [Nat.add_zero] at a0
            clear hcr
            obtain ⟨x, hx⟩ : ∃ x, G i c = x := ⟨_, rfl⟩
            obtain ⟨ci, hci⟩ : ∃ ci, cs.getD i 0 = ci := ⟨_, rfl⟩
            have hc6 : ci < 6 := by rw [← hci]; exact HGR.out.1.cols _ (getD_mem (by rw [HQ.out]; exact hiq))
            have hi6 : i < 6 := by omega
            have hxb := HGB.out i c hiq hlt
            rw [hx] at hxb
            have HX := Bx.mk hx
            have HCI := Bx.mk hci
            have hal := (Below.refl wr.heap.size wr).alloc (Nat.le_refl _) (.cells #[.int .i64 (G i 0), .int .i64 (G i 1), .int .i64 (G i 2), .int .i64 (G i 3), .int .i64 (G i 4), .int .i64 (G i 5)] 36)
            have hva := HV1.out.keep (w' := wr.alloc (.cells #[.int .i64 (G i 0), .int .i64 (G i 1), .int .i64 (G i 2), .int .i64 (G i 3), .int .i64 (G i 4), .int .i64 (G i 5)] 36)) (hal.block B (by omega)) (fun t => hal.frozen (p := ⟨B, t, none⟩) (by show B < wr.heap.size; omega))
            have hvb := HV2.out.keep (w' := wr.alloc (.cells #[.int .i64 (G i 0), .int .i64 (G i 1), .int .i64 (G i 2), .int .i64 (G i 3), .int .i64 (G i 4), .int .i64 (G i 5)] 36)) (hal.block (B + 1) (by omega)) (fun t => hal.frozen (p := ⟨B + 1, t, none⟩) (by show B + 1 < wr.heap.size; omega))
            have ex := box_cell wr (G i) 36 c hlt
            rw [hx] at ex
            have t1 := (hva i hi6).1
            have t2 := (hva i hi6).2
            have hvb2 : Vc ((wr.alloc (.cells #[.int .i64 (G i 0), .int .i64 (G i 1), .int .i64 (G i 2), .int .i64 (G i 3), .int .i64 (G i 4), .int .i64 (G i 5)] 36)).setCell ⟨B, i, none⟩ (.int .i64 x)) (B + 1) (solS G cs c i) := hvb.keep (Below.heap_setCell _ _ _ _ (by simp)) (fun t => World.frozen?_setCell _ _ _ _)
            have y3 := (hvb2 ci hc6).1
            have y4 := (hvb2 ci hc6).2
            have hBel : Below (w2.heap.size + 1) w3 ((wr.alloc (.cells #[.int .i64 (G i 0), .int .i64 (G i 1), .int .i64 (G i 2), .int .i64 (G i 3), .int .i64 (G i 4), .int .i64 (G i 5)] 36)).setCell ⟨B, i, none⟩ (.int .i64 x)) := (HBw.out.alloc (by omega) _).setCell (p := ⟨B, i, none⟩) hB3 _
            have y0 := (HFB.out.keep (hBel.block _ (by omega))).c0
            have y1 := hBel.cell (p := ⟨b5, o5 + i, none⟩) hb5'
            rw [hcj i (by rw [HQ.out]; exact hiq), hci] at y1
            have y2 := (World.cell?_setCell_other (wr.alloc (.cells #[.int .i64 (G i 0), .int .i64 (G i 1), .int .i64 (G i 2), .int .i64 (G i 3), .int .i64 (G i 4), .int .i64 (G i 5)] 36)) ⟨B, i, none⟩ ⟨wr.heap.size, c, none⟩ (.int .i64 x) (by first | (simp; done) | (simp; omega))).trans ex
            have HVA := Bx.mk hva
            have HVB := Bx.mk hvb2
            have j0 : (i : Int) < 6 := by omega
            have j1 : (c : Int) < 6 := by omega
            have j2 : (ci : Int) < 6 := by omega
            have j3 : (i : Int) < (q : Int) := by omega
            have j4 : (i : Int) < (rc : Int) := by omega
            have hwx : IntKind.i64.wrap (-x) = -x := by rw [IntWalk.i64_in] <;> omega
            have hwx2 : IntKind.i64.wrap (0 - x) = -x := by rw [IntWalk.i64_in] <;> omega
            clear hx hci hal hva hvb hvb2 hcj hBel hxb
            go_wp2_with fail
            refine wp_region_still_tail 9 hmx (by kernel_rfl) ?_
            simp only [List.take_succ_cons, List.take_zero, List.drop_succ_cons, List.drop_zero]
            change wpStill _ _ ((wr.alloc (.cells #[.int .i64 (G i 0), .int .i64 (G i 1), .int .i64 (G i 2), .int .i64 (G i 3), .int .i64 (G i 4), .int .i64 (G i 5)] 36)).setCell ⟨B, i, none⟩ (.int .i64 x)).drew (fun a' => wpList _ _ _ _ a' ((wr.alloc (.cells #[.int .i64 (G i 0), .int .i64 (G i 1), .int .i64 (G i 2), .int .i64 (G i 3), .int .i64 (G i 4), .int .i64 (G i 5)] 36)).setCell ⟨B, i, none⟩ (.int .i64 x)).drew) _ _
            iterate 9 still_step
            refine wpStill_nil ?_
            go_wp2_with fail
            go_roundw
            case rel =>
              have hs1 : leadI G c (i + 1) i = x := by unfold leadI; rw [if_pos (Nat.lt_succ_self i), HX.out]
              refine ⟨i + 1, by omega, by go_num, ⟨?_⟩, ⟨?_⟩, ?_, ⟨?_⟩⟩
              · have h := cells_set (f := leadI G c i) (h := leadI G c (i + 1)) (l := i) (x := x) HVA.out hi6 hs1.symm (fun t ht hne => by
                  unfold leadI
                  by_cases z : t < i
                  · rw [if_pos z, if_pos (by omega)]
                  · rw [if_neg z, if_neg (by omega)])
                exact Vc.keep (w := (wr.alloc (.cells #[.int .i64 (G i 0), .int .i64 (G i 1), .int .i64 (G i 2), .int .i64 (G i 3), .int .i64 (G i 4), .int .i64 (G i 5)] 36)).setCell ⟨B, i, none⟩ (.int .i64 x)) h (Below.heap_setCell _ _ _ _ (by simp)) (fun t => World.frozen?_setCell _ _ _ _)
              · exact cells_set (f := solS G cs c i) (h := solS G cs c (i + 1)) (l := ci) (x := -x) HVB.out hc6 (by rw [← HCI.out, ← HX.out]; exact solS_at HND.out (by rw [HQ.out]; exact hiq)) (fun t ht hne => solS_ne (by rw [HQ.out]; exact hiq) (by rw [HCI.out]; exact hne))
              · simp [World.setCell, World.drew]; omega
              · exact below_drew (((HBi.out.alloc (by omega) (.cells #[.int .i64 (G i 0), .int .i64 (G i 1), .int .i64 (G i 2), .int .i64 (G i 3), .int .i64 (G i 4), .int .i64 (G i 5)] 36)).setCell (p := ⟨B, i, none⟩) (Nat.le_refl _) (.int .i64 x)).setCell (p := ⟨B + 1, ci, none⟩) (by simp) (.int .i64 (-x)))
            case measure => simp [intOf]; omega
          · obtain rfl : q = i := by omega
            obtain ⟨lo, lc, rfl⟩ := own_any HLV5.out
            obtain ⟨so, sc, rfl⟩ := own_any HSV5.out
            have hwq : IntKind.i64.wrap ((q : Int) + (l : Int)) = (q : Int) + (l : Int) := by rw [IntWalk.i64_in] <;> omega
            have hnn : ((q : Int) + (l : Int)).toNat = q + l := by omega
            have j0 : (0 : Int) ≤ (q : Int) + (l : Int) := by omega
            have j1 : (q : Int) + (l : Int) < 6 := by omega
            have j2 : (c : Int) < 6 := by omega
            have t1 := (HV1.out (q + l) hlu).1
            have t2 := (HV1.out (q + l) hlu).2
            have hL1 : Bx (Vc (wr.setCell ⟨B, q + l, none⟩ (.int .i64 1)) B (leadR G cs l)) := ⟨cells_set (f := leadI G c q) (h := leadR G cs l) (l := q + l) (x := 1) HV1.out hlu (by unfold leadR; rw [if_neg (by have := HQ.out; omega), if_pos (by have := HQ.out; omega)]) (fun t ht hne => by
              unfold leadR leadI
              by_cases z : t < q
              · rw [if_pos z, if_pos (by have := HQ.out; omega), HFC.out]
              · rw [if_neg z, if_neg (by have := HQ.out; omega), if_neg (by have := HQ.out; omega)])⟩
            have hS1 : Vc (wr.setCell ⟨B, q + l, none⟩ (.int .i64 1)) (B + 1) (solS G cs c q) := HV2.out.keep (Below.heap_setCell _ _ _ _ (by simp)) (fun t => World.frozen?_setCell _ _ _ _)
            have t3 := (hS1 c hlt).1
            have t4 := (hS1 c hlt).2
            have e1 := (HFB.out.keep ((HBw.out.setCell (p := ⟨B, q + l, none⟩) hB3 (.int .i64 1)).block _ (by omega))).c1
            have HSR : Bx (Vc ((wr.setCell ⟨B, q + l, none⟩ (.int .i64 1)).setCell ⟨B + 1, c, none⟩ (.int .i64 om)) (B + 1) (solR G cs om l)) := ⟨cells_set (f := solS G cs c q) (h := solR G cs om l) (l := c) (x := om) hS1 hlt (by unfold solR; rw [if_pos HFC.out.symm]) (fun t ht hne => by
              unfold solR
              rw [HFC.out, if_neg hne, HQ.out])⟩
            have HLR : Bx (Vc ((wr.setCell ⟨B, q + l, none⟩ (.int .i64 1)).setCell ⟨B + 1, c, none⟩ (.int .i64 om)) B (leadR G cs l)) := ⟨hL1.out.keep (Below.heap_setCell _ _ _ _ (by simp)) (fun t => World.frozen?_setCell _ _ _ _)⟩
            have HB7 : Bx (Below B w5 ((wr.setCell ⟨B, q + l, none⟩ (.int .i64 1)).setCell ⟨B + 1, c, none⟩ (.int .i64 om))) := ⟨(HBi.out.setCell (p := ⟨B, q + l, none⟩) (Nat.le_refl _) _).setCell (p := ⟨B + 1, c, none⟩) (by simp) _⟩
            clear hL1 hS1 HV1 HV2
            go_wp2_with fail
            obtain ⟨w7, hw7⟩ : ∃ w7, (wr.setCell ⟨B, q + l, none⟩ (.int .i64 1)).setCell ⟨B + 1, c, none⟩ (.int .i64 om) = w7 := ⟨_, rfl⟩
            have hs7 : B + 2 ≤ w7.heap.size := by rw [← hw7]; simp [World.setCell]; omega
            rw [hw7] at HSR HLR HB7
            rw [hw7]
            have HLV7 : Bx (w7.ownsRow (w2.heap.size + 1) 36 6 (.slice lo l lc) l (rowsL (leadR G cs) l)) := ⟨own_keep HLV5.out fun k hk hks => HB7.out.block k ((HLB.out k).1 hk)⟩
            have HSV7 : Bx (w7.ownsRow (w2.heap.size + 1) 36 6 (.slice so l sc) l (rowsL (solR G cs om) l)) := ⟨own_keep HSV5.out fun k hk hks => HB7.out.block k ((HLB.out k).2 hk)⟩
            have HBx : Bx (Below (w2.heap.size + 1) w3 w7) := ⟨HBa.out.trans (HB7.out.mono (by omega))⟩
            obtain ⟨f, hf⟩ : ∃ f, leadR G cs l = f := ⟨_, rfl⟩
            obtain ⟨g, hg⟩ : ∃ g, solR G cs om l = g := ⟨_, rfl⟩
            rw [hf] at HLR
            rw [hg] at HSR
            have HFF := Bx.mk hf
            have HGF := Bx.mk hg
            have x0 := (HLR.out 0 (by omega)).1
            have x1 := (HLR.out 1 (by omega)).1
            have x2 := (HLR.out 2 (by omega)).1
            have x3 := (HLR.out 3 (by omega)).1
            have x4 := (HLR.out 4 (by omega)).1
            have x5 := (HLR.out 5 (by omega)).1
            have z0 := (HSR.out 0 (by omega)).1
            have z1 := (HSR.out 1 (by omega)).1
            have z2 := (HSR.out 2 (by omega)).1
            have z3 := (HSR.out 3 (by omega)).1
            have z4 := (HSR.out 4 (by omega)).1
            have z5 := (HSR.out 5 (by omega)).1
            have hS7 := Bx.mk (show S12 w7 B f g from ⟨x0, x1, x2, x3, x4, x5, z0, z1, z2, z3, z4, z5⟩)
            have hb7 : w2.heap.size + 1 ≤ w7.heap.size := by omega
            have hnl0 : some B ≠ (Value.slice lo l lc).ownBlock := fun e => by have := (HLB.out B).1 e.symm; omega
            have hnl1 : some (B + 1) ≠ (Value.slice lo l lc).ownBlock := fun e => by have := (HLB.out (B + 1)).1 e.symm; omega
            have hns0 : some B ≠ (Value.slice so l sc).ownBlock := fun e => by have := (HLB.out B).2 e.symm; omega
            have hns1 : some (B + 1) ≠ (Value.slice so l sc).ownBlock := fun e => by have := (HLB.out (B + 1)).2 e.symm; omega
            clear hw7 hf hg HLV5 HSV5 HSR HLR HBa HBw HB7 HBi e1 t1 t2 t3 t4 hwq hnn
            go_region_held3 (fun w' => w'.cell? ⟨B, 0, none⟩ = some (.int .i64 (f 0)) ∧ w'.cell? ⟨B, 1, none⟩ = some (.int .i64 (f 1)) ∧ w'.cell? ⟨B, 2, none⟩ = some (.int .i64 (f 2)) ∧ w'.cell? ⟨B, 3, none⟩ = some (.int .i64 (f 3)) ∧ w'.cell? ⟨B, 4, none⟩ = some (.int .i64 (f 4)) ∧ w'.cell? ⟨B, 5, none⟩ = some (.int .i64 (f 5)) ∧ w'.cell? ⟨B + 1, 0, none⟩ = some (.int .i64 (g 0)) ∧ w'.cell? ⟨B + 1, 1, none⟩ = some (.int .i64 (g 1)) ∧ w'.cell? ⟨B + 1, 2, none⟩ = some (.int .i64 (g 2)) ∧ w'.cell? ⟨B + 1, 3, none⟩ = some (.int .i64 (g 3)) ∧ w'.cell? ⟨B + 1, 4, none⟩ = some (.int .i64 (g 4)) ∧ w'.cell? ⟨B + 1, 5, none⟩ = some (.int .i64 (g 5)))
              (first
                | go_keep
                | exact HS8
                | exact HS9)
              (first
                | (refine step_append_fresh rfl (.tmp 59) (.tmp 61) 22 rfl (w2.heap.size + 1) 36 tj _ 6 48 Try.underlying22 HTJ.out hy0 hy1 hy2 rfl (by decide) (.slice lo l lc) l (rowsL (leadR G cs) l) rfl (own_keep HLV7.out fun k _ hks => Kp.block (by repeat (first | with_reducible exact Kp.refl _ | with_reducible apply Kp.drew | with_reducible apply Kp.alloc)) k hks) _ 1 _ (sixL f) rfl rfl (by intro h; cases h) (by intro ad had; cases had; refine nb_news f 36 ?_; first | exact World.alloc_heap_new w7 _ | exact (Below.heap_alloc (w7.alloc (.cells #[.int .i64 (f 0), .int .i64 (f 1), .int .i64 (f 2), .int .i64 (f 3), .int .i64 (f 4), .int .i64 (f 5)] 36)) _ w7.heap.size (by simp)).trans (World.alloc_heap_new w7 _) | (have h := World.alloc_heap_new (w7.alloc (.cells #[.int .i64 (g 0), .int .i64 (g 1), .int .i64 (g 2), .int .i64 (g 3), .int .i64 (g 4), .int .i64 (g 5)] 36)) (.cells #[.int .i64 (f 0), .int .i64 (f 1), .int .i64 (f 2), .int .i64 (f 3), .int .i64 (f 4), .int .i64 (f 5)] 36); rw [World.size_alloc] at h; exact h)) (six_one f) (by unfold maxLen; omega) (by omega) (Nat.le_trans hb7 (Kp.size (by repeat (first | with_reducible exact Kp.refl _ | with_reducible apply Kp.drew | with_reducible apply Kp.alloc)))) ?_
                   intro lv8 w8 ho8 hg8 hf8
                   obtain ⟨hs8, K8, B8⟩ := grown_out hg8 (x := w7) (by repeat (first | with_reducible exact Kp.refl _ | with_reducible apply Kp.drew | with_reducible apply Kp.alloc)) (fun k hk => (own_lt HLV7.out k hk).2)
                   have hF8 : ∀ k, lv8.ownBlock = some k → (Value.slice lo l lc).ownBlock = some k ∨ w7.heap.size ≤ k := fun k hk => (hf8 k hk).imp id (fun h => Nat.le_trans (Kp.size (by repeat (first | with_reducible exact Kp.refl _ | with_reducible apply Kp.drew | with_reducible apply Kp.alloc))) h)
                   have HSV8 : Bx (w8.ownsRow (w2.heap.size + 1) 36 6 (.slice so l sc) l (rowsL (solR G cs om) l)) := ⟨own_keep HSV7.out fun k hk hks => K8 k hks (fun e => HDI.out k e.symm hk)⟩
                   have HB8 : Bx (Below (w2.heap.size + 1) w3 w8) := ⟨B8 _ _ hb7 HBx.out (fun k hk => (own_lt HLV7.out k hk).1)⟩
                   have HO8 := Bx.mk ho8
                   have HF8 := Bx.mk hF8
                   have HK8 := Bx.mk K8
                   have HS8 := keep12 (w := w7) (K8 B (by omega) hnl0) (K8 (B + 1) (by omega) hnl1) hS7.out)
                | (refine step_append_fresh rfl (.tmp 63) (.tmp 65) 22 rfl (w2.heap.size + 1) 36 tj _ 6 48 Try.underlying22 HTJ.out hy0 hy1 hy2 rfl (by decide) (.slice so l sc) l (rowsL (solR G cs om) l) rfl (own_keep HSV8.out fun k _ hks => Kp.block (by repeat (first | with_reducible exact Kp.refl _ | with_reducible apply Kp.drew | with_reducible apply Kp.alloc)) k hks) _ 1 _ (sixL g) rfl rfl (by intro h; cases h) (by intro ad had; cases had; refine nb_news g 36 ?_; first | exact World.alloc_heap_new w8 _ | (refine (hg8.block _ (by first | (simp [World.drew]; done) | (simp [World.drew]; omega)) (fun e => by have := (own_lt HLV7.out _ e.symm).2; omega)).trans ?_; first | exact World.alloc_heap_new w7 _ | exact (Below.heap_alloc (w7.alloc (.cells #[.int .i64 (g 0), .int .i64 (g 1), .int .i64 (g 2), .int .i64 (g 3), .int .i64 (g 4), .int .i64 (g 5)] 36)) _ w7.heap.size (by simp)).trans (World.alloc_heap_new w7 _) | (have h := World.alloc_heap_new (w7.alloc (.cells #[.int .i64 (f 0), .int .i64 (f 1), .int .i64 (f 2), .int .i64 (f 3), .int .i64 (f 4), .int .i64 (f 5)] 36)) (.cells #[.int .i64 (g 0), .int .i64 (g 1), .int .i64 (g 2), .int .i64 (g 3), .int .i64 (g 4), .int .i64 (g 5)] 36); rw [World.size_alloc] at h; exact h))) (six_one g) (by unfold maxLen; omega) (by omega) (Nat.le_trans (Nat.le_trans hb7 hs8) (Kp.size (by repeat (first | with_reducible exact Kp.refl _ | with_reducible apply Kp.drew | with_reducible apply Kp.alloc)))) ?_
                   intro sv9 w9 ho9 hg9 hf9
                   obtain ⟨hs9, K9, B9⟩ := grown_out hg9 (x := w8) (by repeat (first | with_reducible exact Kp.refl _ | with_reducible apply Kp.drew | with_reducible apply Kp.alloc)) (fun k hk => (own_lt HSV8.out k hk).2)
                   have hF9 : ∀ k, sv9.ownBlock = some k → (Value.slice so l sc).ownBlock = some k ∨ w8.heap.size ≤ k := fun k hk => (hf9 k hk).imp id (fun h => Nat.le_trans (Kp.size (by repeat (first | with_reducible exact Kp.refl _ | with_reducible apply Kp.drew | with_reducible apply Kp.alloc))) h)
                   have HSB := own_lt HSV7.out
                   have HL9 : Bx (w9.ownsRow (w2.heap.size + 1) 36 6 lv8 (l + 1) (rowsL (leadR G cs) l ++ sixL f)) := ⟨own_keep HO8.out fun k hk hks => K9 k hks (fun e => by
                     rcases HF8.out k hk with h | h
                     · exact HDI.out k h e.symm
                     · have := (HSB k e.symm).2; omega)⟩
                   have HO9 := Bx.mk ho9
                   have HD9 : Bx (∀ k, lv8.ownBlock = some k → sv9.ownBlock ≠ some k) := ⟨fun k hk e => by
                     have hk8 := (own_lt HO8.out k hk).2
                     rcases hF9 k e with h | h
                     · rcases HF8.out k hk with h' | h'
                       · exact HDI.out k h' h
                       · have := (HSB k h).2; omega
                     · omega⟩
                   have HB9 : Bx (Below (w2.heap.size + 1) w3 w9) := ⟨B9 _ _ (Nat.le_trans hb7 hs8) HB8.out (fun k hk => (HSB k hk).1)⟩
                   have HS9 := keep12 (w := w8) (K9 B (by omega) hns0) (K9 (B + 1) (by omega) hns1) HS8))
            all_goals go_wp2_with fail
            all_goals
              go_roundw
              case rel =>
                refine ⟨c + 1, lv8, sv9, by omega, by go_num, rfl, rfl, ⟨?_⟩, ⟨?_⟩, HD9, HB9⟩
                · rw [HL1.out]
                  have h := HL9.out
                  rw [rowsL_snoc, rowsL_congr (B := leadR G cs) fun r hr => by
                    by_cases e : r = l
                    · rw [e, snR_eq, HFF.out]
                    · exact snR_lt (by omega)] at h
                  exact h
                · rw [HL1.out]
                  have h := HO9.out
                  rw [rowsL_snoc, rowsL_congr (B := solR G cs om) fun r hr => by
                    by_cases e : r = l
                    · rw [e, snR_eq, HGF.out]
                    · exact snR_lt (by omega)] at h
                  exact h
              case measure => simp [intOf]; omega
    · obtain rfl : 6 = c := by omega
      have hbs := HB3.out.size
      obtain ⟨u, hu⟩ : ∃ u, (rest 6 cs).length = u := ⟨_, rfl⟩
      have hru := HRS.out
      rw [hu] at HLV HSV hru
      have HU := Bx.mk hu
      obtain ⟨lo, lc, rfl⟩ := own_any HLV.out
      obtain ⟨so, sc, rfl⟩ := own_any HSV.out
      have hlc : u ≤ lc := by
        rcases HLV.out.2 with ⟨e, e2⟩ | ⟨g, cap, cur, e, _, _, h2, _⟩
        · omega
        · simp only [Value.slice.injEq] at e; omega
      have hsc : u ≤ sc := by
        rcases HSV.out.2 with ⟨e, e2⟩ | ⟨g, cap, cur, e, _, _, h2, _⟩
        · omega
        · simp only [Value.slice.injEq] at e; omega
      have TA := Bx.mk (triangle_any lo u lc 6 om om.natAbs (leadR G cs) wr (by omega) hlc (Nat.le_refl _) hom0 rfl hom1 (own_cv HLV.out) (fun i j hi hj => by
        unfold leadR
        by_cases z : j < cs.length
        · rw [if_pos z]
          have := HGB.out j ((rest 6 cs).getD i 0) (by have := HQ.out; omega) (mem_rest.1 (getD_mem (by rw [HU.out]; exact hi))).1
          omega
        · rw [if_neg z]; split <;> omega))
      clear hu HLV
      go_wp2_with (go_at_call 114; refine TA.out.mono ?_; clear TA; rintro e w6 ⟨v, H, rfl, hov, hfr, ⟨R, hz, hge⟩, hb6⟩
                   obtain ⟨gv, vc, rfl, hgv0, hgvs⟩ := own_form hov (by omega)
                   have HOV := Bx.mk (RB.of_own hov fun i j hi hj => rowsL_get hi hj)
                   have hvc : 6 ≤ vc ∧ vc ≤ maxLen := by
                     rcases hov.2 with ⟨e, _⟩ | ⟨g, cap, cur, e, _, _, h1, h2, _⟩
                     · cases e
                     · simp only [Value.slice.injEq] at e; omega
                   have HFR := Bx.mk hfr
                   have HZR := Bx.mk hz
                   have HGE := Bx.mk hge
                   have HB6 := Bx.mk hb6
                   have n1 : ((6 : Int) - (q : Int)).toNat = u := by omega
                   have n2 : ((vc : Int) - (q : Int)).toNat = vc - q := by omega
                   have j0 : (q : Int) ≤ 6 := by omega
                   have j1 : (q : Int) ≤ (vc : Int) := by omega
                   clear hov hfr hz hge hb6)
      all_goals rw [show 6 - q = u by omega]
      all_goals
        obtain ⟨O, hO⟩ : ∃ O, outK G H cs om = O := ⟨_, rfl⟩
        have HMATH := kernel_math HGR.out.1 HGR.out.2 HOM.out HGG.out rfl (L := leadR G cs) (fun _ _ _ _ => rfl) HFR.out (by rw [HU.out]; exact HGE.out) (by rw [HU.out]; exact HZR.out)
        rw [hO, HU.out] at HMATH
        have HMA := Bx.mk HMATH
        have HOE : Bx (∀ t, (fun c => (cmb (fun s => H (q + t) (q + s)) (solR G cs om) u c).tdiv om) = O t) := ⟨fun t => by rw [← hO]; unfold outK; rw [HQ.out, HU.out]⟩
        have HSB : Bx (∀ t c, t < u → c < 6 → (solR G cs om t c).natAbs ≤ 1000000000) := ⟨fun t c ht hc => by
          unfold solR solS
          split
          · exact hom1
          · split
            · rename_i z
              rw [Int.natAbs_neg]
              exact HGB.out _ _ (by rw [← HQ.out]; exact z) (mem_rest.1 (getD_mem (by rw [HU.out]; exact ht))).1
            · simp⟩
        have HCS := Bx.mk (own_cv HSV.out)
        clear HMATH hO HSV HGE HZR HDI
        obtain ⟨wo, rfl⟩ : ∃ wo, wo = wr := ⟨_, rfl⟩
      case inl =>
        rename_i hvq
        have hu0 : u = 0 := by omega
        go_loopw [76] (fun ix wr => ix = .int .i64 0 ∧ wr = w6) (fun ix _ => 0)
        case atStart => exact ⟨rfl, rfl⟩
        case round =>
          obtain ⟨rfl, rfl⟩ := hrel
          have HUU := Bx.mk hu0
          have j5 : ¬ ((0 : Int) < (u : Int)) := by omega
          clear hu0
          go_wp2_with fail
          go_ret
          refine ⟨_, _, u, rfl, O, fun h => absurd HUU.out (by omega), ?_, ?_, by omega, ⟨_, HMA.out.1⟩, HMA.out.2.1, HMA.out.2.2, HB3.out.trans ((HB.out.trans (HB6.out.mono (by omega))).mono (by omega))⟩
          · have := HUU.out; omega
          · exact Nat.zero_le _
      case inr =>
        rename_i hvq
        have HOV' : Bx (RB w6 gv 6 vc (mixK O H q 0)) := ⟨HOV.out.congr fun i j _ _ => by unfold mixK; rw [if_neg (by omega)]⟩
        clear HOV
        go_loopw [76] (fun ix wr => ∃ t : Nat, t ≤ u ∧ ix = .int .i64 t ∧ Bx (RB wr gv 6 vc (mixK O H q t)) ∧ Bx (Below wo.heap.size wo wr)) (fun ix _ => u - (intOf ix).toNat)
        case atStart => exact ⟨0, by omega, rfl, HOV', HB6⟩
        case round =>
          clear HOV' HB6
          obtain ⟨t, ht, rfl, HK, HBt⟩ := hrel
          by_cases htu : t < u
          · have ho : (q + t) * 6 = q * 6 + t * 6 := Nat.add_mul _ _ _
            have HBx : Bx (Below (w2.heap.size + 1) w3 wr) := ⟨HB.out.trans (HBt.out.mono (by omega))⟩
            have e1 := (HFB.out.keep (HBx.out.block _ (by omega))).c1
            have hgl := HK.out.lt
            have hKt : ∀ s, mixK O H q t (q + t) s = H (q + t) s := fun s => by unfold mixK; rw [if_neg (by omega)]
            have CA : Bx (∀ w', Below wr.heap.size wr w' → Calls Try.prog 115 #[.slice (some ⟨gv, q * 6 + t * 6 + q, none⟩) (6 - q) (6 - q), .slice so u sc, .int .i64 om] w' fun e w'' => e = .returned (PV (O t)) ∧ Bx (Below wr.heap.size wr w'')) := ⟨fun w' hb => by
              have h := combined_any so gv (q * 6 + t * 6 + q) (6 - q) (6 - q) u sc (fun s => H (q + t) (q + s)) (solR G cs om) om w' (by omega) (by omega) (Nat.le_refl _) hsc hom0 (by omega) (by omega) (Nat.lt_of_lt_of_le hgl hb.size) (fun s hs => by rw [hb.cell (p := ⟨gv, q * 6 + t * 6 + q + s, none⟩) hgl, show q * 6 + t * 6 + q + s = (q + t) * 6 + (q + s) by omega, HK.out.cell (by omega) (by omega), hKt]) ((HCS.out.keep HBt.out).keep hb) (fun s hs => by have := HFR.out.bnd (q + t) (q + s) (by omega) (by omega); omega) (fun s c hs hc => HSB.out s c hs hc)
              exact h.mono fun e w'' h => ⟨by rw [h.1, HOE.out t], ⟨hb.trans (h.2.mono hb.size)⟩⟩⟩
            obtain ⟨v, hv⟩ : ∃ v, O t = v := ⟨_, rfl⟩
            rw [hv] at CA
            unfold PV at CA
            have HVV := Bx.mk hv
            have i1 : (t : Int) < (u : Int) := by omega
            have i2 : ¬ 6 = q := by omega
            have i3 : ¬ q = 6 := by omega
            have i4 : (q : Int) ≤ 6 := by omega
            have i5 : ((6 : Int) - (q : Int)).toNat = 6 - q := by omega
            clear hv hKt
            go_wp2_with fail
            go_region_with (go_at_call 115; refine (CA.out _ (by repeat (first | with_reducible exact Below.refl _ _ | with_reducible apply below_drewN | with_reducible apply below_drew))).mono ?_; rintro e w8 ⟨rfl, HB8⟩
                            have HK8 := Bx.mk (HK.out.below HB8.out hgl)
                            have s0 := HK8.out.cell (i := q + t) (by omega) (j := 0) (by omega)
                            have s1 := HK8.out.cell (i := q + t) (by omega) (j := 1) (by omega)
                            have s2 := HK8.out.cell (i := q + t) (by omega) (j := 2) (by omega)
                            have s3 := HK8.out.cell (i := q + t) (by omega) (j := 3) (by omega)
                            have s4 := HK8.out.cell (i := q + t) (by omega) (j := 4) (by omega)
                            have s5 := HK8.out.cell (i := q + t) (by omega) (j := 5) (by omega)
                            rw [ho] at s0 s1 s2 s3 s4 s5
                            rw [Nat.add_zero] at s0
                            have z0 := HK8.out.frozen (q * 6 + t * 6)
                            have z1 := HK8.out.frozen (q * 6 + t * 6 + 1)
                            have z2 := HK8.out.frozen (q * 6 + t * 6 + 2)
                            have z3 := HK8.out.frozen (q * 6 + t * 6 + 3)
                            have z4 := HK8.out.frozen (q * 6 + t * 6 + 4)
                            have z5 := HK8.out.frozen (q * 6 + t * 6 + 5))
            all_goals go_wp2_with fail
            all_goals
              go_roundw
              case rel =>
                have hb6 := But.six6 (b := gv) w8 (q * 6 + t * 6) v
                have hr := HK8.out.row (i := q + t) (by omega) v
                rw [ho] at hr
                exact ⟨t + 1, by omega, by go_num, ⟨hr.congr fun r s _ _ => by
                  unfold updR mixK
                  by_cases e : r = q + t
                  · rw [if_pos e, if_pos (by omega), e, show q + t - q = t by omega, HVV.out]
                  · rw [if_neg e]; by_cases e2 : q ≤ r ∧ r < q + t
                    · rw [if_pos e2, if_pos (by omega)]
                    · rw [if_neg e2, if_neg (by omega)]⟩, ⟨(HBt.out.trans (HB8.out.mono HBt.out.size)).trans (hb6.below (Nat.le_trans HBt.out.size HB8.out.size) hgv0)⟩⟩
              case measure => simp [intOf]; omega
          · obtain rfl : u = t := by omega
            have hgl := HK.out.lt
            have HKC : Bx (∀ i j, i < u → j < 6 → wr.cell? ⟨gv, q * 6 + (i * 6 + j), none⟩ = some (.int .i64 (O i j))) := ⟨fun i j hi hj => by
              have h := HK.out.cell (i := q + i) (j := j) (by omega) hj
              unfold mixK at h
              rw [if_pos (by omega), show q + i - q = i by omega, show (q + i) * 6 + j = q * 6 + (i * 6 + j) by omega] at h
              exact h⟩
            go_wp2_with fail
            go_ret
            refine ⟨some ⟨gv, q * 6, none⟩, vc - q, u, O, _, rfl, fun _ => ⟨gv, q * 6, rfl, hgl, fun i j hi hj => ?_⟩, by omega, by omega, by omega, HMA.out.1, HMA.out.2.1, HMA.out.2.2, HB3.out.trans ((HB.out.trans (HBt.out.mono (by omega))).mono (by omega))⟩
            have h := HKC.out i j hi hj
            rwa [← Nat.add_assoc] at h
end Go.Proofs.Ytnbamjoadankmaa

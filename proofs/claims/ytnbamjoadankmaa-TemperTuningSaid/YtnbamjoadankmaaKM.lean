/- combined: a sum of multiples of rows, divided by a number. -/
import Derived.Test.YtnbamjoadankmaaKK
namespace Go.Proofs.Ytnbamjoadankmaa
open Go.RowKit D
def cmb (W : Nat → Int) (F : Nat → Nat → Int) (k c : Nat) : Int := sm k fun i => W i * F i c
theorem sm_bound {n : Nat} {f : Nat → Int} (h : ∀ i, i < n → (f i).natAbs ≤ 1000000000000000000) : (sm n f).natAbs ≤ n * 1000000000000000000 := by
  induction n with
  | zero => simp [sm]
  | succ n ih =>
    have a := ih fun i hi => h i (by omega)
    have b := h n (by omega)
    unfold sm; omega
theorem prod_bound {x y : Int} (hx : x.natAbs ≤ 1000000000) (hy : y.natAbs ≤ 1000000000) : (x * y).natAbs ≤ 1000000000000000000 := by
  rw [Int.natAbs_mul]; exact Nat.mul_le_mul hx hy
set_option maxRecDepth 100000 in
set_option maxHeartbeats 16000000 in
theorem combined_any (ao : Option Addr) (bw ow nw cw n c1 : Nat) (W : Nat → Int) (F : Nat → Nat → Int) (d : Int) (w : World) (hn : n ≤ 6) (hnw : n ≤ nw) (hncw : nw ≤ cw) (hc1 : n ≤ c1) (hd : d ≠ 0) (hd1 : -1000000000 ≤ d) (hd2 : d ≤ 1000000000) (hbw : bw < w.heap.size)
    (hW : ∀ t, t < n → w.cell? ⟨bw, ow + t, none⟩ = some (.int .i64 (W t))) (hF : CV w ao n F) (bW : ∀ t, t < n → (W t).natAbs ≤ 1000000000) (bF : ∀ t c, t < n → c < 6 → (F t c).natAbs ≤ 1000000000) :
    Calls Try.prog 115 #[.slice (some ⟨bw, ow, none⟩) nw cw, .slice ao n c1, .int .i64 d] w fun e w' => e = .returned (PV fun c => (cmb W F n c).tdiv d) ∧ Below w.heap.size w w' := by
  have hmx : Try.prog.follows .mixedOrders = true := by kernel_rfl
  have HW := Bx.mk hW
  have HF := Bx.mk hF
  have HBW := Bx.mk bW
  have HBF := Bx.mk bF
  have HSB := Bx.mk (fun k c (hk : k ≤ n) (hc : c < 6) => sm_bound (n := k) (f := fun i => W i * F i c) fun i hi => prod_bound (bW i (by omega)) (bF i c (by omega) hc))
  have HC := Bx.mk (box_cell3 w (fun _ => 0) (fun _ => 0) 36)
  have HC2 := Bx.mk (box_cell2 w (fun _ => 0) (fun _ => 0) 36)
  clear hW hF bW bF
  go_enter Try.func115, Try.ntmps115
  go_wp2_with fail
  go_loopw [15] (fun ix wr => ∃ k : Nat, k ≤ n ∧ ix = .int .i64 k ∧ Bx (∀ t, t < 6 → wr.cell? ⟨w.heap.size + 1, t, none⟩ = some (.int .i64 (cmb W F k t)) ∧ wr.frozen? ⟨w.heap.size + 1, t, none⟩ = false) ∧ Bx (∀ t, t < 6 → wr.cell? ⟨w.heap.size, t, none⟩ = some (.int .i64 0) ∧ wr.frozen? ⟨w.heap.size, t, none⟩ = false) ∧ w.heap.size + 1 < wr.heap.size ∧ Bx (Below w.heap.size w wr)) (fun ix _ => n - (intOf ix).toNat)
  case atStart => exact ⟨0, by omega, rfl, ⟨fun t ht => ⟨HC2.out.2 t ht, by simp [go_sem]⟩⟩, ⟨fun t ht => ⟨HC2.out.1 t ht, by simp [go_sem]⟩⟩, by simp, ⟨((Below.refl _ w).alloc (Nat.le_refl _) _).alloc (by simp) _⟩⟩
  case round =>
    clear HC HC2
    obtain ⟨k, hk, rfl, HS, HZ, hws, HB⟩ := hrel
    by_cases hlt : k < n
    · obtain ⟨b, o, rfl, hb, hcr⟩ := HF.out (by omega)
      have a0 := HB.out.cell (p := ⟨b, o + k * 6 + 0, none⟩) hb
      have a1 := HB.out.cell (p := ⟨b, o + k * 6 + 1, none⟩) hb
      have a2 := HB.out.cell (p := ⟨b, o + k * 6 + 2, none⟩) hb
      have a3 := HB.out.cell (p := ⟨b, o + k * 6 + 3, none⟩) hb
      have a4 := HB.out.cell (p := ⟨b, o + k * 6 + 4, none⟩) hb
      have a5 := HB.out.cell (p := ⟨b, o + k * 6 + 5, none⟩) hb
      rw [hcr k _ hlt (by omega)] at a0 a1 a2 a3 a4 a5
      rw [Nat.add_zero] at a0
      clear hcr
      have hb4 := (Below.refl wr.heap.size wr).alloc (Nat.le_refl _) (.cells #[.int .i64 (F k 0), .int .i64 (F k 1), .int .i64 (F k 2), .int .i64 (F k 3), .int .i64 (F k 4), .int .i64 (F k 5)] 36)
      have HS1 : Bx (∀ t, t < 6 → (wr.alloc (.cells #[.int .i64 (F k 0), .int .i64 (F k 1), .int .i64 (F k 2), .int .i64 (F k 3), .int .i64 (F k 4), .int .i64 (F k 5)] 36)).cell? ⟨w.heap.size + 1, t, none⟩ = some (.int .i64 (cmb W F k t)) ∧ (wr.alloc (.cells #[.int .i64 (F k 0), .int .i64 (F k 1), .int .i64 (F k 2), .int .i64 (F k 3), .int .i64 (F k 4), .int .i64 (F k 5)] 36)).frozen? ⟨w.heap.size + 1, t, none⟩ = false) :=
        ⟨fun t ht => ⟨by rw [hb4.cell (p := ⟨w.heap.size + 1, t, none⟩) hws]; exact (HS.out t ht).1, by rw [hb4.frozen (p := ⟨w.heap.size + 1, t, none⟩) hws]; exact (HS.out t ht).2⟩⟩
      have HZ1 : Bx (∀ t, t < 6 → (wr.alloc (.cells #[.int .i64 (F k 0), .int .i64 (F k 1), .int .i64 (F k 2), .int .i64 (F k 3), .int .i64 (F k 4), .int .i64 (F k 5)] 36)).cell? ⟨w.heap.size, t, none⟩ = some (.int .i64 0) ∧ (wr.alloc (.cells #[.int .i64 (F k 0), .int .i64 (F k 1), .int .i64 (F k 2), .int .i64 (F k 3), .int .i64 (F k 4), .int .i64 (F k 5)] 36)).frozen? ⟨w.heap.size, t, none⟩ = false) :=
        ⟨fun t ht => ⟨by rw [hb4.cell (p := ⟨w.heap.size, t, none⟩) (show w.heap.size < wr.heap.size by omega)]; exact (HZ.out t ht).1, by rw [hb4.frozen (p := ⟨w.heap.size, t, none⟩) (show w.heap.size < wr.heap.size by omega)]; exact (HZ.out t ht).2⟩⟩
      have HB1 := Bx.mk (HB.out.alloc HB.out.size (.cells #[.int .i64 (F k 0), .int .i64 (F k 1), .int .i64 (F k 2), .int .i64 (F k 3), .int .i64 (F k 4), .int .i64 (F k 5)] 36))
      clear hb4
      go_wp2_with fail
      go_loopw [21] (fun ix wr => ∃ l : Nat, l ≤ 6 ∧ ix = .int .i64 l ∧ Bx (∀ t, t < 6 → wr.cell? ⟨w.heap.size + 1, t, none⟩ = some (.int .i64 (if t < l then cmb W F (k + 1) t else cmb W F k t)) ∧ wr.frozen? ⟨w.heap.size + 1, t, none⟩ = false) ∧ Bx (∀ t, t < 6 → wr.cell? ⟨w.heap.size, t, none⟩ = some (.int .i64 0) ∧ wr.frozen? ⟨w.heap.size, t, none⟩ = false) ∧ w.heap.size + 1 < wr.heap.size ∧ Bx (Below w.heap.size w wr)) (fun ix _ => 6 - (intOf ix).toNat)
      case atStart => exact ⟨0, by omega, rfl, ⟨fun t ht => HS1.out t ht⟩, HZ1, by simp; omega, HB1⟩
      case round =>
        clear HS HZ HS1 HZ1 HB1 hws HB a0 a1 a2 a3 a4 a5
        obtain ⟨l, hl6, rfl, HS, HZ, hws, HB⟩ := hrel
        by_cases hl : l < 6
        · obtain ⟨y, hy⟩ : ∃ y, F k l = y := ⟨_, rfl⟩
          obtain ⟨x, hx⟩ : ∃ x, W k = x := ⟨_, rfl⟩
          obtain ⟨s, hs⟩ : ∃ s, cmb W F k l = s := ⟨_, rfl⟩
          have hix := index_six (F k) hl y hy
          have e0 := (HS.out l hl).1
          have e1 := (HS.out l hl).2
          rw [if_neg (Nat.lt_irrefl l), hs] at e0
          have e2 := HB.out.cell (p := ⟨bw, ow + k, none⟩) hbw
          rw [HW.out k hlt, hx] at e2
          obtain ⟨P, hP⟩ : ∃ P, x * y = P := ⟨_, rfl⟩
          have p1 := prod_bound (HBW.out k hlt) (HBF.out k l hlt hl)
          rw [hx, hy, hP] at p1
          have p2 := HSB.out k l (by omega) hl
          have p2' : s.natAbs ≤ k * 1000000000000000000 := by rw [← hs]; exact p2
          have HSP := Bx.mk (show s + P = cmb W F (k + 1) l by unfold cmb; rw [sm, hx, hy, hP]; show _ = cmb W F k l + P; rw [hs])
          have hwP : IntKind.i64.wrap P = P := by rw [IntWalk.i64_in] <;> omega
          have hwS : IntKind.i64.wrap (s + P) = s + P := by rw [IntWalk.i64_in] <;> omega
          have q1 : k < nw := by omega
          have q2 : ((k : Nat) : Int) < ((nw : Nat) : Int) := by omega
          clear hs hx hy p2 p1 p2'
          go_wp2_with fail
          refine wp_region_still_tail 11 hmx (by kernel_rfl) ?_
          simp only [List.take_succ_cons, List.take_zero, List.drop_succ_cons, List.drop_zero]
          change wpStill _ _ wr.drew (fun a' => wpList _ _ _ _ a' wr.drew) _ _
          iterate 11 still_step
          refine wpStill_nil ?_
          go_wp2_with fail
          go_roundw
          case rel =>
            exact ⟨l + 1, by omega, by go_num, ⟨cells_set HS.out hl (h := fun t => if t < l + 1 then cmb W F (k + 1) t else cmb W F k t) (by simp only [if_pos (Nat.lt_succ_self l)]; exact HSP.out) fun t ht hne => by
              by_cases z : t < l
              · simp only [if_pos z, if_pos (show t < l + 1 by omega)]
              · simp only [if_neg z, if_neg (show ¬ t < l + 1 by omega)]⟩, ⟨fun t ht => ⟨(World.cell?_setCell_other wr _ _ _ (by simp)).trans (HZ.out t ht).1, (World.frozen?_setCell wr _ _ _).trans (HZ.out t ht).2⟩⟩, by simpa [World.setCell, World.drew] using hws, ⟨below_drew (HB.out.setCell (p := ⟨w.heap.size + 1, l, none⟩) (by simp) _)⟩⟩
          case measure => simp [intOf]; omega
        · obtain rfl : 6 = l := by omega
          go_wp2_with fail
          go_roundw
          case rel => exact ⟨k + 1, by omega, by go_num, ⟨fun t ht => by have := HS.out t ht; rwa [if_pos ht] at this⟩, HZ, hws, HB⟩
          case measure => simp [intOf]; omega
    · obtain rfl : n = k := by omega
      go_wp2_with fail
      go_loopw [38] (fun ix wr => ∃ l : Nat, l ≤ 6 ∧ ix = .int .i64 l ∧ Bx (∀ t, t < 6 → wr.cell? ⟨w.heap.size + 1, t, none⟩ = some (.int .i64 (if t < l then (cmb W F n t).tdiv d else cmb W F n t)) ∧ wr.frozen? ⟨w.heap.size + 1, t, none⟩ = false) ∧ Bx (∀ t, t < 6 → wr.cell? ⟨w.heap.size, t, none⟩ = some (.int .i64 0) ∧ wr.frozen? ⟨w.heap.size, t, none⟩ = false) ∧ Bx (Below w.heap.size w wr)) (fun ix _ => 6 - (intOf ix).toNat)
      case atStart => exact ⟨0, by omega, rfl, HS, HZ, HB⟩
      case round =>
        clear HS HZ hws HB
        obtain ⟨l, hl6, rfl, HS, HZ, HB⟩ := hrel
        by_cases hl : l < 6
        · obtain ⟨s, hs⟩ : ∃ s, cmb W F n l = s := ⟨_, rfl⟩
          have e0 := (HS.out l hl).1
          have e1 := (HS.out l hl).2
          rw [if_neg (Nat.lt_irrefl l), hs] at e0
          obtain ⟨q, hq⟩ : ∃ q, s.tdiv d = q := ⟨_, rfl⟩
          have p2 := HSB.out n l (Nat.le_refl _) hl
          have p2' : s.natAbs ≤ n * 1000000000000000000 := by rw [← hs]; exact p2
          have p3 : q.natAbs ≤ s.natAbs := by rw [← hq, Int.natAbs_tdiv]; exact Nat.div_le_self _ _
          have HQ := Bx.mk (show q = (cmb W F n l).tdiv d by rw [hs, hq])
          have hwq : IntKind.i64.wrap q = q := by rw [IntWalk.i64_in] <;> omega
          have r1 : -9223372036854775808 ≤ q := by omega
          have r2 : q ≤ 9223372036854775807 := by omega
          clear hs p2
          go_wp2_with fail
          go_roundw
          case rel =>
            exact ⟨l + 1, by omega, by go_num, ⟨cells_set HS.out hl (h := fun t => if t < l + 1 then (cmb W F n t).tdiv d else cmb W F n t) (by simp only [if_pos (Nat.lt_succ_self l)]; exact HQ.out) fun t ht hne => by
              by_cases z : t < l
              · simp only [if_pos z, if_pos (show t < l + 1 by omega)]
              · simp only [if_neg z, if_neg (show ¬ t < l + 1 by omega)]⟩, ⟨fun t ht => ⟨(World.cell?_setCell_other wr _ _ _ (by simp)).trans (HZ.out t ht).1, (World.frozen?_setCell wr _ _ _).trans (HZ.out t ht).2⟩⟩, ⟨HB.out.setCell (p := ⟨w.heap.size + 1, l, none⟩) (by simp) _⟩⟩
          case measure => simp [intOf]; omega
        · obtain rfl : 6 = l := by omega
          obtain ⟨v, hv⟩ : ∃ v : Nat → Int, (fun c => (cmb W F n c).tdiv d) = v := ⟨_, rfl⟩
          have hvt : ∀ t, (cmb W F n t).tdiv d = v t := fun t => by rw [← hv]
          have f0 := (HS.out 0 (by omega)).1
          have f1 := (HS.out 1 (by omega)).1
          have f2 := (HS.out 2 (by omega)).1
          have f3 := (HS.out 3 (by omega)).1
          have f4 := (HS.out 4 (by omega)).1
          have f5 := (HS.out 5 (by omega)).1
          simp only [Nat.reduceLT, reduceIte, hvt] at f0 f1 f2 f3 f4 f5
          have g0 := (HZ.out 0 (by omega)).1
          have g1 := (HZ.out 1 (by omega)).1
          have g2 := (HZ.out 2 (by omega)).1
          have g3 := (HZ.out 3 (by omega)).1
          have g4 := (HZ.out 4 (by omega)).1
          have g5 := (HZ.out 5 (by omega)).1
          have k0 := (HZ.out 0 (by omega)).2
          have k1 := (HZ.out 1 (by omega)).2
          have k2 := (HZ.out 2 (by omega)).2
          have k3 := (HZ.out 3 (by omega)).2
          have k4 := (HZ.out 4 (by omega)).2
          have k5 := (HZ.out 5 (by omega)).2
          have hB := HB.out
          have HV := Bx.mk hv
          clear hv hvt
          go_wp2_with fail
          refine bodyPost_ret_by (v := PV v) (by simp [results, Try.results115, go_sem, g0, g1, g2, g3, g4, g5]) rfl ?_
          exact ⟨by rw [HV.out], (by repeat (first | with_reducible exact hB | (with_reducible refine Below.setCell ?_ ?side _; case side => (first | omega | (simp <;> omega)))))⟩
end Go.Proofs.Ytnbamjoadankmaa

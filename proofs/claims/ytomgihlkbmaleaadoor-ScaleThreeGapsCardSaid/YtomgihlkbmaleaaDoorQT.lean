/- The program's scale: Nearest. -/
import Derived.Test.YtomgihlkbmaleaaDoorQR
namespace Go.Proofs.YtomgihlkbmaleaaDoor
open Go.RowKit M
set_option maxRecDepth 100000 in
set_option maxHeartbeats 4000000 in
theorem nearest_bad (ao : Option Addr) (n c : Nat) (M : Nat → Nat → Int) (p : Nat → Int) (w : World) (hn : n ≤ 4611686018427387904) (hcn : n ≤ c) (hS : CV w ao n M) (hs : Sm w) (hv : ¬ SV M n) : Calls Tryd.prog 21 #[.slice ao n c, PV p] w fun e w' => e = .returned (.tuple #[.int .i64 0, .int .i64 0, .int .i64 1]) ∧ Below w.heap.size w w' := by
  have HS := Bx.mk hS
  have H1 := Bx.mk (fun W (h1 : CV W ao n M) (h2 : Sm W) => within_bad ao n c M p W hn hcn h1 h2 hv)
  clear hv
  clear hS
  have S : Bx (SS w w []) := ⟨SS.start w hs⟩
  replace S := Bx.mk (S.out.push #[.int .i64 (p 0), .int .i64 (p 1), .int .i64 (p 2), .int .i64 (p 3), .int .i64 (p 4), .int .i64 (p 5)] 23)
  go_enter Tryd.func21, Tryd.ntmps21
  have HS0 := Bx.mk (HS.out.keep S.out.bl)
  have HM0 := Bx.mk S.out.sm
  obtain ⟨c0_0, c0_1, c0_2, c0_3, c0_4, c0_5, z0⟩ := S.out.six w.heap.size 23 (.int .i64 (p 0)) (.int .i64 (p 1)) (.int .i64 (p 2)) (.int .i64 (p 3)) (.int .i64 (p 4)) (.int .i64 (p 5)) List.mem_cons_self
  go_wp2_with fail
  refine (H1.out _ HS0.out HM0.out).mono ?_
  rintro e w1 ⟨rfl, hb⟩
  replace S := Bx.mk (S.out.call hb)
  clear hb
  clear c0_0 c0_1 c0_2 c0_3 c0_4 c0_5 z0
  have hBL := S.out.bl
  clear S
  go_wp2_with fail
  refine bodyPost_ret_by (v := .tuple #[.int .i64 0, .int .i64 0, .int .i64 1]) (by simp [results, Tryd.results21, go_sem]) rfl ?_
  exact ⟨rfl, by first | exact hBL | exact (hBL).alloc (by have := hBL.size; omega) _⟩
set_option maxRecDepth 100000 in
set_option maxHeartbeats 4000000 in
theorem nearest_err (ao : Option Addr) (n c : Nat) (M : Nat → Nat → Int) (p : Nat → Int) (w : World) (hn : n ≤ 4611686018427387904) (hcn : n ≤ c) (hS : CV w ao n M) (hs : Sm w) (hv : SV M n) (q : Nat → Int) (o k : Int) (hk : k ≠ 0) (HO : Bx (∀ w, Sm w → Calls Tryd.prog 10 #[PV p] w fun e w' => e = .returned (.tuple #[PV q, .int .i64 o, .int .i64 k]) ∧ Below w.heap.size w w')) : Calls Tryd.prog 21 #[.slice ao n c, PV p] w fun e w' => e = .returned (.tuple #[.int .i64 0, .int .i64 0, .int .i64 k]) ∧ Below w.heap.size w w' := by
  have HS := Bx.mk hS
  have H1 := Bx.mk (fun W (h1 : CV W ao n M) (h2 : Sm W) => within_ok ao n c M p W hn hcn h1 h2 hv q o k HO)
  clear hv HO
  clear hS
  have S : Bx (SS w w []) := ⟨SS.start w hs⟩
  replace S := Bx.mk (S.out.push #[.int .i64 (p 0), .int .i64 (p 1), .int .i64 (p 2), .int .i64 (p 3), .int .i64 (p 4), .int .i64 (p 5)] 23)
  go_enter Tryd.func21, Tryd.ntmps21
  have HS0 := Bx.mk (HS.out.keep S.out.bl)
  have HM0 := Bx.mk S.out.sm
  obtain ⟨c0_0, c0_1, c0_2, c0_3, c0_4, c0_5, z0⟩ := S.out.six w.heap.size 23 (.int .i64 (p 0)) (.int .i64 (p 1)) (.int .i64 (p 2)) (.int .i64 (p 3)) (.int .i64 (p 4)) (.int .i64 (p 5)) List.mem_cons_self
  go_wp2_with fail
  refine (H1.out _ HS0.out HM0.out).mono ?_
  rintro e w1 ⟨rfl, hb⟩
  replace S := Bx.mk (S.out.call hb)
  clear hb
  clear c0_0 c0_1 c0_2 c0_3 c0_4 c0_5 z0
  have hBL := S.out.bl
  clear S
  go_wp2_with fail
  refine bodyPost_ret_by (v := .tuple #[.int .i64 0, .int .i64 0, .int .i64 k]) (by simp [results, Tryd.results21, go_sem]) rfl ?_
  exact ⟨rfl, by first | exact hBL | exact (hBL).alloc (by have := hBL.size; omega) _⟩
def two (u v : Nat → Int) : Nat → Nat → Int := fun i => if i = 0 then u else v
theorem two_cells (W : World) (u v : Nat → Int) : ∀ i j, i < 2 → j < 6 → (W.alloc (.cells #[.int .i64 (u 0), .int .i64 (u 1), .int .i64 (u 2), .int .i64 (u 3), .int .i64 (u 4), .int .i64 (u 5), .int .i64 (v 0), .int .i64 (v 1), .int .i64 (v 2), .int .i64 (v 3), .int .i64 (v 4), .int .i64 (v 5)] 23)).cell? ⟨W.heap.size, 0 + i * 6 + j, none⟩ = some (.int .i64 (two u v i j)) := by
  intro i j hi hj
  have h : i = 0 ∨ i = 1 := by omega
  rcases h with rfl | rfl <;> rcases six_cases' hj with rfl | rfl | rfl | rfl | rfl | rfl <;> simp [two]
theorem two_in {W wC : World} {u v : Nat → Int} (h : Below (W.alloc (.cells #[.int .i64 (u 0), .int .i64 (u 1), .int .i64 (u 2), .int .i64 (u 3), .int .i64 (u 4), .int .i64 (u 5), .int .i64 (v 0), .int .i64 (v 1), .int .i64 (v 2), .int .i64 (v 3), .int .i64 (v 4), .int .i64 (v 5)] 23)).heap.size (W.alloc (.cells #[.int .i64 (u 0), .int .i64 (u 1), .int .i64 (u 2), .int .i64 (u 3), .int .i64 (u 4), .int .i64 (u 5), .int .i64 (v 0), .int .i64 (v 1), .int .i64 (v 2), .int .i64 (v 3), .int .i64 (v 4), .int .i64 (v 5)] 23)) wC) : wC.cell? ⟨W.heap.size, 0, none⟩ = some (.int .i64 (u 0)) ∧ wC.cell? ⟨W.heap.size, 1, none⟩ = some (.int .i64 (u 1)) ∧ wC.cell? ⟨W.heap.size, 2, none⟩ = some (.int .i64 (u 2)) ∧ wC.cell? ⟨W.heap.size, 3, none⟩ = some (.int .i64 (u 3)) ∧ wC.cell? ⟨W.heap.size, 4, none⟩ = some (.int .i64 (u 4)) ∧ wC.cell? ⟨W.heap.size, 5, none⟩ = some (.int .i64 (u 5)) ∧ wC.cell? ⟨W.heap.size, 6, none⟩ = some (.int .i64 (v 0)) ∧ wC.cell? ⟨W.heap.size, 7, none⟩ = some (.int .i64 (v 1)) ∧ wC.cell? ⟨W.heap.size, 8, none⟩ = some (.int .i64 (v 2)) ∧ wC.cell? ⟨W.heap.size, 9, none⟩ = some (.int .i64 (v 3)) ∧ wC.cell? ⟨W.heap.size, 10, none⟩ = some (.int .i64 (v 4)) ∧ wC.cell? ⟨W.heap.size, 11, none⟩ = some (.int .i64 (v 5)) := by
  have c : ∀ i j, i < 2 → j < 6 → wC.cell? ⟨W.heap.size, 0 + i * 6 + j, none⟩ = some (.int .i64 (two u v i j)) := fun i j hi hj => (h.cell (p := ⟨W.heap.size, 0 + i * 6 + j, none⟩) (by simp)).trans (two_cells W u v i j hi hj)
  exact ⟨c 0 0 (by omega) (by omega), c 0 1 (by omega) (by omega), c 0 2 (by omega) (by omega), c 0 3 (by omega) (by omega), c 0 4 (by omega) (by omega), c 0 5 (by omega) (by omega), c 1 0 (by omega) (by omega), c 1 1 (by omega) (by omega), c 1 2 (by omega) (by omega), c 1 3 (by omega) (by omega), c 1 4 (by omega) (by omega), c 1 5 (by omega) (by omega)⟩
set_option maxRecDepth 100000 in
set_option maxHeartbeats 16000000 in
theorem nearest_gap (ao : Option Addr) (n c : Nat) (M : Nat → Nat → Int) (p q u v : Nat → Int) (oc : Int) (d : Nat) (w : World) (hcn : n ≤ c) (hS : CV w ao n M) (hs : Sm w) (hv : SV M n) (hq : bdB q 576 = true) (hd : naI M n q = d + 1) (hdn : d < n) (HO : Bx (∀ w, Sm w → Calls Tryd.prog 10 #[PV p] w fun e w' => e = .returned (.tuple #[PV q, .int .i64 oc, .int .i64 0]) ∧ Below w.heap.size w w'))
    (hu : ∀ i, i < 6 → u i = q i - M d i) (hv2 : ∀ i, i < 6 → v i = nx M n d i - q i) (hg : ¬ (bdB u 576 = true ∧ bdB v 576 = true)) : Calls Tryd.prog 21 #[.slice ao n c, PV p] w fun e w' => e = .returned (.tuple #[.int .i64 0, .int .i64 0, .int .i64 3]) ∧ Below w.heap.size w w' := by
  have hn := hv.le
  have H1 := Bx.mk (fun W (h1 : CV W ao n M) (h2 : Sm W) => within_ok ao n c M p W (by omega) hcn h1 h2 hv q oc 0 HO)
  have H2 := Bx.mk (fun W (h1 : CV W ao n M) (h2 : Sm W) => notAbove_any ao n c M q d W hcn h1 h2 hv hq (by rw [hd]; omega))
  obtain ⟨y, hy⟩ : ∃ y, nx M n d = y := ⟨_, rfl⟩
  have H3 := Bx.mk (fun W (h1 : CV W ao n M) (h2 : Sm W) => next_any ao n c d M y hy (by omega) hcn hdn W h1 h2)
  have hup := lwB_iff.1 (hv.up d hdn)
  obtain ⟨b, o, rfl, hb, hcr⟩ := hS hv.pos
  have HS : Bx (CV w (some ⟨b, o, none⟩) n M) := ⟨hS⟩
  have HCR := Bx.mk hcr
  obtain ⟨x, hx⟩ : ∃ x, M d = x := ⟨_, rfl⟩
  rw [hx, hy] at hup
  have qb6 := bdB_yes.1 hq
  have xb6 := bdB_yes.1 hup.1
  have yb6 := bdB_yes.1 hup.2.1
  have HQ1 : Bx (∀ w, Calls Tryd.prog 32 #[PV q, PV x] w fun e w' => e = .returned (PV u) ∧ Below w.heap.size w w') := ⟨fun w => quot_any q x u (fun k hk => by rw [hu k hk, hx]) (fun k hk => by have := qb6 k hk; omega) (fun k hk => by have := xb6 k hk; omega) w⟩
  have HQ2 : Bx (∀ w, Calls Tryd.prog 32 #[PV y, PV q] w fun e w' => e = .returned (PV v) ∧ Below w.heap.size w w') := ⟨fun w => quot_any y q v (fun k hk => by rw [hv2 k hk, hy]) (fun k hk => by have := yb6 k hk; omega) (fun k hk => by have := qb6 k hk; omega) w⟩
  have hdi : (d : Int) < (n : Int) := by omega
  have HX := Bx.mk hx
  have HCK : Bx (∀ W : World, Calls Tryd.prog 34 #[.slice (some ⟨W.heap.size, 0, none⟩) 2 2] (W.alloc (.cells #[.int .i64 (u 0), .int .i64 (u 1), .int .i64 (u 2), .int .i64 (u 3), .int .i64 (u 4), .int .i64 (u 5), .int .i64 (v 0), .int .i64 (v 1), .int .i64 (v 2), .int .i64 (v 3), .int .i64 (v 4), .int .i64 (v 5)] 23)) fun e w' => e = .returned (.tuple #[.slice none 0 0, .int .i64 3]) ∧ Below (W.alloc (.cells #[.int .i64 (u 0), .int .i64 (u 1), .int .i64 (u 2), .int .i64 (u 3), .int .i64 (u 4), .int .i64 (u 5), .int .i64 (v 0), .int .i64 (v 1), .int .i64 (v 2), .int .i64 (v 3), .int .i64 (v 4), .int .i64 (v 5)] 23)).heap.size (W.alloc (.cells #[.int .i64 (u 0), .int .i64 (u 1), .int .i64 (u 2), .int .i64 (u 3), .int .i64 (u 4), .int .i64 (u 5), .int .i64 (v 0), .int .i64 (v 1), .int .i64 (v 2), .int .i64 (v 3), .int .i64 (v 4), .int .i64 (v 5)] 23)) w') :=
    ⟨fun W => checked_no9 W.heap.size 0 2 2 (two u v) _ (by omega) (by omega) (by simp) (two_cells W u v) ⟨(fun h => by cases h), fun h => absurd ⟨by have := h 0 (by omega); simpa [two] using this, by have := h 1 (by omega); simpa [two] using this⟩ hg⟩⟩
  clear hq hd hu hv2 hup qb6 xb6 yb6 hx hy hcr hS hv HO
  unfold PV at HQ1 HQ2 H3
  have S : Bx (SS w w []) := ⟨SS.start w hs⟩
  replace S := Bx.mk (S.out.push #[.int .i64 (p 0), .int .i64 (p 1), .int .i64 (p 2), .int .i64 (p 3), .int .i64 (p 4), .int .i64 (p 5)] 23)
  go_enter Tryd.func21, Tryd.ntmps21
  have HS0 := Bx.mk (HS.out.keep S.out.bl)
  have HM0 := Bx.mk S.out.sm
  obtain ⟨c0_0, c0_1, c0_2, c0_3, c0_4, c0_5, z0⟩ := S.out.six w.heap.size 23 (.int .i64 (p 0)) (.int .i64 (p 1)) (.int .i64 (p 2)) (.int .i64 (p 3)) (.int .i64 (p 4)) (.int .i64 (p 5)) List.mem_cons_self
  go_wp2_with fail
  refine (H1.out _ HS0.out HM0.out).mono ?_
  rintro e w1 ⟨rfl, hb⟩
  replace S := Bx.mk (S.out.call hb)
  clear hb
  clear c0_0 c0_1 c0_2 c0_3 c0_4 c0_5 z0
  replace S := Bx.mk (S.out.push #[.int .i64 (q 0), .int .i64 (q 1), .int .i64 (q 2), .int .i64 (q 3), .int .i64 (q 4), .int .i64 (q 5)] 23)
  have HS1 := Bx.mk (HS.out.keep S.out.bl)
  have HM1 := Bx.mk S.out.sm
  obtain ⟨c0_0, c0_1, c0_2, c0_3, c0_4, c0_5, z0⟩ := S.out.six w1.heap.size 23 (.int .i64 (q 0)) (.int .i64 (q 1)) (.int .i64 (q 2)) (.int .i64 (q 3)) (.int .i64 (q 4)) (.int .i64 (q 5)) List.mem_cons_self
  go_wp2_with fail
  refine (H2.out _ HS1.out HM1.out).mono ?_
  rintro e w2 ⟨rfl, hb⟩
  replace S := Bx.mk (S.out.call hb)
  clear hb
  clear c0_0 c0_1 c0_2 c0_3 c0_4 c0_5 z0
  have HM2 := Bx.mk S.out.sm
  have HB2 := Bx.mk S.out.bl
  obtain ⟨qb, hqb⟩ : ∃ qb, w1.heap.size = qb := ⟨_, rfl⟩
  have HSS : Bx (∀ W, Below w2.heap.size w2 W → W.cell? ⟨qb, 0, none⟩ = some (.int .i64 (q 0)) ∧ W.cell? ⟨qb, 1, none⟩ = some (.int .i64 (q 1)) ∧ W.cell? ⟨qb, 2, none⟩ = some (.int .i64 (q 2)) ∧ W.cell? ⟨qb, 3, none⟩ = some (.int .i64 (q 3)) ∧ W.cell? ⟨qb, 4, none⟩ = some (.int .i64 (q 4)) ∧ W.cell? ⟨qb, 5, none⟩ = some (.int .i64 (q 5)) ∧ W.cell? ⟨b, o + d * 6, none⟩ = some (.int .i64 (x 0)) ∧ W.cell? ⟨b, o + d * 6 + 1, none⟩ = some (.int .i64 (x 1)) ∧ W.cell? ⟨b, o + d * 6 + 2, none⟩ = some (.int .i64 (x 2)) ∧ W.cell? ⟨b, o + d * 6 + 3, none⟩ = some (.int .i64 (x 3)) ∧ W.cell? ⟨b, o + d * 6 + 4, none⟩ = some (.int .i64 (x 4)) ∧ W.cell? ⟨b, o + d * 6 + 5, none⟩ = some (.int .i64 (x 5))) := ⟨fun W hW => by
    obtain ⟨c0, c1, c2, c3, c4, c5, z⟩ := S.out.six w1.heap.size 23 (.int .i64 (q 0)) (.int .i64 (q 1)) (.int .i64 (q 2)) (.int .i64 (q 3)) (.int .i64 (q 4)) (.int .i64 (q 5)) List.mem_cons_self
    obtain ⟨a0, a1, a2, a3, a4, a5⟩ := row_six HCR.out hb (HB2.out.trans (hW.mono HB2.out.size)) hdn
    rw [HX.out] at a0 a1 a2 a3 a4 a5
    rw [← hqb]
    exact ⟨(hW.cell (p := ⟨w1.heap.size, 0, none⟩) z).trans c0, (hW.cell (p := ⟨w1.heap.size, 1, none⟩) z).trans c1, (hW.cell (p := ⟨w1.heap.size, 2, none⟩) z).trans c2, (hW.cell (p := ⟨w1.heap.size, 3, none⟩) z).trans c3, (hW.cell (p := ⟨w1.heap.size, 4, none⟩) z).trans c4, (hW.cell (p := ⟨w1.heap.size, 5, none⟩) z).trans c5, a0, a1, a2, a3, a4, a5⟩⟩
  have HN : Bx (∀ W, Below w2.heap.size w2 W → Calls Tryd.prog 33 #[.slice (some ⟨b, o, none⟩) n c, .int .i64 d] W fun e w' => e = .returned (.agg #[.int .i64 (y 0), .int .i64 (y 1), .int .i64 (y 2), .int .i64 (y 3), .int .i64 (y 4), .int .i64 (y 5)]) ∧ Below w2.heap.size w2 w') := ⟨fun W hW => (H3.out W (HS.out.keep (HB2.out.trans (hW.mono HB2.out.size))) (HM2.out.keep hW)).mono fun e w' h => ⟨h.1, hW.trans (h.2.mono hW.size)⟩⟩
  have HA : Bx (∀ W, Below w2.heap.size w2 W → Calls Tryd.prog 32 #[.agg #[.int .i64 (q 0), .int .i64 (q 1), .int .i64 (q 2), .int .i64 (q 3), .int .i64 (q 4), .int .i64 (q 5)], .agg #[.int .i64 (x 0), .int .i64 (x 1), .int .i64 (x 2), .int .i64 (x 3), .int .i64 (x 4), .int .i64 (x 5)]] W fun e w' => e = .returned (.agg #[.int .i64 (u 0), .int .i64 (u 1), .int .i64 (u 2), .int .i64 (u 3), .int .i64 (u 4), .int .i64 (u 5)]) ∧ Below w2.heap.size w2 w') := ⟨fun W hW => (HQ1.out W).mono fun e w' h => ⟨h.1, hW.trans (h.2.mono hW.size)⟩⟩
  have HB : Bx (∀ W, Below w2.heap.size w2 W → Calls Tryd.prog 32 #[.agg #[.int .i64 (y 0), .int .i64 (y 1), .int .i64 (y 2), .int .i64 (y 3), .int .i64 (y 4), .int .i64 (y 5)], .agg #[.int .i64 (q 0), .int .i64 (q 1), .int .i64 (q 2), .int .i64 (q 3), .int .i64 (q 4), .int .i64 (q 5)]] W fun e w' => e = .returned (.agg #[.int .i64 (v 0), .int .i64 (v 1), .int .i64 (v 2), .int .i64 (v 3), .int .i64 (v 4), .int .i64 (v 5)]) ∧ Below w2.heap.size w2 w') := ⟨fun W hW => (HQ2.out W).mono fun e w' h => ⟨h.1, hW.trans (h.2.mono hW.size)⟩⟩
  have HC : Bx (∀ W : World, Below w2.heap.size w2 W → Calls Tryd.prog 34 #[.slice (some ⟨W.heap.size, 0, none⟩) 2 2] (W.alloc (.cells #[.int .i64 (u 0), .int .i64 (u 1), .int .i64 (u 2), .int .i64 (u 3), .int .i64 (u 4), .int .i64 (u 5), .int .i64 (v 0), .int .i64 (v 1), .int .i64 (v 2), .int .i64 (v 3), .int .i64 (v 4), .int .i64 (v 5)] 23)) fun e w' => e = .returned (.tuple #[.slice none 0 0, .int .i64 3]) ∧ Below w2.heap.size w2 w' ∧ Below (W.alloc (.cells #[.int .i64 (u 0), .int .i64 (u 1), .int .i64 (u 2), .int .i64 (u 3), .int .i64 (u 4), .int .i64 (u 5), .int .i64 (v 0), .int .i64 (v 1), .int .i64 (v 2), .int .i64 (v 3), .int .i64 (v 4), .int .i64 (v 5)] 23)).heap.size (W.alloc (.cells #[.int .i64 (u 0), .int .i64 (u 1), .int .i64 (u 2), .int .i64 (u 3), .int .i64 (u 4), .int .i64 (u 5), .int .i64 (v 0), .int .i64 (v 1), .int .i64 (v 2), .int .i64 (v 3), .int .i64 (v 4), .int .i64 (v 5)] 23)) w') := ⟨fun W hW => (HCK.out W).mono fun e w' h => ⟨h.1, (hW.alloc hW.size _).trans (h.2.mono (by have := hW.size; simp; omega)), h.2⟩⟩
  clear S HQ1 HQ2 HCK H1 H2 H3 HS0 HM0 HS1 HM1
  go_wp2_with fail
  have K0 : Below w2.heap.size w2 w2.drew := (Below.refl _ _).drew
  have hKK : ∀ W o', Below w2.heap.size w2 W → Below w2.heap.size w2 (W.alloc o') := fun W o' h => h.alloc h.size o'
  go_region_held3 (fun W' => W'.cell? ⟨qb, 0, none⟩ = some (.int .i64 (q 0)) ∧ W'.cell? ⟨qb, 1, none⟩ = some (.int .i64 (q 1)) ∧ W'.cell? ⟨qb, 2, none⟩ = some (.int .i64 (q 2)) ∧ W'.cell? ⟨qb, 3, none⟩ = some (.int .i64 (q 3)) ∧ W'.cell? ⟨qb, 4, none⟩ = some (.int .i64 (q 4)) ∧ W'.cell? ⟨qb, 5, none⟩ = some (.int .i64 (q 5)) ∧ W'.cell? ⟨b, o + d * 6, none⟩ = some (.int .i64 (x 0)) ∧ W'.cell? ⟨b, o + d * 6 + 1, none⟩ = some (.int .i64 (x 1)) ∧ W'.cell? ⟨b, o + d * 6 + 2, none⟩ = some (.int .i64 (x 2)) ∧ W'.cell? ⟨b, o + d * 6 + 3, none⟩ = some (.int .i64 (x 3)) ∧ W'.cell? ⟨b, o + d * 6 + 4, none⟩ = some (.int .i64 (x 4)) ∧ W'.cell? ⟨b, o + d * 6 + 5, none⟩ = some (.int .i64 (x 5)))
    (first | with_reducible exact HSS.out _ K0 | with_reducible exact HSS.out _ KN | with_reducible exact HSS.out _ KA | with_reducible exact HSS.out _ KB | with_reducible exact HSS.out _ KC | with_reducible exact HSS.out _ (hKK _ _ KA) | with_reducible exact HSS.out _ (hKK _ _ KB))
    (first
      | (go_at_call 33; refine (HN.out _ (by first | with_reducible exact K0 | with_reducible exact KA)).mono ?_; rintro e wN ⟨rfl, KN⟩)
      | (go_at_call 34; refine (HC.out _ (by first | with_reducible exact KA | with_reducible exact KB)).mono ?_; rintro e wC ⟨rfl, KC, KD⟩)
      | (go_at_call 32; with_reducible refine (HA.out _ ?_).mono ?_; · (first | with_reducible exact K0 | with_reducible exact KN | with_reducible exact KB)
         rintro e wA ⟨rfl, KA⟩)
      | (go_at_call 32; with_reducible refine (HB.out _ ?_).mono ?_; · (first | with_reducible exact KN | with_reducible exact KA)
         rintro e wB ⟨rfl, KB⟩))
  all_goals have HF := Bx.mk (HB2.out.trans (KC.mono HB2.out.size))
  all_goals clear HSS HN HA HB HC
  all_goals go_wp2_with fail
  all_goals refine bodyPost_ret_by (v := .tuple #[.int .i64 0, .int .i64 0, .int .i64 3]) (by simp [results, Tryd.results21, go_sem]) rfl ?_
  all_goals exact ⟨rfl, HF.out⟩
set_option maxRecDepth 100000 in
set_option maxHeartbeats 16000000 in
theorem nearest_low (ao : Option Addr) (n c : Nat) (M : Nat → Nat → Int) (p q u v : Nat → Int) (oc : Int) (d : Nat) (w : World) (hcn : n ≤ c) (hS : CV w ao n M) (hs : Sm w) (hv : SV M n) (hq : bdB q 576 = true) (hd : naI M n q = d + 1) (hdn : d < n) (HO : Bx (∀ w, Sm w → Calls Tryd.prog 10 #[PV p] w fun e w' => e = .returned (.tuple #[PV q, .int .i64 oc, .int .i64 0]) ∧ Below w.heap.size w w'))
    (hu : ∀ i, i < 6 → u i = q i - M d i) (hv2 : ∀ i, i < 6 → v i = nx M n d i - q i) (hg : bdB u 576 = true ∧ bdB v 576 = true) (hl : lwB v u = false) : Calls Tryd.prog 21 #[.slice ao n c, PV p] w fun e w' => e = .returned (.tuple #[.int .i64 d, .int .i64 oc, .int .i64 0]) ∧ Below w.heap.size w w' := by
  have hn := hv.le
  have H1 := Bx.mk (fun W (h1 : CV W ao n M) (h2 : Sm W) => within_ok ao n c M p W (by omega) hcn h1 h2 hv q oc 0 HO)
  have H2 := Bx.mk (fun W (h1 : CV W ao n M) (h2 : Sm W) => notAbove_any ao n c M q d W hcn h1 h2 hv hq (by rw [hd]; omega))
  obtain ⟨y, hy⟩ : ∃ y, nx M n d = y := ⟨_, rfl⟩
  have H3 := Bx.mk (fun W (h1 : CV W ao n M) (h2 : Sm W) => next_any ao n c d M y hy (by omega) hcn hdn W h1 h2)
  have hup := lwB_iff.1 (hv.up d hdn)
  obtain ⟨b, o, rfl, hb, hcr⟩ := hS hv.pos
  have HS : Bx (CV w (some ⟨b, o, none⟩) n M) := ⟨hS⟩
  have HCR := Bx.mk hcr
  obtain ⟨x, hx⟩ : ∃ x, M d = x := ⟨_, rfl⟩
  rw [hx, hy] at hup
  have qb6 := bdB_yes.1 hq
  have xb6 := bdB_yes.1 hup.1
  have yb6 := bdB_yes.1 hup.2.1
  have HQ1 : Bx (∀ w, Calls Tryd.prog 32 #[PV q, PV x] w fun e w' => e = .returned (PV u) ∧ Below w.heap.size w w') := ⟨fun w => quot_any q x u (fun k hk => by rw [hu k hk, hx]) (fun k hk => by have := qb6 k hk; omega) (fun k hk => by have := xb6 k hk; omega) w⟩
  have HQ2 : Bx (∀ w, Calls Tryd.prog 32 #[PV y, PV q] w fun e w' => e = .returned (PV v) ∧ Below w.heap.size w w') := ⟨fun w => quot_any y q v (fun k hk => by rw [hv2 k hk, hy]) (fun k hk => by have := yb6 k hk; omega) (fun k hk => by have := qb6 k hk; omega) w⟩
  have hdi : (d : Int) < (n : Int) := by omega
  have HX := Bx.mk hx
  have HCK : Bx (∀ W : World, Calls Tryd.prog 34 #[.slice (some ⟨W.heap.size, 0, none⟩) 2 2] (W.alloc (.cells #[.int .i64 (u 0), .int .i64 (u 1), .int .i64 (u 2), .int .i64 (u 3), .int .i64 (u 4), .int .i64 (u 5), .int .i64 (v 0), .int .i64 (v 1), .int .i64 (v 2), .int .i64 (v 3), .int .i64 (v 4), .int .i64 (v 5)] 23)) fun e w' => e = .returned (.tuple #[.slice (some ⟨W.heap.size, 0, none⟩) 2 2, .int .i64 0]) ∧ Below (W.alloc (.cells #[.int .i64 (u 0), .int .i64 (u 1), .int .i64 (u 2), .int .i64 (u 3), .int .i64 (u 4), .int .i64 (u 5), .int .i64 (v 0), .int .i64 (v 1), .int .i64 (v 2), .int .i64 (v 3), .int .i64 (v 4), .int .i64 (v 5)] 23)).heap.size (W.alloc (.cells #[.int .i64 (u 0), .int .i64 (u 1), .int .i64 (u 2), .int .i64 (u 3), .int .i64 (u 4), .int .i64 (u 5), .int .i64 (v 0), .int .i64 (v 1), .int .i64 (v 2), .int .i64 (v 3), .int .i64 (v 4), .int .i64 (v 5)] 23)) w') :=
    ⟨fun W => checked_ok9 W.heap.size 0 2 2 (two u v) _ (by omega) (by omega) (by simp) (two_cells W u v) ⟨(fun _ i hi => by unfold two; split; exact hg.1; exact hg.2), fun _ => rfl⟩⟩
  have HL := Bx.mk (fun W (h : Sm W) => qlow_any v u false hl W h)
  unfold PV at HL
  clear hq hd hu hv2 hup qb6 xb6 yb6 hx hy hcr hS hv HO
  unfold PV at HQ1 HQ2 H3
  have S : Bx (SS w w []) := ⟨SS.start w hs⟩
  replace S := Bx.mk (S.out.push #[.int .i64 (p 0), .int .i64 (p 1), .int .i64 (p 2), .int .i64 (p 3), .int .i64 (p 4), .int .i64 (p 5)] 23)
  go_enter Tryd.func21, Tryd.ntmps21
  have HS0 := Bx.mk (HS.out.keep S.out.bl)
  have HM0 := Bx.mk S.out.sm
  obtain ⟨c0_0, c0_1, c0_2, c0_3, c0_4, c0_5, z0⟩ := S.out.six w.heap.size 23 (.int .i64 (p 0)) (.int .i64 (p 1)) (.int .i64 (p 2)) (.int .i64 (p 3)) (.int .i64 (p 4)) (.int .i64 (p 5)) List.mem_cons_self
  go_wp2_with fail
  refine (H1.out _ HS0.out HM0.out).mono ?_
  rintro e w1 ⟨rfl, hb⟩
  replace S := Bx.mk (S.out.call hb)
  clear hb
  clear c0_0 c0_1 c0_2 c0_3 c0_4 c0_5 z0
  replace S := Bx.mk (S.out.push #[.int .i64 (q 0), .int .i64 (q 1), .int .i64 (q 2), .int .i64 (q 3), .int .i64 (q 4), .int .i64 (q 5)] 23)
  have HS1 := Bx.mk (HS.out.keep S.out.bl)
  have HM1 := Bx.mk S.out.sm
  obtain ⟨c0_0, c0_1, c0_2, c0_3, c0_4, c0_5, z0⟩ := S.out.six w1.heap.size 23 (.int .i64 (q 0)) (.int .i64 (q 1)) (.int .i64 (q 2)) (.int .i64 (q 3)) (.int .i64 (q 4)) (.int .i64 (q 5)) List.mem_cons_self
  go_wp2_with fail
  refine (H2.out _ HS1.out HM1.out).mono ?_
  rintro e w2 ⟨rfl, hb⟩
  replace S := Bx.mk (S.out.call hb)
  clear hb
  clear c0_0 c0_1 c0_2 c0_3 c0_4 c0_5 z0
  have HM2 := Bx.mk S.out.sm
  have HB2 := Bx.mk S.out.bl
  obtain ⟨qb, hqb⟩ : ∃ qb, w1.heap.size = qb := ⟨_, rfl⟩
  have HSS : Bx (∀ W, Below w2.heap.size w2 W → W.cell? ⟨qb, 0, none⟩ = some (.int .i64 (q 0)) ∧ W.cell? ⟨qb, 1, none⟩ = some (.int .i64 (q 1)) ∧ W.cell? ⟨qb, 2, none⟩ = some (.int .i64 (q 2)) ∧ W.cell? ⟨qb, 3, none⟩ = some (.int .i64 (q 3)) ∧ W.cell? ⟨qb, 4, none⟩ = some (.int .i64 (q 4)) ∧ W.cell? ⟨qb, 5, none⟩ = some (.int .i64 (q 5)) ∧ W.cell? ⟨b, o + d * 6, none⟩ = some (.int .i64 (x 0)) ∧ W.cell? ⟨b, o + d * 6 + 1, none⟩ = some (.int .i64 (x 1)) ∧ W.cell? ⟨b, o + d * 6 + 2, none⟩ = some (.int .i64 (x 2)) ∧ W.cell? ⟨b, o + d * 6 + 3, none⟩ = some (.int .i64 (x 3)) ∧ W.cell? ⟨b, o + d * 6 + 4, none⟩ = some (.int .i64 (x 4)) ∧ W.cell? ⟨b, o + d * 6 + 5, none⟩ = some (.int .i64 (x 5))) := ⟨fun W hW => by
    obtain ⟨c0, c1, c2, c3, c4, c5, z⟩ := S.out.six w1.heap.size 23 (.int .i64 (q 0)) (.int .i64 (q 1)) (.int .i64 (q 2)) (.int .i64 (q 3)) (.int .i64 (q 4)) (.int .i64 (q 5)) List.mem_cons_self
    obtain ⟨a0, a1, a2, a3, a4, a5⟩ := row_six HCR.out hb (HB2.out.trans (hW.mono HB2.out.size)) hdn
    rw [HX.out] at a0 a1 a2 a3 a4 a5
    rw [← hqb]
    exact ⟨(hW.cell (p := ⟨w1.heap.size, 0, none⟩) z).trans c0, (hW.cell (p := ⟨w1.heap.size, 1, none⟩) z).trans c1, (hW.cell (p := ⟨w1.heap.size, 2, none⟩) z).trans c2, (hW.cell (p := ⟨w1.heap.size, 3, none⟩) z).trans c3, (hW.cell (p := ⟨w1.heap.size, 4, none⟩) z).trans c4, (hW.cell (p := ⟨w1.heap.size, 5, none⟩) z).trans c5, a0, a1, a2, a3, a4, a5⟩⟩
  have HN : Bx (∀ W, Below w2.heap.size w2 W → Calls Tryd.prog 33 #[.slice (some ⟨b, o, none⟩) n c, .int .i64 d] W fun e w' => e = .returned (.agg #[.int .i64 (y 0), .int .i64 (y 1), .int .i64 (y 2), .int .i64 (y 3), .int .i64 (y 4), .int .i64 (y 5)]) ∧ Below w2.heap.size w2 w') := ⟨fun W hW => (H3.out W (HS.out.keep (HB2.out.trans (hW.mono HB2.out.size))) (HM2.out.keep hW)).mono fun e w' h => ⟨h.1, hW.trans (h.2.mono hW.size)⟩⟩
  have HA : Bx (∀ W, Below w2.heap.size w2 W → Calls Tryd.prog 32 #[.agg #[.int .i64 (q 0), .int .i64 (q 1), .int .i64 (q 2), .int .i64 (q 3), .int .i64 (q 4), .int .i64 (q 5)], .agg #[.int .i64 (x 0), .int .i64 (x 1), .int .i64 (x 2), .int .i64 (x 3), .int .i64 (x 4), .int .i64 (x 5)]] W fun e w' => e = .returned (.agg #[.int .i64 (u 0), .int .i64 (u 1), .int .i64 (u 2), .int .i64 (u 3), .int .i64 (u 4), .int .i64 (u 5)]) ∧ Below w2.heap.size w2 w') := ⟨fun W hW => (HQ1.out W).mono fun e w' h => ⟨h.1, hW.trans (h.2.mono hW.size)⟩⟩
  have HB : Bx (∀ W, Below w2.heap.size w2 W → Calls Tryd.prog 32 #[.agg #[.int .i64 (y 0), .int .i64 (y 1), .int .i64 (y 2), .int .i64 (y 3), .int .i64 (y 4), .int .i64 (y 5)], .agg #[.int .i64 (q 0), .int .i64 (q 1), .int .i64 (q 2), .int .i64 (q 3), .int .i64 (q 4), .int .i64 (q 5)]] W fun e w' => e = .returned (.agg #[.int .i64 (v 0), .int .i64 (v 1), .int .i64 (v 2), .int .i64 (v 3), .int .i64 (v 4), .int .i64 (v 5)]) ∧ Below w2.heap.size w2 w') := ⟨fun W hW => (HQ2.out W).mono fun e w' h => ⟨h.1, hW.trans (h.2.mono hW.size)⟩⟩
  have HC : Bx (∀ W : World, Below w2.heap.size w2 W → Calls Tryd.prog 34 #[.slice (some ⟨W.heap.size, 0, none⟩) 2 2] (W.alloc (.cells #[.int .i64 (u 0), .int .i64 (u 1), .int .i64 (u 2), .int .i64 (u 3), .int .i64 (u 4), .int .i64 (u 5), .int .i64 (v 0), .int .i64 (v 1), .int .i64 (v 2), .int .i64 (v 3), .int .i64 (v 4), .int .i64 (v 5)] 23)) fun e w' => e = .returned (.tuple #[.slice (some ⟨W.heap.size, 0, none⟩) 2 2, .int .i64 0]) ∧ Below w2.heap.size w2 w' ∧ Below (W.alloc (.cells #[.int .i64 (u 0), .int .i64 (u 1), .int .i64 (u 2), .int .i64 (u 3), .int .i64 (u 4), .int .i64 (u 5), .int .i64 (v 0), .int .i64 (v 1), .int .i64 (v 2), .int .i64 (v 3), .int .i64 (v 4), .int .i64 (v 5)] 23)).heap.size (W.alloc (.cells #[.int .i64 (u 0), .int .i64 (u 1), .int .i64 (u 2), .int .i64 (u 3), .int .i64 (u 4), .int .i64 (u 5), .int .i64 (v 0), .int .i64 (v 1), .int .i64 (v 2), .int .i64 (v 3), .int .i64 (v 4), .int .i64 (v 5)] 23)) w') := ⟨fun W hW => (HCK.out W).mono fun e w' h => ⟨h.1, (hW.alloc hW.size _).trans (h.2.mono (by have := hW.size; simp; omega)), h.2⟩⟩
  clear S HQ1 HQ2 HCK H1 H2 H3 HS0 HM0 HS1 HM1
  go_wp2_with fail
  have K0 : Below w2.heap.size w2 w2.drew := (Below.refl _ _).drew
  have hKK : ∀ W o', Below w2.heap.size w2 W → Below w2.heap.size w2 (W.alloc o') := fun W o' h => h.alloc h.size o'
  go_region_held3 (fun W' => W'.cell? ⟨qb, 0, none⟩ = some (.int .i64 (q 0)) ∧ W'.cell? ⟨qb, 1, none⟩ = some (.int .i64 (q 1)) ∧ W'.cell? ⟨qb, 2, none⟩ = some (.int .i64 (q 2)) ∧ W'.cell? ⟨qb, 3, none⟩ = some (.int .i64 (q 3)) ∧ W'.cell? ⟨qb, 4, none⟩ = some (.int .i64 (q 4)) ∧ W'.cell? ⟨qb, 5, none⟩ = some (.int .i64 (q 5)) ∧ W'.cell? ⟨b, o + d * 6, none⟩ = some (.int .i64 (x 0)) ∧ W'.cell? ⟨b, o + d * 6 + 1, none⟩ = some (.int .i64 (x 1)) ∧ W'.cell? ⟨b, o + d * 6 + 2, none⟩ = some (.int .i64 (x 2)) ∧ W'.cell? ⟨b, o + d * 6 + 3, none⟩ = some (.int .i64 (x 3)) ∧ W'.cell? ⟨b, o + d * 6 + 4, none⟩ = some (.int .i64 (x 4)) ∧ W'.cell? ⟨b, o + d * 6 + 5, none⟩ = some (.int .i64 (x 5)))
    (first | with_reducible exact HSS.out _ K0 | with_reducible exact HSS.out _ KN | with_reducible exact HSS.out _ KA | with_reducible exact HSS.out _ KB | with_reducible exact HSS.out _ KC | with_reducible exact HSS.out _ (hKK _ _ KA) | with_reducible exact HSS.out _ (hKK _ _ KB))
    (first
      | (go_at_call 33; refine (HN.out _ (by first | with_reducible exact K0 | with_reducible exact KA)).mono ?_; rintro e wN ⟨rfl, KN⟩)
      | (go_at_call 34; refine (HC.out _ (by first | with_reducible exact KA | with_reducible exact KB)).mono ?_; rintro e wC ⟨rfl, KC, KD⟩; obtain ⟨e0, e1, e2, e3, e4, e5, e6, e7, e8, e9, e10, e11⟩ := two_in KD)
      | (go_at_call 32; with_reducible refine (HA.out _ ?_).mono ?_; · (first | with_reducible exact K0 | with_reducible exact KN | with_reducible exact KB)
         rintro e wA ⟨rfl, KA⟩)
      | (go_at_call 32; with_reducible refine (HB.out _ ?_).mono ?_; · (first | with_reducible exact KN | with_reducible exact KA)
         rintro e wB ⟨rfl, KB⟩))
  all_goals have HF := Bx.mk (HB2.out.trans (KC.mono HB2.out.size))
  all_goals have HMC := HM2.out.keep KC
  all_goals have L1 := fun (dd : Nat) (os : Array Obj) => Calls.regrown_of (HL.out _ (HMC.keep (below_regrown wC dd os)))
  all_goals have m0 := cell_regrown e0
  all_goals have m1 := cell_regrown e1
  all_goals have m2 := cell_regrown e2
  all_goals have m3 := cell_regrown e3
  all_goals have m4 := cell_regrown e4
  all_goals have m5 := cell_regrown e5
  all_goals have m6 := cell_regrown e6
  all_goals have m7 := cell_regrown e7
  all_goals have m8 := cell_regrown e8
  all_goals have m9 := cell_regrown e9
  all_goals have m10 := cell_regrown e10
  all_goals have m11 := cell_regrown e11
  all_goals clear HSS HN HA HB HC HL KC KD HMC e0 e1 e2 e3 e4 e5 e6 e7 e8 e9 e10 e11
  all_goals have mixed : Tryd.prog.follows .mixedOrders = true := by kernel_rfl
  all_goals go_wp2_with fail
  all_goals refine wp_region_quiet_below mixed (by kernel_rfl) ?_
  all_goals repeat (quiet_step (first | exact L1 _ _))
  all_goals refine wpQuiet_nil ?_
  all_goals intro wq hbq'
  all_goals have hbq := below_of_regrown hbq'
  all_goals clear hbq'
  all_goals go_wp2_with fail
  all_goals refine bodyPost_ret_by (v := .tuple #[.int .i64 d, .int .i64 oc, .int .i64 0]) (by simp [results, Tryd.results21, go_sem]) rfl ?_
  all_goals exact ⟨rfl, HF.out.trans (hbq.mono HF.out.size)⟩
set_option maxRecDepth 100000 in
set_option maxHeartbeats 16000000 in
theorem nearest_oct (ao : Option Addr) (n c : Nat) (M : Nat → Nat → Int) (p q u v : Nat → Int) (oc : Int) (d : Nat) (w : World) (hcn : n ≤ c) (hS : CV w ao n M) (hs : Sm w) (hv : SV M n) (hq : bdB q 576 = true) (hd : naI M n q = d + 1) (hdn : d < n) (HO : Bx (∀ w, Sm w → Calls Tryd.prog 10 #[PV p] w fun e w' => e = .returned (.tuple #[PV q, .int .i64 oc, .int .i64 0]) ∧ Below w.heap.size w w'))
    (hu : ∀ i, i < 6 → u i = q i - M d i) (hv2 : ∀ i, i < 6 → v i = nx M n d i - q i) (hg : bdB u 576 = true ∧ bdB v 576 = true) (hl : lwB v u = true) (hd2 : d + 1 = n) (ho : -1000 ≤ oc ∧ oc ≤ 1000) : Calls Tryd.prog 21 #[.slice ao n c, PV p] w fun e w' => e = .returned (.tuple #[.int .i64 0, .int .i64 (oc + 1), .int .i64 0]) ∧ Below w.heap.size w w' := by
  have hn := hv.le
  have H1 := Bx.mk (fun W (h1 : CV W ao n M) (h2 : Sm W) => within_ok ao n c M p W (by omega) hcn h1 h2 hv q oc 0 HO)
  have H2 := Bx.mk (fun W (h1 : CV W ao n M) (h2 : Sm W) => notAbove_any ao n c M q d W hcn h1 h2 hv hq (by rw [hd]; omega))
  obtain ⟨y, hy⟩ : ∃ y, nx M n d = y := ⟨_, rfl⟩
  have H3 := Bx.mk (fun W (h1 : CV W ao n M) (h2 : Sm W) => next_any ao n c d M y hy (by omega) hcn hdn W h1 h2)
  have hup := lwB_iff.1 (hv.up d hdn)
  obtain ⟨b, o, rfl, hb, hcr⟩ := hS hv.pos
  have HS : Bx (CV w (some ⟨b, o, none⟩) n M) := ⟨hS⟩
  have HCR := Bx.mk hcr
  obtain ⟨x, hx⟩ : ∃ x, M d = x := ⟨_, rfl⟩
  rw [hx, hy] at hup
  have qb6 := bdB_yes.1 hq
  have xb6 := bdB_yes.1 hup.1
  have yb6 := bdB_yes.1 hup.2.1
  have HQ1 : Bx (∀ w, Calls Tryd.prog 32 #[PV q, PV x] w fun e w' => e = .returned (PV u) ∧ Below w.heap.size w w') := ⟨fun w => quot_any q x u (fun k hk => by rw [hu k hk, hx]) (fun k hk => by have := qb6 k hk; omega) (fun k hk => by have := xb6 k hk; omega) w⟩
  have HQ2 : Bx (∀ w, Calls Tryd.prog 32 #[PV y, PV q] w fun e w' => e = .returned (PV v) ∧ Below w.heap.size w w') := ⟨fun w => quot_any y q v (fun k hk => by rw [hv2 k hk, hy]) (fun k hk => by have := yb6 k hk; omega) (fun k hk => by have := qb6 k hk; omega) w⟩
  have hdi : (d : Int) < (n : Int) := by omega
  have HX := Bx.mk hx
  have HCK : Bx (∀ W : World, Calls Tryd.prog 34 #[.slice (some ⟨W.heap.size, 0, none⟩) 2 2] (W.alloc (.cells #[.int .i64 (u 0), .int .i64 (u 1), .int .i64 (u 2), .int .i64 (u 3), .int .i64 (u 4), .int .i64 (u 5), .int .i64 (v 0), .int .i64 (v 1), .int .i64 (v 2), .int .i64 (v 3), .int .i64 (v 4), .int .i64 (v 5)] 23)) fun e w' => e = .returned (.tuple #[.slice (some ⟨W.heap.size, 0, none⟩) 2 2, .int .i64 0]) ∧ Below (W.alloc (.cells #[.int .i64 (u 0), .int .i64 (u 1), .int .i64 (u 2), .int .i64 (u 3), .int .i64 (u 4), .int .i64 (u 5), .int .i64 (v 0), .int .i64 (v 1), .int .i64 (v 2), .int .i64 (v 3), .int .i64 (v 4), .int .i64 (v 5)] 23)).heap.size (W.alloc (.cells #[.int .i64 (u 0), .int .i64 (u 1), .int .i64 (u 2), .int .i64 (u 3), .int .i64 (u 4), .int .i64 (u 5), .int .i64 (v 0), .int .i64 (v 1), .int .i64 (v 2), .int .i64 (v 3), .int .i64 (v 4), .int .i64 (v 5)] 23)) w') :=
    ⟨fun W => checked_ok9 W.heap.size 0 2 2 (two u v) _ (by omega) (by omega) (by simp) (two_cells W u v) ⟨(fun _ i hi => by unfold two; split; exact hg.1; exact hg.2), fun _ => rfl⟩⟩
  have HL := Bx.mk (fun W (h : Sm W) => qlow_any v u true hl W h)
  unfold PV at HL
  clear hq hd hu hv2 hup qb6 xb6 yb6 hx hy hcr hS hv HO
  unfold PV at HQ1 HQ2 H3
  have S : Bx (SS w w []) := ⟨SS.start w hs⟩
  replace S := Bx.mk (S.out.push #[.int .i64 (p 0), .int .i64 (p 1), .int .i64 (p 2), .int .i64 (p 3), .int .i64 (p 4), .int .i64 (p 5)] 23)
  go_enter Tryd.func21, Tryd.ntmps21
  have HS0 := Bx.mk (HS.out.keep S.out.bl)
  have HM0 := Bx.mk S.out.sm
  obtain ⟨c0_0, c0_1, c0_2, c0_3, c0_4, c0_5, z0⟩ := S.out.six w.heap.size 23 (.int .i64 (p 0)) (.int .i64 (p 1)) (.int .i64 (p 2)) (.int .i64 (p 3)) (.int .i64 (p 4)) (.int .i64 (p 5)) List.mem_cons_self
  go_wp2_with fail
  refine (H1.out _ HS0.out HM0.out).mono ?_
  rintro e w1 ⟨rfl, hb⟩
  replace S := Bx.mk (S.out.call hb)
  clear hb
  clear c0_0 c0_1 c0_2 c0_3 c0_4 c0_5 z0
  replace S := Bx.mk (S.out.push #[.int .i64 (q 0), .int .i64 (q 1), .int .i64 (q 2), .int .i64 (q 3), .int .i64 (q 4), .int .i64 (q 5)] 23)
  have HS1 := Bx.mk (HS.out.keep S.out.bl)
  have HM1 := Bx.mk S.out.sm
  obtain ⟨c0_0, c0_1, c0_2, c0_3, c0_4, c0_5, z0⟩ := S.out.six w1.heap.size 23 (.int .i64 (q 0)) (.int .i64 (q 1)) (.int .i64 (q 2)) (.int .i64 (q 3)) (.int .i64 (q 4)) (.int .i64 (q 5)) List.mem_cons_self
  go_wp2_with fail
  refine (H2.out _ HS1.out HM1.out).mono ?_
  rintro e w2 ⟨rfl, hb⟩
  replace S := Bx.mk (S.out.call hb)
  clear hb
  clear c0_0 c0_1 c0_2 c0_3 c0_4 c0_5 z0
  have HM2 := Bx.mk S.out.sm
  have HB2 := Bx.mk S.out.bl
  obtain ⟨qb, hqb⟩ : ∃ qb, w1.heap.size = qb := ⟨_, rfl⟩
  have HSS : Bx (∀ W, Below w2.heap.size w2 W → W.cell? ⟨qb, 0, none⟩ = some (.int .i64 (q 0)) ∧ W.cell? ⟨qb, 1, none⟩ = some (.int .i64 (q 1)) ∧ W.cell? ⟨qb, 2, none⟩ = some (.int .i64 (q 2)) ∧ W.cell? ⟨qb, 3, none⟩ = some (.int .i64 (q 3)) ∧ W.cell? ⟨qb, 4, none⟩ = some (.int .i64 (q 4)) ∧ W.cell? ⟨qb, 5, none⟩ = some (.int .i64 (q 5)) ∧ W.cell? ⟨b, o + d * 6, none⟩ = some (.int .i64 (x 0)) ∧ W.cell? ⟨b, o + d * 6 + 1, none⟩ = some (.int .i64 (x 1)) ∧ W.cell? ⟨b, o + d * 6 + 2, none⟩ = some (.int .i64 (x 2)) ∧ W.cell? ⟨b, o + d * 6 + 3, none⟩ = some (.int .i64 (x 3)) ∧ W.cell? ⟨b, o + d * 6 + 4, none⟩ = some (.int .i64 (x 4)) ∧ W.cell? ⟨b, o + d * 6 + 5, none⟩ = some (.int .i64 (x 5))) := ⟨fun W hW => by
    obtain ⟨c0, c1, c2, c3, c4, c5, z⟩ := S.out.six w1.heap.size 23 (.int .i64 (q 0)) (.int .i64 (q 1)) (.int .i64 (q 2)) (.int .i64 (q 3)) (.int .i64 (q 4)) (.int .i64 (q 5)) List.mem_cons_self
    obtain ⟨a0, a1, a2, a3, a4, a5⟩ := row_six HCR.out hb (HB2.out.trans (hW.mono HB2.out.size)) hdn
    rw [HX.out] at a0 a1 a2 a3 a4 a5
    rw [← hqb]
    exact ⟨(hW.cell (p := ⟨w1.heap.size, 0, none⟩) z).trans c0, (hW.cell (p := ⟨w1.heap.size, 1, none⟩) z).trans c1, (hW.cell (p := ⟨w1.heap.size, 2, none⟩) z).trans c2, (hW.cell (p := ⟨w1.heap.size, 3, none⟩) z).trans c3, (hW.cell (p := ⟨w1.heap.size, 4, none⟩) z).trans c4, (hW.cell (p := ⟨w1.heap.size, 5, none⟩) z).trans c5, a0, a1, a2, a3, a4, a5⟩⟩
  have HN : Bx (∀ W, Below w2.heap.size w2 W → Calls Tryd.prog 33 #[.slice (some ⟨b, o, none⟩) n c, .int .i64 d] W fun e w' => e = .returned (.agg #[.int .i64 (y 0), .int .i64 (y 1), .int .i64 (y 2), .int .i64 (y 3), .int .i64 (y 4), .int .i64 (y 5)]) ∧ Below w2.heap.size w2 w') := ⟨fun W hW => (H3.out W (HS.out.keep (HB2.out.trans (hW.mono HB2.out.size))) (HM2.out.keep hW)).mono fun e w' h => ⟨h.1, hW.trans (h.2.mono hW.size)⟩⟩
  have HA : Bx (∀ W, Below w2.heap.size w2 W → Calls Tryd.prog 32 #[.agg #[.int .i64 (q 0), .int .i64 (q 1), .int .i64 (q 2), .int .i64 (q 3), .int .i64 (q 4), .int .i64 (q 5)], .agg #[.int .i64 (x 0), .int .i64 (x 1), .int .i64 (x 2), .int .i64 (x 3), .int .i64 (x 4), .int .i64 (x 5)]] W fun e w' => e = .returned (.agg #[.int .i64 (u 0), .int .i64 (u 1), .int .i64 (u 2), .int .i64 (u 3), .int .i64 (u 4), .int .i64 (u 5)]) ∧ Below w2.heap.size w2 w') := ⟨fun W hW => (HQ1.out W).mono fun e w' h => ⟨h.1, hW.trans (h.2.mono hW.size)⟩⟩
  have HB : Bx (∀ W, Below w2.heap.size w2 W → Calls Tryd.prog 32 #[.agg #[.int .i64 (y 0), .int .i64 (y 1), .int .i64 (y 2), .int .i64 (y 3), .int .i64 (y 4), .int .i64 (y 5)], .agg #[.int .i64 (q 0), .int .i64 (q 1), .int .i64 (q 2), .int .i64 (q 3), .int .i64 (q 4), .int .i64 (q 5)]] W fun e w' => e = .returned (.agg #[.int .i64 (v 0), .int .i64 (v 1), .int .i64 (v 2), .int .i64 (v 3), .int .i64 (v 4), .int .i64 (v 5)]) ∧ Below w2.heap.size w2 w') := ⟨fun W hW => (HQ2.out W).mono fun e w' h => ⟨h.1, hW.trans (h.2.mono hW.size)⟩⟩
  have HC : Bx (∀ W : World, Below w2.heap.size w2 W → Calls Tryd.prog 34 #[.slice (some ⟨W.heap.size, 0, none⟩) 2 2] (W.alloc (.cells #[.int .i64 (u 0), .int .i64 (u 1), .int .i64 (u 2), .int .i64 (u 3), .int .i64 (u 4), .int .i64 (u 5), .int .i64 (v 0), .int .i64 (v 1), .int .i64 (v 2), .int .i64 (v 3), .int .i64 (v 4), .int .i64 (v 5)] 23)) fun e w' => e = .returned (.tuple #[.slice (some ⟨W.heap.size, 0, none⟩) 2 2, .int .i64 0]) ∧ Below w2.heap.size w2 w' ∧ Below (W.alloc (.cells #[.int .i64 (u 0), .int .i64 (u 1), .int .i64 (u 2), .int .i64 (u 3), .int .i64 (u 4), .int .i64 (u 5), .int .i64 (v 0), .int .i64 (v 1), .int .i64 (v 2), .int .i64 (v 3), .int .i64 (v 4), .int .i64 (v 5)] 23)).heap.size (W.alloc (.cells #[.int .i64 (u 0), .int .i64 (u 1), .int .i64 (u 2), .int .i64 (u 3), .int .i64 (u 4), .int .i64 (u 5), .int .i64 (v 0), .int .i64 (v 1), .int .i64 (v 2), .int .i64 (v 3), .int .i64 (v 4), .int .i64 (v 5)] 23)) w') := ⟨fun W hW => (HCK.out W).mono fun e w' h => ⟨h.1, (hW.alloc hW.size _).trans (h.2.mono (by have := hW.size; simp; omega)), h.2⟩⟩
  clear S HQ1 HQ2 HCK H1 H2 H3 HS0 HM0 HS1 HM1
  go_wp2_with fail
  have K0 : Below w2.heap.size w2 w2.drew := (Below.refl _ _).drew
  have hKK : ∀ W o', Below w2.heap.size w2 W → Below w2.heap.size w2 (W.alloc o') := fun W o' h => h.alloc h.size o'
  go_region_held3 (fun W' => W'.cell? ⟨qb, 0, none⟩ = some (.int .i64 (q 0)) ∧ W'.cell? ⟨qb, 1, none⟩ = some (.int .i64 (q 1)) ∧ W'.cell? ⟨qb, 2, none⟩ = some (.int .i64 (q 2)) ∧ W'.cell? ⟨qb, 3, none⟩ = some (.int .i64 (q 3)) ∧ W'.cell? ⟨qb, 4, none⟩ = some (.int .i64 (q 4)) ∧ W'.cell? ⟨qb, 5, none⟩ = some (.int .i64 (q 5)) ∧ W'.cell? ⟨b, o + d * 6, none⟩ = some (.int .i64 (x 0)) ∧ W'.cell? ⟨b, o + d * 6 + 1, none⟩ = some (.int .i64 (x 1)) ∧ W'.cell? ⟨b, o + d * 6 + 2, none⟩ = some (.int .i64 (x 2)) ∧ W'.cell? ⟨b, o + d * 6 + 3, none⟩ = some (.int .i64 (x 3)) ∧ W'.cell? ⟨b, o + d * 6 + 4, none⟩ = some (.int .i64 (x 4)) ∧ W'.cell? ⟨b, o + d * 6 + 5, none⟩ = some (.int .i64 (x 5)))
    (first | with_reducible exact HSS.out _ K0 | with_reducible exact HSS.out _ KN | with_reducible exact HSS.out _ KA | with_reducible exact HSS.out _ KB | with_reducible exact HSS.out _ KC | with_reducible exact HSS.out _ (hKK _ _ KA) | with_reducible exact HSS.out _ (hKK _ _ KB))
    (first
      | (go_at_call 33; refine (HN.out _ (by first | with_reducible exact K0 | with_reducible exact KA)).mono ?_; rintro e wN ⟨rfl, KN⟩)
      | (go_at_call 34; refine (HC.out _ (by first | with_reducible exact KA | with_reducible exact KB)).mono ?_; rintro e wC ⟨rfl, KC, KD⟩; obtain ⟨e0, e1, e2, e3, e4, e5, e6, e7, e8, e9, e10, e11⟩ := two_in KD)
      | (go_at_call 32; with_reducible refine (HA.out _ ?_).mono ?_; · (first | with_reducible exact K0 | with_reducible exact KN | with_reducible exact KB)
         rintro e wA ⟨rfl, KA⟩)
      | (go_at_call 32; with_reducible refine (HB.out _ ?_).mono ?_; · (first | with_reducible exact KN | with_reducible exact KA)
         rintro e wB ⟨rfl, KB⟩))
  all_goals have HF := Bx.mk (HB2.out.trans (KC.mono HB2.out.size))
  all_goals have HMC := HM2.out.keep KC
  all_goals have L1 := fun (dd : Nat) (os : Array Obj) => Calls.regrown_of (HL.out _ (HMC.keep (below_regrown wC dd os)))
  all_goals have m0 := cell_regrown e0
  all_goals have m1 := cell_regrown e1
  all_goals have m2 := cell_regrown e2
  all_goals have m3 := cell_regrown e3
  all_goals have m4 := cell_regrown e4
  all_goals have m5 := cell_regrown e5
  all_goals have m6 := cell_regrown e6
  all_goals have m7 := cell_regrown e7
  all_goals have m8 := cell_regrown e8
  all_goals have m9 := cell_regrown e9
  all_goals have m10 := cell_regrown e10
  all_goals have m11 := cell_regrown e11
  all_goals clear HSS HN HA HB HC HL KC KD HMC e0 e1 e2 e3 e4 e5 e6 e7 e8 e9 e10 e11
  all_goals have mixed : Tryd.prog.follows .mixedOrders = true := by kernel_rfl
  all_goals go_wp2_with fail
  all_goals refine wp_region_quiet_below mixed (by kernel_rfl) ?_
  all_goals repeat (quiet_step (first | exact L1 _ _))
  all_goals refine wpQuiet_nil ?_
  all_goals intro wq hbq'
  all_goals have hbq := below_of_regrown hbq'
  all_goals clear hbq'
  all_goals have hd3 : IntKind.i64.wrap ((n : Int) - 1) = (n : Int) - 1 := IntWalk.i64_in _ ⟨by omega, by omega⟩
  all_goals have hd4 : ((d : Int) == (n : Int) - 1) = true := by simp; omega
  all_goals obtain ⟨ho1, ho2⟩ := ho
  all_goals go_wp2_with fail
  all_goals refine bodyPost_ret_by (v := .tuple #[.int .i64 0, .int .i64 (oc + 1), .int .i64 0]) (by simp [results, Tryd.results21, go_sem]) rfl ?_
  all_goals exact ⟨rfl, HF.out.trans (hbq.mono HF.out.size)⟩
set_option maxRecDepth 100000 in
set_option maxHeartbeats 16000000 in
theorem nearest_up (ao : Option Addr) (n c : Nat) (M : Nat → Nat → Int) (p q u v : Nat → Int) (oc : Int) (d : Nat) (w : World) (hcn : n ≤ c) (hS : CV w ao n M) (hs : Sm w) (hv : SV M n) (hq : bdB q 576 = true) (hd : naI M n q = d + 1) (hdn : d < n) (HO : Bx (∀ w, Sm w → Calls Tryd.prog 10 #[PV p] w fun e w' => e = .returned (.tuple #[PV q, .int .i64 oc, .int .i64 0]) ∧ Below w.heap.size w w'))
    (hu : ∀ i, i < 6 → u i = q i - M d i) (hv2 : ∀ i, i < 6 → v i = nx M n d i - q i) (hg : bdB u 576 = true ∧ bdB v 576 = true) (hl : lwB v u = true) (hd2 : d + 1 < n) : Calls Tryd.prog 21 #[.slice ao n c, PV p] w fun e w' => e = .returned (.tuple #[.int .i64 (d + 1 : Nat), .int .i64 oc, .int .i64 0]) ∧ Below w.heap.size w w' := by
  have hn := hv.le
  have H1 := Bx.mk (fun W (h1 : CV W ao n M) (h2 : Sm W) => within_ok ao n c M p W (by omega) hcn h1 h2 hv q oc 0 HO)
  have H2 := Bx.mk (fun W (h1 : CV W ao n M) (h2 : Sm W) => notAbove_any ao n c M q d W hcn h1 h2 hv hq (by rw [hd]; omega))
  obtain ⟨y, hy⟩ : ∃ y, nx M n d = y := ⟨_, rfl⟩
  have H3 := Bx.mk (fun W (h1 : CV W ao n M) (h2 : Sm W) => next_any ao n c d M y hy (by omega) hcn hdn W h1 h2)
  have hup := lwB_iff.1 (hv.up d hdn)
  obtain ⟨b, o, rfl, hb, hcr⟩ := hS hv.pos
  have HS : Bx (CV w (some ⟨b, o, none⟩) n M) := ⟨hS⟩
  have HCR := Bx.mk hcr
  obtain ⟨x, hx⟩ : ∃ x, M d = x := ⟨_, rfl⟩
  rw [hx, hy] at hup
  have qb6 := bdB_yes.1 hq
  have xb6 := bdB_yes.1 hup.1
  have yb6 := bdB_yes.1 hup.2.1
  have HQ1 : Bx (∀ w, Calls Tryd.prog 32 #[PV q, PV x] w fun e w' => e = .returned (PV u) ∧ Below w.heap.size w w') := ⟨fun w => quot_any q x u (fun k hk => by rw [hu k hk, hx]) (fun k hk => by have := qb6 k hk; omega) (fun k hk => by have := xb6 k hk; omega) w⟩
  have HQ2 : Bx (∀ w, Calls Tryd.prog 32 #[PV y, PV q] w fun e w' => e = .returned (PV v) ∧ Below w.heap.size w w') := ⟨fun w => quot_any y q v (fun k hk => by rw [hv2 k hk, hy]) (fun k hk => by have := yb6 k hk; omega) (fun k hk => by have := qb6 k hk; omega) w⟩
  have hdi : (d : Int) < (n : Int) := by omega
  have HX := Bx.mk hx
  have HCK : Bx (∀ W : World, Calls Tryd.prog 34 #[.slice (some ⟨W.heap.size, 0, none⟩) 2 2] (W.alloc (.cells #[.int .i64 (u 0), .int .i64 (u 1), .int .i64 (u 2), .int .i64 (u 3), .int .i64 (u 4), .int .i64 (u 5), .int .i64 (v 0), .int .i64 (v 1), .int .i64 (v 2), .int .i64 (v 3), .int .i64 (v 4), .int .i64 (v 5)] 23)) fun e w' => e = .returned (.tuple #[.slice (some ⟨W.heap.size, 0, none⟩) 2 2, .int .i64 0]) ∧ Below (W.alloc (.cells #[.int .i64 (u 0), .int .i64 (u 1), .int .i64 (u 2), .int .i64 (u 3), .int .i64 (u 4), .int .i64 (u 5), .int .i64 (v 0), .int .i64 (v 1), .int .i64 (v 2), .int .i64 (v 3), .int .i64 (v 4), .int .i64 (v 5)] 23)).heap.size (W.alloc (.cells #[.int .i64 (u 0), .int .i64 (u 1), .int .i64 (u 2), .int .i64 (u 3), .int .i64 (u 4), .int .i64 (u 5), .int .i64 (v 0), .int .i64 (v 1), .int .i64 (v 2), .int .i64 (v 3), .int .i64 (v 4), .int .i64 (v 5)] 23)) w') :=
    ⟨fun W => checked_ok9 W.heap.size 0 2 2 (two u v) _ (by omega) (by omega) (by simp) (two_cells W u v) ⟨(fun _ i hi => by unfold two; split; exact hg.1; exact hg.2), fun _ => rfl⟩⟩
  have HL := Bx.mk (fun W (h : Sm W) => qlow_any v u true hl W h)
  unfold PV at HL
  clear hq hd hu hv2 hup qb6 xb6 yb6 hx hy hcr hS hv HO
  unfold PV at HQ1 HQ2 H3
  have S : Bx (SS w w []) := ⟨SS.start w hs⟩
  replace S := Bx.mk (S.out.push #[.int .i64 (p 0), .int .i64 (p 1), .int .i64 (p 2), .int .i64 (p 3), .int .i64 (p 4), .int .i64 (p 5)] 23)
  go_enter Tryd.func21, Tryd.ntmps21
  have HS0 := Bx.mk (HS.out.keep S.out.bl)
  have HM0 := Bx.mk S.out.sm
  obtain ⟨c0_0, c0_1, c0_2, c0_3, c0_4, c0_5, z0⟩ := S.out.six w.heap.size 23 (.int .i64 (p 0)) (.int .i64 (p 1)) (.int .i64 (p 2)) (.int .i64 (p 3)) (.int .i64 (p 4)) (.int .i64 (p 5)) List.mem_cons_self
  go_wp2_with fail
  refine (H1.out _ HS0.out HM0.out).mono ?_
  rintro e w1 ⟨rfl, hb⟩
  replace S := Bx.mk (S.out.call hb)
  clear hb
  clear c0_0 c0_1 c0_2 c0_3 c0_4 c0_5 z0
  replace S := Bx.mk (S.out.push #[.int .i64 (q 0), .int .i64 (q 1), .int .i64 (q 2), .int .i64 (q 3), .int .i64 (q 4), .int .i64 (q 5)] 23)
  have HS1 := Bx.mk (HS.out.keep S.out.bl)
  have HM1 := Bx.mk S.out.sm
  obtain ⟨c0_0, c0_1, c0_2, c0_3, c0_4, c0_5, z0⟩ := S.out.six w1.heap.size 23 (.int .i64 (q 0)) (.int .i64 (q 1)) (.int .i64 (q 2)) (.int .i64 (q 3)) (.int .i64 (q 4)) (.int .i64 (q 5)) List.mem_cons_self
  go_wp2_with fail
  refine (H2.out _ HS1.out HM1.out).mono ?_
  rintro e w2 ⟨rfl, hb⟩
  replace S := Bx.mk (S.out.call hb)
  clear hb
  clear c0_0 c0_1 c0_2 c0_3 c0_4 c0_5 z0
  have HM2 := Bx.mk S.out.sm
  have HB2 := Bx.mk S.out.bl
  obtain ⟨qb, hqb⟩ : ∃ qb, w1.heap.size = qb := ⟨_, rfl⟩
  have HSS : Bx (∀ W, Below w2.heap.size w2 W → W.cell? ⟨qb, 0, none⟩ = some (.int .i64 (q 0)) ∧ W.cell? ⟨qb, 1, none⟩ = some (.int .i64 (q 1)) ∧ W.cell? ⟨qb, 2, none⟩ = some (.int .i64 (q 2)) ∧ W.cell? ⟨qb, 3, none⟩ = some (.int .i64 (q 3)) ∧ W.cell? ⟨qb, 4, none⟩ = some (.int .i64 (q 4)) ∧ W.cell? ⟨qb, 5, none⟩ = some (.int .i64 (q 5)) ∧ W.cell? ⟨b, o + d * 6, none⟩ = some (.int .i64 (x 0)) ∧ W.cell? ⟨b, o + d * 6 + 1, none⟩ = some (.int .i64 (x 1)) ∧ W.cell? ⟨b, o + d * 6 + 2, none⟩ = some (.int .i64 (x 2)) ∧ W.cell? ⟨b, o + d * 6 + 3, none⟩ = some (.int .i64 (x 3)) ∧ W.cell? ⟨b, o + d * 6 + 4, none⟩ = some (.int .i64 (x 4)) ∧ W.cell? ⟨b, o + d * 6 + 5, none⟩ = some (.int .i64 (x 5))) := ⟨fun W hW => by
    obtain ⟨c0, c1, c2, c3, c4, c5, z⟩ := S.out.six w1.heap.size 23 (.int .i64 (q 0)) (.int .i64 (q 1)) (.int .i64 (q 2)) (.int .i64 (q 3)) (.int .i64 (q 4)) (.int .i64 (q 5)) List.mem_cons_self
    obtain ⟨a0, a1, a2, a3, a4, a5⟩ := row_six HCR.out hb (HB2.out.trans (hW.mono HB2.out.size)) hdn
    rw [HX.out] at a0 a1 a2 a3 a4 a5
    rw [← hqb]
    exact ⟨(hW.cell (p := ⟨w1.heap.size, 0, none⟩) z).trans c0, (hW.cell (p := ⟨w1.heap.size, 1, none⟩) z).trans c1, (hW.cell (p := ⟨w1.heap.size, 2, none⟩) z).trans c2, (hW.cell (p := ⟨w1.heap.size, 3, none⟩) z).trans c3, (hW.cell (p := ⟨w1.heap.size, 4, none⟩) z).trans c4, (hW.cell (p := ⟨w1.heap.size, 5, none⟩) z).trans c5, a0, a1, a2, a3, a4, a5⟩⟩
  have HN : Bx (∀ W, Below w2.heap.size w2 W → Calls Tryd.prog 33 #[.slice (some ⟨b, o, none⟩) n c, .int .i64 d] W fun e w' => e = .returned (.agg #[.int .i64 (y 0), .int .i64 (y 1), .int .i64 (y 2), .int .i64 (y 3), .int .i64 (y 4), .int .i64 (y 5)]) ∧ Below w2.heap.size w2 w') := ⟨fun W hW => (H3.out W (HS.out.keep (HB2.out.trans (hW.mono HB2.out.size))) (HM2.out.keep hW)).mono fun e w' h => ⟨h.1, hW.trans (h.2.mono hW.size)⟩⟩
  have HA : Bx (∀ W, Below w2.heap.size w2 W → Calls Tryd.prog 32 #[.agg #[.int .i64 (q 0), .int .i64 (q 1), .int .i64 (q 2), .int .i64 (q 3), .int .i64 (q 4), .int .i64 (q 5)], .agg #[.int .i64 (x 0), .int .i64 (x 1), .int .i64 (x 2), .int .i64 (x 3), .int .i64 (x 4), .int .i64 (x 5)]] W fun e w' => e = .returned (.agg #[.int .i64 (u 0), .int .i64 (u 1), .int .i64 (u 2), .int .i64 (u 3), .int .i64 (u 4), .int .i64 (u 5)]) ∧ Below w2.heap.size w2 w') := ⟨fun W hW => (HQ1.out W).mono fun e w' h => ⟨h.1, hW.trans (h.2.mono hW.size)⟩⟩
  have HB : Bx (∀ W, Below w2.heap.size w2 W → Calls Tryd.prog 32 #[.agg #[.int .i64 (y 0), .int .i64 (y 1), .int .i64 (y 2), .int .i64 (y 3), .int .i64 (y 4), .int .i64 (y 5)], .agg #[.int .i64 (q 0), .int .i64 (q 1), .int .i64 (q 2), .int .i64 (q 3), .int .i64 (q 4), .int .i64 (q 5)]] W fun e w' => e = .returned (.agg #[.int .i64 (v 0), .int .i64 (v 1), .int .i64 (v 2), .int .i64 (v 3), .int .i64 (v 4), .int .i64 (v 5)]) ∧ Below w2.heap.size w2 w') := ⟨fun W hW => (HQ2.out W).mono fun e w' h => ⟨h.1, hW.trans (h.2.mono hW.size)⟩⟩
  have HC : Bx (∀ W : World, Below w2.heap.size w2 W → Calls Tryd.prog 34 #[.slice (some ⟨W.heap.size, 0, none⟩) 2 2] (W.alloc (.cells #[.int .i64 (u 0), .int .i64 (u 1), .int .i64 (u 2), .int .i64 (u 3), .int .i64 (u 4), .int .i64 (u 5), .int .i64 (v 0), .int .i64 (v 1), .int .i64 (v 2), .int .i64 (v 3), .int .i64 (v 4), .int .i64 (v 5)] 23)) fun e w' => e = .returned (.tuple #[.slice (some ⟨W.heap.size, 0, none⟩) 2 2, .int .i64 0]) ∧ Below w2.heap.size w2 w' ∧ Below (W.alloc (.cells #[.int .i64 (u 0), .int .i64 (u 1), .int .i64 (u 2), .int .i64 (u 3), .int .i64 (u 4), .int .i64 (u 5), .int .i64 (v 0), .int .i64 (v 1), .int .i64 (v 2), .int .i64 (v 3), .int .i64 (v 4), .int .i64 (v 5)] 23)).heap.size (W.alloc (.cells #[.int .i64 (u 0), .int .i64 (u 1), .int .i64 (u 2), .int .i64 (u 3), .int .i64 (u 4), .int .i64 (u 5), .int .i64 (v 0), .int .i64 (v 1), .int .i64 (v 2), .int .i64 (v 3), .int .i64 (v 4), .int .i64 (v 5)] 23)) w') := ⟨fun W hW => (HCK.out W).mono fun e w' h => ⟨h.1, (hW.alloc hW.size _).trans (h.2.mono (by have := hW.size; simp; omega)), h.2⟩⟩
  clear S HQ1 HQ2 HCK H1 H2 H3 HS0 HM0 HS1 HM1
  go_wp2_with fail
  have K0 : Below w2.heap.size w2 w2.drew := (Below.refl _ _).drew
  have hKK : ∀ W o', Below w2.heap.size w2 W → Below w2.heap.size w2 (W.alloc o') := fun W o' h => h.alloc h.size o'
  go_region_held3 (fun W' => W'.cell? ⟨qb, 0, none⟩ = some (.int .i64 (q 0)) ∧ W'.cell? ⟨qb, 1, none⟩ = some (.int .i64 (q 1)) ∧ W'.cell? ⟨qb, 2, none⟩ = some (.int .i64 (q 2)) ∧ W'.cell? ⟨qb, 3, none⟩ = some (.int .i64 (q 3)) ∧ W'.cell? ⟨qb, 4, none⟩ = some (.int .i64 (q 4)) ∧ W'.cell? ⟨qb, 5, none⟩ = some (.int .i64 (q 5)) ∧ W'.cell? ⟨b, o + d * 6, none⟩ = some (.int .i64 (x 0)) ∧ W'.cell? ⟨b, o + d * 6 + 1, none⟩ = some (.int .i64 (x 1)) ∧ W'.cell? ⟨b, o + d * 6 + 2, none⟩ = some (.int .i64 (x 2)) ∧ W'.cell? ⟨b, o + d * 6 + 3, none⟩ = some (.int .i64 (x 3)) ∧ W'.cell? ⟨b, o + d * 6 + 4, none⟩ = some (.int .i64 (x 4)) ∧ W'.cell? ⟨b, o + d * 6 + 5, none⟩ = some (.int .i64 (x 5)))
    (first | with_reducible exact HSS.out _ K0 | with_reducible exact HSS.out _ KN | with_reducible exact HSS.out _ KA | with_reducible exact HSS.out _ KB | with_reducible exact HSS.out _ KC | with_reducible exact HSS.out _ (hKK _ _ KA) | with_reducible exact HSS.out _ (hKK _ _ KB))
    (first
      | (go_at_call 33; refine (HN.out _ (by first | with_reducible exact K0 | with_reducible exact KA)).mono ?_; rintro e wN ⟨rfl, KN⟩)
      | (go_at_call 34; refine (HC.out _ (by first | with_reducible exact KA | with_reducible exact KB)).mono ?_; rintro e wC ⟨rfl, KC, KD⟩; obtain ⟨e0, e1, e2, e3, e4, e5, e6, e7, e8, e9, e10, e11⟩ := two_in KD)
      | (go_at_call 32; with_reducible refine (HA.out _ ?_).mono ?_; · (first | with_reducible exact K0 | with_reducible exact KN | with_reducible exact KB)
         rintro e wA ⟨rfl, KA⟩)
      | (go_at_call 32; with_reducible refine (HB.out _ ?_).mono ?_; · (first | with_reducible exact KN | with_reducible exact KA)
         rintro e wB ⟨rfl, KB⟩))
  all_goals have HF := Bx.mk (HB2.out.trans (KC.mono HB2.out.size))
  all_goals have HMC := HM2.out.keep KC
  all_goals have L1 := fun (dd : Nat) (os : Array Obj) => Calls.regrown_of (HL.out _ (HMC.keep (below_regrown wC dd os)))
  all_goals have m0 := cell_regrown e0
  all_goals have m1 := cell_regrown e1
  all_goals have m2 := cell_regrown e2
  all_goals have m3 := cell_regrown e3
  all_goals have m4 := cell_regrown e4
  all_goals have m5 := cell_regrown e5
  all_goals have m6 := cell_regrown e6
  all_goals have m7 := cell_regrown e7
  all_goals have m8 := cell_regrown e8
  all_goals have m9 := cell_regrown e9
  all_goals have m10 := cell_regrown e10
  all_goals have m11 := cell_regrown e11
  all_goals clear HSS HN HA HB HC HL KC KD HMC e0 e1 e2 e3 e4 e5 e6 e7 e8 e9 e10 e11
  all_goals have mixed : Tryd.prog.follows .mixedOrders = true := by kernel_rfl
  all_goals go_wp2_with fail
  all_goals refine wp_region_quiet_below mixed (by kernel_rfl) ?_
  all_goals repeat (quiet_step (first | exact L1 _ _))
  all_goals refine wpQuiet_nil ?_
  all_goals intro wq hbq'
  all_goals have hbq := below_of_regrown hbq'
  all_goals clear hbq'
  all_goals have hd3 : IntKind.i64.wrap ((n : Int) - 1) = (n : Int) - 1 := IntWalk.i64_in _ ⟨by omega, by omega⟩
  all_goals have hd4 : ((d : Int) == (n : Int) - 1) = false := by simp; omega
  all_goals have hd5 : IntKind.i64.wrap ((d : Int) + 1) = ((d + 1 : Nat) : Int) := IntWalk.i64_in _ ⟨by omega, by omega⟩
  all_goals go_wp2_with fail
  all_goals refine bodyPost_ret_by (v := .tuple #[.int .i64 (d + 1 : Nat), .int .i64 oc, .int .i64 0]) (by simp [results, Tryd.results21, go_sem]) rfl ?_
  all_goals exact ⟨rfl, HF.out.trans (hbq.mono HF.out.size)⟩
end Go.Proofs.YtomgihlkbmaleaaDoor

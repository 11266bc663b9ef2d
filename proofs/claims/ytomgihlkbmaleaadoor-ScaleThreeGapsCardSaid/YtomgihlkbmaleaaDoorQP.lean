/- The program's scale: within, Degree, notAbove. -/
import Derived.Test.YtomgihlkbmaleaaDoorQO
namespace Go.Proofs.YtomgihlkbmaleaaDoor
open Go.RowKit M
set_option maxRecDepth 100000 in
set_option maxHeartbeats 4000000 in
theorem within_bad (ao : Option Addr) (n c : Nat) (M : Nat → Nat → Int) (p : Nat → Int) (w : World) (hn : n ≤ 4611686018427387904) (hcn : n ≤ c) (hS : CV w ao n M) (hs : Sm w) (hv : ¬ SV M n) : Calls Tryd.prog 39 #[.slice ao n c, PV p] w fun e w' => e = .returned (.tuple #[PV (fun _ => 0), .int .i64 0, .int .i64 1]) ∧ Below w.heap.size w w' := by
  have HS := Bx.mk hS
  have H1 := Bx.mk (svalid_any ao n c M hn hcn false (by simp [hv]))
  clear hS hv
  have S : Bx (SS w w []) := ⟨SS.start w hs⟩
  replace S := Bx.mk (S.out.push #[.int .i64 (p 0), .int .i64 (p 1), .int .i64 (p 2), .int .i64 (p 3), .int .i64 (p 4), .int .i64 (p 5)] 23)
  replace S := Bx.mk (S.out.push #[.int .i64 0, .int .i64 0, .int .i64 0, .int .i64 0, .int .i64 0, .int .i64 0] 23)
  simp only [World.size_alloc] at S
  go_enter Tryd.func39, Tryd.ntmps39
  obtain ⟨c1_0, c1_1, c1_2, c1_3, c1_4, c1_5, z1⟩ := S.out.six w.heap.size 23 (.int .i64 (p 0)) (.int .i64 (p 1)) (.int .i64 (p 2)) (.int .i64 (p 3)) (.int .i64 (p 4)) (.int .i64 (p 5)) (List.mem_cons_of_mem _ List.mem_cons_self)
  go_wp2_with fail
  refine (H1.out _ (HS.out.keep S.out.bl) S.out.sm).mono ?_
  rintro e w1 ⟨rfl, hb⟩
  replace S := Bx.mk (S.out.call hb)
  clear hb
  clear c1_0 c1_1 c1_2 c1_3 c1_4 c1_5 z1
  obtain ⟨c0_0, c0_1, c0_2, c0_3, c0_4, c0_5, z0⟩ := S.out.six (w.heap.size + 1) 23 (.int .i64 0) (.int .i64 0) (.int .i64 0) (.int .i64 0) (.int .i64 0) (.int .i64 0) List.mem_cons_self
  obtain ⟨fz0_0, fz0_1, fz0_2, fz0_3, fz0_4, fz0_5⟩ := S.out.fz6 (w.heap.size + 1) 23 #[.int .i64 0, .int .i64 0, .int .i64 0, .int .i64 0, .int .i64 0, .int .i64 0] List.mem_cons_self
  have hBL := S.out.bl
  clear S
  go_wp2_with fail
  refine bodyPost_ret_by (v := .tuple #[PV (fun _ => 0), .int .i64 0, .int .i64 1]) (by simp [results, Tryd.results39, go_sem, c0_0, c0_1, c0_2, c0_3, c0_4, c0_5, z0, fz0_0, fz0_1, fz0_2, fz0_3, fz0_4, fz0_5]) rfl ?_
  exact ⟨rfl, (by repeat (first | with_reducible exact hBL | (with_reducible refine Below.setCell ?_ ?side _; case side => (first | omega | (simp <;> omega)))))⟩
set_option maxRecDepth 100000 in
set_option maxHeartbeats 4000000 in
theorem within_ok (ao : Option Addr) (n c : Nat) (M : Nat → Nat → Int) (p : Nat → Int) (w : World) (hn : n ≤ 4611686018427387904) (hcn : n ≤ c) (hS : CV w ao n M) (hs : Sm w) (hv : SV M n) (q : Nat → Int) (o k : Int) (HO : Bx (∀ w, Sm w → Calls Tryd.prog 10 #[PV p] w fun e w' => e = .returned (.tuple #[PV q, .int .i64 o, .int .i64 k]) ∧ Below w.heap.size w w')) : Calls Tryd.prog 39 #[.slice ao n c, PV p] w fun e w' => e = .returned (.tuple #[PV q, .int .i64 o, .int .i64 k]) ∧ Below w.heap.size w w' := by
  have HS := Bx.mk hS
  have H1 := Bx.mk (svalid_any ao n c M hn hcn true (by simp [hv]))
  clear hS hv
  have S : Bx (SS w w []) := ⟨SS.start w hs⟩
  replace S := Bx.mk (S.out.push #[.int .i64 (p 0), .int .i64 (p 1), .int .i64 (p 2), .int .i64 (p 3), .int .i64 (p 4), .int .i64 (p 5)] 23)
  replace S := Bx.mk (S.out.push #[.int .i64 0, .int .i64 0, .int .i64 0, .int .i64 0, .int .i64 0, .int .i64 0] 23)
  simp only [World.size_alloc] at S
  go_enter Tryd.func39, Tryd.ntmps39
  obtain ⟨c1_0, c1_1, c1_2, c1_3, c1_4, c1_5, z1⟩ := S.out.six w.heap.size 23 (.int .i64 (p 0)) (.int .i64 (p 1)) (.int .i64 (p 2)) (.int .i64 (p 3)) (.int .i64 (p 4)) (.int .i64 (p 5)) (List.mem_cons_of_mem _ List.mem_cons_self)
  go_wp2_with fail
  refine (H1.out _ (HS.out.keep S.out.bl) S.out.sm).mono ?_
  rintro e w1 ⟨rfl, hb⟩
  replace S := Bx.mk (S.out.call hb)
  clear hb
  clear c1_0 c1_1 c1_2 c1_3 c1_4 c1_5 z1
  obtain ⟨c1_0, c1_1, c1_2, c1_3, c1_4, c1_5, z1⟩ := S.out.six w.heap.size 23 (.int .i64 (p 0)) (.int .i64 (p 1)) (.int .i64 (p 2)) (.int .i64 (p 3)) (.int .i64 (p 4)) (.int .i64 (p 5)) (List.mem_cons_of_mem _ List.mem_cons_self)
  go_wp2_with fail
  refine (HO.out _ S.out.sm).mono ?_
  rintro e w2 ⟨rfl, hb⟩
  replace S := Bx.mk (S.out.call hb)
  clear hb
  clear c1_0 c1_1 c1_2 c1_3 c1_4 c1_5 z1
  obtain ⟨c0_0, c0_1, c0_2, c0_3, c0_4, c0_5, z0⟩ := S.out.six (w.heap.size + 1) 23 (.int .i64 0) (.int .i64 0) (.int .i64 0) (.int .i64 0) (.int .i64 0) (.int .i64 0) List.mem_cons_self
  obtain ⟨fz0_0, fz0_1, fz0_2, fz0_3, fz0_4, fz0_5⟩ := S.out.fz6 (w.heap.size + 1) 23 #[.int .i64 0, .int .i64 0, .int .i64 0, .int .i64 0, .int .i64 0, .int .i64 0] List.mem_cons_self
  have hBL := S.out.bl
  clear S
  go_wp2_with fail
  refine bodyPost_ret_by (v := .tuple #[PV q, .int .i64 o, .int .i64 k]) (by simp [results, Tryd.results39, go_sem, c0_0, c0_1, c0_2, c0_3, c0_4, c0_5, z0, fz0_0, fz0_1, fz0_2, fz0_3, fz0_4, fz0_5]) rfl ?_
  exact ⟨rfl, (by repeat (first | with_reducible exact hBL | (with_reducible refine Below.setCell ?_ ?side _; case side => (first | omega | (simp <;> omega)))))⟩
theorem eqlP : EqlAt Tryd.prog 23 (fun v => .agg (encQ v).toArray) (fun u v => u 0 == v 0 && (u 1 == v 1 && (u 2 == v 2 && (u 3 == v 3 && (u 4 == v 4 && u 5 == v 5))))) := by
  refine ⟨fun x y w => ?_, GuardAt.agg _ (by kernel_rfl)⟩
  have e := eq6 23 und_pitch x y w
  show (binOp .eql 23 (PV x) (PV y)).run Tryd.prog w = _
  rw [run_eql_struct, e]
  rfl
def eqP (u v : Nat → Int) : Bool := u 0 == v 0 && (u 1 == v 1 && (u 2 == v 2 && (u 3 == v 3 && (u 4 == v 4 && u 5 == v 5))))
theorem eqP_iff {u v : Nat → Int} : eqP u v = true ↔ ∀ i, i < 6 → u i = v i := by
  unfold eqP
  simp only [Bool.and_eq_true, beq_iff_eq]
  exact ⟨fun ⟨h0, h1, h2, h3, h4, h5⟩ => six h0 h1 h2 h3 h4 h5, fun k => ⟨k 0 (by omega), k 1 (by omega), k 2 (by omega), k 3 (by omega), k 4 (by omega), k 5 (by omega)⟩⟩
theorem eqP_no {u v : Nat → Int} (h : ¬ ∀ i, i < 6 → u i = v i) : eqP u v = false := by
  cases e : eqP u v with
  | false => rfl
  | true => exact absurd (eqP_iff.1 e) h
set_option maxRecDepth 100000 in
theorem index_walk (b o n c : Nat) (M : Nat → Nat → Int) (q : Nat → Int) (w : World) (hn : n ≤ 1000) (hc : ∀ i j, i < n → j < 6 → w.cell? ⟨b, o + i * 6 + j, none⟩ = some (.int .i64 (M i j))) :
    Calls Tryd.prog 40 #[.slice (some ⟨b, o, none⟩) n c, PV q] w fun e w' => e = .returned (.int .i64 (Lib.idxBy eqP ((lsM M n).take n) q)) ∧ Below w.heap.size w w' := by
  have k := AnyQ.slices_Index Tryd.indexPitch 6 Tryd.isAgg23 Tryd.sizeOf23 encQ (fun _ => rfl) eqP eqlP b o n c (lsM M n) q w (by rw [lsM_len]; exact Nat.le_refl _) (by omega)
    (fun j hj i v hv => by
      rw [lsM_len] at hj
      rw [lsM_get hj] at hv
      obtain ⟨hi, rfl⟩ := encQ_get hv
      exact hc j i hj hi)
  exact k.mono fun e w' ⟨he, m, hw⟩ => ⟨he, by rw [hw]; exact below_drewN ((Below.refl w.heap.size w).alloc (Nat.le_refl _) _) m⟩
theorem index_hit (b o n c k : Nat) (M : Nat → Nat → Int) (q : Nat → Int) (w : World) (hn : n ≤ 1000) (hc : ∀ i j, i < n → j < 6 → w.cell? ⟨b, o + i * 6 + j, none⟩ = some (.int .i64 (M i j))) (hk : k < n) (h : ∀ j, j < 6 → q j = M k j) (hne : ∀ i, i < k → ¬ ∀ j, j < 6 → q j = M i j) :
    Calls Tryd.prog 40 #[.slice (some ⟨b, o, none⟩) n c, PV q] w fun e w' => e = .returned (.int .i64 k) ∧ Below w.heap.size w w' := by
  have e := Lib.idxBy_hit eqP (lsM M n) n k q hk (by rw [lsM_len]; exact Nat.le_refl _) (by rw [lsM_get hk]; exact eqP_iff.2 h) (fun j hj => by rw [lsM_get (by omega)]; exact eqP_no (hne j hj))
  have k := index_walk b o n c M q w hn hc
  rw [e] at k; exact k
theorem index_miss (b o n c : Nat) (M : Nat → Nat → Int) (q : Nat → Int) (w : World) (hn : n ≤ 1000) (hc : ∀ i j, i < n → j < 6 → w.cell? ⟨b, o + i * 6 + j, none⟩ = some (.int .i64 (M i j))) (hne : ∀ i, i < n → ¬ ∀ j, j < 6 → q j = M i j) :
    Calls Tryd.prog 40 #[.slice (some ⟨b, o, none⟩) n c, PV q] w fun e w' => e = .returned (.int .i64 (-1)) ∧ Below w.heap.size w w' := by
  have e := Lib.idxBy_miss eqP (lsM M n) n q (fun j hj => by rw [lsM_get hj]; exact eqP_no (hne j hj))
  have k := index_walk b o n c M q w hn hc
  rw [e] at k; exact k
set_option maxRecDepth 100000 in
set_option maxHeartbeats 4000000 in
theorem degree_bad (ao : Option Addr) (n c : Nat) (M : Nat → Nat → Int) (p : Nat → Int) (w : World) (hn : n ≤ 4611686018427387904) (hcn : n ≤ c) (hS : CV w ao n M) (hs : Sm w) (hv : ¬ SV M n) : Calls Tryd.prog 20 #[.slice ao n c, PV p] w fun e w' => e = .returned (.tuple #[.int .i64 0, .int .i64 0, .int .i64 1]) ∧ Below w.heap.size w w' := by
  have HS := Bx.mk hS
  have H1 := Bx.mk (fun W (h1 : CV W ao n M) (h2 : Sm W) => within_bad ao n c M p W hn hcn h1 h2 hv)
  clear hv
  clear hS
  have S : Bx (SS w w []) := ⟨SS.start w hs⟩
  replace S := Bx.mk (S.out.push #[.int .i64 (p 0), .int .i64 (p 1), .int .i64 (p 2), .int .i64 (p 3), .int .i64 (p 4), .int .i64 (p 5)] 23)
  go_enter Tryd.func20, Tryd.ntmps20
  have HS0 := Bx.mk (HS.out.keep S.out.bl)
  have HM0 := Bx.mk S.out.sm
  obtain ⟨c0_0, c0_1, c0_2, c0_3, c0_4, c0_5, z0⟩ := S.out.six w.heap.size 23 (.int .i64 (p 0)) (.int .i64 (p 1)) (.int .i64 (p 2)) (.int .i64 (p 3)) (.int .i64 (p 4)) (.int .i64 (p 5)) List.mem_cons_self
  go_wp2_with fail
  refine (H1.out _ HS0.out HM0.out).mono ?_
  rintro e w1 ⟨rfl, hb⟩
  replace S := Bx.mk (S.out.call hb)
  clear hb
  clear c0_0 c0_1 c0_2 c0_3 c0_4 c0_5 z0
  have hBL := S.out.bl
  clear S
  go_wp2_with fail
  refine bodyPost_ret_by (v := .tuple #[.int .i64 0, .int .i64 0, .int .i64 1]) (by simp [results, Tryd.results20, go_sem]) rfl ?_
  exact ⟨rfl, by first | exact hBL | exact ((hBL).alloc (by have := hBL.size; omega) _)⟩
set_option maxRecDepth 100000 in
set_option maxHeartbeats 4000000 in
theorem degree_err (ao : Option Addr) (n c : Nat) (M : Nat → Nat → Int) (p : Nat → Int) (w : World) (hn : n ≤ 4611686018427387904) (hcn : n ≤ c) (hS : CV w ao n M) (hs : Sm w) (hv : SV M n) (q : Nat → Int) (o k : Int) (hk : k ≠ 0) (HO : Bx (∀ w, Sm w → Calls Tryd.prog 10 #[PV p] w fun e w' => e = .returned (.tuple #[PV q, .int .i64 o, .int .i64 k]) ∧ Below w.heap.size w w')) : Calls Tryd.prog 20 #[.slice ao n c, PV p] w fun e w' => e = .returned (.tuple #[.int .i64 0, .int .i64 0, .int .i64 k]) ∧ Below w.heap.size w w' := by
  have HS := Bx.mk hS
  have H1 := Bx.mk (fun W (h1 : CV W ao n M) (h2 : Sm W) => within_ok ao n c M p W hn hcn h1 h2 hv q o k HO)
  clear hv HO
  clear hS
  have S : Bx (SS w w []) := ⟨SS.start w hs⟩
  replace S := Bx.mk (S.out.push #[.int .i64 (p 0), .int .i64 (p 1), .int .i64 (p 2), .int .i64 (p 3), .int .i64 (p 4), .int .i64 (p 5)] 23)
  go_enter Tryd.func20, Tryd.ntmps20
  have HS0 := Bx.mk (HS.out.keep S.out.bl)
  have HM0 := Bx.mk S.out.sm
  obtain ⟨c0_0, c0_1, c0_2, c0_3, c0_4, c0_5, z0⟩ := S.out.six w.heap.size 23 (.int .i64 (p 0)) (.int .i64 (p 1)) (.int .i64 (p 2)) (.int .i64 (p 3)) (.int .i64 (p 4)) (.int .i64 (p 5)) List.mem_cons_self
  go_wp2_with fail
  refine (H1.out _ HS0.out HM0.out).mono ?_
  rintro e w1 ⟨rfl, hb⟩
  replace S := Bx.mk (S.out.call hb)
  clear hb
  clear c0_0 c0_1 c0_2 c0_3 c0_4 c0_5 z0
  have hBL := S.out.bl
  clear S
  go_wp2_with fail
  refine bodyPost_ret_by (v := .tuple #[.int .i64 0, .int .i64 0, .int .i64 k]) (by simp [results, Tryd.results20, go_sem]) rfl ?_
  exact ⟨rfl, by first | exact hBL | exact ((hBL).alloc (by have := hBL.size; omega) _)⟩
set_option maxRecDepth 100000 in
set_option maxHeartbeats 4000000 in
theorem degree_hit (ao : Option Addr) (n c : Nat) (M : Nat → Nat → Int) (p : Nat → Int) (w : World) (hn : n ≤ 4611686018427387904) (hcn : n ≤ c) (hS : CV w ao n M) (hs : Sm w) (hv : SV M n) (q : Nat → Int) (o : Int) (d : Nat) (hd : d < n) (hq : ∀ j, j < 6 → q j = M d j) (hne : ∀ i, i < d → ¬ ∀ j, j < 6 → q j = M i j) (HO : Bx (∀ w, Sm w → Calls Tryd.prog 10 #[PV p] w fun e w' => e = .returned (.tuple #[PV q, .int .i64 o, .int .i64 0]) ∧ Below w.heap.size w w')) : Calls Tryd.prog 20 #[.slice ao n c, PV p] w fun e w' => e = .returned (.tuple #[.int .i64 d, .int .i64 o, .int .i64 0]) ∧ Below w.heap.size w w' := by
  have HS := Bx.mk hS
  have H1 := Bx.mk (fun W (h1 : CV W ao n M) (h2 : Sm W) => within_ok ao n c M p W hn hcn h1 h2 hv q o 0 HO)
  have HI : Bx (∀ W, CV W ao n M → Calls Tryd.prog 40 #[.slice ao n c, PV q] W fun e w' => e = .returned (.int .i64 (d : Int)) ∧ Below W.heap.size W w') := ⟨fun W hW => by
    obtain ⟨b, o, rfl, hb, hcr⟩ := hW hv.pos
    exact index_hit b o n c d M q W (by have := hv.le; omega) hcr hd hq hne⟩
  clear hv HO hq hne
  clear hS
  have S : Bx (SS w w []) := ⟨SS.start w hs⟩
  replace S := Bx.mk (S.out.push #[.int .i64 (p 0), .int .i64 (p 1), .int .i64 (p 2), .int .i64 (p 3), .int .i64 (p 4), .int .i64 (p 5)] 23)
  go_enter Tryd.func20, Tryd.ntmps20
  have HS0 := Bx.mk (HS.out.keep S.out.bl)
  have HM0 := Bx.mk S.out.sm
  obtain ⟨c0_0, c0_1, c0_2, c0_3, c0_4, c0_5, z0⟩ := S.out.six w.heap.size 23 (.int .i64 (p 0)) (.int .i64 (p 1)) (.int .i64 (p 2)) (.int .i64 (p 3)) (.int .i64 (p 4)) (.int .i64 (p 5)) List.mem_cons_self
  go_wp2_with fail
  refine (H1.out _ HS0.out HM0.out).mono ?_
  rintro e w1 ⟨rfl, hb⟩
  replace S := Bx.mk (S.out.call hb)
  clear hb
  clear c0_0 c0_1 c0_2 c0_3 c0_4 c0_5 z0
  replace S := Bx.mk (S.out.push #[.int .i64 (q 0), .int .i64 (q 1), .int .i64 (q 2), .int .i64 (q 3), .int .i64 (q 4), .int .i64 (q 5)] 23)
  have HI := Bx.mk (HI.out _ (HS.out.keep S.out.bl))
  obtain ⟨c0_0, c0_1, c0_2, c0_3, c0_4, c0_5, z0⟩ := S.out.six w1.heap.size 23 (.int .i64 (q 0)) (.int .i64 (q 1)) (.int .i64 (q 2)) (.int .i64 (q 3)) (.int .i64 (q 4)) (.int .i64 (q 5)) List.mem_cons_self
  go_wp2_with fail
  refine (HI.out).mono ?_
  rintro e w2 ⟨rfl, hb⟩
  replace S := Bx.mk (S.out.call hb)
  clear hb
  clear c0_0 c0_1 c0_2 c0_3 c0_4 c0_5 z0
  have hBL := S.out.bl
  clear S
  go_wp2_with fail
  refine bodyPost_ret_by (v := .tuple #[.int .i64 d, .int .i64 o, .int .i64 0]) (by simp [results, Tryd.results20, go_sem]) rfl ?_
  exact ⟨rfl, by first | exact hBL | exact hBL⟩
set_option maxRecDepth 100000 in
set_option maxHeartbeats 4000000 in
theorem degree_none (ao : Option Addr) (n c : Nat) (M : Nat → Nat → Int) (p : Nat → Int) (w : World) (hn : n ≤ 4611686018427387904) (hcn : n ≤ c) (hS : CV w ao n M) (hs : Sm w) (hv : SV M n) (q : Nat → Int) (o : Int) (hne : ∀ i, i < n → ¬ ∀ j, j < 6 → q j = M i j) (HO : Bx (∀ w, Sm w → Calls Tryd.prog 10 #[PV p] w fun e w' => e = .returned (.tuple #[PV q, .int .i64 o, .int .i64 0]) ∧ Below w.heap.size w w')) : Calls Tryd.prog 20 #[.slice ao n c, PV p] w fun e w' => e = .returned (.tuple #[.int .i64 0, .int .i64 0, .int .i64 4]) ∧ Below w.heap.size w w' := by
  have HS := Bx.mk hS
  have H1 := Bx.mk (fun W (h1 : CV W ao n M) (h2 : Sm W) => within_ok ao n c M p W hn hcn h1 h2 hv q o 0 HO)
  have HI : Bx (∀ W, CV W ao n M → Calls Tryd.prog 40 #[.slice ao n c, PV q] W fun e w' => e = .returned (.int .i64 (-1)) ∧ Below W.heap.size W w') := ⟨fun W hW => by
    obtain ⟨b, o, rfl, hb, hcr⟩ := hW hv.pos
    exact index_miss b o n c M q W (by have := hv.le; omega) hcr hne⟩
  clear hv HO hne
  clear hS
  have S : Bx (SS w w []) := ⟨SS.start w hs⟩
  replace S := Bx.mk (S.out.push #[.int .i64 (p 0), .int .i64 (p 1), .int .i64 (p 2), .int .i64 (p 3), .int .i64 (p 4), .int .i64 (p 5)] 23)
  go_enter Tryd.func20, Tryd.ntmps20
  have HS0 := Bx.mk (HS.out.keep S.out.bl)
  have HM0 := Bx.mk S.out.sm
  obtain ⟨c0_0, c0_1, c0_2, c0_3, c0_4, c0_5, z0⟩ := S.out.six w.heap.size 23 (.int .i64 (p 0)) (.int .i64 (p 1)) (.int .i64 (p 2)) (.int .i64 (p 3)) (.int .i64 (p 4)) (.int .i64 (p 5)) List.mem_cons_self
  go_wp2_with fail
  refine (H1.out _ HS0.out HM0.out).mono ?_
  rintro e w1 ⟨rfl, hb⟩
  replace S := Bx.mk (S.out.call hb)
  clear hb
  clear c0_0 c0_1 c0_2 c0_3 c0_4 c0_5 z0
  replace S := Bx.mk (S.out.push #[.int .i64 (q 0), .int .i64 (q 1), .int .i64 (q 2), .int .i64 (q 3), .int .i64 (q 4), .int .i64 (q 5)] 23)
  have HI := Bx.mk (HI.out _ (HS.out.keep S.out.bl))
  obtain ⟨c0_0, c0_1, c0_2, c0_3, c0_4, c0_5, z0⟩ := S.out.six w1.heap.size 23 (.int .i64 (q 0)) (.int .i64 (q 1)) (.int .i64 (q 2)) (.int .i64 (q 3)) (.int .i64 (q 4)) (.int .i64 (q 5)) List.mem_cons_self
  go_wp2_with fail
  refine (HI.out).mono ?_
  rintro e w2 ⟨rfl, hb⟩
  replace S := Bx.mk (S.out.call hb)
  clear hb
  clear c0_0 c0_1 c0_2 c0_3 c0_4 c0_5 z0
  have hBL := S.out.bl
  clear S
  go_wp2_with fail
  refine bodyPost_ret_by (v := .tuple #[.int .i64 0, .int .i64 0, .int .i64 4]) (by simp [results, Tryd.results20, go_sem]) rfl ?_
  exact ⟨rfl, by first | exact hBL | exact hBL⟩
end Go.Proofs.YtomgihlkbmaleaaDoor

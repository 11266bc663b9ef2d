/- The program's scale: notAbove. -/
import Derived.Test.YtomgihlkbmaleaaDoorQP
namespace Go.Proofs.YtomgihlkbmaleaaDoor
open Go.RowKit M
/-- The highest degree that is not higher than q. -/
def naI (M : Nat → Nat → Int) (n : Nat) (q : Nat → Int) : Nat := (List.range n).countP fun i => !lwB q (M i)
set_option maxRecDepth 100000 in
set_option maxHeartbeats 4000000 in
theorem nclos_any (b o n c : Nat) (M : Nat → Nat → Int) (q : Nat → Int) (i : Nat) (qb sb : Nat) (r : Bool) (hn : n ≤ 64) (hcn : n ≤ c) (hi : i < n) (hr : lwB q (M i) = r) (w : World) (hs : Sm w) (hc : ∀ i j, i < n → j < 6 → w.cell? ⟨b, o + i * 6 + j, none⟩ = some (.int .i64 (M i j)))
    (pc : ∀ k, k < 6 → w.cell? ⟨qb, k, none⟩ = some (.int .i64 (q k))) (lc : w.cell? ⟨sb, 0, none⟩ = some (.slice (some ⟨b, o, none⟩) n c)) :
    Calls Tryd.prog 56 #[.int .i64 i, .pointer (some ⟨qb, 0, none⟩), .pointer (some ⟨sb, 0, none⟩)] w fun e w' => e = .returned (.bool r) ∧ Below w.heap.size w w' := by
  obtain ⟨x, hx⟩ : ∃ x, M i = x := ⟨_, rfl⟩
  have H1 : ∀ d os, Calls Tryd.prog 24 #[PV q, PV x] (Sort.grow (redrawn w d) os) fun e w' => e = .returned (.bool r) ∧ ∃ p : Regrown, w' = Sort.grow (redrawn w p.d) p.os :=
    fun d os => Calls.regrown_of (qlow_any q x r (by rw [← hx]; exact hr) _ (hs.keep (below_regrown w d os)))
  unfold PV at H1
  have k0 := cell_regrown (pc 0 (by omega))
  have k1 := cell_regrown (pc 1 (by omega))
  have k2 := cell_regrown (pc 2 (by omega))
  have k3 := cell_regrown (pc 3 (by omega))
  have k4 := cell_regrown (pc 4 (by omega))
  have k5 := cell_regrown (pc 5 (by omega))
  have kl := cell_regrown lc
  have m0 := cell_regrown (hc i 0 hi (by omega))
  have m1 := cell_regrown (hc i 1 hi (by omega))
  have m2 := cell_regrown (hc i 2 hi (by omega))
  have m3 := cell_regrown (hc i 3 hi (by omega))
  have m4 := cell_regrown (hc i 4 hi (by omega))
  have m5 := cell_regrown (hc i 5 hi (by omega))
  rw [hx] at m0 m1 m2 m3 m4 m5
  rw [Nat.add_zero] at m0
  have hi' : (i : Int) < (n : Int) := by omega
  clear hr hx hs pc lc hc
  go_enter Tryd.func56, Tryd.ntmps56
  go_wp2_with fail
  have mixed : Tryd.prog.follows .mixedOrders = true := by kernel_rfl
  refine wp_region_quiet_below mixed (by kernel_rfl) ?_
  repeat (quiet_step (first | exact H1 _ _))
  refine wpQuiet_nil ?_
  intro wq hbq'
  have hbq := below_of_regrown hbq'
  clear hbq'
  go_wp2_with fail
  go_ret
  exact ⟨rfl, hbq⟩
theorem sv_lt {M : Nat → Nat → Int} {n : Nat} (h : SV M n) : ∀ a b, a < b → b < n → sg (subV (M a) (M b)) < 0 := by
  intro a b hab
  induction b with
  | zero => omega
  | succ b ih =>
    intro hb
    have h1 := (lwB_iff.1 (h.up b (by omega))).2.2
    have e : nx M n b = M (b + 1) := by unfold nx; rw [if_neg (by omega)]
    rw [e] at h1
    by_cases e2 : a = b
    · rw [e2]; exact h1
    · exact sub_lt_trans (ih (by omega) (by omega)) h1
theorem sv_val {M : Nat → Nat → Int} {n : Nat} (h : SV M n) {i : Nat} (hi : i < n) : bdB (M i) 576 = true := (lwB_iff.1 (h.up i hi)).1
theorem na_mono {M : Nat → Nat → Int} {n : Nat} (h : SV M n) (q : Nat → Int) (hq : bdB q 576 = true) (a b : Nat) (hab : a ≤ b) (hb : b < n) (k : lwB q (M a) = true) : lwB q (M b) = true := by
  obtain ⟨_, _, h3⟩ := lwB_iff.1 k
  refine lwB_iff.2 ⟨hq, sv_val h hb, ?_⟩
  by_cases e : a = b
  · rw [← e]; exact h3
  · exact sub_lt_trans h3 (sv_lt h a b (by omega) hb)
set_option maxRecDepth 100000 in
set_option maxHeartbeats 4000000 in
theorem notAbove_any (ao : Option Addr) (n c : Nat) (M : Nat → Nat → Int) (q : Nat → Int) (d : Int) (w : World) (hcn : n ≤ c) (hS : CV w ao n M) (hs : Sm w) (hv : SV M n) (hq : bdB q 576 = true) (hd : (naI M n q : Int) - 1 = d) : Calls Tryd.prog 41 #[.slice ao n c, PV q] w fun e w' => e = .returned (.int .i64 d) ∧ Below w.heap.size w w' := by
  obtain ⟨b, o, rfl, hb, hcr⟩ := hS hv.pos
  have hn := hv.le
  obtain ⟨m, hm⟩ : ∃ m, naI M n q = m := ⟨_, rfl⟩
  have hmn : m ≤ n := by rw [← hm]; unfold naI; exact Nat.le_trans List.countP_le_length (by simp)
  rw [hm] at hd
  have eg : ∀ args w, (callFunc 56 args).run Tryd.prog w = .ok (.enter 56 args) w := enters_of Tryd.func56 (by kernel_rfl) rfl
  have HS : ∀ (W : World) (qb sb : Nat), Sm W → (∀ i j, i < n → j < 6 → W.cell? ⟨b, o + i * 6 + j, none⟩ = some (.int .i64 (M i j))) → (∀ k, k < 6 → W.cell? ⟨qb, k, none⟩ = some (.int .i64 (q k))) → W.cell? ⟨sb, 0, none⟩ = some (.slice (some ⟨b, o, none⟩) n c) →
      Calls Tryd.prog 42 #[.int .i64 n, .func (.func 56) #[] #[.pointer (some ⟨qb, 0, none⟩), .pointer (some ⟨sb, 0, none⟩)]] W fun e w' => e = .returned (.int .i64 (m : Int)) ∧ Below W.heap.size W w' := by
    intro W qb sb hW hcW hpc hlc
    have k := Any.sort_Search Tryd.search 56 #[.pointer (some ⟨qb, 0, none⟩), .pointer (some ⟨sb, 0, none⟩)] n (fun i => lwB q (M i)) W eg (by omega)
      (fun m os i hi => calls_grown (nclos_any b o n c M q i qb sb (lwB q (M i)) hn hcn hi rfl _ (hW.keep (below_grown W m os)) (fun i j hi hj => ((below_grown W m os).cell (p := ⟨b, o + i * 6 + j, none⟩) (block_lt_of_cell (hcW i j hi hj))).trans (hcW i j hi hj))
        (fun k hk => ((below_grown W m os).cell (p := ⟨qb, k, none⟩) (block_lt_of_cell (hpc k hk))).trans (hpc k hk)) (((below_grown W m os).cell (p := ⟨sb, 0, none⟩) (block_lt_of_cell hlc)).trans hlc))) (na_mono hv q hq)
    have e : (List.range n).countP (fun i => !lwB q (M i)) = m := hm
    rw [e] at k
    exact k.mono fun e w' ⟨he, q, os, hw⟩ => ⟨he, hw ▸ below_grown W q os⟩
  have hHS := Bx.mk HS
  have HCR := Bx.mk hcr
  clear HS hcr hS hm
  have S : Bx (SS w w []) := ⟨SS.start w hs⟩
  replace S := Bx.mk (S.out.push #[.slice (some ⟨b, o, none⟩) n c] 32)
  replace S := Bx.mk (S.out.push #[.int .i64 (q 0), .int .i64 (q 1), .int .i64 (q 2), .int .i64 (q 3), .int .i64 (q 4), .int .i64 (q 5)] 23)
  simp only [World.size_alloc] at S
  go_enter Tryd.func41, Tryd.ntmps41
  have B1 := S.out.bl
  have hpc : ∀ k, k < 6 → ((w.alloc (.cells #[.slice (some ⟨b, o, none⟩) n c] 32)).alloc (.cells #[.int .i64 (q 0), .int .i64 (q 1), .int .i64 (q 2), .int .i64 (q 3), .int .i64 (q 4), .int .i64 (q 5)] 23)).cell? ⟨w.heap.size + 1, k, none⟩ = some (.int .i64 (q k)) := six (by simp) (by simp) (by simp) (by simp) (by simp) (by simp)
  have hlc : ((w.alloc (.cells #[.slice (some ⟨b, o, none⟩) n c] 32)).alloc (.cells #[.int .i64 (q 0), .int .i64 (q 1), .int .i64 (q 2), .int .i64 (q 3), .int .i64 (q 4), .int .i64 (q 5)] 23)).cell? ⟨w.heap.size, 0, none⟩ = some (.slice (some ⟨b, o, none⟩) n c) := by simp
  have H := hHS.out _ _ _ S.out.sm (fun i j hi hj => (B1.cell (p := ⟨b, o + i * 6 + j, none⟩) hb).trans (HCR.out i j hi hj)) hpc hlc
  have hBL := Bx.mk B1
  have hw1 : IntKind.i64.wrap ((m : Int) - 1) = d := by rw [hd]; exact IntWalk.i64_in _ ⟨by omega, by omega⟩
  clear S B1 hpc hlc hHS hd
  go_wp2_with fail
  refine H.mono ?_
  rintro e w2 ⟨rfl, hb2⟩
  have HB2 := Bx.mk (hBL.out.trans (hb2.mono hBL.out.size))
  clear hb2
  go_wp2_with fail
  go_ret
  exact ⟨rfl, HB2.out⟩
end Go.Proofs.YtomgihlkbmaleaaDoor

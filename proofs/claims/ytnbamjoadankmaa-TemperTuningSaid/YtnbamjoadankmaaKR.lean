/- first, last, Contains, Valid of the program. -/
import Derived.Test.YtnbamjoadankmaaKQ
namespace Go.Proofs.Ytnbamjoadankmaa
open Go.RowKit D
theorem six_cn (w : World) (a b c d e f : Nat) : CN (w.alloc (.cells #[.int .i64 (a : Int), .int .i64 (b : Int), .int .i64 (c : Int), .int .i64 (d : Int), .int .i64 (e : Int), .int .i64 (f : Int)] 3)) (some ⟨w.heap.size, 0, none⟩) [a, b, c, d, e, f] := fun _ => ⟨w.heap.size, 0, rfl, by simp, fun i hi => by
  have h := World.alloc_heap_new w (.cells #[.int .i64 (a : Int), .int .i64 (b : Int), .int .i64 (c : Int), .int .i64 (d : Int), .int .i64 (e : Int), .int .i64 (f : Int)] 3)
  simp only [World.cell?, h, Nat.zero_add]
  have : i = 0 ∨ i = 1 ∨ i = 2 ∨ i = 3 ∨ i = 4 ∨ i = 5 := by simp at hi; omega
  rcases this with rfl | rfl | rfl | rfl | rfl | rfl <;> rfl⟩
set_option maxHeartbeats 4000000 in
theorem first_any (ao : Option Addr) (n c1 : Nat) (M : Nat → Nat → Int) (w : World) (hv : VM M n) (hc1 : n ≤ c1) (hR : CV w ao n M) :
    Calls Try.prog 81 #[.slice ao n c1] w fun e w' => ∃ (is cs : List Nat) (fo ro : Option Addr) (fc rc : Nat), e = .returned (.agg #[.slice fo cs.length fc, .int .i64 (mn (is.map M) cs), .slice ro cs.length rc]) ∧ Gd M n (· ≤ ·) [0, 1, 2, 3, 4, 5] is cs ∧ cs.Sublist [0, 1, 2, 3, 4, 5] ∧ w'.ownsRow w.heap.size 3 1 (.slice fo cs.length fc) cs.length (cs.map fun (j : Nat) => Value.int .i64 (j : Int)) ∧ w'.ownsRow w.heap.size 36 6 (.slice ro cs.length rc) cs.length (rowsL (fun t c => mn (is.map M) (cs.set t c)) cs.length) ∧ Below w.heap.size w w' := by
  have HF0 : Bx (FB ((w.alloc (.cells #[.slice none 0 0, .int .i64 0, .slice none 0 0] 96)).alloc (.cells #[.int .i64 0, .int .i64 1, .int .i64 2, .int .i64 3, .int .i64 4, .int .i64 5] 3)) w.heap.size (.slice none 0 0) (.int .i64 0) (.slice none 0 0)) := ⟨(Below.heap_alloc _ _ _ (by simp)).trans (World.alloc_heap_new w _)⟩
  have hB0 := ((Below.refl _ w).alloc (Nat.le_refl _) (.cells #[.slice none 0 0, .int .i64 0, .slice none 0 0] 96)).alloc (by simp) (.cells #[.int .i64 0, .int .i64 1, .int .i64 2, .int .i64 3, .int .i64 4, .int .i64 5] 3)
  have hcn := six_cn (w.alloc (.cells #[.slice none 0 0, .int .i64 0, .slice none 0 0] 96)) 0 1 2 3 4 5
  rw [World.size_alloc] at hcn
  have BA := Bx.mk (build_any (· ≤ ·) (fun _ => Nat.le_refl _) [0, 1, 2, 3, 4, 5] rfl (by simp) (by simp) ao _ n c1 6 M _ hv hc1 (Nat.le_refl _) (hR.keep hB0) hcn)
  have HB0 := Bx.mk hB0
  clear hB0 hcn
  go_enter Try.func81, Try.ntmps81
  go_wp2_with (go_at_call 125; refine BA.out.mono ?_; clear BA; rintro e w2 ⟨is, cs, fv, rv, rfl, hgd, hsb, hf, hr, hb⟩
               obtain ⟨fo, fc, rfl⟩ := own_any hf
               obtain ⟨ro, rc, rfl⟩ := own_any hr
               have HG := Bx.mk (And.intro hgd hsb)
               have HFR := Bx.mk (And.intro hf hr)
               have h0 := HF0.out.keep (hb.block _ (by simp; omega))
               have g0 := h0.c0
               have g1 := h0.c1
               have g2 := h0.c2
               have k0 := h0.fz 0
               have k1 := h0.fz 1
               have k2 := h0.fz 2
               have HB2 := Bx.mk (HB0.out.trans (hb.mono HB0.out.size))
               clear h0 hgd hsb hf hr hb)
  obtain ⟨om, hom⟩ : ∃ om, mn (is.map M) cs = om := ⟨_, rfl⟩
  refine bodyPost_ret_by (v := .agg #[.slice fo cs.length fc, .int .i64 (mn (is.map M) cs), .slice ro cs.length rc]) (by simp [results, Try.results81, go_sem, g0, g1, g2]) rfl ?_
  have b2 : ∀ p x y z, p ≠ w.heap.size → (((w2.setCell ⟨w.heap.size, 0, none⟩ x).setCell ⟨w.heap.size, 1, none⟩ y).setCell ⟨w.heap.size, 2, none⟩ z).heap[p]? = w2.heap[p]? := fun p x y z hp => by rw [Below.heap_setCell _ _ _ _ (by simpa using hp), Below.heap_setCell _ _ _ _ (by simpa using hp), Below.heap_setCell _ _ _ _ (by simpa using hp)]
  refine ⟨is, cs, fo, ro, fc, rc, rfl, HG.out.1, HG.out.2, ?_, ?_, ((HB2.out.setCell (p := ⟨w.heap.size, 0, none⟩) (by simp) _).setCell (p := ⟨w.heap.size, 1, none⟩) (by simp) _).setCell (p := ⟨w.heap.size, 2, none⟩) (by simp) _⟩
  · exact own_low (own_keep HFR.out.1 fun p hp _ => b2 p _ _ _ (by have := (own_lt HFR.out.1 p hp).1; simp at this; omega)) (by simp; omega)
  · exact own_low (own_keep HFR.out.2 fun p hp _ => b2 p _ _ _ (by have := (own_lt HFR.out.2 p hp).1; simp at this; omega)) (by simp; omega)
set_option maxHeartbeats 4000000 in
theorem last_any (ao : Option Addr) (n c1 : Nat) (M : Nat → Nat → Int) (w : World) (hv : VM M n) (hc1 : n ≤ c1) (hR : CV w ao n M) :
    Calls Try.prog 117 #[.slice ao n c1] w fun e w' => ∃ (is cs : List Nat) (fo ro : Option Addr) (fc rc : Nat), e = .returned (.agg #[.slice fo cs.length fc, .int .i64 (mn (is.map M) cs), .slice ro cs.length rc]) ∧ Gd M n (· ≥ ·) [5, 4, 3, 2, 1, 0] is cs ∧ cs.Sublist [5, 4, 3, 2, 1, 0] ∧ w'.ownsRow w.heap.size 3 1 (.slice fo cs.length fc) cs.length (cs.map fun (j : Nat) => Value.int .i64 (j : Int)) ∧ w'.ownsRow w.heap.size 36 6 (.slice ro cs.length rc) cs.length (rowsL (fun t c => mn (is.map M) (cs.set t c)) cs.length) ∧ Below w.heap.size w w' := by
  have HF0 : Bx (FB ((w.alloc (.cells #[.slice none 0 0, .int .i64 0, .slice none 0 0] 96)).alloc (.cells #[.int .i64 5, .int .i64 4, .int .i64 3, .int .i64 2, .int .i64 1, .int .i64 0] 3)) w.heap.size (.slice none 0 0) (.int .i64 0) (.slice none 0 0)) := ⟨(Below.heap_alloc _ _ _ (by simp)).trans (World.alloc_heap_new w _)⟩
  have hB0 := ((Below.refl _ w).alloc (Nat.le_refl _) (.cells #[.slice none 0 0, .int .i64 0, .slice none 0 0] 96)).alloc (by simp) (.cells #[.int .i64 5, .int .i64 4, .int .i64 3, .int .i64 2, .int .i64 1, .int .i64 0] 3)
  have hcn := six_cn (w.alloc (.cells #[.slice none 0 0, .int .i64 0, .slice none 0 0] 96)) 5 4 3 2 1 0
  rw [World.size_alloc] at hcn
  have BA := Bx.mk (build_any (· ≥ ·) (fun _ => Nat.le_refl _) [5, 4, 3, 2, 1, 0] rfl (by simp) (by simp) ao _ n c1 6 M _ hv hc1 (Nat.le_refl _) (hR.keep hB0) hcn)
  have HB0 := Bx.mk hB0
  clear hB0 hcn
  go_enter Try.func117, Try.ntmps117
  go_wp2_with (go_at_call 125; refine BA.out.mono ?_; clear BA; rintro e w2 ⟨is, cs, fv, rv, rfl, hgd, hsb, hf, hr, hb⟩
               obtain ⟨fo, fc, rfl⟩ := own_any hf
               obtain ⟨ro, rc, rfl⟩ := own_any hr
               have HG := Bx.mk (And.intro hgd hsb)
               have HFR := Bx.mk (And.intro hf hr)
               have h0 := HF0.out.keep (hb.block _ (by simp; omega))
               have g0 := h0.c0
               have g1 := h0.c1
               have g2 := h0.c2
               have k0 := h0.fz 0
               have k1 := h0.fz 1
               have k2 := h0.fz 2
               have HB2 := Bx.mk (HB0.out.trans (hb.mono HB0.out.size))
               clear h0 hgd hsb hf hr hb)
  obtain ⟨om, hom⟩ : ∃ om, mn (is.map M) cs = om := ⟨_, rfl⟩
  refine bodyPost_ret_by (v := .agg #[.slice fo cs.length fc, .int .i64 (mn (is.map M) cs), .slice ro cs.length rc]) (by simp [results, Try.results117, go_sem, g0, g1, g2]) rfl ?_
  have b2 : ∀ p x y z, p ≠ w.heap.size → (((w2.setCell ⟨w.heap.size, 0, none⟩ x).setCell ⟨w.heap.size, 1, none⟩ y).setCell ⟨w.heap.size, 2, none⟩ z).heap[p]? = w2.heap[p]? := fun p x y z hp => by rw [Below.heap_setCell _ _ _ _ (by simpa using hp), Below.heap_setCell _ _ _ _ (by simpa using hp), Below.heap_setCell _ _ _ _ (by simpa using hp)]
  refine ⟨is, cs, fo, ro, fc, rc, rfl, HG.out.1, HG.out.2, ?_, ?_, ((HB2.out.setCell (p := ⟨w.heap.size, 0, none⟩) (by simp) _).setCell (p := ⟨w.heap.size, 1, none⟩) (by simp) _).setCell (p := ⟨w.heap.size, 2, none⟩) (by simp) _⟩
  · exact own_low (own_keep HFR.out.1 fun p hp _ => b2 p _ _ _ (by have := (own_lt HFR.out.1 p hp).1; simp at this; omega)) (by simp; omega)
  · exact own_low (own_keep HFR.out.2 fun p hp _ => b2 p _ _ _ (by have := (own_lt HFR.out.2 p hp).1; simp at this; omega)) (by simp; omega)
end Go.Proofs.Ytnbamjoadankmaa

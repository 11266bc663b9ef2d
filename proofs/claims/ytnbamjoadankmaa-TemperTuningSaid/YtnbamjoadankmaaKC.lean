/- The row with the least element above 0 in a column. -/
import Derived.Test.YtnbamjoadankmaaKB
namespace Go.Proofs.Ytnbamjoadankmaa
open Go.RowKit D
set_option maxHeartbeats 1000000 in
theorem key_any (v : Nat → Int) (c Bc : Nat) (w : World) (hc : c < 6) (hb : Bc < w.heap.size) (hv : w.cell? ⟨Bc, 0, none⟩ = some (.int .i64 c)) : Calls Try.prog 159 #[PV v, .pointer (some ⟨Bc, 0, none⟩)] w fun e w' => e = .returned (.int .i64 (v c)) ∧ Below w.heap.size w w' := by
  have h1 := box_cell w v 36 c hc
  have h2 : (w.alloc (.cells #[.int .i64 (v 0), .int .i64 (v 1), .int .i64 (v 2), .int .i64 (v 3), .int .i64 (v 4), .int .i64 (v 5)] 36)).cell? ⟨Bc, 0, none⟩ = some (.int .i64 c) := by
    rw [((Below.refl w.heap.size w).alloc (Nat.le_refl _) _).cell (p := ⟨Bc, 0, none⟩) hb]; exact hv
  go_enter Try.func159, Try.ntmps159
  go_wp2_with fail
  go_ret
  exact ⟨rfl, (Below.refl _ w).alloc (Nat.le_refl _) _⟩
/-- The index of the first row of k whose element is above 0 and least; -1 where none is above 0. -/
def Lst (M : Nat → Nat → Int) (c k : Nat) (f : Int) : Prop := (f = -1 ∧ ∀ i, i < k → M i c ≤ 0) ∨ ∃ t : Nat, f = t ∧ t < k ∧ 0 < M t c ∧ ∀ i, i < k → 0 < M i c → M t c ≤ M i c
theorem Lst.skip {M : Nat → Nat → Int} {c k : Nat} {f : Int} (h : Lst M c k f) (hx : M k c ≤ 0) : Lst M c (k + 1) f := by
  rcases h with ⟨h1, h2⟩ | ⟨t, h1, h2, h3, h4⟩
  · exact .inl ⟨h1, fun i hi => if e : i = k then by rw [e]; exact hx else h2 i (by omega)⟩
  · exact .inr ⟨t, h1, by omega, h3, fun i hi h0 => if e : i = k then by rw [e] at h0; omega else h4 i (by omega) h0⟩
theorem Lst.first {M : Nat → Nat → Int} {c k : Nat} (h : Lst M c k (-1)) (hx : 0 < M k c) : Lst M c (k + 1) k := by
  rcases h with ⟨_, h2⟩ | ⟨t, h1, _⟩
  · exact .inr ⟨k, rfl, by omega, hx, fun i hi h0 => if e : i = k then by rw [e]; omega else by have := h2 i (by omega); omega⟩
  · omega
theorem Lst.less {M : Nat → Nat → Int} {c k t : Nat} (h : Lst M c k t) (hx : 0 < M k c) (hl : M k c < M t c) : Lst M c (k + 1) k := by
  rcases h with ⟨h1, _⟩ | ⟨s, h1, h2, h3, h4⟩
  · omega
  · obtain rfl : t = s := by omega
    exact .inr ⟨k, rfl, by omega, hx, fun i hi h0 => if e : i = k then by rw [e]; omega else by have := h4 i (by omega) h0; omega⟩
theorem Lst.keep {M : Nat → Nat → Int} {c k t : Nat} (h : Lst M c k t) (hl : ¬ M k c < M t c) : Lst M c (k + 1) t := by
  rcases h with ⟨h1, _⟩ | ⟨s, h1, h2, h3, h4⟩
  · omega
  · obtain rfl : t = s := by omega
    exact .inr ⟨t, rfl, by omega, h3, fun i hi h0 => if e : i = k then by rw [e]; omega else h4 i (by omega) h0⟩
set_option maxRecDepth 100000 in
set_option maxHeartbeats 8000000 in
theorem least_any (ao : Option Addr) (n c1 c Bc : Nat) (M : Nat → Nat → Int) (w : World) (hn : n ≤ 1000) (hc1 : n ≤ c1) (hc : c < 6) (hR : CV w ao n M) (hb : Bc < w.heap.size) (hv : w.cell? ⟨Bc, 0, none⟩ = some (.int .i64 c)) :
    Calls Try.prog 158 #[.slice ao n c1, .func (.func 159) #[] #[.pointer (some ⟨Bc, 0, none⟩)]] w fun e w' => ∃ f, e = .returned (.int .i64 f) ∧ Lst M c n f ∧ Below w.heap.size w w' := by
  have HR := Bx.mk hR
  clear hR
  go_enter Try.func158, Try.ntmps158
  go_wp2_with fail
  go_loopw [5, 11] (fun f i wr => ∃ (k : Nat) (g : Int), k ≤ n ∧ i = .int .i64 k ∧ f = .int .i64 g ∧ Bx (Lst M c k g) ∧ Below w.heap.size w wr) (fun _ i _ => n - (intOf i).toNat)
  case atStart => exact ⟨0, -1, by omega, rfl, rfl, ⟨.inl ⟨rfl, fun i hi => by omega⟩⟩, Below.refl _ _⟩
  case round =>
    obtain ⟨k, g, hk, rfl, rfl, HL, hB⟩ := hrel
    by_cases hlt : k < n
    · obtain ⟨b, o, rfl, hb3, hcr⟩ := HR.out (by omega)
      have hws := hB.size
      have a0 := hB.cell (p := ⟨b, o + k * 6 + 0, none⟩) hb3
      have a1 := hB.cell (p := ⟨b, o + k * 6 + 1, none⟩) hb3
      have a2 := hB.cell (p := ⟨b, o + k * 6 + 2, none⟩) hb3
      have a3 := hB.cell (p := ⟨b, o + k * 6 + 3, none⟩) hb3
      have a4 := hB.cell (p := ⟨b, o + k * 6 + 4, none⟩) hb3
      have a5 := hB.cell (p := ⟨b, o + k * 6 + 5, none⟩) hb3
      rw [hcr k _ hlt (by omega)] at a0 a1 a2 a3 a4 a5
      rw [Nat.add_zero] at a0
      have KA := Bx.mk (fun (v : Nat → Int) (w' : World) (hB' : Below w.heap.size w w') => (key_any v c Bc w' hc (Nat.lt_of_lt_of_le hb hB'.size) (by rw [hB'.cell (p := ⟨Bc, 0, none⟩) hb]; exact hv)).mono (R' := fun e w'' => e = .returned (.int .i64 (v c)) ∧ Bx (Below w.heap.size w w'')) fun e w'' h => ⟨h.1, ⟨hB'.trans (h.2.mono hB'.size)⟩⟩)
      unfold PV at KA
      have HCR := Bx.mk hcr
      clear hcr
      obtain ⟨x, hx⟩ : ∃ x, M k c = x := ⟨_, rfl⟩
      have KA1 := Bx.mk (fun w' hB' => KA.out (M k) w' hB')
      rw [hx] at KA1
      have HX := Bx.mk hx
      clear hx
      by_cases h0 : x ≤ 0
      · have h0' : ¬ 0 < x := by omega
        go_wp2_with (go_at_call 159; refine (KA1.out _ (Below.alloc hB hws _)).mono ?_; rintro e w2 ⟨rfl, HB2⟩)
        go_roundw
        case rel => exact ⟨k + 1, g, by omega, by go_num, rfl, ⟨HL.out.skip (by rw [HX.out]; exact h0)⟩, HB2.out⟩
        case measure => simp [intOf]; omega
      · have h0' : 0 < x := by omega
        rcases HL.out with ⟨rfl, _⟩ | ⟨t, rfl, ht, _⟩
        · have HL1 := Bx.mk (HL.out.first (by rw [HX.out]; exact h0'))
          go_wp2_with (go_at_call 159; refine (KA1.out _ (Below.alloc hB hws _)).mono ?_; rintro e w2 ⟨rfl, HB2⟩)
          go_roundw
          case rel => exact ⟨k + 1, k, by omega, by go_num, rfl, HL1, HB2.out⟩
          case measure => simp [intOf]; omega
        · have htn : t < n := by omega
          have KA2 := Bx.mk (fun w' hB' => KA.out (M t) w' hB')
          obtain ⟨y, hy⟩ : ∃ y, M t c = y := ⟨_, rfl⟩
          rw [hy] at KA2
          have HY := Bx.mk hy
          clear hy KA
          have ht0 : ¬ (t : Int) < 0 := by omega
          by_cases hxy : x < y
          · have HL1 := Bx.mk (HL.out.less (by rw [HX.out]; exact h0') (by rw [HX.out, HY.out]; exact hxy))
            go_wp2_with (first
              | (go_at_call 159; refine (KA1.out _ (Below.alloc hB hws _)).mono ?_; clear KA1; rintro e w2 ⟨rfl, HB2⟩
                 have d0 := HB2.out.cell (p := ⟨b, o + t * 6 + 0, none⟩) hb3
                 have d1 := HB2.out.cell (p := ⟨b, o + t * 6 + 1, none⟩) hb3
                 have d2 := HB2.out.cell (p := ⟨b, o + t * 6 + 2, none⟩) hb3
                 have d3 := HB2.out.cell (p := ⟨b, o + t * 6 + 3, none⟩) hb3
                 have d4 := HB2.out.cell (p := ⟨b, o + t * 6 + 4, none⟩) hb3
                 have d5 := HB2.out.cell (p := ⟨b, o + t * 6 + 5, none⟩) hb3
                 rw [HCR.out t _ htn (by omega)] at d0 d1 d2 d3 d4 d5
                 rw [Nat.add_zero] at d0)
              | (go_at_call 159; refine (KA2.out _ HB2.out).mono ?_; clear KA2; rintro e w3 ⟨rfl, HB3⟩))
            go_roundw
            case rel => exact ⟨k + 1, k, by omega, by go_num, rfl, HL1, HB3.out⟩
            case measure => simp [intOf]; omega
          · have HL1 := Bx.mk (HL.out.keep (by rw [HX.out, HY.out]; exact hxy))
            go_wp2_with (first
              | (go_at_call 159; refine (KA1.out _ (Below.alloc hB hws _)).mono ?_; clear KA1; rintro e w2 ⟨rfl, HB2⟩
                 have d0 := HB2.out.cell (p := ⟨b, o + t * 6 + 0, none⟩) hb3
                 have d1 := HB2.out.cell (p := ⟨b, o + t * 6 + 1, none⟩) hb3
                 have d2 := HB2.out.cell (p := ⟨b, o + t * 6 + 2, none⟩) hb3
                 have d3 := HB2.out.cell (p := ⟨b, o + t * 6 + 3, none⟩) hb3
                 have d4 := HB2.out.cell (p := ⟨b, o + t * 6 + 4, none⟩) hb3
                 have d5 := HB2.out.cell (p := ⟨b, o + t * 6 + 5, none⟩) hb3
                 rw [HCR.out t _ htn (by omega)] at d0 d1 d2 d3 d4 d5
                 rw [Nat.add_zero] at d0)
              | (go_at_call 159; refine (KA2.out _ HB2.out).mono ?_; clear KA2; rintro e w3 ⟨rfl, HB3⟩))
            go_roundw
            case rel => exact ⟨k + 1, t, by omega, by go_num, rfl, HL1, HB3.out⟩
            case measure => simp [intOf]; omega
    · obtain rfl : k = n := by omega
      go_wp2_with fail
      go_ret
      exact ⟨g, rfl, HL.out, hB⟩
end Go.Proofs.Ytnbamjoadankmaa

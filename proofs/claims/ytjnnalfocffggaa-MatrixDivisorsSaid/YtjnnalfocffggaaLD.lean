/- MatrixDivisors: the law's walk. -/
import Derived.Test.YtjnnalfocffggaaHC
import Derived.Test.YtjnnalfocffggaaR10
namespace Go.Proofs.Ytjnnalfocffggaa
open Go.RowKit D
theorem pr_pos {s : Nat → Int} {r : Nat} (h : ∀ k, k < r → 0 < s k) : 0 < pr s r := by
  induction r with
  | zero => show (0 : Int) < 1; decide
  | succ r ih => exact Int.mul_pos (ih fun k hk => h k (by omega)) (h r (by omega))
theorem pr_le {s : Nat → Int} {k r : Nat} (hk : k ≤ r) (h : ∀ k, k < r → 0 < s k) : pr s k ≤ pr s r := by
  induction r with
  | zero => rw [show k = 0 by omega]; exact Int.le_refl _
  | succ r ih =>
    by_cases e : k = r + 1
    · rw [e]; exact Int.le_refl _
    · have h1 := ih (by omega) (fun k hk => h k (by omega))
      have h2 := pr_pos (s := s) (r := r) (fun k hk => h k (by omega))
      have h3 := h r (by omega)
      have h4 : pr s r * 1 ≤ pr s r * s r := Int.mul_le_mul_of_nonneg_left (by omega) (by omega)
      show pr s k ≤ pr s r * s r
      omega
theorem pr_bound {M O : Nat → Nat → Int} {n q : Nat} {p : Nat → Nat} (hv : VM M n) (h : Hf O q 6 p) (h1 : ∀ t, t < n → Sp O q 6 (M t)) (h2 : ∀ i, i < q → Sp M n 6 (O i)) : pr (fun k => O k (p k)) q ≤ 1000000000 := by
  obtain ⟨is, hl, hn, h0⟩ := h.rows_at h2
  have hd := h.pivots h1 hl hn
  have hb := vm_any hv (is := is) (js := (List.range q).map p) (by simp [hl]) hn (by
    intro j hj; obtain ⟨k, hk, rfl⟩ := List.mem_map.1 hj; exact h.lt k (List.mem_range.1 hk))
  have hx := Int.natAbs_dvd_natAbs.2 hd
  have := Nat.le_of_dvd (by omega) hx
  omega
theorem rank_eq {M O : Nat → Nat → Int} {n q r : Nat} {p : Nat → Nat} {g : Nat → Nat} (h : Hf O q 6 p) (h1 : ∀ t, t < n → Sp O q 6 (M t)) (h2 : ∀ i, i < q → Sp M n 6 (O i)) (hg : ∀ k d, Dv M n 6 k d ↔ d ∣ (g k : Int)) (hp : ∀ k, k < r → 0 < g (k + 1) ∧ g (k + 1) ≤ 1000000000) (h0 : g (r + 1) = 0) : q = r := by
  have e : ∀ k, g k = 0 ↔ q < k := fun k => by
    rw [← h.rank h1 h2 k, hg k 0]
    exact ⟨fun e => by rw [e]; exact Int.dvd_refl _, fun e => by have := Int.zero_dvd.1 e; omega⟩
  have a := (e (r + 1)).1 h0
  refine Classical.byContradiction fun hne => ?_
  have hr : 0 < r := by omega
  have b := (hp (r - 1) (by omega)).1
  rw [show r - 1 + 1 = r by omega] at b
  have c := (e r).2 (by omega)
  omega
set_option maxRecDepth 100000 in
set_option maxHeartbeats 16000000 in
theorem divisors_law (ao : Option Addr) (n c1 : Nat) (M : Nat → Nat → Int) (w : World) (hc1 : n ≤ c1) (hc2 : c1 ≤ maxLen) (hR : CV w ao n M) :
    Calls Try.prog 8 #[.slice ao n c1] w fun e w' => e = .returned (.bool true) ∧ Below w.heap.size w w' := by
  by_cases hv : VM M n
  · have HR := Bx.mk hR
    have HV := Bx.mk hv
    clear hR hv
    go_enter Try.func8, Try.ntmps8
    go_wp2_with (first
      | (go_at_call 17; refine (head_any _).mono ?_; rintro e w1 ⟨rfl, B1⟩)
      | (go_at_call 25; refine ((divisors_pub ao n c1 M _ hc1 hc2 (HR.out.keep B1)).mono (R' := fun e w' => ∃ (g : Nat → Nat) (ho : Option Addr) (hc r : Nat), e = .returned (.tuple #[.slice ho r hc, .int .i64 0]) ∧ r ≤ 6 ∧ Bx (CN w' ho ((List.range r).map fun i => g (i + 1)) ∧ r ≤ hc ∧ hc ≤ maxLen) ∧ Bx ((∀ k d, Dv M n 6 k d ↔ d ∣ (g k : Int)) ∧ (∀ k, k < r → 0 < g (k + 1) ∧ g (k + 1) ≤ 1000000000) ∧ g (r + 1) = 0) ∧ Bx (Below w1.heap.size w1 w')) fun e w' ⟨h, hb⟩ => by
           rcases h with ⟨h, _⟩ | ⟨_, g, ho, hc, r, he, hcn, h1, h2, h6, k1, k2, k3⟩
           · exact absurd HV.out h
           · exact ⟨g, ho, hc, r, he, h6, ⟨hcn, h1, h2⟩, ⟨k1, k2, k3⟩, ⟨hb⟩⟩).mono ?_; rintro e w2 ⟨g, d0, dc, r, rfl, hr6, HD, HG, B2⟩)
      | (go_at_call 20; refine ((hermite_pub ao n c1 M _ hc1 hc2 ((HR.out.keep B1).keep B2.out)).mono (R' := fun e w' => ∃ (ho : Option Addr) (hc : Nat) (O : Nat → Nat → Int) (p : Nat → Nat), e = .returned (.tuple #[.slice ho r hc, .int .i64 0]) ∧ Bx (CV w' ho r O ∧ r ≤ hc ∧ hc ≤ maxLen) ∧ Bx (Hf O r 6 p) ∧ Bx ((∀ t, t < n → Sp O r 6 (M t)) ∧ ∀ i, i < r → Sp M n 6 (O i)) ∧ Bx (Below w2.heap.size w2 w')) fun e w' ⟨h, hb⟩ => by
           rcases h with ⟨h, _⟩ | ⟨_, ho, hc, q, O, p, he, hcv, h1, h2, h6, hO, k1, k2⟩
           · exact absurd HV.out h
           · obtain rfl := rank_eq hO k1 k2 HG.out.1 HG.out.2.1 HG.out.2.2
             exact ⟨ho, hc, O, p, he, ⟨hcv, h1, h2⟩, ⟨hO⟩, ⟨k1, k2⟩, ⟨hb⟩⟩).mono ?_; rintro e w3 ⟨h0, hc, O, p, rfl, HH, HO, HS, B3⟩))
    have HDC := Bx.mk (HD.out.1.keep B3.out)
    have HPB := Bx.mk (pr_bound HV.out HO.out HS.out.1 HS.out.2)
    have HGC := Bx.mk (gcds HG.out.1)
    have hb13 : Bx (Below w.heap.size w w3) := ⟨(B1.trans (B2.out.mono B1.size)).trans (B3.out.mono (Nat.le_trans B1.size B2.out.size))⟩
    have hdc : r ≤ dc := HD.out.2.1
    have hhc : r ≤ hc := HH.out.2.1
    clear B1 B2 B3 HR
    go_loopw [3, 8, 9] (fun up pv ix wr => ∃ i : Nat, i ≤ r ∧ ix = .int .i64 i ∧ up = .bool true ∧ pv = .int .i64 (pr (fun k => O k (p k)) i) ∧ Bx (Below w3.heap.size w3 wr)) (fun _ _ ix _ => r - (intOf ix).toNat)
    case atStart => exact ⟨0, by omega, rfl, rfl, rfl, ⟨Below.refl _ _⟩⟩
    case round =>
      obtain ⟨i, hi, rfl, rfl, rfl, HB⟩ := hrel
      by_cases hlt : i < r
      · obtain ⟨b, o, rfl, hb, hcr⟩ := HH.out.1 (by omega)
        obtain ⟨bd, od, rfl, hbd, hcd⟩ := HDC.out (by intro e; have := congrArg List.length e; simp at this; omega)
        have a0 := HB.out.cell (p := ⟨b, o + i * 6 + 0, none⟩) hb
        have a1 := HB.out.cell (p := ⟨b, o + i * 6 + 1, none⟩) hb
        have a2 := HB.out.cell (p := ⟨b, o + i * 6 + 2, none⟩) hb
        have a3 := HB.out.cell (p := ⟨b, o + i * 6 + 3, none⟩) hb
        have a4 := HB.out.cell (p := ⟨b, o + i * 6 + 4, none⟩) hb
        have a5 := HB.out.cell (p := ⟨b, o + i * 6 + 5, none⟩) hb
        rw [hcr i _ hlt (by omega)] at a0 a1 a2 a3 a4 a5
        rw [Nat.add_zero] at a0
        obtain ⟨c, hc'⟩ : ∃ c, p i = c := ⟨_, rfl⟩
        have hc6 : c < 6 := hc' ▸ HO.out.lt i hlt
        obtain ⟨v, hv⟩ : ∃ v, O i = v := ⟨_, rfl⟩
        have PA := Bx.mk (fun w' => pivot_any v w' c (by omega) (fun j hj => by rw [← hv]; exact HO.out.left i j hlt (by omega)) (fun _ => by have := HO.out.pos i hlt; rw [hc', hv] at this; omega))
        have ac0 := hcr i c hlt hc6
        rw [hv] at a0 a1 a2 a3 a4 a5 ac0
        have hd : ∀ k, k < r → wr.cell? ⟨bd, od + k, none⟩ = some (.int .i64 (g (k + 1) : Nat)) := fun k hk => by
          rw [HB.out.cell (p := ⟨bd, od + k, none⟩) hbd, hcd k (by simpa using hk)]
          simp [List.getD_eq_getElem?_getD, hk]
        have d1 := hd i hlt
        have g1 := HG.out.2.1 i hlt
        obtain ⟨P, hP⟩ : ∃ P, pr (fun k => O k (p k)) i = P := ⟨_, rfl⟩
        have hpos : ∀ k, k < r → 0 < (fun k => O k (p k)) k := fun k hk => HO.out.pos k hk
        have hP1 : 0 < P := by rw [← hP]; exact pr_pos fun k hk => hpos k (by omega)
        have hP2 : pr (fun k => O k (p k)) (i + 1) ≤ 1000000000 := Int.le_trans (pr_le (by omega) hpos) HPB.out
        have hP3 : 0 < pr (fun k => O k (p k)) (i + 1) := pr_pos fun k hk => hpos k (by omega)
        have hPE : pr (fun k => O k (p k)) (i + 1) = P * v c := by rw [← hP, ← hv, ← hc']; rfl
        rw [hPE] at hP2 hP3
        have HPE := Bx.mk hPE
        have hwP : IntKind.i64.wrap (P * v c) = P * v c := by rw [IntWalk.i64_in] <;> omega
        have hgc := HGC.out i
        obtain ⟨x, hx⟩ : ∃ x, g i = x := ⟨_, rfl⟩
        obtain ⟨y, hy⟩ : ∃ y, g (i + 1) = y := ⟨_, rfl⟩
        obtain ⟨z, hz⟩ : ∃ z, g (i + 1 + 1) = z := ⟨_, rfl⟩
        have hx1 : 1 ≤ x ∧ x ≤ 1000000000 := by
          by_cases e : i = 0
          · subst e; have := hgc.2.2; omega
          · have := HG.out.2.1 (i - 1) (by omega); rw [show i - 1 + 1 = i by omega] at this; omega
        rw [hx, hy, show g (i + 2) = z from hz] at hgc
        rw [hy] at d1 g1
        have m1 : Int.tmod (y : Int) (x : Int) = 0 := Int.tmod_eq_zero_of_dvd (by exact_mod_cast hgc.1)
        have m2 : Int.tmod ((x : Int) * (z : Int)) ((y : Int) * (y : Int)) = 0 := Int.tmod_eq_zero_of_dvd (by exact_mod_cast hgc.2.1)
        have ac : wr.cell? ⟨b, o + i * 6 + c, none⟩ = some (.int .i64 (v c)) := (HB.out.cell (p := ⟨b, o + i * 6 + c, none⟩) hb).trans ac0
        have b1 : ¬ (y : Int) < 1 := by omega
        have b2 : ¬ (1000000000 : Int) < (y : Int) := by omega
        have b3 : ((c : Int) == 6) = false := by simp; omega
        have b4 : ((x : Int) == 0) = false := by simp; omega
        have b5 : (c : Int) < 6 := by omega
        have hyy : (y : Int) * (y : Int) ≤ 1000000000000000000 ∧ 0 < (y : Int) * (y : Int) := ⟨by have := Int.mul_le_mul (show (y : Int) ≤ 1000000000 by omega) (show (y : Int) ≤ 1000000000 by omega) (by omega) (by omega); omega, Int.mul_pos (by omega) (by omega)⟩
        have b6 : ((y : Int) * (y : Int) == 0) = false := by simp; omega
        have hwy : IntKind.i64.wrap ((y : Int) * (y : Int)) = (y : Int) * (y : Int) := by rw [IntWalk.i64_in] <;> omega
        have b7 : IntKind.i64.wrap ((i : Int) + 1) = (i : Int) + 1 := by rw [IntWalk.i64_in] <;> omega
        have b8 : ((i : Int) + 1).toNat = i + 1 := by omega
        have b9 : (0 : Int) ≤ (i : Int) + 1 := by omega
        rw [hP]
        have HX := Bx.mk hx
        unfold PV at PA
        clear hcr hcd hP hPE hc' hv hgc ac0 hpos
        by_cases hlast : i + 1 < r
        · have d2 := hd (i + 1) hlast
          have g2 := HG.out.2.1 (i + 1) hlast
          rw [hz] at d2 g2
          have hxz : (x : Int) * (z : Int) ≤ 1000000000000000000 ∧ 0 ≤ (x : Int) * (z : Int) := ⟨by have := Int.mul_le_mul (show (x : Int) ≤ 1000000000 by omega) (show (z : Int) ≤ 1000000000 by omega) (by omega) (by omega); omega, Int.mul_nonneg (by omega) (by omega)⟩
          have hwz : IntKind.i64.wrap ((x : Int) * (z : Int)) = (x : Int) * (z : Int) := by rw [IntWalk.i64_in] <;> omega
          have c1 : (i : Int) + 1 < (r : Int) := by omega
          by_cases h0 : i = 0
          · have hi0 : ¬ ((0 : Int) < (i : Int)) := by omega
            have hx0 : x = 1 := by have := (HGC.out 0).2.2; subst h0; have := HX.out; omega
            subst hx0
            have m3 : Int.tmod (y : Int) 1 = 0 := m1
            have m4 : Int.tmod (z : Int) ((y : Int) * (y : Int)) = 0 := by simpa using m2
            have m5 : IntKind.i64.wrap (z : Int) = (z : Int) := by rw [IntWalk.i64_in] <;> omega
            clear h0
            go_wp2_with (go_at_call 36; refine (PA.out _).mono ?_; rintro e w4 ⟨rfl, hb4⟩
                         have k0 := (hb4.cell (p := ⟨bd, od + i, none⟩) (by show bd < wr.heap.size; have := HB.out.size; omega)).trans d1
                         have k1 := (hb4.cell (p := ⟨b, o + i * 6 + c, none⟩) (by show b < wr.heap.size; have := HB.out.size; omega)).trans ac
                         have k2 := (hb4.cell (p := ⟨bd, od + (i + 1), none⟩) (by show bd < wr.heap.size; have := HB.out.size; omega)).trans d2)
            go_region
            all_goals go_wp2_with fail
            all_goals
              go_roundw
              case rel => exact ⟨i + 1, by omega, by go_num, rfl, by rw [HPE.out], by first | exact ⟨HB.out.trans (hb4.mono HB.out.size)⟩ | exact ⟨below_drew (HB.out.trans (hb4.mono HB.out.size))⟩ | exact ⟨below_drewN (HB.out.trans (hb4.mono HB.out.size))⟩⟩
              case measure => simp [intOf]; omega
          · have hi0 : (0 : Int) < (i : Int) := by omega
            have d0 := hd (i - 1) (by omega)
            rw [show i - 1 + 1 = i by omega, HX.out] at d0
            have q1 : IntKind.i64.wrap ((i : Int) - 1) = (i : Int) - 1 := by rw [IntWalk.i64_in] <;> omega
            have q2 : ((i : Int) - 1).toNat = i - 1 := by omega
            have q3 : (0 : Int) ≤ (i : Int) - 1 := by omega
            have q4 : (i : Int) - 1 < (r : Int) := by omega
            clear h0
            go_wp2_with (go_at_call 36; refine (PA.out _).mono ?_; rintro e w4 ⟨rfl, hb4⟩
                         have k0 := (hb4.cell (p := ⟨bd, od + i, none⟩) (by show bd < wr.heap.size; have := HB.out.size; omega)).trans d1
                         have k1 := (hb4.cell (p := ⟨b, o + i * 6 + c, none⟩) (by show b < wr.heap.size; have := HB.out.size; omega)).trans ac
                         have k2 := (hb4.cell (p := ⟨bd, od + (i + 1), none⟩) (by show bd < wr.heap.size; have := HB.out.size; omega)).trans d2
                         have k3 := (hb4.cell (p := ⟨bd, od + (i - 1), none⟩) (by show bd < wr.heap.size; have := HB.out.size; omega)).trans d0)
            go_region
            all_goals go_wp2_with fail
            all_goals
              go_roundw
              case rel => exact ⟨i + 1, by omega, by go_num, rfl, by rw [HPE.out], by first | exact ⟨HB.out.trans (hb4.mono HB.out.size)⟩ | exact ⟨below_drew (HB.out.trans (hb4.mono HB.out.size))⟩ | exact ⟨below_drewN (HB.out.trans (hb4.mono HB.out.size))⟩⟩
              case measure => simp [intOf]; omega
        · have c1 : ¬ ((i : Int) + 1 < (r : Int)) := by omega
          by_cases h0 : i = 0
          · have hi0 : ¬ ((0 : Int) < (i : Int)) := by omega
            have hx0 : x = 1 := by have := (HGC.out 0).2.2; subst h0; have := HX.out; omega
            subst hx0
            clear h0
            go_wp2_with (go_at_call 36; refine (PA.out _).mono ?_; rintro e w4 ⟨rfl, hb4⟩
                         have k0 := (hb4.cell (p := ⟨bd, od + i, none⟩) (by show bd < wr.heap.size; have := HB.out.size; omega)).trans d1
                         have k1 := (hb4.cell (p := ⟨b, o + i * 6 + c, none⟩) (by show b < wr.heap.size; have := HB.out.size; omega)).trans ac)
            go_roundw
            case rel => exact ⟨i + 1, by omega, by go_num, rfl, by rw [HPE.out], ⟨HB.out.trans (hb4.mono HB.out.size)⟩⟩
            case measure => simp [intOf]; omega
          · have hi0 : (0 : Int) < (i : Int) := by omega
            have d0 := hd (i - 1) (by omega)
            rw [show i - 1 + 1 = i by omega, HX.out] at d0
            have q1 : IntKind.i64.wrap ((i : Int) - 1) = (i : Int) - 1 := by rw [IntWalk.i64_in] <;> omega
            have q2 : ((i : Int) - 1).toNat = i - 1 := by omega
            have q3 : (0 : Int) ≤ (i : Int) - 1 := by omega
            have q4 : (i : Int) - 1 < (r : Int) := by omega
            clear h0
            go_wp2_with (go_at_call 36; refine (PA.out _).mono ?_; rintro e w4 ⟨rfl, hb4⟩
                         have k0 := (hb4.cell (p := ⟨bd, od + i, none⟩) (by show bd < wr.heap.size; have := HB.out.size; omega)).trans d1
                         have k1 := (hb4.cell (p := ⟨b, o + i * 6 + c, none⟩) (by show b < wr.heap.size; have := HB.out.size; omega)).trans ac
                         have k3 := (hb4.cell (p := ⟨bd, od + (i - 1), none⟩) (by show bd < wr.heap.size; have := HB.out.size; omega)).trans d0)
            go_roundw
            case rel => exact ⟨i + 1, by omega, by go_num, rfl, by rw [HPE.out], ⟨HB.out.trans (hb4.mono HB.out.size)⟩⟩
            case measure => simp [intOf]; omega
      · obtain rfl : i = r := by omega
        by_cases h0 : i = 0
        · subst h0
          go_wp2_with fail
          go_ret
          exact ⟨rfl, hb13.out.trans (HB.out.mono hb13.out.size)⟩
        · obtain ⟨bd, od, rfl, hbd, hcd⟩ := HDC.out (by intro e; have := congrArg List.length e; simp at this; omega)
          have d1 := HB.out.cell (p := ⟨bd, od + (i - 1), none⟩) hbd
          rw [hcd (i - 1) (by simp; omega)] at d1
          have g1 := HG.out.2.1 (i - 1) (by omega)
          rw [show i - 1 + 1 = i by omega] at g1
          obtain ⟨y, hy⟩ : ∃ y, g i = y := ⟨_, rfl⟩
          obtain ⟨P, hP⟩ : ∃ P, pr (fun k => O k (p k)) i = P := ⟨_, rfl⟩
          have hd := HO.out.last HS.out.2 ((HG.out.1 i (g i)).2 (Int.dvd_refl _))
          rw [hP, hy] at hd
          have e1 : ((List.range i).map fun i => g (i + 1)).getD (i - 1) 0 = y := by
            rw [List.getD_eq_getElem?_getD, List.getElem?_map, List.getElem?_range (by omega)]
            simp [show i - 1 + 1 = i by omega, hy]
          rw [e1] at d1
          rw [hy] at g1
          rw [hP]
          have m1 : Int.tmod P (y : Int) = 0 := Int.tmod_eq_zero_of_dvd hd
          have b4 : ((y : Int) == 0) = false := by simp; omega
          have b5 : ((i : Int) == 0) = false := by simp; omega
          have q1 : IntKind.i64.wrap ((i : Int) - 1) = (i : Int) - 1 := by rw [IntWalk.i64_in] <;> omega
          have q2 : ((i : Int) - 1).toNat = i - 1 := by omega
          have q3 : (0 : Int) ≤ (i : Int) - 1 := by omega
          have q4 : (i : Int) - 1 < (i : Int) := by omega
          have q5 := HPB.out
          rw [hP] at q5
          clear hP hy hd e1 hcd
          go_wp2_with fail
          go_ret
          exact ⟨rfl, hb13.out.trans (HB.out.mono hb13.out.size)⟩
  · have HR := Bx.mk hR
    have HV := Bx.mk hv
    clear hR hv
    go_enter Try.func8, Try.ntmps8
    go_wp2_with (first
      | (go_at_call 17; refine (head_any _).mono ?_; rintro e w1 ⟨rfl, B1⟩)
      | (go_at_call 25; refine ((divisors_pub ao n c1 M _ hc1 hc2 (HR.out.keep B1)).mono (R' := fun e w' => e = .returned (.tuple #[.slice none 0 0, .int .i64 1]) ∧ Below w1.heap.size w1 w') fun e w' ⟨h, hb⟩ => by
           rcases h with ⟨_, h⟩ | ⟨h, _⟩
           · exact ⟨h, hb⟩
           · exact absurd h HV.out).mono ?_; rintro e w2 ⟨rfl, B2⟩)
      | (go_at_call 20; refine ((hermite_pub ao n c1 M _ hc1 hc2 ((HR.out.keep B1).keep B2)).mono (R' := fun e w' => e = .returned (.tuple #[.slice none 0 0, .int .i64 1]) ∧ Below w2.heap.size w2 w') fun e w' ⟨h, hb⟩ => by
           rcases h with ⟨_, h⟩ | ⟨h, _⟩
           · exact ⟨h, hb⟩
           · exact absurd h HV.out).mono ?_; rintro e w3 ⟨rfl, B3⟩))
    go_ret
    exact ⟨rfl, (B1.trans (B2.mono B1.size)).trans (B3.mono (Nat.le_trans B1.size B2.size))⟩
end Go.Proofs.Ytjnnalfocffggaa

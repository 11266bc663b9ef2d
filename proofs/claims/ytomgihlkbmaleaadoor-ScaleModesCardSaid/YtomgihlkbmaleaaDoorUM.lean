/- The reference's comparison of pitches. -/
import Derived.Test.YtomgihlkbmaleaaDoorP1
import Derived.Test.YtomgihlkbmaleaaDoorP10
import Derived.LoopN
import Derived.Test.YtomgihlkbmaleaaDoorFM
namespace Go.Proofs.YtomgihlkbmaleaaDoor
open Go.RowKit M
theorem rp_valid (v : Nat → Int) (w : World) (b : Bool) (h : bdB v 576 = b) :
    Calls Tryd.prog 36 #[PV v] w fun e w' => e = .returned (.bool b) ∧ Below w.heap.size w w' := by
  have H := Hx.mk h
  clear h
  go_enter Tryd.func36, Tryd.ntmps36
  go_wp2
  go_loop [3] (fun i => ∃ k : Int, 0 ≤ k ∧ k ≤ 6 ∧ i = .int .i64 k ∧ Hx (∀ j : Nat, (j : Int) < k → -576 ≤ v j ∧ v j ≤ 576)) (fun i => 6 - (intOf i).toNat)
  case atStart => exact ⟨0, by omega, by omega, rfl, ⟨fun j hj => by omega⟩⟩
  case round =>
    obtain ⟨k, hk0, hk, rfl, hB⟩ := hrel
    have : k = 0 ∨ k = 1 ∨ k = 2 ∨ k = 3 ∨ k = 4 ∨ k = 5 ∨ k = 6 := by omega
    rcases this with rfl | rfl | rfl | rfl | rfl | rfl | rfl
    · by_cases hin : -576 ≤ v 0 ∧ v 0 ≤ 576
      · have HB : Hx (∀ j : Nat, (j : Int) < 1 → -576 ≤ v j ∧ v j ≤ 576) := ⟨fun j hj => by
          by_cases e : j = 0
          · subst e; exact hin
          · exact hB.out j (by omega)⟩
        obtain ⟨hb1, hb2⟩ := hin
        go_wp2
        go_round
        case rel => exact ⟨1, by omega, by omega, rfl, HB⟩
        case measure => simp [intOf]
      · obtain rfl : b = false := by rw [← H.out, bdB_no]; exact fun hi => hin (hi 0 (by omega))
        by_cases h1 : -576 ≤ v 0
        · have h2 : 576 < v 0 := by omega
          clear hin
          go_wp2
          go_ret
          exact ⟨rfl, (Below.refl _ _).alloc (Nat.le_refl _) _⟩
        · clear hin
          go_wp2
          go_ret
          exact ⟨rfl, (Below.refl _ _).alloc (Nat.le_refl _) _⟩
    · by_cases hin : -576 ≤ v 1 ∧ v 1 ≤ 576
      · have HB : Hx (∀ j : Nat, (j : Int) < 2 → -576 ≤ v j ∧ v j ≤ 576) := ⟨fun j hj => by
          by_cases e : j = 1
          · subst e; exact hin
          · exact hB.out j (by omega)⟩
        obtain ⟨hb1, hb2⟩ := hin
        go_wp2
        go_round
        case rel => exact ⟨2, by omega, by omega, rfl, HB⟩
        case measure => simp [intOf]
      · obtain rfl : b = false := by rw [← H.out, bdB_no]; exact fun hi => hin (hi 1 (by omega))
        by_cases h1 : -576 ≤ v 1
        · have h2 : 576 < v 1 := by omega
          clear hin
          go_wp2
          go_ret
          exact ⟨rfl, (Below.refl _ _).alloc (Nat.le_refl _) _⟩
        · clear hin
          go_wp2
          go_ret
          exact ⟨rfl, (Below.refl _ _).alloc (Nat.le_refl _) _⟩
    · by_cases hin : -576 ≤ v 2 ∧ v 2 ≤ 576
      · have HB : Hx (∀ j : Nat, (j : Int) < 3 → -576 ≤ v j ∧ v j ≤ 576) := ⟨fun j hj => by
          by_cases e : j = 2
          · subst e; exact hin
          · exact hB.out j (by omega)⟩
        obtain ⟨hb1, hb2⟩ := hin
        go_wp2
        go_round
        case rel => exact ⟨3, by omega, by omega, rfl, HB⟩
        case measure => simp [intOf]
      · obtain rfl : b = false := by rw [← H.out, bdB_no]; exact fun hi => hin (hi 2 (by omega))
        by_cases h1 : -576 ≤ v 2
        · have h2 : 576 < v 2 := by omega
          clear hin
          go_wp2
          go_ret
          exact ⟨rfl, (Below.refl _ _).alloc (Nat.le_refl _) _⟩
        · clear hin
          go_wp2
          go_ret
          exact ⟨rfl, (Below.refl _ _).alloc (Nat.le_refl _) _⟩
    · by_cases hin : -576 ≤ v 3 ∧ v 3 ≤ 576
      · have HB : Hx (∀ j : Nat, (j : Int) < 4 → -576 ≤ v j ∧ v j ≤ 576) := ⟨fun j hj => by
          by_cases e : j = 3
          · subst e; exact hin
          · exact hB.out j (by omega)⟩
        obtain ⟨hb1, hb2⟩ := hin
        go_wp2
        go_round
        case rel => exact ⟨4, by omega, by omega, rfl, HB⟩
        case measure => simp [intOf]
      · obtain rfl : b = false := by rw [← H.out, bdB_no]; exact fun hi => hin (hi 3 (by omega))
        by_cases h1 : -576 ≤ v 3
        · have h2 : 576 < v 3 := by omega
          clear hin
          go_wp2
          go_ret
          exact ⟨rfl, (Below.refl _ _).alloc (Nat.le_refl _) _⟩
        · clear hin
          go_wp2
          go_ret
          exact ⟨rfl, (Below.refl _ _).alloc (Nat.le_refl _) _⟩
    · by_cases hin : -576 ≤ v 4 ∧ v 4 ≤ 576
      · have HB : Hx (∀ j : Nat, (j : Int) < 5 → -576 ≤ v j ∧ v j ≤ 576) := ⟨fun j hj => by
          by_cases e : j = 4
          · subst e; exact hin
          · exact hB.out j (by omega)⟩
        obtain ⟨hb1, hb2⟩ := hin
        go_wp2
        go_round
        case rel => exact ⟨5, by omega, by omega, rfl, HB⟩
        case measure => simp [intOf]
      · obtain rfl : b = false := by rw [← H.out, bdB_no]; exact fun hi => hin (hi 4 (by omega))
        by_cases h1 : -576 ≤ v 4
        · have h2 : 576 < v 4 := by omega
          clear hin
          go_wp2
          go_ret
          exact ⟨rfl, (Below.refl _ _).alloc (Nat.le_refl _) _⟩
        · clear hin
          go_wp2
          go_ret
          exact ⟨rfl, (Below.refl _ _).alloc (Nat.le_refl _) _⟩
    · by_cases hin : -576 ≤ v 5 ∧ v 5 ≤ 576
      · have HB : Hx (∀ j : Nat, (j : Int) < 6 → -576 ≤ v j ∧ v j ≤ 576) := ⟨fun j hj => by
          by_cases e : j = 5
          · subst e; exact hin
          · exact hB.out j (by omega)⟩
        obtain ⟨hb1, hb2⟩ := hin
        go_wp2
        go_round
        case rel => exact ⟨6, by omega, by omega, rfl, HB⟩
        case measure => simp [intOf]
      · obtain rfl : b = false := by rw [← H.out, bdB_no]; exact fun hi => hin (hi 5 (by omega))
        by_cases h1 : -576 ≤ v 5
        · have h2 : 576 < v 5 := by omega
          clear hin
          go_wp2
          go_ret
          exact ⟨rfl, (Below.refl _ _).alloc (Nat.le_refl _) _⟩
        · clear hin
          go_wp2
          go_ret
          exact ⟨rfl, (Below.refl _ _).alloc (Nat.le_refl _) _⟩
    · obtain rfl : b = true := by rw [← H.out, bdB_yes]; exact fun i hi => hB.out i (by omega)
      go_wp2
      go_ret
      exact ⟨rfl, (Below.refl _ _).alloc (Nat.le_refl _) _⟩
end Go.Proofs.YtomgihlkbmaleaaDoor
namespace Go.Proofs.YtomgihlkbmaleaaDoor
open Go.RowKit M
/-- The six cells of a block. -/
structure Cel (b : Nat) (W : World) (q : Nat → Int) : Prop where
  cell : ∀ j, j < 6 → W.cell? ⟨b, j, none⟩ = some (.int .i64 (q j))
  fz : ∀ j, j < 6 → W.frozen? ⟨b, j, none⟩ = false
theorem Cel.congr {b : Nat} {W : World} {q r : Nat → Int} (h : Cel b W q) (e : ∀ j, j < 6 → q j = r j) : Cel b W r := ⟨fun j hj => by rw [h.cell j hj, e j hj], h.fz⟩
theorem Cel.later {b B : Nat} {W W' : World} {q : Nat → Int} (h : Cel b W q) (hb : Below B W W') (hB : b < B) : Cel b W' q :=
  ⟨fun j hj => (hb.cell (p := ⟨b, j, none⟩) hB).trans (h.cell j hj), fun j hj => (hb.frozen (p := ⟨b, j, none⟩) hB).trans (h.fz j hj)⟩
theorem Cel.drewN {b : Nat} {W : World} {q : Nat → Int} (h : Cel b W q) (n : Nat) : Cel b (W.drewN n) q := ⟨h.cell, h.fz⟩
theorem Cel.drew {b : Nat} {W : World} {q : Nat → Int} (h : Cel b W q) : Cel b W.drew q := ⟨h.cell, h.fz⟩
theorem Cel.set {b k : Nat} {W : World} {q q' : Nat → Int} (h : Cel b W q) (x : Int) (hk : k < 6) (hq : ∀ j, j < 6 → q' j = if j = k then x else q j) : Cel b (W.setCell ⟨b, k, none⟩ (.int .i64 x)) q' := by
  have hc := h.cell k hk
  constructor
  · intro j hj
    rw [hq j hj]
    by_cases e : j = k
    · subst e
      simp [go_sem, hc]
    · have := h.cell j hj
      have e' : ¬ k = j := fun x => e x.symm
      simp [go_sem, e, e', this]
  · intro j hj
    have := h.fz j hj
    simp [go_sem, this]
theorem Cel.other {b b' o : Nat} {W : World} {q : Nat → Int} (h : Cel b W q) (v : Value) (hne : b ≠ b') : Cel b (W.setCell ⟨b', o, none⟩ v) q := by
  have e' : ¬ b' = b := fun x => hne x.symm
  constructor
  · intro j hj
    have := h.cell j hj
    simp [go_sem, e', hne, this]
  · intro j hj
    have := h.fz j hj
    simp [go_sem, this]
/-- The first k of r, then those of z. -/
def pre (r z : Nat → Int) (k : Int) : Nat → Int := fun j => if (j : Int) < k then r j else z j
theorem pre_zero (r z : Nat → Int) : pre r z 0 = z := by funext j; unfold pre; rw [if_neg (by omega)]
theorem pre_six (r z : Nat → Int) : ∀ j, j < 6 → pre r z 6 j = r j := fun j hj => by unfold pre; rw [if_pos (by omega)]
theorem pre_at (r z : Nat → Int) {k : Nat} {k0 : Int} (h : k0 = (k : Int)) : pre r z k0 k = z k := by unfold pre; rw [if_neg (by omega)]
theorem pre_step (r z : Nat → Int) {k : Nat} {k0 k1 x : Int} (h0 : k0 = (k : Int)) (h1 : k1 = (k : Int) + 1) (hx : r k = x) : ∀ j, j < 6 → pre r z k1 j = if j = k then x else pre r z k0 j := by
  intro j _
  unfold pre
  by_cases e : j = k
  · subst e; rw [if_pos (by omega), if_pos rfl, hx]
  · rw [if_neg e]
    by_cases h : (j : Int) < k0
    · rw [if_pos h, if_pos (by omega)]
    · rw [if_neg h, if_neg (by omega)]
theorem Cel.lit (W : World) (q : Nat → Int) (t : TypeId) : Cel W.heap.size (W.alloc (.cells (PC q) t)) q := by
  constructor
  · refine six ?_ ?_ ?_ ?_ ?_ ?_ <;> simp [go_sem]
  · refine six ?_ ?_ ?_ ?_ ?_ ?_ <;> simp [go_sem]
end Go.Proofs.YtomgihlkbmaleaaDoor
namespace Go.Proofs.YtomgihlkbmaleaaDoor
open Go.RowKit M
theorem refPrime_0 (w : World) : Calls Tryd.prog 91 #[.int .i64 0] w fun e w' => e = .returned (.int .i64 2) ∧ w = w' := by
  go_enter Tryd.func91, Tryd.ntmps91
  go_wp2
  go_ret
  exact ⟨rfl, rfl⟩
theorem mk_0 (w : World) : Calls Tryd.prog 89 #[.int .u64 (IntKind.u64.wrap 2)] w (RetNat w 2) := by
  rw [show IntKind.u64.wrap 2 = 2 from by decide +kernel]; exact refMake_any 2 w (by decide)
theorem refPrime_1 (w : World) : Calls Tryd.prog 91 #[.int .i64 1] w fun e w' => e = .returned (.int .i64 3) ∧ w = w' := by
  go_enter Tryd.func91, Tryd.ntmps91
  go_wp2
  go_ret
  exact ⟨rfl, rfl⟩
theorem mk_1 (w : World) : Calls Tryd.prog 89 #[.int .u64 (IntKind.u64.wrap 3)] w (RetNat w 3) := by
  rw [show IntKind.u64.wrap 3 = 3 from by decide +kernel]; exact refMake_any 3 w (by decide)
theorem refPrime_2 (w : World) : Calls Tryd.prog 91 #[.int .i64 2] w fun e w' => e = .returned (.int .i64 5) ∧ w = w' := by
  go_enter Tryd.func91, Tryd.ntmps91
  go_wp2
  go_ret
  exact ⟨rfl, rfl⟩
theorem mk_2 (w : World) : Calls Tryd.prog 89 #[.int .u64 (IntKind.u64.wrap 5)] w (RetNat w 5) := by
  rw [show IntKind.u64.wrap 5 = 5 from by decide +kernel]; exact refMake_any 5 w (by decide)
theorem refPrime_3 (w : World) : Calls Tryd.prog 91 #[.int .i64 3] w fun e w' => e = .returned (.int .i64 7) ∧ w = w' := by
  go_enter Tryd.func91, Tryd.ntmps91
  go_wp2
  go_ret
  exact ⟨rfl, rfl⟩
theorem mk_3 (w : World) : Calls Tryd.prog 89 #[.int .u64 (IntKind.u64.wrap 7)] w (RetNat w 7) := by
  rw [show IntKind.u64.wrap 7 = 7 from by decide +kernel]; exact refMake_any 7 w (by decide)
theorem refPrime_4 (w : World) : Calls Tryd.prog 91 #[.int .i64 4] w fun e w' => e = .returned (.int .i64 11) ∧ w = w' := by
  go_enter Tryd.func91, Tryd.ntmps91
  go_wp2
  go_ret
  exact ⟨rfl, rfl⟩
theorem mk_4 (w : World) : Calls Tryd.prog 89 #[.int .u64 (IntKind.u64.wrap 11)] w (RetNat w 11) := by
  rw [show IntKind.u64.wrap 11 = 11 from by decide +kernel]; exact refMake_any 11 w (by decide)
theorem refPrime_5 (w : World) : Calls Tryd.prog 91 #[.int .i64 5] w fun e w' => e = .returned (.int .i64 13) ∧ w = w' := by
  go_enter Tryd.func91, Tryd.ntmps91
  go_wp2
  go_ret
  exact ⟨rfl, rfl⟩
theorem mk_5 (w : World) : Calls Tryd.prog 89 #[.int .u64 (IntKind.u64.wrap 13)] w (RetNat w 13) := by
  rw [show IntKind.u64.wrap 13 = 13 from by decide +kernel]; exact refMake_any 13 w (by decide)
theorem mk_one (w : World) : Calls Tryd.prog 89 #[.int .u64 1] w (RetNat w 1) := refMake_any 1 w (by decide)
theorem lim_fits {u : Nat → Int} (h : ∀ i, i < 6 → u i ≤ 1152) {k : Nat} (hk : k ≤ 6) : Fits (upN u k) := (show Fits (up u) from ⟨by rw [← pw_natP 640]; exact Int.ofNat_lt.2 (up_fits h)⟩).mono (upN_mono u hk)
theorem pow_fits {u : Nat → Int} (h : ∀ i, i < 6 → u i ≤ 1152) {k n p : Nat} (hk : k < 6) (hn : u k = (n : Int)) (hp : pr k = p) : Fits (p ^ n) ∧ upN u (k + 1) = upN u k * p ^ n := by
  have e : upN u (k + 1) = upN u k * p ^ n := by rw [upN, hn, hp]; rfl
  refine ⟨(lim_fits h (k := k + 1) (by omega)).mono ?_, e⟩
  rw [e]
  exact Nat.le_mul_of_pos_left _ (upN_pos u k)
set_option maxHeartbeats 8000000 in
theorem refProduct_prod (l u : Nat → Int) (s : Int) (w : World) (hu : ∀ i, i < 6 → l i * s = u i) (hl : ∀ i, i < 6 → -1152 ≤ u i ∧ u i ≤ 1152) : Calls Tryd.prog 75 #[PV l, .int .i64 s] w (RetNat w (up u)) := by
  have HU := Hx.mk hu
  have HL := Hx.mk hl
  have HL2 : Hx (∀ i, i < 6 → u i ≤ 1152) := ⟨fun i hi => (hl i hi).2⟩
  clear hu hl
  go_enter Tryd.func75, Tryd.ntmps75
  go_wp2_with fail
  refine (mk_one _).mono ?_
  rintro e w1 ⟨v1, rfl, hr1, hb1⟩
  have HC1 : Hx (Cel w.heap.size w1 l) := ⟨(Cel.lit w l _).later hb1 (by simp)⟩
  have HB1 : Hx (Below w.heap.size w w1) := ⟨((Below.refl _ _).alloc (Nat.le_refl _) _).trans (hb1.mono (by simp))⟩
  have HS1 := hb1.size
  simp at HS1
  have HR1 := Hx.mk hr1
  clear hr1 hb1
  go_wp2_with fail
  go_loopw [5, 6] (fun ov iv wr => ∃ k : Int, 0 ≤ k ∧ k ≤ 6 ∧ iv = .int .i64 k ∧ Hx (Rd wr ov (limbs (upN u k.toNat))) ∧ Hx (Cel w.heap.size wr l) ∧ Hx (Below w.heap.size w wr) ∧ w.heap.size < wr.heap.size) (fun _ iv _ => 6 - (intOf iv).toNat)
  case atStart => exact ⟨0, by omega, by omega, rfl, HR1, HC1, HB1, by omega⟩
  case round =>
    clear HR1 HC1 HB1 HS1
    obtain ⟨k, hk0, hk, rfl, HR, HC, HB, hsz⟩ := hrel
    have : k = 0 ∨ k = 1 ∨ k = 2 ∨ k = 3 ∨ k = 4 ∨ k = 5 ∨ k = 6 := by omega
    rcases this with rfl | rfl | rfl | rfl | rfl | rfl | rfl
    · have cHC := HC.out.cell 0 (by omega)
      obtain ⟨x, hx⟩ : ∃ x, l 0 = x := ⟨_, rfl⟩
      rw [hx] at cHC
      have ex : x * s = u 0 := by rw [← hx]; exact HU.out 0 (by omega)
      have hL := HL.out 0 (by omega)
      by_cases hp : 0 < u 0
      · obtain ⟨n, hn⟩ := Int.eq_ofNat_of_zero_le (Int.le_of_lt hp)
        rw [hn] at ex hL hp
        have hn0 : 0 < n := by omega
        have hn1 : n ≤ 1152 := by omega
        have hwn : IntKind.i64.wrap (n : Int) = (n : Int) := IntWalk.i64_in _ ⟨by omega, by omega⟩
        obtain ⟨hpf, hup⟩ := pow_fits HL2.out (k := 0) (n := n) (p := 2) (by omega) hn rfl
        have HPF := Hx.mk hpf
        have HUP := Hx.mk hup
        obtain ⟨ov1, oc, rfl, hoc, hom, hox⟩ := HR.out.shape
        have HPWG : Hx (∀ mo mc w3, CellsK .u32 w3 mo (limbs 2) → Calls Tryd.prog 90 #[.slice mo (limbs 2).length mc, .int .i64 n] w3 (OutN w3 (2 ^ n) 0)) := ⟨fun mo mc w3 h => refPow_big mo 2 n _ mc w3 (fits_u64 (by decide)) (by decide) rfl hn0 (by omega) h _ (fun _ _ _ h => h) (fun ho => (HPF.out.not ho).elim)⟩
        clear hpf hup hn hx hL hoc hom hox
        go_wp2_with fail
        go_region_with (first
          | (go_at_call 91; (with_reducible refine (refPrime_0 _).mono ?_); rintro e w2 ⟨rfl, rfl⟩)
          | (go_at_call 89; (with_reducible refine (mk_0 _).mono ?_); rintro e w3 ⟨v3, rfl, hr3, hb3⟩; obtain ⟨mo, mc, rfl, hmc, hmm, hmx⟩ := hr3.shape; have HB3 : Hx (Below wr.heap.size wr w3) := ⟨((Below.refl _ _).drew).trans (hb3.mono (Nat.le_refl _))⟩; have cHC3 := (HB3.out.cell (p := ⟨w.heap.size, 0, none⟩) hsz).trans cHC; have HPW := Hx.mk (HPWG.out mo mc w3 hmx); clear hr3 hb3 hmc hmm hmx)
          | (go_at_call 90; (with_reducible refine HPW.out.mono ?_); rintro e w4 ⟨v4, rfl, hr4, hb4⟩; have HR4 := Hx.mk hr4; have HB4 : Hx (Below wr.heap.size wr w4) := ⟨HB3.out.trans (hb4.mono HB3.out.size)⟩; clear hr4 hb4 HPW))
        all_goals
          obtain ⟨po, pc, rfl, hpc, hpm, hpx⟩ := HR4.out.shape
          have hr := HR.out.keep HB4.out
          obtain ⟨ov2, oc2, e2, hoc, hom, hox⟩ := hr.shape
          simp only [Value.slice.injEq] at e2
          obtain ⟨rfl, -, rfl⟩ := e2
          have HMU := Hx.mk (refMul_gen ov1 po (upN u 0) (2 ^ n) _ _ oc pc w4 rfl rfl (lim_fits HL2.out (by omega)) HPF.out hox hpx (upN u 1) 0 (.inl ⟨by rw [← HUP.out]; exact lim_fits HL2.out (by omega), HUP.out, rfl⟩))
          clear hpc hpm hpx hr hoc hom hox
          go_wp2_with fail
          refine HMU.out.mono ?_
          rintro e w5 ⟨v5, rfl, hr5, hb5⟩
          have HB5 : Hx (Below wr.heap.size wr w5) := ⟨HB4.out.trans (hb5.mono HB4.out.size)⟩
          have HR5 := Hx.mk hr5
          clear hr5 hb5 HMU
          go_wp2
          go_roundw
          case rel => exact ⟨1, by omega, by omega, rfl, HR5, ⟨HC.out.later HB5.out hsz⟩, ⟨HB.out.trans (HB5.out.mono HB.out.size)⟩, Nat.lt_of_lt_of_le hsz HB5.out.size⟩
          case measure => simp [intOf]
      · have hup : upN u 1 = upN u 0 := by
          have e0 : (u 0).toNat = 0 := by omega
          rw [show upN u 1 = upN u 0 * pr 0 ^ (u 0).toNat from rfl, e0, Nat.pow_zero, Nat.mul_one]
        obtain ⟨y, hy⟩ : ∃ y, u 0 = y := ⟨_, rfl⟩
        rw [hy] at ex hL hp
        have HUP := Hx.mk hup
        clear hup hy hx
        go_wp2
        go_roundw
        case rel => exact ⟨1, by omega, by omega, rfl, ⟨by rw [show ((1 : Int).toNat) = 1 from rfl, HUP.out]; exact HR.out⟩, HC, HB, hsz⟩
        case measure => simp [intOf]
    · have cHC := HC.out.cell 1 (by omega)
      obtain ⟨x, hx⟩ : ∃ x, l 1 = x := ⟨_, rfl⟩
      rw [hx] at cHC
      have ex : x * s = u 1 := by rw [← hx]; exact HU.out 1 (by omega)
      have hL := HL.out 1 (by omega)
      by_cases hp : 0 < u 1
      · obtain ⟨n, hn⟩ := Int.eq_ofNat_of_zero_le (Int.le_of_lt hp)
        rw [hn] at ex hL hp
        have hn0 : 0 < n := by omega
        have hn1 : n ≤ 1152 := by omega
        have hwn : IntKind.i64.wrap (n : Int) = (n : Int) := IntWalk.i64_in _ ⟨by omega, by omega⟩
        obtain ⟨hpf, hup⟩ := pow_fits HL2.out (k := 1) (n := n) (p := 3) (by omega) hn rfl
        have HPF := Hx.mk hpf
        have HUP := Hx.mk hup
        obtain ⟨ov1, oc, rfl, hoc, hom, hox⟩ := HR.out.shape
        have HPWG : Hx (∀ mo mc w3, CellsK .u32 w3 mo (limbs 3) → Calls Tryd.prog 90 #[.slice mo (limbs 3).length mc, .int .i64 n] w3 (OutN w3 (3 ^ n) 0)) := ⟨fun mo mc w3 h => refPow_big mo 3 n _ mc w3 (fits_u64 (by decide)) (by decide) rfl hn0 (by omega) h _ (fun _ _ _ h => h) (fun ho => (HPF.out.not ho).elim)⟩
        clear hpf hup hn hx hL hoc hom hox
        go_wp2_with fail
        go_region_with (first
          | (go_at_call 91; (with_reducible refine (refPrime_1 _).mono ?_); rintro e w2 ⟨rfl, rfl⟩)
          | (go_at_call 89; (with_reducible refine (mk_1 _).mono ?_); rintro e w3 ⟨v3, rfl, hr3, hb3⟩; obtain ⟨mo, mc, rfl, hmc, hmm, hmx⟩ := hr3.shape; have HB3 : Hx (Below wr.heap.size wr w3) := ⟨((Below.refl _ _).drew).trans (hb3.mono (Nat.le_refl _))⟩; have cHC3 := (HB3.out.cell (p := ⟨w.heap.size, 1, none⟩) hsz).trans cHC; have HPW := Hx.mk (HPWG.out mo mc w3 hmx); clear hr3 hb3 hmc hmm hmx)
          | (go_at_call 90; (with_reducible refine HPW.out.mono ?_); rintro e w4 ⟨v4, rfl, hr4, hb4⟩; have HR4 := Hx.mk hr4; have HB4 : Hx (Below wr.heap.size wr w4) := ⟨HB3.out.trans (hb4.mono HB3.out.size)⟩; clear hr4 hb4 HPW))
        all_goals
          obtain ⟨po, pc, rfl, hpc, hpm, hpx⟩ := HR4.out.shape
          have hr := HR.out.keep HB4.out
          obtain ⟨ov2, oc2, e2, hoc, hom, hox⟩ := hr.shape
          simp only [Value.slice.injEq] at e2
          obtain ⟨rfl, -, rfl⟩ := e2
          have HMU := Hx.mk (refMul_gen ov1 po (upN u 1) (3 ^ n) _ _ oc pc w4 rfl rfl (lim_fits HL2.out (by omega)) HPF.out hox hpx (upN u 2) 0 (.inl ⟨by rw [← HUP.out]; exact lim_fits HL2.out (by omega), HUP.out, rfl⟩))
          clear hpc hpm hpx hr hoc hom hox
          go_wp2_with fail
          refine HMU.out.mono ?_
          rintro e w5 ⟨v5, rfl, hr5, hb5⟩
          have HB5 : Hx (Below wr.heap.size wr w5) := ⟨HB4.out.trans (hb5.mono HB4.out.size)⟩
          have HR5 := Hx.mk hr5
          clear hr5 hb5 HMU
          go_wp2
          go_roundw
          case rel => exact ⟨2, by omega, by omega, rfl, HR5, ⟨HC.out.later HB5.out hsz⟩, ⟨HB.out.trans (HB5.out.mono HB.out.size)⟩, Nat.lt_of_lt_of_le hsz HB5.out.size⟩
          case measure => simp [intOf]
      · have hup : upN u 2 = upN u 1 := by
          have e0 : (u 1).toNat = 0 := by omega
          rw [show upN u 2 = upN u 1 * pr 1 ^ (u 1).toNat from rfl, e0, Nat.pow_zero, Nat.mul_one]
        obtain ⟨y, hy⟩ : ∃ y, u 1 = y := ⟨_, rfl⟩
        rw [hy] at ex hL hp
        have HUP := Hx.mk hup
        clear hup hy hx
        go_wp2
        go_roundw
        case rel => exact ⟨2, by omega, by omega, rfl, ⟨by rw [show ((2 : Int).toNat) = 2 from rfl, HUP.out]; exact HR.out⟩, HC, HB, hsz⟩
        case measure => simp [intOf]
    · have cHC := HC.out.cell 2 (by omega)
      obtain ⟨x, hx⟩ : ∃ x, l 2 = x := ⟨_, rfl⟩
      rw [hx] at cHC
      have ex : x * s = u 2 := by rw [← hx]; exact HU.out 2 (by omega)
      have hL := HL.out 2 (by omega)
      by_cases hp : 0 < u 2
      · obtain ⟨n, hn⟩ := Int.eq_ofNat_of_zero_le (Int.le_of_lt hp)
        rw [hn] at ex hL hp
        have hn0 : 0 < n := by omega
        have hn1 : n ≤ 1152 := by omega
        have hwn : IntKind.i64.wrap (n : Int) = (n : Int) := IntWalk.i64_in _ ⟨by omega, by omega⟩
        obtain ⟨hpf, hup⟩ := pow_fits HL2.out (k := 2) (n := n) (p := 5) (by omega) hn rfl
        have HPF := Hx.mk hpf
        have HUP := Hx.mk hup
        obtain ⟨ov1, oc, rfl, hoc, hom, hox⟩ := HR.out.shape
        have HPWG : Hx (∀ mo mc w3, CellsK .u32 w3 mo (limbs 5) → Calls Tryd.prog 90 #[.slice mo (limbs 5).length mc, .int .i64 n] w3 (OutN w3 (5 ^ n) 0)) := ⟨fun mo mc w3 h => refPow_big mo 5 n _ mc w3 (fits_u64 (by decide)) (by decide) rfl hn0 (by omega) h _ (fun _ _ _ h => h) (fun ho => (HPF.out.not ho).elim)⟩
        clear hpf hup hn hx hL hoc hom hox
        go_wp2_with fail
        go_region_with (first
          | (go_at_call 91; (with_reducible refine (refPrime_2 _).mono ?_); rintro e w2 ⟨rfl, rfl⟩)
          | (go_at_call 89; (with_reducible refine (mk_2 _).mono ?_); rintro e w3 ⟨v3, rfl, hr3, hb3⟩; obtain ⟨mo, mc, rfl, hmc, hmm, hmx⟩ := hr3.shape; have HB3 : Hx (Below wr.heap.size wr w3) := ⟨((Below.refl _ _).drew).trans (hb3.mono (Nat.le_refl _))⟩; have cHC3 := (HB3.out.cell (p := ⟨w.heap.size, 2, none⟩) hsz).trans cHC; have HPW := Hx.mk (HPWG.out mo mc w3 hmx); clear hr3 hb3 hmc hmm hmx)
          | (go_at_call 90; (with_reducible refine HPW.out.mono ?_); rintro e w4 ⟨v4, rfl, hr4, hb4⟩; have HR4 := Hx.mk hr4; have HB4 : Hx (Below wr.heap.size wr w4) := ⟨HB3.out.trans (hb4.mono HB3.out.size)⟩; clear hr4 hb4 HPW))
        all_goals
          obtain ⟨po, pc, rfl, hpc, hpm, hpx⟩ := HR4.out.shape
          have hr := HR.out.keep HB4.out
          obtain ⟨ov2, oc2, e2, hoc, hom, hox⟩ := hr.shape
          simp only [Value.slice.injEq] at e2
          obtain ⟨rfl, -, rfl⟩ := e2
          have HMU := Hx.mk (refMul_gen ov1 po (upN u 2) (5 ^ n) _ _ oc pc w4 rfl rfl (lim_fits HL2.out (by omega)) HPF.out hox hpx (upN u 3) 0 (.inl ⟨by rw [← HUP.out]; exact lim_fits HL2.out (by omega), HUP.out, rfl⟩))
          clear hpc hpm hpx hr hoc hom hox
          go_wp2_with fail
          refine HMU.out.mono ?_
          rintro e w5 ⟨v5, rfl, hr5, hb5⟩
          have HB5 : Hx (Below wr.heap.size wr w5) := ⟨HB4.out.trans (hb5.mono HB4.out.size)⟩
          have HR5 := Hx.mk hr5
          clear hr5 hb5 HMU
          go_wp2
          go_roundw
          case rel => exact ⟨3, by omega, by omega, rfl, HR5, ⟨HC.out.later HB5.out hsz⟩, ⟨HB.out.trans (HB5.out.mono HB.out.size)⟩, Nat.lt_of_lt_of_le hsz HB5.out.size⟩
          case measure => simp [intOf]
      · have hup : upN u 3 = upN u 2 := by
          have e0 : (u 2).toNat = 0 := by omega
          rw [show upN u 3 = upN u 2 * pr 2 ^ (u 2).toNat from rfl, e0, Nat.pow_zero, Nat.mul_one]
        obtain ⟨y, hy⟩ : ∃ y, u 2 = y := ⟨_, rfl⟩
        rw [hy] at ex hL hp
        have HUP := Hx.mk hup
        clear hup hy hx
        go_wp2
        go_roundw
        case rel => exact ⟨3, by omega, by omega, rfl, ⟨by rw [show ((3 : Int).toNat) = 3 from rfl, HUP.out]; exact HR.out⟩, HC, HB, hsz⟩
        case measure => simp [intOf]
    · have cHC := HC.out.cell 3 (by omega)
      obtain ⟨x, hx⟩ : ∃ x, l 3 = x := ⟨_, rfl⟩
      rw [hx] at cHC
      have ex : x * s = u 3 := by rw [← hx]; exact HU.out 3 (by omega)
      have hL := HL.out 3 (by omega)
      by_cases hp : 0 < u 3
      · obtain ⟨n, hn⟩ := Int.eq_ofNat_of_zero_le (Int.le_of_lt hp)
        rw [hn] at ex hL hp
        have hn0 : 0 < n := by omega
        have hn1 : n ≤ 1152 := by omega
        have hwn : IntKind.i64.wrap (n : Int) = (n : Int) := IntWalk.i64_in _ ⟨by omega, by omega⟩
        obtain ⟨hpf, hup⟩ := pow_fits HL2.out (k := 3) (n := n) (p := 7) (by omega) hn rfl
        have HPF := Hx.mk hpf
        have HUP := Hx.mk hup
        obtain ⟨ov1, oc, rfl, hoc, hom, hox⟩ := HR.out.shape
        have HPWG : Hx (∀ mo mc w3, CellsK .u32 w3 mo (limbs 7) → Calls Tryd.prog 90 #[.slice mo (limbs 7).length mc, .int .i64 n] w3 (OutN w3 (7 ^ n) 0)) := ⟨fun mo mc w3 h => refPow_big mo 7 n _ mc w3 (fits_u64 (by decide)) (by decide) rfl hn0 (by omega) h _ (fun _ _ _ h => h) (fun ho => (HPF.out.not ho).elim)⟩
        clear hpf hup hn hx hL hoc hom hox
        go_wp2_with fail
        go_region_with (first
          | (go_at_call 91; (with_reducible refine (refPrime_3 _).mono ?_); rintro e w2 ⟨rfl, rfl⟩)
          | (go_at_call 89; (with_reducible refine (mk_3 _).mono ?_); rintro e w3 ⟨v3, rfl, hr3, hb3⟩; obtain ⟨mo, mc, rfl, hmc, hmm, hmx⟩ := hr3.shape; have HB3 : Hx (Below wr.heap.size wr w3) := ⟨((Below.refl _ _).drew).trans (hb3.mono (Nat.le_refl _))⟩; have cHC3 := (HB3.out.cell (p := ⟨w.heap.size, 3, none⟩) hsz).trans cHC; have HPW := Hx.mk (HPWG.out mo mc w3 hmx); clear hr3 hb3 hmc hmm hmx)
          | (go_at_call 90; (with_reducible refine HPW.out.mono ?_); rintro e w4 ⟨v4, rfl, hr4, hb4⟩; have HR4 := Hx.mk hr4; have HB4 : Hx (Below wr.heap.size wr w4) := ⟨HB3.out.trans (hb4.mono HB3.out.size)⟩; clear hr4 hb4 HPW))
        all_goals
          obtain ⟨po, pc, rfl, hpc, hpm, hpx⟩ := HR4.out.shape
          have hr := HR.out.keep HB4.out
          obtain ⟨ov2, oc2, e2, hoc, hom, hox⟩ := hr.shape
          simp only [Value.slice.injEq] at e2
          obtain ⟨rfl, -, rfl⟩ := e2
          have HMU := Hx.mk (refMul_gen ov1 po (upN u 3) (7 ^ n) _ _ oc pc w4 rfl rfl (lim_fits HL2.out (by omega)) HPF.out hox hpx (upN u 4) 0 (.inl ⟨by rw [← HUP.out]; exact lim_fits HL2.out (by omega), HUP.out, rfl⟩))
          clear hpc hpm hpx hr hoc hom hox
          go_wp2_with fail
          refine HMU.out.mono ?_
          rintro e w5 ⟨v5, rfl, hr5, hb5⟩
          have HB5 : Hx (Below wr.heap.size wr w5) := ⟨HB4.out.trans (hb5.mono HB4.out.size)⟩
          have HR5 := Hx.mk hr5
          clear hr5 hb5 HMU
          go_wp2
          go_roundw
          case rel => exact ⟨4, by omega, by omega, rfl, HR5, ⟨HC.out.later HB5.out hsz⟩, ⟨HB.out.trans (HB5.out.mono HB.out.size)⟩, Nat.lt_of_lt_of_le hsz HB5.out.size⟩
          case measure => simp [intOf]
      · have hup : upN u 4 = upN u 3 := by
          have e0 : (u 3).toNat = 0 := by omega
          rw [show upN u 4 = upN u 3 * pr 3 ^ (u 3).toNat from rfl, e0, Nat.pow_zero, Nat.mul_one]
        obtain ⟨y, hy⟩ : ∃ y, u 3 = y := ⟨_, rfl⟩
        rw [hy] at ex hL hp
        have HUP := Hx.mk hup
        clear hup hy hx
        go_wp2
        go_roundw
        case rel => exact ⟨4, by omega, by omega, rfl, ⟨by rw [show ((4 : Int).toNat) = 4 from rfl, HUP.out]; exact HR.out⟩, HC, HB, hsz⟩
        case measure => simp [intOf]
    · have cHC := HC.out.cell 4 (by omega)
      obtain ⟨x, hx⟩ : ∃ x, l 4 = x := ⟨_, rfl⟩
      rw [hx] at cHC
      have ex : x * s = u 4 := by rw [← hx]; exact HU.out 4 (by omega)
      have hL := HL.out 4 (by omega)
      by_cases hp : 0 < u 4
      · obtain ⟨n, hn⟩ := Int.eq_ofNat_of_zero_le (Int.le_of_lt hp)
        rw [hn] at ex hL hp
        have hn0 : 0 < n := by omega
        have hn1 : n ≤ 1152 := by omega
        have hwn : IntKind.i64.wrap (n : Int) = (n : Int) := IntWalk.i64_in _ ⟨by omega, by omega⟩
        obtain ⟨hpf, hup⟩ := pow_fits HL2.out (k := 4) (n := n) (p := 11) (by omega) hn rfl
        have HPF := Hx.mk hpf
        have HUP := Hx.mk hup
        obtain ⟨ov1, oc, rfl, hoc, hom, hox⟩ := HR.out.shape
        have HPWG : Hx (∀ mo mc w3, CellsK .u32 w3 mo (limbs 11) → Calls Tryd.prog 90 #[.slice mo (limbs 11).length mc, .int .i64 n] w3 (OutN w3 (11 ^ n) 0)) := ⟨fun mo mc w3 h => refPow_big mo 11 n _ mc w3 (fits_u64 (by decide)) (by decide) rfl hn0 (by omega) h _ (fun _ _ _ h => h) (fun ho => (HPF.out.not ho).elim)⟩
        clear hpf hup hn hx hL hoc hom hox
        go_wp2_with fail
        go_region_with (first
          | (go_at_call 91; (with_reducible refine (refPrime_4 _).mono ?_); rintro e w2 ⟨rfl, rfl⟩)
          | (go_at_call 89; (with_reducible refine (mk_4 _).mono ?_); rintro e w3 ⟨v3, rfl, hr3, hb3⟩; obtain ⟨mo, mc, rfl, hmc, hmm, hmx⟩ := hr3.shape; have HB3 : Hx (Below wr.heap.size wr w3) := ⟨((Below.refl _ _).drew).trans (hb3.mono (Nat.le_refl _))⟩; have cHC3 := (HB3.out.cell (p := ⟨w.heap.size, 4, none⟩) hsz).trans cHC; have HPW := Hx.mk (HPWG.out mo mc w3 hmx); clear hr3 hb3 hmc hmm hmx)
          | (go_at_call 90; (with_reducible refine HPW.out.mono ?_); rintro e w4 ⟨v4, rfl, hr4, hb4⟩; have HR4 := Hx.mk hr4; have HB4 : Hx (Below wr.heap.size wr w4) := ⟨HB3.out.trans (hb4.mono HB3.out.size)⟩; clear hr4 hb4 HPW))
        all_goals
          obtain ⟨po, pc, rfl, hpc, hpm, hpx⟩ := HR4.out.shape
          have hr := HR.out.keep HB4.out
          obtain ⟨ov2, oc2, e2, hoc, hom, hox⟩ := hr.shape
          simp only [Value.slice.injEq] at e2
          obtain ⟨rfl, -, rfl⟩ := e2
          have HMU := Hx.mk (refMul_gen ov1 po (upN u 4) (11 ^ n) _ _ oc pc w4 rfl rfl (lim_fits HL2.out (by omega)) HPF.out hox hpx (upN u 5) 0 (.inl ⟨by rw [← HUP.out]; exact lim_fits HL2.out (by omega), HUP.out, rfl⟩))
          clear hpc hpm hpx hr hoc hom hox
          go_wp2_with fail
          refine HMU.out.mono ?_
          rintro e w5 ⟨v5, rfl, hr5, hb5⟩
          have HB5 : Hx (Below wr.heap.size wr w5) := ⟨HB4.out.trans (hb5.mono HB4.out.size)⟩
          have HR5 := Hx.mk hr5
          clear hr5 hb5 HMU
          go_wp2
          go_roundw
          case rel => exact ⟨5, by omega, by omega, rfl, HR5, ⟨HC.out.later HB5.out hsz⟩, ⟨HB.out.trans (HB5.out.mono HB.out.size)⟩, Nat.lt_of_lt_of_le hsz HB5.out.size⟩
          case measure => simp [intOf]
      · have hup : upN u 5 = upN u 4 := by
          have e0 : (u 4).toNat = 0 := by omega
          rw [show upN u 5 = upN u 4 * pr 4 ^ (u 4).toNat from rfl, e0, Nat.pow_zero, Nat.mul_one]
        obtain ⟨y, hy⟩ : ∃ y, u 4 = y := ⟨_, rfl⟩
        rw [hy] at ex hL hp
        have HUP := Hx.mk hup
        clear hup hy hx
        go_wp2
        go_roundw
        case rel => exact ⟨5, by omega, by omega, rfl, ⟨by rw [show ((5 : Int).toNat) = 5 from rfl, HUP.out]; exact HR.out⟩, HC, HB, hsz⟩
        case measure => simp [intOf]
    · have cHC := HC.out.cell 5 (by omega)
      obtain ⟨x, hx⟩ : ∃ x, l 5 = x := ⟨_, rfl⟩
      rw [hx] at cHC
      have ex : x * s = u 5 := by rw [← hx]; exact HU.out 5 (by omega)
      have hL := HL.out 5 (by omega)
      by_cases hp : 0 < u 5
      · obtain ⟨n, hn⟩ := Int.eq_ofNat_of_zero_le (Int.le_of_lt hp)
        rw [hn] at ex hL hp
        have hn0 : 0 < n := by omega
        have hn1 : n ≤ 1152 := by omega
        have hwn : IntKind.i64.wrap (n : Int) = (n : Int) := IntWalk.i64_in _ ⟨by omega, by omega⟩
        obtain ⟨hpf, hup⟩ := pow_fits HL2.out (k := 5) (n := n) (p := 13) (by omega) hn rfl
        have HPF := Hx.mk hpf
        have HUP := Hx.mk hup
        obtain ⟨ov1, oc, rfl, hoc, hom, hox⟩ := HR.out.shape
        have HPWG : Hx (∀ mo mc w3, CellsK .u32 w3 mo (limbs 13) → Calls Tryd.prog 90 #[.slice mo (limbs 13).length mc, .int .i64 n] w3 (OutN w3 (13 ^ n) 0)) := ⟨fun mo mc w3 h => refPow_big mo 13 n _ mc w3 (fits_u64 (by decide)) (by decide) rfl hn0 (by omega) h _ (fun _ _ _ h => h) (fun ho => (HPF.out.not ho).elim)⟩
        clear hpf hup hn hx hL hoc hom hox
        go_wp2_with fail
        go_region_with (first
          | (go_at_call 91; (with_reducible refine (refPrime_5 _).mono ?_); rintro e w2 ⟨rfl, rfl⟩)
          | (go_at_call 89; (with_reducible refine (mk_5 _).mono ?_); rintro e w3 ⟨v3, rfl, hr3, hb3⟩; obtain ⟨mo, mc, rfl, hmc, hmm, hmx⟩ := hr3.shape; have HB3 : Hx (Below wr.heap.size wr w3) := ⟨((Below.refl _ _).drew).trans (hb3.mono (Nat.le_refl _))⟩; have cHC3 := (HB3.out.cell (p := ⟨w.heap.size, 5, none⟩) hsz).trans cHC; have HPW := Hx.mk (HPWG.out mo mc w3 hmx); clear hr3 hb3 hmc hmm hmx)
          | (go_at_call 90; (with_reducible refine HPW.out.mono ?_); rintro e w4 ⟨v4, rfl, hr4, hb4⟩; have HR4 := Hx.mk hr4; have HB4 : Hx (Below wr.heap.size wr w4) := ⟨HB3.out.trans (hb4.mono HB3.out.size)⟩; clear hr4 hb4 HPW))
        all_goals
          obtain ⟨po, pc, rfl, hpc, hpm, hpx⟩ := HR4.out.shape
          have hr := HR.out.keep HB4.out
          obtain ⟨ov2, oc2, e2, hoc, hom, hox⟩ := hr.shape
          simp only [Value.slice.injEq] at e2
          obtain ⟨rfl, -, rfl⟩ := e2
          have HMU := Hx.mk (refMul_gen ov1 po (upN u 5) (13 ^ n) _ _ oc pc w4 rfl rfl (lim_fits HL2.out (by omega)) HPF.out hox hpx (upN u 6) 0 (.inl ⟨by rw [← HUP.out]; exact lim_fits HL2.out (by omega), HUP.out, rfl⟩))
          clear hpc hpm hpx hr hoc hom hox
          go_wp2_with fail
          refine HMU.out.mono ?_
          rintro e w5 ⟨v5, rfl, hr5, hb5⟩
          have HB5 : Hx (Below wr.heap.size wr w5) := ⟨HB4.out.trans (hb5.mono HB4.out.size)⟩
          have HR5 := Hx.mk hr5
          clear hr5 hb5 HMU
          go_wp2
          go_roundw
          case rel => exact ⟨6, by omega, by omega, rfl, HR5, ⟨HC.out.later HB5.out hsz⟩, ⟨HB.out.trans (HB5.out.mono HB.out.size)⟩, Nat.lt_of_lt_of_le hsz HB5.out.size⟩
          case measure => simp [intOf]
      · have hup : upN u 6 = upN u 5 := by
          have e0 : (u 5).toNat = 0 := by omega
          rw [show upN u 6 = upN u 5 * pr 5 ^ (u 5).toNat from rfl, e0, Nat.pow_zero, Nat.mul_one]
        obtain ⟨y, hy⟩ : ∃ y, u 5 = y := ⟨_, rfl⟩
        rw [hy] at ex hL hp
        have HUP := Hx.mk hup
        clear hup hy hx
        go_wp2
        go_roundw
        case rel => exact ⟨6, by omega, by omega, rfl, ⟨by rw [show ((6 : Int).toNat) = 6 from rfl, HUP.out]; exact HR.out⟩, HC, HB, hsz⟩
        case measure => simp [intOf]
    · go_wp2
      go_ret
      exact ⟨_, rfl, HR.out, HB.out⟩
end Go.Proofs.YtomgihlkbmaleaaDoor

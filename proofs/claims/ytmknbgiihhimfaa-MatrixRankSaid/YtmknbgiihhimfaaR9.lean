/- the law's combination. -/
import Derived.Test.YtmknbgiihhimfaaR8
namespace Go.Proofs.Ytmknbgiihhimfaa
open Go.RowKit D
/-- What the taking apart keeps to. -/
structure Tk (H : Mat) (p : Nat → Nat) (v : Nat → Int) (n : Nat) : Prop where
  lt : ∀ k, k < n → p k < 6
  pos : ∀ k, k < n → 1 ≤ H k (p k)
  left : ∀ k j, k < n → j < p k → H k j = 0
  ent : ∀ k j, k < n → j < 6 → -6000000000 ≤ H k j ∧ H k j ≤ 6000000000
  val : ∀ k j, k ≤ n → j < 6 → -400000000000000 ≤ tk H p v k j ∧ tk H p v k j ≤ 400000000000000
  cs : ∀ k, k < n → -63000 ≤ ck H p v k ∧ ck H p v k ≤ 63000
  prod : ∀ k j, k < n → j < 6 → -400000000000000 ≤ ck H p v k * H k j ∧ ck H p v k * H k j ≤ 400000000000000
  rem : ∀ k, k < n → (tk H p v k (p k)).tmod (H k (p k)) = 0
  quo : ∀ k, k < n → (tk H p v k (p k)).tdiv (H k (p k)) = ck H p v k
  end0 : ∀ j, j < 6 → tk H p v n j = 0
theorem Tk.of {H : Mat} {n : Nat} {p : Nat → Nat} {v : Nat → Int} (h : Hf H n 6 p) (hn : n ≤ 6) (hE : ∀ i j, i < n → j < 6 → (H i j).natAbs ≤ 6000000000) (hv : ∀ j, j < 6 → (v j).natAbs ≤ 1000) (hs : Sp H n 6 v) : Tk H p v n := by
  obtain ⟨t1, t2⟩ := h.taken hs
  have hS : ∀ k, k ≤ n → rs k (ck H p v) ≤ 63000 := fun k hk => by
    have := h.ck_bound hv hk
    have h2 : 2 ^ k ≤ 2 ^ 6 := Nat.pow_le_pow_right (by omega) (by omega)
    have h3 : 1000 * 2 ^ k ≤ 1000 * 2 ^ 6 := Nat.mul_le_mul_left _ h2
    simp at h3; omega
  have hc : ∀ k, k < n → (ck H p v k).natAbs ≤ 63000 := fun k hk => by
    have := hS (k + 1) (by omega); simp only [rs] at this; omega
  have hp : ∀ k j, k < n → j < 6 → (ck H p v k * H k j).natAbs ≤ 378000000000000 := fun k j hk hj => by
    rw [Int.natAbs_mul]
    exact Nat.mul_le_mul (hc k hk) (hE k j hk hj)
  have hV : ∀ k j, k ≤ n → j < 6 → (tk H p v k j).natAbs ≤ 378000000001000 := fun k j hk hj => by
    rw [tk_sum]
    have h1 := sm_abs k (fun l => ck H p v l * H l j) (fun l => (ck H p v l).natAbs * 6000000000) fun l hl => by
      rw [Int.natAbs_mul]; exact Nat.mul_le_mul_left _ (hE l j (by omega) hj)
    rw [rs_mul] at h1
    have h2 := Nat.mul_le_mul_right 6000000000 (hS k hk)
    have := hv j hj
    omega
  refine ⟨h.lt, fun k hk => by have := h.pos k hk; omega, h.left, fun k j hk hj => by have := hE k j hk hj; omega, fun k j hk hj => by have := hV k j hk hj; omega, fun k hk => by have := hc k hk; omega, fun k j hk hj => by have := hp k j hk hj; omega, fun k hk => ?_, fun k hk => ?_, t2⟩
  · exact Int.tmod_eq_zero_of_dvd (t1 k hk)
  · unfold ck
    obtain ⟨c, hc⟩ := t1 k hk
    have hp := h.pos k hk
    rw [hc, Int.mul_tdiv_cancel_left _ (by omega), Int.mul_ediv_cancel_left _ (by omega)]
theorem cells_set {wr : World} {b l : Nat} {f h : Nat → Int} {x : Int} (hw : ∀ t, t < 6 → wr.cell? ⟨b, t, none⟩ = some (.int .i64 (f t)) ∧ wr.frozen? ⟨b, t, none⟩ = false) (hl : l < 6) (e : x = h l) (ht : ∀ t, t < 6 → t ≠ l → h t = f t) :
    ∀ t, t < 6 → (wr.setCell ⟨b, l, none⟩ (.int .i64 x)).cell? ⟨b, t, none⟩ = some (.int .i64 (h t)) ∧ (wr.setCell ⟨b, l, none⟩ (.int .i64 x)).frozen? ⟨b, t, none⟩ = false := by
  intro t ht6
  refine ⟨?_, by rw [World.frozen?_setCell]; exact (hw t ht6).2⟩
  by_cases y : t = l
  · subst y; rw [World.cell?_setCell_same _ _ _ (hw t ht6).1, e]
  · rw [World.cell?_setCell_other _ _ _ _ (fun c => y (by simpa using (congrArg Addr.off c).symm)), (hw t ht6).1, ht t ht6 y]
set_option maxHeartbeats 8000000 in
theorem comb_any (ao : Option Addr) (n c1 : Nat) (H : Nat → Nat → Int) (p : Nat → Nat) (v : Nat → Int) (w : World) (hn : n ≤ 6) (hc1 : n ≤ c1) (hR : CV w ao n H) (hT : Tk H p v n) :
    Calls Try.prog 25 #[.slice ao n c1, PV v] w fun e w' => e = .returned (.bool true) ∧ Below w.heap.size w w' := by
  have HT := Bx.mk hT
  have HC := Bx.mk (box_cell w v 37)
  clear hT
  go_enter Try.func25, Try.ntmps25
  go_wp2_with fail
  go_loopw [5] (fun i wr => ∃ k : Nat, k ≤ n ∧ i = .int .i64 k ∧ Bx (∀ l, l < 6 → wr.cell? ⟨w.heap.size, l, none⟩ = some (.int .i64 (tk H p v k l)) ∧ wr.frozen? ⟨w.heap.size, l, none⟩ = false) ∧ w.heap.size < wr.heap.size ∧ Below w.heap.size w wr) (fun i _ => n - (intOf i).toNat)
  case atStart => exact ⟨0, by omega, rfl, ⟨fun l hl => ⟨HC.out l hl, by simp [go_sem]⟩⟩, by simp, (by repeat (first | with_reducible exact Below.refl _ _ | (with_reducible refine Below.setCell ?_ ?side _; case side => (first | omega | (simp <;> omega))) | (with_reducible refine Below.alloc ?_ ?side _; case side => (first | omega | (simp <;> omega))) | with_reducible apply below_drewN | with_reducible apply below_drew))⟩
  case round =>
    obtain ⟨k, hk, rfl, HV, hws, hB⟩ := hrel
    by_cases hlt : k < n
    · obtain ⟨b, o, rfl, hb, hc⟩ := hR (by omega)
      have a0 := hB.cell (p := ⟨b, o + k * 6 + 0, none⟩) hb
      have a1 := hB.cell (p := ⟨b, o + k * 6 + 1, none⟩) hb
      have a2 := hB.cell (p := ⟨b, o + k * 6 + 2, none⟩) hb
      have a3 := hB.cell (p := ⟨b, o + k * 6 + 3, none⟩) hb
      have a4 := hB.cell (p := ⟨b, o + k * 6 + 4, none⟩) hb
      have a5 := hB.cell (p := ⟨b, o + k * 6 + 5, none⟩) hb
      rw [hc k _ hlt (by omega)] at a0 a1 a2 a3 a4 a5
      rw [Nat.add_zero] at a0
      have HP := Bx.mk (fun w => pivot_any (H k) w (p k) (by have := HT.out.lt k hlt; omega) (fun j hj => HT.out.left k j hlt hj) (fun _ => by have := HT.out.pos k hlt; omega))
      unfold PV at HP
      have HCC := Bx.mk hc
      clear hc
      go_wp2_with fail
      refine (HP.out _).mono ?_
      rintro e w2 ⟨rfl, hb2⟩
      have HV2 : Bx (∀ l, l < 6 → w2.cell? ⟨w.heap.size, l, none⟩ = some (.int .i64 (tk H p v k l)) ∧ w2.frozen? ⟨w.heap.size, l, none⟩ = false) :=
        ⟨fun l hl => ⟨by rw [hb2.cell (p := ⟨w.heap.size, l, none⟩) hws]; exact (HV.out l hl).1, by rw [hb2.frozen (p := ⟨w.heap.size, l, none⟩) hws]; exact (HV.out l hl).2⟩⟩
      have HB2 : Bx (Below w.heap.size w w2) := ⟨hB.trans (hb2.mono hB.size)⟩
      have hws2 : w.heap.size < w2.heap.size := Nat.lt_of_lt_of_le hws hb2.size
      clear hb2 HP HV a0 a1 a2 a3 a4 a5
      have hq6 : p k < 6 := HT.out.lt k hlt
      have hx := (HV2.out (p k) hq6).1
      have hy := HB2.out.cell (p := ⟨b, o + k * 6 + p k, none⟩) hb
      rw [HCC.out k (p k) hlt hq6] at hy
      have hr := HT.out.rem k hlt
      have hq := HT.out.quo k hlt
      have hy1 := HT.out.pos k hlt
      obtain ⟨q0, hq0⟩ : ∃ q0, p k = q0 := ⟨_, rfl⟩
      rw [hq0] at hx hy hr hq hy1 hq6 ⊢
      obtain ⟨x, hxe⟩ : ∃ x, tk H p v k q0 = x := ⟨_, rfl⟩
      obtain ⟨y, hye⟩ : ∃ y, H k q0 = y := ⟨_, rfl⟩
      obtain ⟨c, hce⟩ : ∃ c, ck H p v k = c := ⟨_, rfl⟩
      rw [hxe] at hx hr hq; rw [hye] at hy hr hq hy1; rw [hce] at hq
      have HCE := Bx.mk hce
      have HQ0 := Bx.mk hq0
      have cb1 : -63000 ≤ c := by rw [← hce]; exact (HT.out.cs k hlt).1
      have cb2 : c ≤ 63000 := by rw [← hce]; exact (HT.out.cs k hlt).2
      have hq06 : ((q0 : Int) == 6) = false := by simp; omega
      have hy0 : y ≠ 0 := by omega
      clear hxe hye hce hq0
      go_wp2_with fail
      go_region
      all_goals go_wp2_with fail
      all_goals go_region
      all_goals go_wp2_with fail
      all_goals
        go_loopw [8] (fun i wr => ∃ l : Nat, l ≤ 6 ∧ i = .int .i64 l ∧ Bx (∀ t, t < 6 → wr.cell? ⟨w.heap.size, t, none⟩ = some (.int .i64 (if t < l then tk H p v (k + 1) t else tk H p v k t)) ∧ wr.frozen? ⟨w.heap.size, t, none⟩ = false) ∧ w.heap.size < wr.heap.size ∧ Bx (Below w.heap.size w wr)) (fun i _ => 6 - (intOf i).toNat)
        case atStart => exact ⟨0, by omega, rfl, ⟨fun t ht => HV2.out t ht⟩, hws2, ⟨by first | exact HB2.out | exact below_drew HB2.out | exact below_drew (below_drew HB2.out)⟩⟩
        case round =>
          obtain ⟨l, hl, rfl, HW, hws3, HB3⟩ := hrel
          by_cases hl6 : l < 6
          · have hxl := (HW.out l hl6).1
            have hfl := (HW.out l hl6).2
            rw [if_neg (Nat.lt_irrefl l)] at hxl
            have hyl := HB3.out.cell (p := ⟨b, o + k * 6 + l, none⟩) hb
            rw [HCC.out k l hlt hl6] at hyl
            have HN := Bx.mk (show tk H p v k l - c * H k l = tk H p v (k + 1) l by rw [← HCE.out]; rfl)
            have v1 := (HT.out.val k l (by omega) hl6).1
            have v2 := (HT.out.val k l (by omega) hl6).2
            have q1 := (HT.out.prod k l hlt hl6).1
            have q2 := (HT.out.prod k l hlt hl6).2
            have e1 := (HT.out.ent k l hlt hl6).1
            have e2 := (HT.out.ent k l hlt hl6).2
            rw [HCE.out] at q1 q2
            obtain ⟨X, hX⟩ : ∃ X, tk H p v k l = X := ⟨_, rfl⟩
            obtain ⟨Z, hZ⟩ : ∃ Z, H k l = Z := ⟨_, rfl⟩
            obtain ⟨P, hP⟩ : ∃ P, c * Z = P := ⟨_, rfl⟩
            rw [hX] at hxl v1 v2 HN
            rw [hZ] at hyl q1 q2 e1 e2 HN
            rw [hP] at q1 q2 HN
            clear hX hZ
            go_wp2_with fail
            go_region
            all_goals go_wp2_with fail
            all_goals exact ⟨⟨l + 1, by omega, by go_num, ⟨cells_set HW.out hl6 (h := fun t => if t < l + 1 then tk H p v (k + 1) t else tk H p v k t) (by simp only [if_pos (Nat.lt_succ_self l)]; exact HN.out) fun t ht hne => by
                by_cases z : t < l
                · simp only [if_pos z, if_pos (show t < l + 1 by omega)]
                · simp only [if_neg z, if_neg (show ¬ t < l + 1 by omega)]⟩, by simp; omega, ⟨(by repeat (first | with_reducible exact Below.refl _ _ | with_reducible exact HB3.out | (with_reducible refine Below.setCell ?_ ?side _; case side => (first | omega | (simp <;> omega))) | (with_reducible refine Below.alloc ?_ ?side _; case side => (first | omega | (simp <;> omega))) | with_reducible apply below_drewN | with_reducible apply below_drew))⟩⟩, by simp [intOf]; omega⟩
          · obtain rfl : l = 6 := by omega
            have HW' := Bx.mk (show ∀ t, t < 6 → wr.cell? ⟨w.heap.size, t, none⟩ = some (.int .i64 (tk H p v (k + 1) t)) ∧ wr.frozen? ⟨w.heap.size, t, none⟩ = false from fun t ht => by have := HW.out t ht; rwa [if_pos ht] at this)
            go_wp2_with fail
            exact ⟨⟨k + 1, by omega, by go_num, HW', hws3, HB3.out⟩, by simp [intOf]; omega⟩
    · obtain rfl : k = n := by omega
      have z0 := (HV.out 0 (by omega)).1
      have z1 := (HV.out 1 (by omega)).1
      have z2 := (HV.out 2 (by omega)).1
      have z3 := (HV.out 3 (by omega)).1
      have z4 := (HV.out 4 (by omega)).1
      have z5 := (HV.out 5 (by omega)).1
      rw [HT.out.end0 _ (by omega)] at z0 z1 z2 z3 z4 z5
      have E6 := eq6_same 37 Try.underlying37 (fun _ => 0)
      unfold PV at E6
      go_wp2_with fail
      go_ret
      exact ⟨rfl, hB⟩
end Go.Proofs.Ytmknbgiihhimfaa

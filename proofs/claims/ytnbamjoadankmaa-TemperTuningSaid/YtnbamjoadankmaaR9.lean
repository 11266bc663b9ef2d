/- the reference's others; boxes of rows; what taking apart keeps to. -/
import Derived.Test.YtnbamjoadankmaaR6
namespace Go.Proofs.Ytnbamjoadankmaa
open Go.RowKit D
theorem rest_succ (k : Nat) (cs : List Nat) : rest (k + 1) cs = rest k cs ++ if k ∈ cs then [] else [k] := by
  unfold rest
  rw [List.range_succ, List.filter_append]
  by_cases h : k ∈ cs
  · simp [h]
  · simp [h]
set_option maxRecDepth 100000 in
set_option maxHeartbeats 4000000 in
theorem others_any (ao : Option Addr) (c1 n : Nat) (l : List Nat) (w : World) (hl : l.length = n) (hn : n ≤ 1000) (hc1 : n ≤ c1) (hA : CN w ao l) :
    Calls Try.prog 77 #[.slice ao n c1] w fun e w' => ∃ v, e = .returned v ∧ w'.ownsRow w.heap.size 3 1 v (rest 6 l).length ((rest 6 l).map fun (j : Nat) => Value.int .i64 (j : Int)) ∧ Below w.heap.size w w' := by
  obtain ⟨ti, hti, hti2⟩ := Option.map_eq_some_iff.1 info_int
  simp only [Prod.mk.injEq] at hti2
  obtain ⟨hz0, hz1, hz2⟩ := hti2
  have HL := Bx.mk hl
  have HTI := Bx.mk hti
  clear hl
  go_enter Try.func77, Try.ntmps77
  go_wp2_with fail
  go_loopw [3, 4] (fun v j wr => ∃ k : Nat, k ≤ 6 ∧ j = .int .i64 k ∧ Bx (wr.ownsRow w.heap.size 3 1 v (rest k l).length ((rest k l).map fun (j : Nat) => Value.int .i64 (j : Int))) ∧ Bx ((rest k l).length ≤ k) ∧ Below w.heap.size w wr) (fun _ j _ => 6 - (intOf j).toNat)
  case atStart => exact ⟨0, by omega, rfl, ⟨World.ownsRow_nil _ _ _ _⟩, ⟨Nat.le_refl _⟩, Below.refl _ _⟩
  case round =>
    obtain ⟨k, hk, rfl, HO, HK, hB⟩ := hrel
    by_cases hlt : k < 6
    · go_wp2_with fail
      go_loopw [5, 6] (fun b t wq => ∃ q : Nat, q ≤ n ∧ b = .bool (decide (k ∈ l.take q)) ∧ t = .int .i64 q ∧ wq = wr) (fun _ t _ => n - (intOf t).toNat)
      case atStart => exact ⟨0, by omega, by simp, rfl, rfl⟩
      case round =>
        obtain ⟨q, hq, rfl, rfl, rfl⟩ := hrel
        by_cases hqn : q < n
        · obtain ⟨b, o, rfl, hb, hc⟩ := hA (by intro e; have := HL.out; subst e; simp at this; omega)
          obtain ⟨x, hx⟩ : ∃ x, l.getD q 0 = x := ⟨_, rfl⟩
          have hcq := hB.cell (p := ⟨b, o + q, none⟩) hb
          rw [hc q (by have := HL.out; omega), hx] at hcq
          have HT := Bx.mk (show l.take (q + 1) = l.take q ++ [x] by
            rw [List.take_succ_eq_append_getElem (by have := HL.out; omega)]
            rw [← hx, List.getD_eq_getElem?_getD, List.getElem?_eq_getElem (by have := HL.out; omega)]; rfl)
          clear hc hx
          by_cases hin : k ∈ l.take q
          · have e1 : decide (k ∈ l.take q) = true := by simpa using hin
            have e2 : decide (k ∈ l.take (q + 1)) = true := by rw [HT.out]; simp [hin]
            rw [e1]
            go_wp2_with fail
            exact ⟨⟨q + 1, by omega, by rw [e2], by go_num, trivial⟩, by simp [intOf]; omega⟩
          · have e1 : decide (k ∈ l.take q) = false := by simpa using hin
            have e2 : decide (k ∈ l.take (q + 1)) = ((x : Int) == (k : Int)) := by
              rw [HT.out, Bool.eq_iff_iff]; simp [hin]; omega
            rw [e1]
            go_wp2_with fail
            exact ⟨⟨q + 1, by omega, by rw [e2], by go_num, trivial⟩, by simp [intOf]; omega⟩
        · obtain rfl : q = n := by omega
          have e3 : l.take q = l := List.take_of_length_le (by have := HL.out; omega)
          rw [e3]
          by_cases hin : k ∈ l
          · have e1 : decide (k ∈ l) = true := by simpa using hin
            rw [e1]
            have e4 : rest (k + 1) l = rest k l := by rw [rest_succ, if_pos hin, List.append_nil]
            have HO'' := HO.out
            rw [← e4] at HO''
            have HO' := Bx.mk HO''
            clear HO''
            have HK' := Bx.mk (show (rest (k + 1) l).length ≤ k + 1 by rw [e4]; have := HK.out; omega)
            clear e1 e3 e4 hin
            go_wp2_with fail
            exact ⟨⟨k + 1, by omega, by go_num, HO', HK', (by repeat (first | with_reducible exact Below.refl _ _ | with_reducible exact hB | (with_reducible refine Below.setCell ?_ ?side _; case side => (first | omega | (simp <;> omega))) | (with_reducible refine Below.alloc ?_ ?side _; case side => (first | omega | (simp <;> omega))) | with_reducible apply below_drewN | with_reducible apply below_drew))⟩, by simp [intOf]; omega⟩
          · have e1 : decide (k ∈ l) = false := by simpa using hin
            rw [e1]
            have e4 : rest (k + 1) l = rest k l ++ [k] := by rw [rest_succ, if_neg hin]
            have HE4 := Bx.mk e4
            have hti := HTI.out
            have hkl := HK.out
            have hsz := hB.size
            clear e1 e3 e4 hin
            go_wp2_with (at_builtin; refine wpList_append_any rfl (.tmp 28) (.tmp 30) 29 rfl w.heap.size 3 ti (.int .i64 0) 1 8 Try.underlying29 hti hz0 hz1 hz2 rfl (by decide) _ _ _ rfl (HO.out.alloc _) _ 1 _ [.int .i64 (k : Int)] rfl ?c1 ?c2 ?c3 ?c4 ?c5 ?c6 ?c7 ?_)
            case c1 => rfl
            case c2 => intro h; cases h
            case c3 =>
              intro ad had j u hu
              obtain rfl := Option.some.inj had
              match j, hu with
              | 0, hu => simp at hu; subst hu; simp [Addr.add]
            case c4 => intro u hu; simp at hu; subst hu; rfl
            case c5 => unfold maxLen; omega
            case c6 => omega
            case c7 => have := hB.size; first | omega | (simp; omega)
            intro v1 w1 ho1 hg1
            have HO' := Bx.mk (show w1.ownsRow w.heap.size 3 1 v1 (rest (k + 1) l).length ((rest (k + 1) l).map fun (j : Nat) => Value.int .i64 (j : Int)) by
              rw [HE4.out, List.map_append, List.length_append]; exact ho1)
            have HK' := Bx.mk (show (rest (k + 1) l).length ≤ k + 1 by rw [HE4.out]; simp; omega)
            have HB1 : Bx (Below w.heap.size w w1) := ⟨Below.grown (by repeat (first | with_reducible exact Below.refl _ _ | with_reducible exact hB | (with_reducible refine Below.setCell ?_ ?side _; case side => (first | omega | (simp <;> omega))) | (with_reducible refine Below.alloc ?_ ?side _; case side => (first | omega | (simp <;> omega))) | with_reducible apply below_drewN | with_reducible apply below_drew)) hg1 (by have := hB.size; first | omega | (simp; omega)) (fun g hg => (World.ownsRow.lt HO.out g hg).1)⟩
            clear ho1 hg1 hkl hti
            go_wp2_with fail
            exact ⟨⟨k + 1, by omega, by go_num, HO', HK', HB1.out⟩, by simp [intOf]; omega⟩
    · obtain rfl : k = 6 := by omega
      go_wp2_with fail
      go_ret
      exact ⟨_, rfl, HO.out, (by repeat (first | with_reducible exact Below.refl _ _ | with_reducible exact hB | (with_reducible refine Below.setCell ?_ ?side _; case side => (first | omega | (simp <;> omega))) | (with_reducible refine Below.alloc ?_ ?side _; case side => (first | omega | (simp <;> omega))) | with_reducible apply below_drewN | with_reducible apply below_drew))⟩
end Go.Proofs.Ytnbamjoadankmaa

namespace Go.Proofs.Ytnbamjoadankmaa
open Go.RowKit D
theorem box_cell (w : World) (v : Nat → Int) (t : TypeId) : ∀ l, l < 6 → (w.alloc (.cells #[.int .i64 (v 0), .int .i64 (v 1), .int .i64 (v 2), .int .i64 (v 3), .int .i64 (v 4), .int .i64 (v 5)] t)).cell? ⟨w.heap.size, l, none⟩ = some (.int .i64 (v l)) :=
  six (by simp [go_sem]) (by simp [go_sem]) (by simp [go_sem]) (by simp [go_sem]) (by simp [go_sem]) (by simp [go_sem])
theorem box_cell2 (w : World) (u v : Nat → Int) (t : TypeId) : (∀ l, l < 6 → ((w.alloc (.cells #[.int .i64 (u 0), .int .i64 (u 1), .int .i64 (u 2), .int .i64 (u 3), .int .i64 (u 4), .int .i64 (u 5)] t)).alloc (.cells #[.int .i64 (v 0), .int .i64 (v 1), .int .i64 (v 2), .int .i64 (v 3), .int .i64 (v 4), .int .i64 (v 5)] t)).cell? ⟨w.heap.size, l, none⟩ = some (.int .i64 (u l))) ∧
    ∀ l, l < 6 → ((w.alloc (.cells #[.int .i64 (u 0), .int .i64 (u 1), .int .i64 (u 2), .int .i64 (u 3), .int .i64 (u 4), .int .i64 (u 5)] t)).alloc (.cells #[.int .i64 (v 0), .int .i64 (v 1), .int .i64 (v 2), .int .i64 (v 3), .int .i64 (v 4), .int .i64 (v 5)] t)).cell? ⟨w.heap.size + 1, l, none⟩ = some (.int .i64 (v l)) :=
  ⟨six (by simp [go_sem]) (by simp [go_sem]) (by simp [go_sem]) (by simp [go_sem]) (by simp [go_sem]) (by simp [go_sem]), six (by simp [go_sem]) (by simp [go_sem]) (by simp [go_sem]) (by simp [go_sem]) (by simp [go_sem]) (by simp [go_sem])⟩
end Go.Proofs.Ytnbamjoadankmaa

namespace Go.Proofs.Ytnbamjoadankmaa
open Go.RowKit D
/-- What the taking apart keeps to. -/
structure Tk (H : Mat) (p : Nat → Nat) (v : Nat → Int) (n : Nat) : Prop where
  lt : ∀ k, k < n → p k < 6
  pos : ∀ k, k < n → 1 ≤ H k (p k)
  left : ∀ k j, k < n → j < p k → H k j = 0
  ent : ∀ k j, k < n → j < 6 → -6000000000 ≤ H k j ∧ H k j ≤ 6000000000
  val : ∀ k j, k ≤ n → j < 6 → -400000000000000 ≤ tk H p v k j ∧ tk H p v k j ≤ 400000000000000
  cs : ∀ k, k < n → -63000 ≤ ck H p v k ∧ ck H p v k ≤ 63000
  prod : ∀ k j, k < n → j < 6 → -400000000000000 ≤ ck H p v k * H k j ∧ ck H p v k * H k j ≤ 400000000000000
  rem : ∀ k, k < n → (tk H p v k (p k)).tmod (H k (p k)) = 0
  quo : ∀ k, k < n → (tk H p v k (p k)).tdiv (H k (p k)) = ck H p v k
  end0 : ∀ j, j < 6 → tk H p v n j = 0
theorem Tk.of {H : Mat} {n : Nat} {p : Nat → Nat} {v : Nat → Int} (h : Hf H n 6 p) (hn : n ≤ 6) (hE : ∀ i j, i < n → j < 6 → (H i j).natAbs ≤ 6000000000) (hv : ∀ j, j < 6 → (v j).natAbs ≤ 1000) (hs : Sp H n 6 v) : Tk H p v n := by
  obtain ⟨t1, t2⟩ := h.taken hs
  have hS : ∀ k, k ≤ n → rs k (ck H p v) ≤ 63000 := fun k hk => by
    have := h.ck_bound hv hk
    have h2 : 2 ^ k ≤ 2 ^ 6 := Nat.pow_le_pow_right (by omega) (by omega)
    have h3 : 1000 * 2 ^ k ≤ 1000 * 2 ^ 6 := Nat.mul_le_mul_left _ h2
    simp at h3; omega
  have hc : ∀ k, k < n → (ck H p v k).natAbs ≤ 63000 := fun k hk => by
    have := hS (k + 1) (by omega); simp only [rs] at this; omega
  have hp : ∀ k j, k < n → j < 6 → (ck H p v k * H k j).natAbs ≤ 378000000000000 := fun k j hk hj => by
    rw [Int.natAbs_mul]
    exact Nat.mul_le_mul (hc k hk) (hE k j hk hj)
  have hV : ∀ k j, k ≤ n → j < 6 → (tk H p v k j).natAbs ≤ 378000000001000 := fun k j hk hj => by
    rw [tk_sum]
    have h1 := sm_abs k (fun l => ck H p v l * H l j) (fun l => (ck H p v l).natAbs * 6000000000) fun l hl => by
      rw [Int.natAbs_mul]; exact Nat.mul_le_mul_left _ (hE l j (by omega) hj)
    rw [rs_mul] at h1
    have h2 := Nat.mul_le_mul_right 6000000000 (hS k hk)
    have := hv j hj
    omega
  refine ⟨h.lt, fun k hk => by have := h.pos k hk; omega, h.left, fun k j hk hj => by have := hE k j hk hj; omega, fun k j hk hj => by have := hV k j hk hj; omega, fun k hk => by have := hc k hk; omega, fun k j hk hj => by have := hp k j hk hj; omega, fun k hk => ?_, fun k hk => ?_, t2⟩
  · exact Int.tmod_eq_zero_of_dvd (t1 k hk)
  · unfold ck
    obtain ⟨c, hc⟩ := t1 k hk
    have hp := h.pos k hk
    rw [hc, Int.mul_tdiv_cancel_left _ (by omega), Int.mul_ediv_cancel_left _ (by omega)]
theorem cells_set {wr : World} {b l : Nat} {f h : Nat → Int} {x : Int} (hw : ∀ t, t < 6 → wr.cell? ⟨b, t, none⟩ = some (.int .i64 (f t)) ∧ wr.frozen? ⟨b, t, none⟩ = false) (hl : l < 6) (e : x = h l) (ht : ∀ t, t < 6 → t ≠ l → h t = f t) :
    ∀ t, t < 6 → (wr.setCell ⟨b, l, none⟩ (.int .i64 x)).cell? ⟨b, t, none⟩ = some (.int .i64 (h t)) ∧ (wr.setCell ⟨b, l, none⟩ (.int .i64 x)).frozen? ⟨b, t, none⟩ = false := by
  intro t ht6
  refine ⟨?_, by rw [World.frozen?_setCell]; exact (hw t ht6).2⟩
  by_cases y : t = l
  · subst y; rw [World.cell?_setCell_same _ _ _ (hw t ht6).1, e]
  · rw [World.cell?_setCell_other _ _ _ _ (fun c => y (by simpa using (congrArg Addr.off c).symm)), (hw t ht6).1, ht t ht6 y]
end Go.Proofs.Ytnbamjoadankmaa

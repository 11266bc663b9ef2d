/- the reference's others. -/
import Derived.Test.YtjnnalfocffggaaR6
namespace Go.Proofs.Ytjnnalfocffggaa
open Go.RowKit D
theorem rest_succ (k : Nat) (cs : List Nat) : rest (k + 1) cs = rest k cs ++ if k ∈ cs then [] else [k] := by
  unfold rest
  rw [List.range_succ, List.filter_append]
  by_cases h : k ∈ cs
  · simp [h]
  · simp [h]
set_option maxRecDepth 100000 in
set_option maxHeartbeats 4000000 in
theorem others_any (ao : Option Addr) (c1 n : Nat) (l : List Nat) (w : World) (hl : l.length = n) (hn : n ≤ 1000) (hc1 : n ≤ c1) (hA : CN w ao l) :
    Calls Try.prog 61 #[.slice ao n c1] w fun e w' => ∃ v, e = .returned v ∧ w'.ownsRow w.heap.size 3 1 v (rest 6 l).length ((rest 6 l).map fun (j : Nat) => Value.int .i64 (j : Int)) ∧ Below w.heap.size w w' := by
  obtain ⟨ti, hti, hti2⟩ := Option.map_eq_some_iff.1 info_int
  simp only [Prod.mk.injEq] at hti2
  obtain ⟨hz0, hz1, hz2⟩ := hti2
  have HL := Bx.mk hl
  have HTI := Bx.mk hti
  clear hl
  go_enter Try.func61, Try.ntmps61
  go_wp2_with fail
  go_loopw [3, 4] (fun v j wr => ∃ k : Nat, k ≤ 6 ∧ j = .int .i64 k ∧ Bx (wr.ownsRow w.heap.size 3 1 v (rest k l).length ((rest k l).map fun (j : Nat) => Value.int .i64 (j : Int))) ∧ Bx ((rest k l).length ≤ k) ∧ Below w.heap.size w wr) (fun _ j _ => 6 - (intOf j).toNat)
  case atStart => exact ⟨0, by omega, rfl, ⟨World.ownsRow_nil _ _ _ _⟩, ⟨Nat.le_refl _⟩, Below.refl _ _⟩
  case round =>
    obtain ⟨k, hk, rfl, HO, HK, hB⟩ := hrel
    by_cases hlt : k < 6
    · go_wp2_with fail
      go_loopw [5, 6] (fun b t wq => ∃ q : Nat, q ≤ n ∧ b = .bool (decide (k ∈ l.take q)) ∧ t = .int .i64 q ∧ wq = wr) (fun _ t _ => n - (intOf t).toNat)
      case atStart => exact ⟨0, by omega, by simp, rfl, rfl⟩
      case round =>
        obtain ⟨q, hq, rfl, rfl, rfl⟩ := hrel
        by_cases hqn : q < n
        · obtain ⟨b, o, rfl, hb, hc⟩ := hA (by intro e; have := HL.out; subst e; simp at this; omega)
          obtain ⟨x, hx⟩ : ∃ x, l.getD q 0 = x := ⟨_, rfl⟩
          have hcq := hB.cell (p := ⟨b, o + q, none⟩) hb
          rw [hc q (by have := HL.out; omega), hx] at hcq
          have HT := Bx.mk (show l.take (q + 1) = l.take q ++ [x] by
            rw [List.take_succ_eq_append_getElem (by have := HL.out; omega)]
            rw [← hx, List.getD_eq_getElem?_getD, List.getElem?_eq_getElem (by have := HL.out; omega)]; rfl)
          clear hc hx
          by_cases hin : k ∈ l.take q
          · have e1 : decide (k ∈ l.take q) = true := by simpa using hin
            have e2 : decide (k ∈ l.take (q + 1)) = true := by rw [HT.out]; simp [hin]
            rw [e1]
            go_wp2_with fail
            exact ⟨⟨q + 1, by omega, by rw [e2], by go_num, trivial⟩, by simp [intOf]; omega⟩
          · have e1 : decide (k ∈ l.take q) = false := by simpa using hin
            have e2 : decide (k ∈ l.take (q + 1)) = ((x : Int) == (k : Int)) := by
              rw [HT.out, Bool.eq_iff_iff]; simp [hin]; omega
            rw [e1]
            go_wp2_with fail
            exact ⟨⟨q + 1, by omega, by rw [e2], by go_num, trivial⟩, by simp [intOf]; omega⟩
        · obtain rfl : q = n := by omega
          have e3 : l.take q = l := List.take_of_length_le (by have := HL.out; omega)
          rw [e3]
          by_cases hin : k ∈ l
          · have e1 : decide (k ∈ l) = true := by simpa using hin
            rw [e1]
            have e4 : rest (k + 1) l = rest k l := by rw [rest_succ, if_pos hin, List.append_nil]
            have HO'' := HO.out
            rw [← e4] at HO''
            have HO' := Bx.mk HO''
            clear HO''
            have HK' := Bx.mk (show (rest (k + 1) l).length ≤ k + 1 by rw [e4]; have := HK.out; omega)
            clear e1 e3 e4 hin
            go_wp2_with fail
            exact ⟨⟨k + 1, by omega, by go_num, HO', HK', (by repeat (first | with_reducible exact Below.refl _ _ | with_reducible exact hB | (with_reducible refine Below.setCell ?_ ?side _; case side => (first | omega | (simp <;> omega))) | (with_reducible refine Below.alloc ?_ ?side _; case side => (first | omega | (simp <;> omega))) | with_reducible apply below_drewN | with_reducible apply below_drew))⟩, by simp [intOf]; omega⟩
          · have e1 : decide (k ∈ l) = false := by simpa using hin
            rw [e1]
            have e4 : rest (k + 1) l = rest k l ++ [k] := by rw [rest_succ, if_neg hin]
            have HE4 := Bx.mk e4
            have hti := HTI.out
            have hkl := HK.out
            have hsz := hB.size
            clear e1 e3 e4 hin
            go_wp2_with (at_builtin; refine wpList_append_any rfl (.tmp 28) (.tmp 30) 29 rfl w.heap.size 3 ti (.int .i64 0) 1 8 Try.underlying29 hti hz0 hz1 hz2 rfl (by decide) _ _ _ rfl (HO.out.alloc _) _ 1 _ [.int .i64 (k : Int)] rfl ?c1 ?c2 ?c3 ?c4 ?c5 ?c6 ?c7 ?_)
            case c1 => rfl
            case c2 => intro h; cases h
            case c3 =>
              intro ad had j u hu
              obtain rfl := Option.some.inj had
              match j, hu with
              | 0, hu => simp at hu; subst hu; simp [Addr.add]
            case c4 => intro u hu; simp at hu; subst hu; rfl
            case c5 => unfold maxLen; omega
            case c6 => omega
            case c7 => have := hB.size; first | omega | (simp; omega)
            intro v1 w1 ho1 hg1
            have HO' := Bx.mk (show w1.ownsRow w.heap.size 3 1 v1 (rest (k + 1) l).length ((rest (k + 1) l).map fun (j : Nat) => Value.int .i64 (j : Int)) by
              rw [HE4.out, List.map_append, List.length_append]; exact ho1)
            have HK' := Bx.mk (show (rest (k + 1) l).length ≤ k + 1 by rw [HE4.out]; simp; omega)
            have HB1 : Bx (Below w.heap.size w w1) := ⟨Below.grown (by repeat (first | with_reducible exact Below.refl _ _ | with_reducible exact hB | (with_reducible refine Below.setCell ?_ ?side _; case side => (first | omega | (simp <;> omega))) | (with_reducible refine Below.alloc ?_ ?side _; case side => (first | omega | (simp <;> omega))) | with_reducible apply below_drewN | with_reducible apply below_drew)) hg1 (by have := hB.size; first | omega | (simp; omega)) (fun g hg => (World.ownsRow.lt HO.out g hg).1)⟩
            clear ho1 hg1 hkl hti
            go_wp2_with fail
            exact ⟨⟨k + 1, by omega, by go_num, HO', HK', HB1.out⟩, by simp [intOf]; omega⟩
    · obtain rfl : k = 6 := by omega
      go_wp2_with fail
      go_ret
      exact ⟨_, rfl, HO.out, (by repeat (first | with_reducible exact Below.refl _ _ | with_reducible exact hB | (with_reducible refine Below.setCell ?_ ?side _; case side => (first | omega | (simp <;> omega))) | (with_reducible refine Below.alloc ?_ ?side _; case side => (first | omega | (simp <;> omega))) | with_reducible apply below_drewN | with_reducible apply below_drew))⟩
end Go.Proofs.Ytjnnalfocffggaa
/- the law's pivot, small, product. -/
namespace Go.Proofs.Ytjnnalfocffggaa
open Go.RowKit D
theorem box_cell (w : World) (v : Nat → Int) (t : TypeId) : ∀ l, l < 6 → (w.alloc (.cells #[.int .i64 (v 0), .int .i64 (v 1), .int .i64 (v 2), .int .i64 (v 3), .int .i64 (v 4), .int .i64 (v 5)] t)).cell? ⟨w.heap.size, l, none⟩ = some (.int .i64 (v l)) :=
  six (by simp [go_sem]) (by simp [go_sem]) (by simp [go_sem]) (by simp [go_sem]) (by simp [go_sem]) (by simp [go_sem])
theorem small_any (v : Nat → Int) (w : World) (b : Bool) (hb : b = true ↔ ∀ j, j < 6 → -1000 ≤ v j ∧ v j ≤ 1000) : Calls Try.prog 31 #[PV v] w fun e w' => e = .returned (.bool b) ∧ Below w.heap.size w w' := by
  have HY := Bx.mk (show (∀ j, j < 6 → -1000 ≤ v j ∧ v j ≤ 1000) → b = true from hb.2)
  have HN := Bx.mk (show ∀ j, j < 6 → ¬ (-1000 ≤ v j ∧ v j ≤ 1000) → b = false from fun j hj h => by
    cases hbb : b with
    | false => rfl
    | true => exact absurd (hb.1 hbb j hj) h)
  have HC := Bx.mk (box_cell w v 37)
  clear hb
  go_enter Try.func31, Try.ntmps31
  go_wp2_with fail
  go_loopw [3] (fun i wr => ∃ k : Nat, k ≤ 6 ∧ i = .int .i64 k ∧ Bx (∀ j, j < k → -1000 ≤ v j ∧ v j ≤ 1000) ∧ wr = w.alloc (.cells #[.int .i64 (v 0), .int .i64 (v 1), .int .i64 (v 2), .int .i64 (v 3), .int .i64 (v 4), .int .i64 (v 5)] 37)) (fun i _ => 6 - (intOf i).toNat)
  case atStart => exact ⟨0, by omega, rfl, ⟨fun j hj => by omega⟩, rfl⟩
  case round =>
    obtain ⟨k, hk, rfl, HE, rfl⟩ := hrel
    by_cases hlt : k < 6
    · have hc := HC.out k hlt
      obtain ⟨x, hx⟩ : ∃ x, v k = x := ⟨_, rfl⟩
      rw [hx] at hc
      have HX := Bx.mk hx
      clear hx
      by_cases h1 : -1000 ≤ x
      · by_cases h2 : x ≤ 1000
        · have HE' := Bx.mk (show ∀ j, j < k + 1 → -1000 ≤ v j ∧ v j ≤ 1000 from fun j hj => by
            rcases Nat.lt_or_eq_of_le (Nat.le_of_lt_succ hj) with z | z
            · exact HE.out j z
            · rw [z, HX.out]; exact ⟨h1, h2⟩)
          go_wp2_with fail
          exact ⟨⟨k + 1, by omega, by go_num, HE', trivial⟩, by simp [intOf]; omega⟩
        · obtain rfl : b = false := HN.out k hlt (by rw [HX.out]; omega)
          go_wp2_with fail
          go_ret
          exact ⟨rfl, (by repeat (first | with_reducible exact Below.refl _ _ | (with_reducible refine Below.setCell ?_ ?side _; case side => (first | omega | (simp <;> omega))) | (with_reducible refine Below.alloc ?_ ?side _; case side => (first | omega | (simp <;> omega))) | with_reducible apply below_drewN | with_reducible apply below_drew))⟩
      · obtain rfl : b = false := HN.out k hlt (by rw [HX.out]; omega)
        go_wp2_with fail
        go_ret
        exact ⟨rfl, (by repeat (first | with_reducible exact Below.refl _ _ | (with_reducible refine Below.setCell ?_ ?side _; case side => (first | omega | (simp <;> omega))) | (with_reducible refine Below.alloc ?_ ?side _; case side => (first | omega | (simp <;> omega))) | with_reducible apply below_drewN | with_reducible apply below_drew))⟩
    · obtain rfl : k = 6 := by omega
      obtain rfl : b = true := HY.out HE.out
      go_wp2_with fail
      go_ret
      exact ⟨rfl, (by repeat (first | with_reducible exact Below.refl _ _ | (with_reducible refine Below.setCell ?_ ?side _; case side => (first | omega | (simp <;> omega))) | (with_reducible refine Below.alloc ?_ ?side _; case side => (first | omega | (simp <;> omega))) | with_reducible apply below_drewN | with_reducible apply below_drew))⟩
/-- The column of the first element that is not 0, or 6. -/
theorem pivot_any (v : Nat → Int) (w : World) (p : Nat) (hp : p ≤ 6) (h0 : ∀ j, j < p → v j = 0) (h1 : p < 6 → v p ≠ 0) : Calls Try.prog 36 #[PV v] w fun e w' => e = .returned (.int .i64 p) ∧ Below w.heap.size w w' := by
  have HC := Bx.mk (box_cell w v 37)
  have H0 := Bx.mk h0
  have H1 := Bx.mk h1
  clear h0 h1
  go_enter Try.func36, Try.ntmps36
  go_wp2_with fail
  go_loopw [3] (fun i wr => ∃ k : Nat, k ≤ p ∧ i = .int .i64 k ∧ wr = w.alloc (.cells #[.int .i64 (v 0), .int .i64 (v 1), .int .i64 (v 2), .int .i64 (v 3), .int .i64 (v 4), .int .i64 (v 5)] 37)) (fun i _ => 6 - (intOf i).toNat)
  case atStart => exact ⟨0, by omega, rfl, rfl⟩
  case round =>
    obtain ⟨k, hk, rfl, rfl⟩ := hrel
    by_cases hlt : k < 6
    · have hc := HC.out k hlt
      by_cases hkp : k = p
      · subst hkp
        obtain ⟨x, hx⟩ : ∃ x, v k = x := ⟨_, rfl⟩
        have hx0 : (x == 0) = false := by rw [← hx]; simpa using H1.out hlt
        rw [hx] at hc
        clear hx
        go_wp2_with fail
        go_ret
        exact ⟨rfl, (by repeat (first | with_reducible exact Below.refl _ _ | (with_reducible refine Below.setCell ?_ ?side _; case side => (first | omega | (simp <;> omega))) | (with_reducible refine Below.alloc ?_ ?side _; case side => (first | omega | (simp <;> omega))) | with_reducible apply below_drewN | with_reducible apply below_drew))⟩
      · rw [H0.out k (by omega)] at hc
        go_wp2_with fail
        exact ⟨⟨k + 1, by omega, by go_num, trivial⟩, by simp [intOf]; omega⟩
    · obtain rfl : k = 6 := by omega
      obtain rfl : p = 6 := by omega
      go_wp2_with fail
      go_ret
      exact ⟨rfl, (by repeat (first | with_reducible exact Below.refl _ _ | (with_reducible refine Below.setCell ?_ ?side _; case side => (first | omega | (simp <;> omega))) | (with_reducible refine Below.alloc ?_ ?side _; case side => (first | omega | (simp <;> omega))) | with_reducible apply below_drewN | with_reducible apply below_drew))⟩
theorem box_cell2 (w : World) (u v : Nat → Int) (t : TypeId) : (∀ l, l < 6 → ((w.alloc (.cells #[.int .i64 (u 0), .int .i64 (u 1), .int .i64 (u 2), .int .i64 (u 3), .int .i64 (u 4), .int .i64 (u 5)] t)).alloc (.cells #[.int .i64 (v 0), .int .i64 (v 1), .int .i64 (v 2), .int .i64 (v 3), .int .i64 (v 4), .int .i64 (v 5)] t)).cell? ⟨w.heap.size, l, none⟩ = some (.int .i64 (u l))) ∧
    ∀ l, l < 6 → ((w.alloc (.cells #[.int .i64 (u 0), .int .i64 (u 1), .int .i64 (u 2), .int .i64 (u 3), .int .i64 (u 4), .int .i64 (u 5)] t)).alloc (.cells #[.int .i64 (v 0), .int .i64 (v 1), .int .i64 (v 2), .int .i64 (v 3), .int .i64 (v 4), .int .i64 (v 5)] t)).cell? ⟨w.heap.size + 1, l, none⟩ = some (.int .i64 (v l)) :=
  ⟨six (by simp [go_sem]) (by simp [go_sem]) (by simp [go_sem]) (by simp [go_sem]) (by simp [go_sem]) (by simp [go_sem]), six (by simp [go_sem]) (by simp [go_sem]) (by simp [go_sem]) (by simp [go_sem]) (by simp [go_sem]) (by simp [go_sem])⟩
/-- The product of two rows, modulo 2^64. -/
theorem product_any (u v : Nat → Int) (w : World) : Calls Try.prog 35 #[PV u, PV v] w fun e w' => e = .returned (.int .i64 (wrap64 (dot 6 u v))) ∧ Below w.heap.size w w' := by
  have HC := Bx.mk (box_cell2 w u v 37)
  go_enter Try.func35, Try.ntmps35
  go_wp2_with fail
  go_loopw [5, 6] (fun s i wr => ∃ (k : Nat) (S : Int), k ≤ 6 ∧ s = .int .i64 S ∧ i = .int .i64 k ∧ Bx (S = wrap64 (sm k fun j => u j * v j)) ∧ Bx (∀ l, l < 6 → wr.cell? ⟨w.heap.size, l, none⟩ = some (.int .i64 (u l))) ∧ Bx (∀ l, l < 6 → wr.cell? ⟨w.heap.size + 1, l, none⟩ = some (.int .i64 (v l))) ∧ Below w.heap.size w wr) (fun _ i _ => 6 - (intOf i).toNat)
  case atStart => exact ⟨0, 0, by omega, rfl, rfl, ⟨by simp [sm, wrap64]⟩, ⟨HC.out.1⟩, ⟨HC.out.2⟩, (by repeat (first | with_reducible exact Below.refl _ _ | (with_reducible refine Below.setCell ?_ ?side _; case side => (first | omega | (simp <;> omega))) | (with_reducible refine Below.alloc ?_ ?side _; case side => (first | omega | (simp <;> omega))) | with_reducible apply below_drewN | with_reducible apply below_drew))⟩
  case round =>
    obtain ⟨k, S, hk, rfl, rfl, HS, HU, HV, hB⟩ := hrel
    by_cases hlt : k < 6
    · have hcu := HU.out k hlt
      have hcv := HV.out k hlt
      obtain ⟨x, hx⟩ : ∃ x, u k = x := ⟨_, rfl⟩
      obtain ⟨y, hy⟩ : ∃ y, v k = y := ⟨_, rfl⟩
      rw [hx] at hcu; rw [hy] at hcv
      have HS' := Bx.mk (show wrap64 (S + wrap64 (x * y)) = wrap64 (sm (k + 1) fun j => u j * v j) by
        obtain ⟨q, hq⟩ := wrap64_mod (sm k fun j => u j * v j)
        obtain ⟨r, hr⟩ := wrap64_mod (x * y)
        rw [HS.out, hq, hr, sm, hx, hy]
        exact wrap64_of (q := q + r) (by omega))
      clear hx hy
      go_wp2_with fail
      go_region
      all_goals go_wp2_with fail
      all_goals exact ⟨⟨k + 1, _, by omega, rfl, by go_num, HS', ⟨fun l hl => HU.out l hl⟩, ⟨fun l hl => HV.out l hl⟩, (by repeat (first | with_reducible exact Below.refl _ _ | with_reducible exact hB | (with_reducible refine Below.setCell ?_ ?side _; case side => (first | omega | (simp <;> omega))) | (with_reducible refine Below.alloc ?_ ?side _; case side => (first | omega | (simp <;> omega))) | with_reducible apply below_drewN | with_reducible apply below_drew))⟩, by simp [intOf]; omega⟩
    · obtain rfl : k = 6 := by omega
      have HR := Bx.mk (show S = wrap64 (dot 6 u v) from HS.out)
      go_wp2_with fail
      go_ret
      exact ⟨by rw [← HR.out]; rfl, hB⟩
end Go.Proofs.Ytjnnalfocffggaa
/- the law's combination. -/
namespace Go.Proofs.Ytjnnalfocffggaa
open Go.RowKit D
/-- What the taking apart keeps to. -/
structure Tk (H : Mat) (p : Nat → Nat) (v : Nat → Int) (n : Nat) : Prop where
  lt : ∀ k, k < n → p k < 6
  pos : ∀ k, k < n → 1 ≤ H k (p k)
  left : ∀ k j, k < n → j < p k → H k j = 0
  ent : ∀ k j, k < n → j < 6 → -6000000000 ≤ H k j ∧ H k j ≤ 6000000000
  val : ∀ k j, k ≤ n → j < 6 → -400000000000000 ≤ tk H p v k j ∧ tk H p v k j ≤ 400000000000000
  cs : ∀ k, k < n → -63000 ≤ ck H p v k ∧ ck H p v k ≤ 63000
  prod : ∀ k j, k < n → j < 6 → -400000000000000 ≤ ck H p v k * H k j ∧ ck H p v k * H k j ≤ 400000000000000
  rem : ∀ k, k < n → (tk H p v k (p k)).tmod (H k (p k)) = 0
  quo : ∀ k, k < n → (tk H p v k (p k)).tdiv (H k (p k)) = ck H p v k
  end0 : ∀ j, j < 6 → tk H p v n j = 0
theorem Tk.of {H : Mat} {n : Nat} {p : Nat → Nat} {v : Nat → Int} (h : Hf H n 6 p) (hn : n ≤ 6) (hE : ∀ i j, i < n → j < 6 → (H i j).natAbs ≤ 6000000000) (hv : ∀ j, j < 6 → (v j).natAbs ≤ 1000) (hs : Sp H n 6 v) : Tk H p v n := by
  obtain ⟨t1, t2⟩ := h.taken hs
  have hS : ∀ k, k ≤ n → rs k (ck H p v) ≤ 63000 := fun k hk => by
    have := h.ck_bound hv hk
    have h2 : 2 ^ k ≤ 2 ^ 6 := Nat.pow_le_pow_right (by omega) (by omega)
    have h3 : 1000 * 2 ^ k ≤ 1000 * 2 ^ 6 := Nat.mul_le_mul_left _ h2
    simp at h3; omega
  have hc : ∀ k, k < n → (ck H p v k).natAbs ≤ 63000 := fun k hk => by
    have := hS (k + 1) (by omega); simp only [rs] at this; omega
  have hp : ∀ k j, k < n → j < 6 → (ck H p v k * H k j).natAbs ≤ 378000000000000 := fun k j hk hj => by
    rw [Int.natAbs_mul]
    exact Nat.mul_le_mul (hc k hk) (hE k j hk hj)
  have hV : ∀ k j, k ≤ n → j < 6 → (tk H p v k j).natAbs ≤ 378000000001000 := fun k j hk hj => by
    rw [tk_sum]
    have h1 := sm_abs k (fun l => ck H p v l * H l j) (fun l => (ck H p v l).natAbs * 6000000000) fun l hl => by
      rw [Int.natAbs_mul]; exact Nat.mul_le_mul_left _ (hE l j (by omega) hj)
    rw [rs_mul] at h1
    have h2 := Nat.mul_le_mul_right 6000000000 (hS k hk)
    have := hv j hj
    omega
  refine ⟨h.lt, fun k hk => by have := h.pos k hk; omega, h.left, fun k j hk hj => by have := hE k j hk hj; omega, fun k j hk hj => by have := hV k j hk hj; omega, fun k hk => by have := hc k hk; omega, fun k j hk hj => by have := hp k j hk hj; omega, fun k hk => ?_, fun k hk => ?_, t2⟩
  · exact Int.tmod_eq_zero_of_dvd (t1 k hk)
  · unfold ck
    obtain ⟨c, hc⟩ := t1 k hk
    have hp := h.pos k hk
    rw [hc, Int.mul_tdiv_cancel_left _ (by omega), Int.mul_ediv_cancel_left _ (by omega)]
theorem cells_set {wr : World} {b l : Nat} {f h : Nat → Int} {x : Int} (hw : ∀ t, t < 6 → wr.cell? ⟨b, t, none⟩ = some (.int .i64 (f t)) ∧ wr.frozen? ⟨b, t, none⟩ = false) (hl : l < 6) (e : x = h l) (ht : ∀ t, t < 6 → t ≠ l → h t = f t) :
    ∀ t, t < 6 → (wr.setCell ⟨b, l, none⟩ (.int .i64 x)).cell? ⟨b, t, none⟩ = some (.int .i64 (h t)) ∧ (wr.setCell ⟨b, l, none⟩ (.int .i64 x)).frozen? ⟨b, t, none⟩ = false := by
  intro t ht6
  refine ⟨?_, by rw [World.frozen?_setCell]; exact (hw t ht6).2⟩
  by_cases y : t = l
  · subst y; rw [World.cell?_setCell_same _ _ _ (hw t ht6).1, e]
  · rw [World.cell?_setCell_other _ _ _ _ (fun c => y (by simpa using (congrArg Addr.off c).symm)), (hw t ht6).1, ht t ht6 y]
set_option maxHeartbeats 8000000 in
theorem comb_any (ao : Option Addr) (n c1 : Nat) (H : Nat → Nat → Int) (p : Nat → Nat) (v : Nat → Int) (w : World) (hn : n ≤ 6) (hc1 : n ≤ c1) (hR : CV w ao n H) (hT : Tk H p v n) :
    Calls Try.prog 32 #[.slice ao n c1, PV v] w fun e w' => e = .returned (.bool true) ∧ Below w.heap.size w w' := by
  have HT := Bx.mk hT
  have HC := Bx.mk (box_cell w v 37)
  clear hT
  go_enter Try.func32, Try.ntmps32
  go_wp2_with fail
  go_loopw [5] (fun i wr => ∃ k : Nat, k ≤ n ∧ i = .int .i64 k ∧ Bx (∀ l, l < 6 → wr.cell? ⟨w.heap.size, l, none⟩ = some (.int .i64 (tk H p v k l)) ∧ wr.frozen? ⟨w.heap.size, l, none⟩ = false) ∧ w.heap.size < wr.heap.size ∧ Below w.heap.size w wr) (fun i _ => n - (intOf i).toNat)
  case atStart => exact ⟨0, by omega, rfl, ⟨fun l hl => ⟨HC.out l hl, by simp [go_sem]⟩⟩, by simp, (by repeat (first | with_reducible exact Below.refl _ _ | (with_reducible refine Below.setCell ?_ ?side _; case side => (first | omega | (simp <;> omega))) | (with_reducible refine Below.alloc ?_ ?side _; case side => (first | omega | (simp <;> omega))) | with_reducible apply below_drewN | with_reducible apply below_drew))⟩
  case round =>
    obtain ⟨k, hk, rfl, HV, hws, hB⟩ := hrel
    by_cases hlt : k < n
    · obtain ⟨b, o, rfl, hb, hc⟩ := hR (by omega)
      have a0 := hB.cell (p := ⟨b, o + k * 6 + 0, none⟩) hb
      have a1 := hB.cell (p := ⟨b, o + k * 6 + 1, none⟩) hb
      have a2 := hB.cell (p := ⟨b, o + k * 6 + 2, none⟩) hb
      have a3 := hB.cell (p := ⟨b, o + k * 6 + 3, none⟩) hb
      have a4 := hB.cell (p := ⟨b, o + k * 6 + 4, none⟩) hb
      have a5 := hB.cell (p := ⟨b, o + k * 6 + 5, none⟩) hb
      rw [hc k _ hlt (by omega)] at a0 a1 a2 a3 a4 a5
      rw [Nat.add_zero] at a0
      have HP := Bx.mk (fun w => pivot_any (H k) w (p k) (by have := HT.out.lt k hlt; omega) (fun j hj => HT.out.left k j hlt hj) (fun _ => by have := HT.out.pos k hlt; omega))
      unfold PV at HP
      have HCC := Bx.mk hc
      clear hc
      go_wp2_with fail
      refine (HP.out _).mono ?_
      rintro e w2 ⟨rfl, hb2⟩
      have HV2 : Bx (∀ l, l < 6 → w2.cell? ⟨w.heap.size, l, none⟩ = some (.int .i64 (tk H p v k l)) ∧ w2.frozen? ⟨w.heap.size, l, none⟩ = false) :=
        ⟨fun l hl => ⟨by rw [hb2.cell (p := ⟨w.heap.size, l, none⟩) hws]; exact (HV.out l hl).1, by rw [hb2.frozen (p := ⟨w.heap.size, l, none⟩) hws]; exact (HV.out l hl).2⟩⟩
      have HB2 : Bx (Below w.heap.size w w2) := ⟨hB.trans (hb2.mono hB.size)⟩
      have hws2 : w.heap.size < w2.heap.size := Nat.lt_of_lt_of_le hws hb2.size
      clear hb2 HP HV a0 a1 a2 a3 a4 a5
      have hq6 : p k < 6 := HT.out.lt k hlt
      have hx := (HV2.out (p k) hq6).1
      have hy := HB2.out.cell (p := ⟨b, o + k * 6 + p k, none⟩) hb
      rw [HCC.out k (p k) hlt hq6] at hy
      have hr := HT.out.rem k hlt
      have hq := HT.out.quo k hlt
      have hy1 := HT.out.pos k hlt
      obtain ⟨q0, hq0⟩ : ∃ q0, p k = q0 := ⟨_, rfl⟩
      rw [hq0] at hx hy hr hq hy1 hq6 ⊢
      obtain ⟨x, hxe⟩ : ∃ x, tk H p v k q0 = x := ⟨_, rfl⟩
      obtain ⟨y, hye⟩ : ∃ y, H k q0 = y := ⟨_, rfl⟩
      obtain ⟨c, hce⟩ : ∃ c, ck H p v k = c := ⟨_, rfl⟩
      rw [hxe] at hx hr hq; rw [hye] at hy hr hq hy1; rw [hce] at hq
      have HCE := Bx.mk hce
      have HQ0 := Bx.mk hq0
      have cb1 : -63000 ≤ c := by rw [← hce]; exact (HT.out.cs k hlt).1
      have cb2 : c ≤ 63000 := by rw [← hce]; exact (HT.out.cs k hlt).2
      have hq06 : ((q0 : Int) == 6) = false := by simp; omega
      have hy0 : y ≠ 0 := by omega
      clear hxe hye hce hq0
      go_wp2_with fail
      go_region
      all_goals go_wp2_with fail
      all_goals go_region
      all_goals go_wp2_with fail
      all_goals
        go_loopw [8] (fun i wr => ∃ l : Nat, l ≤ 6 ∧ i = .int .i64 l ∧ Bx (∀ t, t < 6 → wr.cell? ⟨w.heap.size, t, none⟩ = some (.int .i64 (if t < l then tk H p v (k + 1) t else tk H p v k t)) ∧ wr.frozen? ⟨w.heap.size, t, none⟩ = false) ∧ w.heap.size < wr.heap.size ∧ Bx (Below w.heap.size w wr)) (fun i _ => 6 - (intOf i).toNat)
        case atStart => exact ⟨0, by omega, rfl, ⟨fun t ht => HV2.out t ht⟩, hws2, ⟨by first | exact HB2.out | exact below_drew HB2.out | exact below_drew (below_drew HB2.out)⟩⟩
        case round =>
          obtain ⟨l, hl, rfl, HW, hws3, HB3⟩ := hrel
          by_cases hl6 : l < 6
          · have hxl := (HW.out l hl6).1
            have hfl := (HW.out l hl6).2
            rw [if_neg (Nat.lt_irrefl l)] at hxl
            have hyl := HB3.out.cell (p := ⟨b, o + k * 6 + l, none⟩) hb
            rw [HCC.out k l hlt hl6] at hyl
            have HN := Bx.mk (show tk H p v k l - c * H k l = tk H p v (k + 1) l by rw [← HCE.out]; rfl)
            have v1 := (HT.out.val k l (by omega) hl6).1
            have v2 := (HT.out.val k l (by omega) hl6).2
            have q1 := (HT.out.prod k l hlt hl6).1
            have q2 := (HT.out.prod k l hlt hl6).2
            have e1 := (HT.out.ent k l hlt hl6).1
            have e2 := (HT.out.ent k l hlt hl6).2
            rw [HCE.out] at q1 q2
            obtain ⟨X, hX⟩ : ∃ X, tk H p v k l = X := ⟨_, rfl⟩
            obtain ⟨Z, hZ⟩ : ∃ Z, H k l = Z := ⟨_, rfl⟩
            obtain ⟨P, hP⟩ : ∃ P, c * Z = P := ⟨_, rfl⟩
            rw [hX] at hxl v1 v2 HN
            rw [hZ] at hyl q1 q2 e1 e2 HN
            rw [hP] at q1 q2 HN
            clear hX hZ
            go_wp2_with fail
            go_region
            all_goals go_wp2_with fail
            all_goals exact ⟨⟨l + 1, by omega, by go_num, ⟨cells_set HW.out hl6 (h := fun t => if t < l + 1 then tk H p v (k + 1) t else tk H p v k t) (by simp only [if_pos (Nat.lt_succ_self l)]; exact HN.out) fun t ht hne => by
                by_cases z : t < l
                · simp only [if_pos z, if_pos (show t < l + 1 by omega)]
                · simp only [if_neg z, if_neg (show ¬ t < l + 1 by omega)]⟩, by simp; omega, ⟨(by repeat (first | with_reducible exact Below.refl _ _ | with_reducible exact HB3.out | (with_reducible refine Below.setCell ?_ ?side _; case side => (first | omega | (simp <;> omega))) | (with_reducible refine Below.alloc ?_ ?side _; case side => (first | omega | (simp <;> omega))) | with_reducible apply below_drewN | with_reducible apply below_drew))⟩⟩, by simp [intOf]; omega⟩
          · obtain rfl : l = 6 := by omega
            have HW' := Bx.mk (show ∀ t, t < 6 → wr.cell? ⟨w.heap.size, t, none⟩ = some (.int .i64 (tk H p v (k + 1) t)) ∧ wr.frozen? ⟨w.heap.size, t, none⟩ = false from fun t ht => by have := HW.out t ht; rwa [if_pos ht] at this)
            go_wp2_with fail
            exact ⟨⟨k + 1, by omega, by go_num, HW', hws3, HB3.out⟩, by simp [intOf]; omega⟩
    · obtain rfl : k = n := by omega
      have z0 := (HV.out 0 (by omega)).1
      have z1 := (HV.out 1 (by omega)).1
      have z2 := (HV.out 2 (by omega)).1
      have z3 := (HV.out 3 (by omega)).1
      have z4 := (HV.out 4 (by omega)).1
      have z5 := (HV.out 5 (by omega)).1
      rw [HT.out.end0 _ (by omega)] at z0 z1 z2 z3 z4 z5
      have E6 := eq6_same 37 Try.underlying37 (fun _ => 0)
      unfold PV at E6
      go_wp2_with fail
      go_ret
      exact ⟨rfl, hB⟩
end Go.Proofs.Ytjnnalfocffggaa
/- the law's normal. -/
namespace Go.Proofs.Ytjnnalfocffggaa
open Go.RowKit D
set_option maxHeartbeats 8000000 in
theorem normal_any (ao : Option Addr) (n c1 : Nat) (H : Nat → Nat → Int) (p : Nat → Nat) (w : World) (hn : n ≤ 6) (hc1 : n ≤ c1) (hR : CV w ao n H) (hT : Hf H n 6 p) (hE : ∀ i j, i < n → j < 6 → (H i j).natAbs ≤ 6000000000) :
    Calls Try.prog 30 #[.slice ao n c1] w fun e w' => e = .returned (.bool true) ∧ Below w.heap.size w w' := by
  have HT := Bx.mk hT
  have HP := Bx.mk (fun k (hk : k < n) w => pivot_any (H k) w (p k) (by have := hT.lt k hk; omega) (fun j hj => hT.left k j hk hj) (fun _ => by have := hT.pos k hk; omega))
  have HE := Bx.mk hE
  clear hT hE
  go_enter Try.func30, Try.ntmps30
  go_wp2_with fail
  go_loopw [3] (fun i wr => ∃ k : Nat, k ≤ n ∧ i = .int .i64 k ∧ Bx (Below w.heap.size w wr)) (fun i _ => n - (intOf i).toNat)
  case atStart => exact ⟨0, by omega, rfl, ⟨Below.refl _ _⟩⟩
  case round =>
    obtain ⟨k, hk, rfl, HB⟩ := hrel
    have hB := HB.out
    by_cases hlt : k < n
    · obtain ⟨b, o, rfl, hb, hc⟩ := hR (by omega)
      have a0 := hB.cell (p := ⟨b, o + (k) * 6 + 0, none⟩) hb
      have a1 := hB.cell (p := ⟨b, o + (k) * 6 + 1, none⟩) hb
      have a2 := hB.cell (p := ⟨b, o + (k) * 6 + 2, none⟩) hb
      have a3 := hB.cell (p := ⟨b, o + (k) * 6 + 3, none⟩) hb
      have a4 := hB.cell (p := ⟨b, o + (k) * 6 + 4, none⟩) hb
      have a5 := hB.cell (p := ⟨b, o + (k) * 6 + 5, none⟩) hb
      rw [hc k _ hlt (by omega)] at a0 a1 a2 a3 a4 a5
      rw [Nat.add_zero] at a0
      have HP1 := HP.out k hlt
      unfold PV at HP1
      have HPK := Bx.mk HP1
      have HCC := Bx.mk hc
      clear hc HP1
      go_wp2_with fail
      refine (HPK.out _).mono ?_
      rintro e w2 ⟨rfl, hb2⟩
      have HB2 : Bx (Below w.heap.size w w2) := ⟨hB.trans (hb2.mono hB.size)⟩
      clear hb2 a0 a1 a2 a3 a4 a5
      have hq6 : p k < 6 := HT.out.lt k hlt
      have hy := HB2.out.cell (p := ⟨b, o + k * 6 + p k, none⟩) hb
      rw [HCC.out k (p k) hlt hq6] at hy
      have hy1 := HT.out.pos k hlt
      have hy2 := HE.out k (p k) hlt hq6
      obtain ⟨q0, hq0⟩ : ∃ q0, p k = q0 := ⟨_, rfl⟩
      rw [hq0] at hy hy1 hy2 hq6 ⊢
      obtain ⟨y, hye⟩ : ∃ y, H k q0 = y := ⟨_, rfl⟩
      rw [hye] at hy hy1 hy2
      have hy3 : y ≤ 6000000000 := by omega
      have HQ0 := Bx.mk hq0
      have HYE := Bx.mk hye
      have hq06 : ((q0 : Int) == 6) = false := by simp; omega
      have hyd : decide (y < 0) = false := by simp; omega
      clear hye hq0 hy2
      by_cases hk0 : k = 0
      · subst hk0
        simp only [Nat.zero_mul, Nat.add_zero] at hy
        go_wp2_with fail
        go_loopw [5] (fun i wr => ∃ l : Nat, l ≤ 0 ∧ i = .int .i64 l ∧ Bx (Below w.heap.size w wr)) (fun i _ => 0 - (intOf i).toNat)
        case atStart => exact ⟨0, by omega, rfl, HB2⟩
        case round =>
          obtain ⟨l, hl, rfl, HB4⟩ := hrel
          obtain rfl : l = 0 := by omega
          go_wp2_with fail
          exact ⟨⟨0 + 1, by omega, by go_num, HB4⟩, by simp [intOf]; omega⟩
      · obtain ⟨m, hm⟩ : ∃ m, k = m + 1 := ⟨k - 1, by omega⟩
        have HM := Bx.mk hm
        have hkm : (k : Int) - 1 = (m : Int) := by omega
        have hkp : (0 : Int) < (k : Int) := by omega
        have hmn : m < n := by omega
        clear hm
        have d0 := HB2.out.cell (p := ⟨b, o + m * 6 + 0, none⟩) hb
        have d1 := HB2.out.cell (p := ⟨b, o + m * 6 + 1, none⟩) hb
        have d2 := HB2.out.cell (p := ⟨b, o + m * 6 + 2, none⟩) hb
        have d3 := HB2.out.cell (p := ⟨b, o + m * 6 + 3, none⟩) hb
        have d4 := HB2.out.cell (p := ⟨b, o + m * 6 + 4, none⟩) hb
        have d5 := HB2.out.cell (p := ⟨b, o + m * 6 + 5, none⟩) hb
        rw [HCC.out m _ (by omega) (by omega)] at d0 d1 d2 d3 d4 d5
        rw [Nat.add_zero] at d0
        have hlt2 : p m < q0 := by rw [← HQ0.out]; exact HT.out.rise m k (by have := HM.out; omega) hlt
        obtain ⟨q1, hq1⟩ : ∃ q1, p m = q1 := ⟨_, rfl⟩
        have HP2 := HP.out m (by omega)
        unfold PV at HP2
        rw [hq1] at HP2 hlt2
        have HPM := Bx.mk HP2
        have hqd : decide (q0 ≤ q1) = false := by simp; omega
        clear HP2
        go_wp2_with fail
        refine (HPM.out _).mono ?_
        rintro e w3 ⟨rfl, hb3⟩
        have HB3 : Bx (Below w.heap.size w w3) := ⟨HB2.out.trans (hb3.mono HB2.out.size)⟩
        clear hb3 d0 d1 d2 d3 d4 d5
        go_wp2_with fail
        go_loopw [5] (fun i wr => ∃ l : Nat, l ≤ k ∧ i = .int .i64 l ∧ Bx (Below w.heap.size w wr)) (fun i _ => k - (intOf i).toNat)
        case atStart => exact ⟨0, by omega, rfl, HB3⟩
        case round =>
          obtain ⟨l, hl, rfl, HB4⟩ := hrel
          by_cases hlk : l < k
          · have hz := HB4.out.cell (p := ⟨b, o + l * 6 + q0, none⟩) hb
            rw [HCC.out l q0 (by omega) hq6] at hz
            have hyy := HB4.out.cell (p := ⟨b, o + (k) * 6 + q0, none⟩) hb
            rw [HCC.out (k) q0 hlt hq6, HYE.out] at hyy
            have hr := HT.out.red l (k) hlk hlt
            rw [HQ0.out, HYE.out] at hr
            obtain ⟨z, hze⟩ : ∃ z, H l q0 = z := ⟨_, rfl⟩
            rw [hze] at hz hr
            obtain ⟨hr1, hr2⟩ := hr
            have hln : l < n := by omega
            have hzn : ¬ z < 0 := by omega
            have hzd : decide (z < 0) = false := by simpa using hzn
            have hzd2 : decide (z ≥ y) = false := by simp; omega
            have hq6i : (q0 : Int) < 6 := by omega
            clear hze
            go_wp2_with fail
            go_region
            all_goals go_wp2_with fail
            all_goals exact ⟨⟨l + 1, by omega, by go_num, ⟨(by repeat (first | with_reducible exact Below.refl _ _ | with_reducible exact HB4.out | (with_reducible refine Below.setCell ?_ ?side _; case side => (first | omega | (simp <;> omega))) | (with_reducible refine Below.alloc ?_ ?side _; case side => (first | omega | (simp <;> omega))) | with_reducible apply below_drewN | with_reducible apply below_drew))⟩⟩, by simp [intOf]; omega⟩
          · obtain rfl : l = k := by omega
            go_wp2_with fail
            exact ⟨⟨l + 1, by omega, by go_num, HB4⟩, by simp [intOf]; omega⟩
    · obtain rfl : k = n := by omega
      go_wp2_with fail
      go_ret
      exact ⟨rfl, hB⟩
end Go.Proofs.Ytjnnalfocffggaa

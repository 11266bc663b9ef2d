/- the reference's Ratio. -/
import Derived.Test.YtdlfnonlalkjdaaGreatDoorU5
import Derived.Test.YtdlfnonlalkjdaaGreatDoorQM2
namespace Go.Proofs.YtdlfnonlalkjdaaGreatDoor
open Go.RowKit M
/-- n without its first k primes. -/
structure Fk (n k : Nat) (v : Nat → Int) (y : Nat) : Prop where
  eq : n = upN v k * y
  no : ∀ j, j < k → ¬ y % pr j = 0
  low : ∀ j, j < k → 0 ≤ v j ∧ v j ≤ 29
  top : ∀ j, k ≤ j → v j = 0
  pos : 1 ≤ y
  le : y ≤ n
def put (k : Nat) (x : Int) (q : Nat → Int) : Nat → Int := fun j => if j = k then x else q j
theorem put_at (k : Nat) (x : Int) (q : Nat → Int) : put k x q k = x := by simp [put]
theorem put_put (k : Nat) (x y : Int) (q : Nat → Int) : ∀ j, j < 6 → put k y q j = if j = k then y else put k x q j := by
  intro j _
  unfold put
  by_cases h : j = k
  · rw [if_pos h, if_pos h]
  · rw [if_neg h, if_neg h, if_neg h]
theorem Fk.start {n : Nat} (h : 1 ≤ n) : Fk n 0 (fun _ => 0) n := ⟨by simp [upN], fun j hj => by omega, fun j hj => by omega, fun _ _ => rfl, h, Nat.le_refl _⟩
theorem Fk.step {n k y e y' : Nat} {v : Nat → Int} (h : Fk n k v y) (t : Took (pr k) y e y') (hd : ¬ y' % pr k = 0) (he : e ≤ 29) : Fk n (k + 1) (put k (e : Int) v) y' := by
  have hc : upN (put k (e : Int) v) k = upN v k := upN_congr fun i hi => by unfold put; rw [if_neg (by omega)]
  have hdv : y' ∣ y := ⟨pr k ^ e, by rw [t.eq, Nat.mul_comm]⟩
  refine ⟨?_, ?_, ?_, ?_, t.pos, Nat.le_trans t.le h.le⟩
  · show n = upN (put k (e : Int) v) k * pr k ^ (put k (e : Int) v k).toNat * y'
    rw [hc, put_at, Int.toNat_natCast, Nat.mul_assoc, ← t.eq]
    exact h.eq
  · intro j hj hz
    rcases Nat.lt_or_eq_of_le (Nat.lt_succ_iff.1 hj) with hl | rfl
    · exact h.no j hl (Nat.mod_eq_zero_of_dvd (Nat.dvd_trans (Nat.dvd_of_mod_eq_zero hz) hdv))
    · exact hd hz
  · intro j hj
    unfold put
    by_cases e : j = k
    · rw [if_pos e]; omega
    · rw [if_neg e]; exact h.low j (by omega)
  · intro j hj
    unfold put
    rw [if_neg (by omega)]; exact h.top j (by omega)
theorem Fk.fac {n y : Nat} {v : Nat → Int} (h : Fk n 6 v y) : FacR n v y := ⟨fun i hi => by have := h.low i hi; omega, h.eq, h.pos, fun i hi hd => h.no i hi (Nat.mod_eq_zero_of_dvd hd)⟩
set_option maxHeartbeats 8000000 in
theorem refRatio_any (n d : Nat) (w : World) (hn0 : 1 ≤ n) (hn1 : n ≤ 1000000000) (hd0 : 1 ≤ d) (hd1 : d ≤ 1000000000) : Calls Tryz.prog 22 #[.int .i64 (n : Int), .int .i64 (d : Int)] w (OutR n d w) := by
  go_enter Tryz.func22, Tryz.ntmps22
  have hB : Hx (Below w.heap.size w ((w.alloc (.cells (PC fun _ => 0) 24)).alloc (.cells (PC fun _ => 0) 24))) := ⟨((Below.refl _ _).alloc (Nat.le_refl _) _).alloc (by simp) _⟩
  have HO : Hx (Cel (w.heap.size + 1) ((w.alloc (.cells (PC fun _ => 0) 24)).alloc (.cells (PC fun _ => 0) 24)) (fun _ => 0)) := ⟨by have := Cel.lit (w.alloc (.cells (PC fun _ => 0) 24)) (fun _ => 0) 24; simpa using this⟩
  have HR : Hx (Cel w.heap.size ((w.alloc (.cells (PC fun _ => 0) 24)).alloc (.cells (PC fun _ => 0) 24)) (fun _ => 0)) := ⟨(Cel.lit w (fun _ => 0) 24).later (B := w.heap.size + 1) ((Below.refl _ _).alloc (by simp) _) (by omega)⟩
  go_wp2_with fail
  go_loopw [0, 1, 7] (fun nv dv iv wr => ∃ (k : Int) (y z : Nat) (va vb q : Nat → Int), 0 ≤ k ∧ k ≤ 6 ∧ iv = .int .i64 k ∧ nv = .int .i64 (y : Int) ∧ dv = .int .i64 (z : Int) ∧ Hx (Fk n k.toNat va y) ∧ Hx (Fk d k.toNat vb z) ∧ Hx (∀ j, j < 6 → q j = va j - vb j) ∧ Hx (Cel (w.heap.size + 1) wr q) ∧ Hx (Cel (w.heap.size) wr (fun _ => 0)) ∧ Hx (Below w.heap.size w wr) ∧ w.heap.size + 1 < wr.heap.size) (fun _ _ iv _ => 6 - (intOf iv).toNat)
  case atStart => exact ⟨0, n, d, fun _ => 0, fun _ => 0, fun _ => 0, by omega, by omega, rfl, rfl, rfl, ⟨Fk.start hn0⟩, ⟨Fk.start hd0⟩, ⟨fun _ _ => rfl⟩, HO, HR, hB, by simp⟩
  case round =>
    clear HO HR hB
    obtain ⟨k, y0, z0, va, vb, q, hk0, hk, rfl, rfl, rfl, HA, HB, HQ, HO, HR, hB, hsz⟩ := hrel
    have a1 := HA.out.pos
    have a2 : y0 ≤ 1000000000 := Nat.le_trans HA.out.le hn1
    have b1 := HB.out.pos
    have b2 : z0 ≤ 1000000000 := Nat.le_trans HB.out.le hd1
    have : k = 0 ∨ k = 1 ∨ k = 2 ∨ k = 3 ∨ k = 4 ∨ k = 5 ∨ k = 6 := by omega
    rcases this with rfl | rfl | rfl | rfl | rfl | rfl | rfl
    · have q0 : q 0 = 0 := by rw [HQ.out 0 (by omega), HA.out.top 0 (by decide), HB.out.top 0 (by decide)]; rfl
      have HFIN : Hx (∀ (e1 e2 : Nat) (c : Int), c = (e1 : Int) - (e2 : Int) → ∀ j, j < 6 → put 0 c q j = put 0 (e1 : Int) va j - put 0 (e2 : Int) vb j) := ⟨fun e1 e2 c hc j hj => by
        unfold put
        by_cases h : j = 0
        · rw [if_pos h, if_pos h, if_pos h]; exact hc
        · rw [if_neg h, if_neg h, if_neg h]; exact HQ.out j hj⟩
      have HO : Hx (Cel (w.heap.size + 1) wr (put 0 0 q)) := ⟨HO.out.congr fun j _ => by
        unfold put
        by_cases h : j = 0
        · rw [if_pos h, h]; exact q0
        · rw [if_neg h]⟩
      clear q0 HQ
      go_wp2_with fail
      refine (refPrime_0 _).mono ?_
      rintro e w2 ⟨rfl, rfl⟩
      go_wp2_with fail
      go_loopw [0] (fun nv wr => ∃ (y e : Nat) (c : Int), nv = .int .i64 (y : Int) ∧ Hx (Took 2 y0 e y) ∧ Hx (c = (e : Int)) ∧ -29 ≤ c ∧ c ≤ 29 ∧ Hx (Cel (w.heap.size + 1) wr (put 0 c q)) ∧ Hx (Cel (w.heap.size) wr (fun _ => 0)) ∧ Hx (Below w.heap.size w wr) ∧ w.heap.size + 1 < wr.heap.size) (fun nv _ => (intOf nv).toNat)
      case atStart => exact ⟨y0, 0, 0, rfl, ⟨Took.start a1⟩, ⟨by omega⟩, by omega, by omega, HO, HR, hB, hsz⟩
      case round =>
        clear HO HR hB hsz
        obtain ⟨y, e, c, rfl, HT, HE, hc0, hc1, HO, HR, hB, hsz⟩ := hrel
        have t1 := HT.out.pos
        have t2 : y ≤ 1000000000 := Nat.le_trans HT.out.le a2
        have t3 : e ≤ 29 := HT.out.e29
        by_cases hd : y % 2 = 0
        · obtain ⟨hT, hlt⟩ := HT.out.step (by omega) a2 hd
          have hm : ((y : Int) % 2 == 0) = true := by rw [beq_iff_eq]; omega
          have hq : (y : Int) / 2 = ((y / 2 : Nat) : Int) := by omega
          obtain ⟨f, hf⟩ : ∃ f, e + 1 = f := ⟨_, rfl⟩
          obtain ⟨c2, hc2⟩ : ∃ c2, c + 1 = c2 := ⟨_, rfl⟩
          obtain ⟨z, hz⟩ : ∃ z, y / 2 = z := ⟨_, rfl⟩
          rw [hz, hf] at hT
          rw [hz] at hlt hq
          have t5 : f ≤ 29 := hT.e29
          have HE2 : Hx (c2 = (f : Int)) := ⟨by have := HE.out; omega⟩
          have hcb0 : -29 ≤ c2 := by have := HE2.out; omega
          have hcb1 : c2 ≤ 29 := by have := HE2.out; omega
          have cHO : wr.cell? ⟨w.heap.size + 1, 0, none⟩ = some (.int .i64 c) := by rw [HO.out.cell 0 (by omega), put_at]
          have fHO := HO.out.fz 0 (by omega)
          have HT2 := Hx.mk hT
          clear hd hz hf hT
          go_wp2
          go_roundw
          case rel => exact ⟨z, f, c2, rfl, HT2, HE2, hcb0, hcb1, ⟨HO.out.set _ (by omega) (put_put 0 c c2 q)⟩, ⟨HR.out.other _ (by omega)⟩, ⟨(by repeat (first | with_reducible exact hB.out | with_reducible exact Below.refl _ _ | (with_reducible refine Below.setCell ?_ ?side _; case side => (first | omega | (simp <;> omega))) | (with_reducible refine Below.alloc ?_ ?side _; case side => (first | omega | (simp <;> omega))) | with_reducible apply below_drewN | with_reducible apply Below.drew))⟩, by first | omega | (simp <;> omega)⟩
          case measure => simp [intOf]; omega
        · have hm : ((y : Int) % 2 == 0) = false := by rw [beq_eq_false_iff_ne]; omega
          have HN := Hx.mk hd
          clear hd
          obtain ⟨ye, hye⟩ : ∃ x, x = y := ⟨_, rfl⟩
          subst hye
          obtain ⟨ee, hee⟩ : ∃ x, x = e := ⟨_, rfl⟩
          subst hee
          have HTE := HT
          have HNE := HN
          have HCE := HE.out
          clear HT HN HE
          go_wp2_with fail
          go_loopw [1] (fun nv wr => ∃ (y e : Nat) (c : Int), nv = .int .i64 (y : Int) ∧ Hx (Took 2 z0 e y) ∧ Hx (c = (ee : Int) - (e : Int)) ∧ -29 ≤ c ∧ c ≤ 29 ∧ Hx (Cel (w.heap.size + 1) wr (put 0 c q)) ∧ Hx (Cel (w.heap.size) wr (fun _ => 0)) ∧ Hx (Below w.heap.size w wr) ∧ w.heap.size + 1 < wr.heap.size) (fun nv _ => (intOf nv).toNat)
          case atStart => exact ⟨z0, 0, c, rfl, ⟨Took.start b1⟩, ⟨by omega⟩, by omega, by omega, HO, HR, hB, hsz⟩
          case round =>
            clear HO HR hB hsz
            obtain ⟨y, e, c, rfl, HT, HE, hc0, hc1, HO, HR, hB, hsz⟩ := hrel
            have t1 := HT.out.pos
            have t2 : y ≤ 1000000000 := Nat.le_trans HT.out.le b2
            have t3 : e ≤ 29 := HT.out.e29
            by_cases hd : y % 2 = 0
            · obtain ⟨hT, hlt⟩ := HT.out.step (by omega) b2 hd
              have hm : ((y : Int) % 2 == 0) = true := by rw [beq_iff_eq]; omega
              have hq : (y : Int) / 2 = ((y / 2 : Nat) : Int) := by omega
              obtain ⟨f, hf⟩ : ∃ f, e + 1 = f := ⟨_, rfl⟩
              obtain ⟨c2, hc2⟩ : ∃ c2, c - 1 = c2 := ⟨_, rfl⟩
              obtain ⟨z, hz⟩ : ∃ z, y / 2 = z := ⟨_, rfl⟩
              rw [hz, hf] at hT
              rw [hz] at hlt hq
              have t5 : f ≤ 29 := hT.e29
              have HE2 : Hx (c2 = (ee : Int) - (f : Int)) := ⟨by have := HE.out; omega⟩
              have hcb0 : -29 ≤ c2 := by have := HE2.out; omega
              have hcb1 : c2 ≤ 29 := by have := HE2.out; omega
              have cHO : wr.cell? ⟨w.heap.size + 1, 0, none⟩ = some (.int .i64 c) := by rw [HO.out.cell 0 (by omega), put_at]
              have fHO := HO.out.fz 0 (by omega)
              have HT2 := Hx.mk hT
              clear hd hz hf hT
              go_wp2
              go_roundw
              case rel => exact ⟨z, f, c2, rfl, HT2, HE2, hcb0, hcb1, ⟨HO.out.set _ (by omega) (put_put 0 c c2 q)⟩, ⟨HR.out.other _ (by omega)⟩, ⟨(by repeat (first | with_reducible exact hB.out | with_reducible exact Below.refl _ _ | (with_reducible refine Below.setCell ?_ ?side _; case side => (first | omega | (simp <;> omega))) | (with_reducible refine Below.alloc ?_ ?side _; case side => (first | omega | (simp <;> omega))) | with_reducible apply below_drewN | with_reducible apply Below.drew))⟩, by first | omega | (simp <;> omega)⟩
              case measure => simp [intOf]; omega
            · have hm : ((y : Int) % 2 == 0) = false := by rw [beq_eq_false_iff_ne]; omega
              have HN := Hx.mk hd
              clear hd
              go_wp2
              go_roundw
              case rel => exact ⟨1, ye, y, put 0 (ee : Int) va, put 0 (e : Int) vb, put 0 c q, by omega, by omega, rfl, rfl, rfl, ⟨HA.out.step HTE.out HNE.out (by omega)⟩, ⟨HB.out.step HT.out HN.out (by omega)⟩, ⟨HFIN.out _ _ _ HE.out⟩, HO, HR, hB, hsz⟩
              case measure => simp [intOf]
    · have q0 : q 1 = 0 := by rw [HQ.out 1 (by omega), HA.out.top 1 (by decide), HB.out.top 1 (by decide)]; rfl
      have HFIN : Hx (∀ (e1 e2 : Nat) (c : Int), c = (e1 : Int) - (e2 : Int) → ∀ j, j < 6 → put 1 c q j = put 1 (e1 : Int) va j - put 1 (e2 : Int) vb j) := ⟨fun e1 e2 c hc j hj => by
        unfold put
        by_cases h : j = 1
        · rw [if_pos h, if_pos h, if_pos h]; exact hc
        · rw [if_neg h, if_neg h, if_neg h]; exact HQ.out j hj⟩
      have HO : Hx (Cel (w.heap.size + 1) wr (put 1 0 q)) := ⟨HO.out.congr fun j _ => by
        unfold put
        by_cases h : j = 1
        · rw [if_pos h, h]; exact q0
        · rw [if_neg h]⟩
      clear q0 HQ
      go_wp2_with fail
      refine (refPrime_1 _).mono ?_
      rintro e w2 ⟨rfl, rfl⟩
      go_wp2_with fail
      go_loopw [0] (fun nv wr => ∃ (y e : Nat) (c : Int), nv = .int .i64 (y : Int) ∧ Hx (Took 3 y0 e y) ∧ Hx (c = (e : Int)) ∧ -29 ≤ c ∧ c ≤ 29 ∧ Hx (Cel (w.heap.size + 1) wr (put 1 c q)) ∧ Hx (Cel (w.heap.size) wr (fun _ => 0)) ∧ Hx (Below w.heap.size w wr) ∧ w.heap.size + 1 < wr.heap.size) (fun nv _ => (intOf nv).toNat)
      case atStart => exact ⟨y0, 0, 0, rfl, ⟨Took.start a1⟩, ⟨by omega⟩, by omega, by omega, HO, HR, hB, hsz⟩
      case round =>
        clear HO HR hB hsz
        obtain ⟨y, e, c, rfl, HT, HE, hc0, hc1, HO, HR, hB, hsz⟩ := hrel
        have t1 := HT.out.pos
        have t2 : y ≤ 1000000000 := Nat.le_trans HT.out.le a2
        have t3 : e ≤ 29 := HT.out.e29
        by_cases hd : y % 3 = 0
        · obtain ⟨hT, hlt⟩ := HT.out.step (by omega) a2 hd
          have hm : ((y : Int) % 3 == 0) = true := by rw [beq_iff_eq]; omega
          have hq : (y : Int) / 3 = ((y / 3 : Nat) : Int) := by omega
          obtain ⟨f, hf⟩ : ∃ f, e + 1 = f := ⟨_, rfl⟩
          obtain ⟨c2, hc2⟩ : ∃ c2, c + 1 = c2 := ⟨_, rfl⟩
          obtain ⟨z, hz⟩ : ∃ z, y / 3 = z := ⟨_, rfl⟩
          rw [hz, hf] at hT
          rw [hz] at hlt hq
          have t5 : f ≤ 29 := hT.e29
          have HE2 : Hx (c2 = (f : Int)) := ⟨by have := HE.out; omega⟩
          have hcb0 : -29 ≤ c2 := by have := HE2.out; omega
          have hcb1 : c2 ≤ 29 := by have := HE2.out; omega
          have cHO : wr.cell? ⟨w.heap.size + 1, 1, none⟩ = some (.int .i64 c) := by rw [HO.out.cell 1 (by omega), put_at]
          have fHO := HO.out.fz 1 (by omega)
          have HT2 := Hx.mk hT
          clear hd hz hf hT
          go_wp2
          go_roundw
          case rel => exact ⟨z, f, c2, rfl, HT2, HE2, hcb0, hcb1, ⟨HO.out.set _ (by omega) (put_put 1 c c2 q)⟩, ⟨HR.out.other _ (by omega)⟩, ⟨(by repeat (first | with_reducible exact hB.out | with_reducible exact Below.refl _ _ | (with_reducible refine Below.setCell ?_ ?side _; case side => (first | omega | (simp <;> omega))) | (with_reducible refine Below.alloc ?_ ?side _; case side => (first | omega | (simp <;> omega))) | with_reducible apply below_drewN | with_reducible apply Below.drew))⟩, by first | omega | (simp <;> omega)⟩
          case measure => simp [intOf]; omega
        · have hm : ((y : Int) % 3 == 0) = false := by rw [beq_eq_false_iff_ne]; omega
          have HN := Hx.mk hd
          clear hd
          obtain ⟨ye, hye⟩ : ∃ x, x = y := ⟨_, rfl⟩
          subst hye
          obtain ⟨ee, hee⟩ : ∃ x, x = e := ⟨_, rfl⟩
          subst hee
          have HTE := HT
          have HNE := HN
          have HCE := HE.out
          clear HT HN HE
          go_wp2_with fail
          go_loopw [1] (fun nv wr => ∃ (y e : Nat) (c : Int), nv = .int .i64 (y : Int) ∧ Hx (Took 3 z0 e y) ∧ Hx (c = (ee : Int) - (e : Int)) ∧ -29 ≤ c ∧ c ≤ 29 ∧ Hx (Cel (w.heap.size + 1) wr (put 1 c q)) ∧ Hx (Cel (w.heap.size) wr (fun _ => 0)) ∧ Hx (Below w.heap.size w wr) ∧ w.heap.size + 1 < wr.heap.size) (fun nv _ => (intOf nv).toNat)
          case atStart => exact ⟨z0, 0, c, rfl, ⟨Took.start b1⟩, ⟨by omega⟩, by omega, by omega, HO, HR, hB, hsz⟩
          case round =>
            clear HO HR hB hsz
            obtain ⟨y, e, c, rfl, HT, HE, hc0, hc1, HO, HR, hB, hsz⟩ := hrel
            have t1 := HT.out.pos
            have t2 : y ≤ 1000000000 := Nat.le_trans HT.out.le b2
            have t3 : e ≤ 29 := HT.out.e29
            by_cases hd : y % 3 = 0
            · obtain ⟨hT, hlt⟩ := HT.out.step (by omega) b2 hd
              have hm : ((y : Int) % 3 == 0) = true := by rw [beq_iff_eq]; omega
              have hq : (y : Int) / 3 = ((y / 3 : Nat) : Int) := by omega
              obtain ⟨f, hf⟩ : ∃ f, e + 1 = f := ⟨_, rfl⟩
              obtain ⟨c2, hc2⟩ : ∃ c2, c - 1 = c2 := ⟨_, rfl⟩
              obtain ⟨z, hz⟩ : ∃ z, y / 3 = z := ⟨_, rfl⟩
              rw [hz, hf] at hT
              rw [hz] at hlt hq
              have t5 : f ≤ 29 := hT.e29
              have HE2 : Hx (c2 = (ee : Int) - (f : Int)) := ⟨by have := HE.out; omega⟩
              have hcb0 : -29 ≤ c2 := by have := HE2.out; omega
              have hcb1 : c2 ≤ 29 := by have := HE2.out; omega
              have cHO : wr.cell? ⟨w.heap.size + 1, 1, none⟩ = some (.int .i64 c) := by rw [HO.out.cell 1 (by omega), put_at]
              have fHO := HO.out.fz 1 (by omega)
              have HT2 := Hx.mk hT
              clear hd hz hf hT
              go_wp2
              go_roundw
              case rel => exact ⟨z, f, c2, rfl, HT2, HE2, hcb0, hcb1, ⟨HO.out.set _ (by omega) (put_put 1 c c2 q)⟩, ⟨HR.out.other _ (by omega)⟩, ⟨(by repeat (first | with_reducible exact hB.out | with_reducible exact Below.refl _ _ | (with_reducible refine Below.setCell ?_ ?side _; case side => (first | omega | (simp <;> omega))) | (with_reducible refine Below.alloc ?_ ?side _; case side => (first | omega | (simp <;> omega))) | with_reducible apply below_drewN | with_reducible apply Below.drew))⟩, by first | omega | (simp <;> omega)⟩
              case measure => simp [intOf]; omega
            · have hm : ((y : Int) % 3 == 0) = false := by rw [beq_eq_false_iff_ne]; omega
              have HN := Hx.mk hd
              clear hd
              go_wp2
              go_roundw
              case rel => exact ⟨2, ye, y, put 1 (ee : Int) va, put 1 (e : Int) vb, put 1 c q, by omega, by omega, rfl, rfl, rfl, ⟨HA.out.step HTE.out HNE.out (by omega)⟩, ⟨HB.out.step HT.out HN.out (by omega)⟩, ⟨HFIN.out _ _ _ HE.out⟩, HO, HR, hB, hsz⟩
              case measure => simp [intOf]
    · have q0 : q 2 = 0 := by rw [HQ.out 2 (by omega), HA.out.top 2 (by decide), HB.out.top 2 (by decide)]; rfl
      have HFIN : Hx (∀ (e1 e2 : Nat) (c : Int), c = (e1 : Int) - (e2 : Int) → ∀ j, j < 6 → put 2 c q j = put 2 (e1 : Int) va j - put 2 (e2 : Int) vb j) := ⟨fun e1 e2 c hc j hj => by
        unfold put
        by_cases h : j = 2
        · rw [if_pos h, if_pos h, if_pos h]; exact hc
        · rw [if_neg h, if_neg h, if_neg h]; exact HQ.out j hj⟩
      have HO : Hx (Cel (w.heap.size + 1) wr (put 2 0 q)) := ⟨HO.out.congr fun j _ => by
        unfold put
        by_cases h : j = 2
        · rw [if_pos h, h]; exact q0
        · rw [if_neg h]⟩
      clear q0 HQ
      go_wp2_with fail
      refine (refPrime_2 _).mono ?_
      rintro e w2 ⟨rfl, rfl⟩
      go_wp2_with fail
      go_loopw [0] (fun nv wr => ∃ (y e : Nat) (c : Int), nv = .int .i64 (y : Int) ∧ Hx (Took 5 y0 e y) ∧ Hx (c = (e : Int)) ∧ -29 ≤ c ∧ c ≤ 29 ∧ Hx (Cel (w.heap.size + 1) wr (put 2 c q)) ∧ Hx (Cel (w.heap.size) wr (fun _ => 0)) ∧ Hx (Below w.heap.size w wr) ∧ w.heap.size + 1 < wr.heap.size) (fun nv _ => (intOf nv).toNat)
      case atStart => exact ⟨y0, 0, 0, rfl, ⟨Took.start a1⟩, ⟨by omega⟩, by omega, by omega, HO, HR, hB, hsz⟩
      case round =>
        clear HO HR hB hsz
        obtain ⟨y, e, c, rfl, HT, HE, hc0, hc1, HO, HR, hB, hsz⟩ := hrel
        have t1 := HT.out.pos
        have t2 : y ≤ 1000000000 := Nat.le_trans HT.out.le a2
        have t3 : e ≤ 29 := HT.out.e29
        by_cases hd : y % 5 = 0
        · obtain ⟨hT, hlt⟩ := HT.out.step (by omega) a2 hd
          have hm : ((y : Int) % 5 == 0) = true := by rw [beq_iff_eq]; omega
          have hq : (y : Int) / 5 = ((y / 5 : Nat) : Int) := by omega
          obtain ⟨f, hf⟩ : ∃ f, e + 1 = f := ⟨_, rfl⟩
          obtain ⟨c2, hc2⟩ : ∃ c2, c + 1 = c2 := ⟨_, rfl⟩
          obtain ⟨z, hz⟩ : ∃ z, y / 5 = z := ⟨_, rfl⟩
          rw [hz, hf] at hT
          rw [hz] at hlt hq
          have t5 : f ≤ 29 := hT.e29
          have HE2 : Hx (c2 = (f : Int)) := ⟨by have := HE.out; omega⟩
          have hcb0 : -29 ≤ c2 := by have := HE2.out; omega
          have hcb1 : c2 ≤ 29 := by have := HE2.out; omega
          have cHO : wr.cell? ⟨w.heap.size + 1, 2, none⟩ = some (.int .i64 c) := by rw [HO.out.cell 2 (by omega), put_at]
          have fHO := HO.out.fz 2 (by omega)
          have HT2 := Hx.mk hT
          clear hd hz hf hT
          go_wp2
          go_roundw
          case rel => exact ⟨z, f, c2, rfl, HT2, HE2, hcb0, hcb1, ⟨HO.out.set _ (by omega) (put_put 2 c c2 q)⟩, ⟨HR.out.other _ (by omega)⟩, ⟨(by repeat (first | with_reducible exact hB.out | with_reducible exact Below.refl _ _ | (with_reducible refine Below.setCell ?_ ?side _; case side => (first | omega | (simp <;> omega))) | (with_reducible refine Below.alloc ?_ ?side _; case side => (first | omega | (simp <;> omega))) | with_reducible apply below_drewN | with_reducible apply Below.drew))⟩, by first | omega | (simp <;> omega)⟩
          case measure => simp [intOf]; omega
        · have hm : ((y : Int) % 5 == 0) = false := by rw [beq_eq_false_iff_ne]; omega
          have HN := Hx.mk hd
          clear hd
          obtain ⟨ye, hye⟩ : ∃ x, x = y := ⟨_, rfl⟩
          subst hye
          obtain ⟨ee, hee⟩ : ∃ x, x = e := ⟨_, rfl⟩
          subst hee
          have HTE := HT
          have HNE := HN
          have HCE := HE.out
          clear HT HN HE
          go_wp2_with fail
          go_loopw [1] (fun nv wr => ∃ (y e : Nat) (c : Int), nv = .int .i64 (y : Int) ∧ Hx (Took 5 z0 e y) ∧ Hx (c = (ee : Int) - (e : Int)) ∧ -29 ≤ c ∧ c ≤ 29 ∧ Hx (Cel (w.heap.size + 1) wr (put 2 c q)) ∧ Hx (Cel (w.heap.size) wr (fun _ => 0)) ∧ Hx (Below w.heap.size w wr) ∧ w.heap.size + 1 < wr.heap.size) (fun nv _ => (intOf nv).toNat)
          case atStart => exact ⟨z0, 0, c, rfl, ⟨Took.start b1⟩, ⟨by omega⟩, by omega, by omega, HO, HR, hB, hsz⟩
          case round =>
            clear HO HR hB hsz
            obtain ⟨y, e, c, rfl, HT, HE, hc0, hc1, HO, HR, hB, hsz⟩ := hrel
            have t1 := HT.out.pos
            have t2 : y ≤ 1000000000 := Nat.le_trans HT.out.le b2
            have t3 : e ≤ 29 := HT.out.e29
            by_cases hd : y % 5 = 0
            · obtain ⟨hT, hlt⟩ := HT.out.step (by omega) b2 hd
              have hm : ((y : Int) % 5 == 0) = true := by rw [beq_iff_eq]; omega
              have hq : (y : Int) / 5 = ((y / 5 : Nat) : Int) := by omega
              obtain ⟨f, hf⟩ : ∃ f, e + 1 = f := ⟨_, rfl⟩
              obtain ⟨c2, hc2⟩ : ∃ c2, c - 1 = c2 := ⟨_, rfl⟩
              obtain ⟨z, hz⟩ : ∃ z, y / 5 = z := ⟨_, rfl⟩
              rw [hz, hf] at hT
              rw [hz] at hlt hq
              have t5 : f ≤ 29 := hT.e29
              have HE2 : Hx (c2 = (ee : Int) - (f : Int)) := ⟨by have := HE.out; omega⟩
              have hcb0 : -29 ≤ c2 := by have := HE2.out; omega
              have hcb1 : c2 ≤ 29 := by have := HE2.out; omega
              have cHO : wr.cell? ⟨w.heap.size + 1, 2, none⟩ = some (.int .i64 c) := by rw [HO.out.cell 2 (by omega), put_at]
              have fHO := HO.out.fz 2 (by omega)
              have HT2 := Hx.mk hT
              clear hd hz hf hT
              go_wp2
              go_roundw
              case rel => exact ⟨z, f, c2, rfl, HT2, HE2, hcb0, hcb1, ⟨HO.out.set _ (by omega) (put_put 2 c c2 q)⟩, ⟨HR.out.other _ (by omega)⟩, ⟨(by repeat (first | with_reducible exact hB.out | with_reducible exact Below.refl _ _ | (with_reducible refine Below.setCell ?_ ?side _; case side => (first | omega | (simp <;> omega))) | (with_reducible refine Below.alloc ?_ ?side _; case side => (first | omega | (simp <;> omega))) | with_reducible apply below_drewN | with_reducible apply Below.drew))⟩, by first | omega | (simp <;> omega)⟩
              case measure => simp [intOf]; omega
            · have hm : ((y : Int) % 5 == 0) = false := by rw [beq_eq_false_iff_ne]; omega
              have HN := Hx.mk hd
              clear hd
              go_wp2
              go_roundw
              case rel => exact ⟨3, ye, y, put 2 (ee : Int) va, put 2 (e : Int) vb, put 2 c q, by omega, by omega, rfl, rfl, rfl, ⟨HA.out.step HTE.out HNE.out (by omega)⟩, ⟨HB.out.step HT.out HN.out (by omega)⟩, ⟨HFIN.out _ _ _ HE.out⟩, HO, HR, hB, hsz⟩
              case measure => simp [intOf]
    · have q0 : q 3 = 0 := by rw [HQ.out 3 (by omega), HA.out.top 3 (by decide), HB.out.top 3 (by decide)]; rfl
      have HFIN : Hx (∀ (e1 e2 : Nat) (c : Int), c = (e1 : Int) - (e2 : Int) → ∀ j, j < 6 → put 3 c q j = put 3 (e1 : Int) va j - put 3 (e2 : Int) vb j) := ⟨fun e1 e2 c hc j hj => by
        unfold put
        by_cases h : j = 3
        · rw [if_pos h, if_pos h, if_pos h]; exact hc
        · rw [if_neg h, if_neg h, if_neg h]; exact HQ.out j hj⟩
      have HO : Hx (Cel (w.heap.size + 1) wr (put 3 0 q)) := ⟨HO.out.congr fun j _ => by
        unfold put
        by_cases h : j = 3
        · rw [if_pos h, h]; exact q0
        · rw [if_neg h]⟩
      clear q0 HQ
      go_wp2_with fail
      refine (refPrime_3 _).mono ?_
      rintro e w2 ⟨rfl, rfl⟩
      go_wp2_with fail
      go_loopw [0] (fun nv wr => ∃ (y e : Nat) (c : Int), nv = .int .i64 (y : Int) ∧ Hx (Took 7 y0 e y) ∧ Hx (c = (e : Int)) ∧ -29 ≤ c ∧ c ≤ 29 ∧ Hx (Cel (w.heap.size + 1) wr (put 3 c q)) ∧ Hx (Cel (w.heap.size) wr (fun _ => 0)) ∧ Hx (Below w.heap.size w wr) ∧ w.heap.size + 1 < wr.heap.size) (fun nv _ => (intOf nv).toNat)
      case atStart => exact ⟨y0, 0, 0, rfl, ⟨Took.start a1⟩, ⟨by omega⟩, by omega, by omega, HO, HR, hB, hsz⟩
      case round =>
        clear HO HR hB hsz
        obtain ⟨y, e, c, rfl, HT, HE, hc0, hc1, HO, HR, hB, hsz⟩ := hrel
        have t1 := HT.out.pos
        have t2 : y ≤ 1000000000 := Nat.le_trans HT.out.le a2
        have t3 : e ≤ 29 := HT.out.e29
        by_cases hd : y % 7 = 0
        · obtain ⟨hT, hlt⟩ := HT.out.step (by omega) a2 hd
          have hm : ((y : Int) % 7 == 0) = true := by rw [beq_iff_eq]; omega
          have hq : (y : Int) / 7 = ((y / 7 : Nat) : Int) := by omega
          obtain ⟨f, hf⟩ : ∃ f, e + 1 = f := ⟨_, rfl⟩
          obtain ⟨c2, hc2⟩ : ∃ c2, c + 1 = c2 := ⟨_, rfl⟩
          obtain ⟨z, hz⟩ : ∃ z, y / 7 = z := ⟨_, rfl⟩
          rw [hz, hf] at hT
          rw [hz] at hlt hq
          have t5 : f ≤ 29 := hT.e29
          have HE2 : Hx (c2 = (f : Int)) := ⟨by have := HE.out; omega⟩
          have hcb0 : -29 ≤ c2 := by have := HE2.out; omega
          have hcb1 : c2 ≤ 29 := by have := HE2.out; omega
          have cHO : wr.cell? ⟨w.heap.size + 1, 3, none⟩ = some (.int .i64 c) := by rw [HO.out.cell 3 (by omega), put_at]
          have fHO := HO.out.fz 3 (by omega)
          have HT2 := Hx.mk hT
          clear hd hz hf hT
          go_wp2
          go_roundw
          case rel => exact ⟨z, f, c2, rfl, HT2, HE2, hcb0, hcb1, ⟨HO.out.set _ (by omega) (put_put 3 c c2 q)⟩, ⟨HR.out.other _ (by omega)⟩, ⟨(by repeat (first | with_reducible exact hB.out | with_reducible exact Below.refl _ _ | (with_reducible refine Below.setCell ?_ ?side _; case side => (first | omega | (simp <;> omega))) | (with_reducible refine Below.alloc ?_ ?side _; case side => (first | omega | (simp <;> omega))) | with_reducible apply below_drewN | with_reducible apply Below.drew))⟩, by first | omega | (simp <;> omega)⟩
          case measure => simp [intOf]; omega
        · have hm : ((y : Int) % 7 == 0) = false := by rw [beq_eq_false_iff_ne]; omega
          have HN := Hx.mk hd
          clear hd
          obtain ⟨ye, hye⟩ : ∃ x, x = y := ⟨_, rfl⟩
          subst hye
          obtain ⟨ee, hee⟩ : ∃ x, x = e := ⟨_, rfl⟩
          subst hee
          have HTE := HT
          have HNE := HN
          have HCE := HE.out
          clear HT HN HE
          go_wp2_with fail
          go_loopw [1] (fun nv wr => ∃ (y e : Nat) (c : Int), nv = .int .i64 (y : Int) ∧ Hx (Took 7 z0 e y) ∧ Hx (c = (ee : Int) - (e : Int)) ∧ -29 ≤ c ∧ c ≤ 29 ∧ Hx (Cel (w.heap.size + 1) wr (put 3 c q)) ∧ Hx (Cel (w.heap.size) wr (fun _ => 0)) ∧ Hx (Below w.heap.size w wr) ∧ w.heap.size + 1 < wr.heap.size) (fun nv _ => (intOf nv).toNat)
          case atStart => exact ⟨z0, 0, c, rfl, ⟨Took.start b1⟩, ⟨by omega⟩, by omega, by omega, HO, HR, hB, hsz⟩
          case round =>
            clear HO HR hB hsz
            obtain ⟨y, e, c, rfl, HT, HE, hc0, hc1, HO, HR, hB, hsz⟩ := hrel
            have t1 := HT.out.pos
            have t2 : y ≤ 1000000000 := Nat.le_trans HT.out.le b2
            have t3 : e ≤ 29 := HT.out.e29
            by_cases hd : y % 7 = 0
            · obtain ⟨hT, hlt⟩ := HT.out.step (by omega) b2 hd
              have hm : ((y : Int) % 7 == 0) = true := by rw [beq_iff_eq]; omega
              have hq : (y : Int) / 7 = ((y / 7 : Nat) : Int) := by omega
              obtain ⟨f, hf⟩ : ∃ f, e + 1 = f := ⟨_, rfl⟩
              obtain ⟨c2, hc2⟩ : ∃ c2, c - 1 = c2 := ⟨_, rfl⟩
              obtain ⟨z, hz⟩ : ∃ z, y / 7 = z := ⟨_, rfl⟩
              rw [hz, hf] at hT
              rw [hz] at hlt hq
              have t5 : f ≤ 29 := hT.e29
              have HE2 : Hx (c2 = (ee : Int) - (f : Int)) := ⟨by have := HE.out; omega⟩
              have hcb0 : -29 ≤ c2 := by have := HE2.out; omega
              have hcb1 : c2 ≤ 29 := by have := HE2.out; omega
              have cHO : wr.cell? ⟨w.heap.size + 1, 3, none⟩ = some (.int .i64 c) := by rw [HO.out.cell 3 (by omega), put_at]
              have fHO := HO.out.fz 3 (by omega)
              have HT2 := Hx.mk hT
              clear hd hz hf hT
              go_wp2
              go_roundw
              case rel => exact ⟨z, f, c2, rfl, HT2, HE2, hcb0, hcb1, ⟨HO.out.set _ (by omega) (put_put 3 c c2 q)⟩, ⟨HR.out.other _ (by omega)⟩, ⟨(by repeat (first | with_reducible exact hB.out | with_reducible exact Below.refl _ _ | (with_reducible refine Below.setCell ?_ ?side _; case side => (first | omega | (simp <;> omega))) | (with_reducible refine Below.alloc ?_ ?side _; case side => (first | omega | (simp <;> omega))) | with_reducible apply below_drewN | with_reducible apply Below.drew))⟩, by first | omega | (simp <;> omega)⟩
              case measure => simp [intOf]; omega
            · have hm : ((y : Int) % 7 == 0) = false := by rw [beq_eq_false_iff_ne]; omega
              have HN := Hx.mk hd
              clear hd
              go_wp2
              go_roundw
              case rel => exact ⟨4, ye, y, put 3 (ee : Int) va, put 3 (e : Int) vb, put 3 c q, by omega, by omega, rfl, rfl, rfl, ⟨HA.out.step HTE.out HNE.out (by omega)⟩, ⟨HB.out.step HT.out HN.out (by omega)⟩, ⟨HFIN.out _ _ _ HE.out⟩, HO, HR, hB, hsz⟩
              case measure => simp [intOf]
    · have q0 : q 4 = 0 := by rw [HQ.out 4 (by omega), HA.out.top 4 (by decide), HB.out.top 4 (by decide)]; rfl
      have HFIN : Hx (∀ (e1 e2 : Nat) (c : Int), c = (e1 : Int) - (e2 : Int) → ∀ j, j < 6 → put 4 c q j = put 4 (e1 : Int) va j - put 4 (e2 : Int) vb j) := ⟨fun e1 e2 c hc j hj => by
        unfold put
        by_cases h : j = 4
        · rw [if_pos h, if_pos h, if_pos h]; exact hc
        · rw [if_neg h, if_neg h, if_neg h]; exact HQ.out j hj⟩
      have HO : Hx (Cel (w.heap.size + 1) wr (put 4 0 q)) := ⟨HO.out.congr fun j _ => by
        unfold put
        by_cases h : j = 4
        · rw [if_pos h, h]; exact q0
        · rw [if_neg h]⟩
      clear q0 HQ
      go_wp2_with fail
      refine (refPrime_4 _).mono ?_
      rintro e w2 ⟨rfl, rfl⟩
      go_wp2_with fail
      go_loopw [0] (fun nv wr => ∃ (y e : Nat) (c : Int), nv = .int .i64 (y : Int) ∧ Hx (Took 11 y0 e y) ∧ Hx (c = (e : Int)) ∧ -29 ≤ c ∧ c ≤ 29 ∧ Hx (Cel (w.heap.size + 1) wr (put 4 c q)) ∧ Hx (Cel (w.heap.size) wr (fun _ => 0)) ∧ Hx (Below w.heap.size w wr) ∧ w.heap.size + 1 < wr.heap.size) (fun nv _ => (intOf nv).toNat)
      case atStart => exact ⟨y0, 0, 0, rfl, ⟨Took.start a1⟩, ⟨by omega⟩, by omega, by omega, HO, HR, hB, hsz⟩
      case round =>
        clear HO HR hB hsz
        obtain ⟨y, e, c, rfl, HT, HE, hc0, hc1, HO, HR, hB, hsz⟩ := hrel
        have t1 := HT.out.pos
        have t2 : y ≤ 1000000000 := Nat.le_trans HT.out.le a2
        have t3 : e ≤ 29 := HT.out.e29
        by_cases hd : y % 11 = 0
        · obtain ⟨hT, hlt⟩ := HT.out.step (by omega) a2 hd
          have hm : ((y : Int) % 11 == 0) = true := by rw [beq_iff_eq]; omega
          have hq : (y : Int) / 11 = ((y / 11 : Nat) : Int) := by omega
          obtain ⟨f, hf⟩ : ∃ f, e + 1 = f := ⟨_, rfl⟩
          obtain ⟨c2, hc2⟩ : ∃ c2, c + 1 = c2 := ⟨_, rfl⟩
          obtain ⟨z, hz⟩ : ∃ z, y / 11 = z := ⟨_, rfl⟩
          rw [hz, hf] at hT
          rw [hz] at hlt hq
          have t5 : f ≤ 29 := hT.e29
          have HE2 : Hx (c2 = (f : Int)) := ⟨by have := HE.out; omega⟩
          have hcb0 : -29 ≤ c2 := by have := HE2.out; omega
          have hcb1 : c2 ≤ 29 := by have := HE2.out; omega
          have cHO : wr.cell? ⟨w.heap.size + 1, 4, none⟩ = some (.int .i64 c) := by rw [HO.out.cell 4 (by omega), put_at]
          have fHO := HO.out.fz 4 (by omega)
          have HT2 := Hx.mk hT
          clear hd hz hf hT
          go_wp2
          go_roundw
          case rel => exact ⟨z, f, c2, rfl, HT2, HE2, hcb0, hcb1, ⟨HO.out.set _ (by omega) (put_put 4 c c2 q)⟩, ⟨HR.out.other _ (by omega)⟩, ⟨(by repeat (first | with_reducible exact hB.out | with_reducible exact Below.refl _ _ | (with_reducible refine Below.setCell ?_ ?side _; case side => (first | omega | (simp <;> omega))) | (with_reducible refine Below.alloc ?_ ?side _; case side => (first | omega | (simp <;> omega))) | with_reducible apply below_drewN | with_reducible apply Below.drew))⟩, by first | omega | (simp <;> omega)⟩
          case measure => simp [intOf]; omega
        · have hm : ((y : Int) % 11 == 0) = false := by rw [beq_eq_false_iff_ne]; omega
          have HN := Hx.mk hd
          clear hd
          obtain ⟨ye, hye⟩ : ∃ x, x = y := ⟨_, rfl⟩
          subst hye
          obtain ⟨ee, hee⟩ : ∃ x, x = e := ⟨_, rfl⟩
          subst hee
          have HTE := HT
          have HNE := HN
          have HCE := HE.out
          clear HT HN HE
          go_wp2_with fail
          go_loopw [1] (fun nv wr => ∃ (y e : Nat) (c : Int), nv = .int .i64 (y : Int) ∧ Hx (Took 11 z0 e y) ∧ Hx (c = (ee : Int) - (e : Int)) ∧ -29 ≤ c ∧ c ≤ 29 ∧ Hx (Cel (w.heap.size + 1) wr (put 4 c q)) ∧ Hx (Cel (w.heap.size) wr (fun _ => 0)) ∧ Hx (Below w.heap.size w wr) ∧ w.heap.size + 1 < wr.heap.size) (fun nv _ => (intOf nv).toNat)
          case atStart => exact ⟨z0, 0, c, rfl, ⟨Took.start b1⟩, ⟨by omega⟩, by omega, by omega, HO, HR, hB, hsz⟩
          case round =>
            clear HO HR hB hsz
            obtain ⟨y, e, c, rfl, HT, HE, hc0, hc1, HO, HR, hB, hsz⟩ := hrel
            have t1 := HT.out.pos
            have t2 : y ≤ 1000000000 := Nat.le_trans HT.out.le b2
            have t3 : e ≤ 29 := HT.out.e29
            by_cases hd : y % 11 = 0
            · obtain ⟨hT, hlt⟩ := HT.out.step (by omega) b2 hd
              have hm : ((y : Int) % 11 == 0) = true := by rw [beq_iff_eq]; omega
              have hq : (y : Int) / 11 = ((y / 11 : Nat) : Int) := by omega
              obtain ⟨f, hf⟩ : ∃ f, e + 1 = f := ⟨_, rfl⟩
              obtain ⟨c2, hc2⟩ : ∃ c2, c - 1 = c2 := ⟨_, rfl⟩
              obtain ⟨z, hz⟩ : ∃ z, y / 11 = z := ⟨_, rfl⟩
              rw [hz, hf] at hT
              rw [hz] at hlt hq
              have t5 : f ≤ 29 := hT.e29
              have HE2 : Hx (c2 = (ee : Int) - (f : Int)) := ⟨by have := HE.out; omega⟩
              have hcb0 : -29 ≤ c2 := by have := HE2.out; omega
              have hcb1 : c2 ≤ 29 := by have := HE2.out; omega
              have cHO : wr.cell? ⟨w.heap.size + 1, 4, none⟩ = some (.int .i64 c) := by rw [HO.out.cell 4 (by omega), put_at]
              have fHO := HO.out.fz 4 (by omega)
              have HT2 := Hx.mk hT
              clear hd hz hf hT
              go_wp2
              go_roundw
              case rel => exact ⟨z, f, c2, rfl, HT2, HE2, hcb0, hcb1, ⟨HO.out.set _ (by omega) (put_put 4 c c2 q)⟩, ⟨HR.out.other _ (by omega)⟩, ⟨(by repeat (first | with_reducible exact hB.out | with_reducible exact Below.refl _ _ | (with_reducible refine Below.setCell ?_ ?side _; case side => (first | omega | (simp <;> omega))) | (with_reducible refine Below.alloc ?_ ?side _; case side => (first | omega | (simp <;> omega))) | with_reducible apply below_drewN | with_reducible apply Below.drew))⟩, by first | omega | (simp <;> omega)⟩
              case measure => simp [intOf]; omega
            · have hm : ((y : Int) % 11 == 0) = false := by rw [beq_eq_false_iff_ne]; omega
              have HN := Hx.mk hd
              clear hd
              go_wp2
              go_roundw
              case rel => exact ⟨5, ye, y, put 4 (ee : Int) va, put 4 (e : Int) vb, put 4 c q, by omega, by omega, rfl, rfl, rfl, ⟨HA.out.step HTE.out HNE.out (by omega)⟩, ⟨HB.out.step HT.out HN.out (by omega)⟩, ⟨HFIN.out _ _ _ HE.out⟩, HO, HR, hB, hsz⟩
              case measure => simp [intOf]
    · have q0 : q 5 = 0 := by rw [HQ.out 5 (by omega), HA.out.top 5 (by decide), HB.out.top 5 (by decide)]; rfl
      have HFIN : Hx (∀ (e1 e2 : Nat) (c : Int), c = (e1 : Int) - (e2 : Int) → ∀ j, j < 6 → put 5 c q j = put 5 (e1 : Int) va j - put 5 (e2 : Int) vb j) := ⟨fun e1 e2 c hc j hj => by
        unfold put
        by_cases h : j = 5
        · rw [if_pos h, if_pos h, if_pos h]; exact hc
        · rw [if_neg h, if_neg h, if_neg h]; exact HQ.out j hj⟩
      have HO : Hx (Cel (w.heap.size + 1) wr (put 5 0 q)) := ⟨HO.out.congr fun j _ => by
        unfold put
        by_cases h : j = 5
        · rw [if_pos h, h]; exact q0
        · rw [if_neg h]⟩
      clear q0 HQ
      go_wp2_with fail
      refine (refPrime_5 _).mono ?_
      rintro e w2 ⟨rfl, rfl⟩
      go_wp2_with fail
      go_loopw [0] (fun nv wr => ∃ (y e : Nat) (c : Int), nv = .int .i64 (y : Int) ∧ Hx (Took 13 y0 e y) ∧ Hx (c = (e : Int)) ∧ -29 ≤ c ∧ c ≤ 29 ∧ Hx (Cel (w.heap.size + 1) wr (put 5 c q)) ∧ Hx (Cel (w.heap.size) wr (fun _ => 0)) ∧ Hx (Below w.heap.size w wr) ∧ w.heap.size + 1 < wr.heap.size) (fun nv _ => (intOf nv).toNat)
      case atStart => exact ⟨y0, 0, 0, rfl, ⟨Took.start a1⟩, ⟨by omega⟩, by omega, by omega, HO, HR, hB, hsz⟩
      case round =>
        clear HO HR hB hsz
        obtain ⟨y, e, c, rfl, HT, HE, hc0, hc1, HO, HR, hB, hsz⟩ := hrel
        have t1 := HT.out.pos
        have t2 : y ≤ 1000000000 := Nat.le_trans HT.out.le a2
        have t3 : e ≤ 29 := HT.out.e29
        by_cases hd : y % 13 = 0
        · obtain ⟨hT, hlt⟩ := HT.out.step (by omega) a2 hd
          have hm : ((y : Int) % 13 == 0) = true := by rw [beq_iff_eq]; omega
          have hq : (y : Int) / 13 = ((y / 13 : Nat) : Int) := by omega
          obtain ⟨f, hf⟩ : ∃ f, e + 1 = f := ⟨_, rfl⟩
          obtain ⟨c2, hc2⟩ : ∃ c2, c + 1 = c2 := ⟨_, rfl⟩
          obtain ⟨z, hz⟩ : ∃ z, y / 13 = z := ⟨_, rfl⟩
          rw [hz, hf] at hT
          rw [hz] at hlt hq
          have t5 : f ≤ 29 := hT.e29
          have HE2 : Hx (c2 = (f : Int)) := ⟨by have := HE.out; omega⟩
          have hcb0 : -29 ≤ c2 := by have := HE2.out; omega
          have hcb1 : c2 ≤ 29 := by have := HE2.out; omega
          have cHO : wr.cell? ⟨w.heap.size + 1, 5, none⟩ = some (.int .i64 c) := by rw [HO.out.cell 5 (by omega), put_at]
          have fHO := HO.out.fz 5 (by omega)
          have HT2 := Hx.mk hT
          clear hd hz hf hT
          go_wp2
          go_roundw
          case rel => exact ⟨z, f, c2, rfl, HT2, HE2, hcb0, hcb1, ⟨HO.out.set _ (by omega) (put_put 5 c c2 q)⟩, ⟨HR.out.other _ (by omega)⟩, ⟨(by repeat (first | with_reducible exact hB.out | with_reducible exact Below.refl _ _ | (with_reducible refine Below.setCell ?_ ?side _; case side => (first | omega | (simp <;> omega))) | (with_reducible refine Below.alloc ?_ ?side _; case side => (first | omega | (simp <;> omega))) | with_reducible apply below_drewN | with_reducible apply Below.drew))⟩, by first | omega | (simp <;> omega)⟩
          case measure => simp [intOf]; omega
        · have hm : ((y : Int) % 13 == 0) = false := by rw [beq_eq_false_iff_ne]; omega
          have HN := Hx.mk hd
          clear hd
          obtain ⟨ye, hye⟩ : ∃ x, x = y := ⟨_, rfl⟩
          subst hye
          obtain ⟨ee, hee⟩ : ∃ x, x = e := ⟨_, rfl⟩
          subst hee
          have HTE := HT
          have HNE := HN
          have HCE := HE.out
          clear HT HN HE
          go_wp2_with fail
          go_loopw [1] (fun nv wr => ∃ (y e : Nat) (c : Int), nv = .int .i64 (y : Int) ∧ Hx (Took 13 z0 e y) ∧ Hx (c = (ee : Int) - (e : Int)) ∧ -29 ≤ c ∧ c ≤ 29 ∧ Hx (Cel (w.heap.size + 1) wr (put 5 c q)) ∧ Hx (Cel (w.heap.size) wr (fun _ => 0)) ∧ Hx (Below w.heap.size w wr) ∧ w.heap.size + 1 < wr.heap.size) (fun nv _ => (intOf nv).toNat)
          case atStart => exact ⟨z0, 0, c, rfl, ⟨Took.start b1⟩, ⟨by omega⟩, by omega, by omega, HO, HR, hB, hsz⟩
          case round =>
            clear HO HR hB hsz
            obtain ⟨y, e, c, rfl, HT, HE, hc0, hc1, HO, HR, hB, hsz⟩ := hrel
            have t1 := HT.out.pos
            have t2 : y ≤ 1000000000 := Nat.le_trans HT.out.le b2
            have t3 : e ≤ 29 := HT.out.e29
            by_cases hd : y % 13 = 0
            · obtain ⟨hT, hlt⟩ := HT.out.step (by omega) b2 hd
              have hm : ((y : Int) % 13 == 0) = true := by rw [beq_iff_eq]; omega
              have hq : (y : Int) / 13 = ((y / 13 : Nat) : Int) := by omega
              obtain ⟨f, hf⟩ : ∃ f, e + 1 = f := ⟨_, rfl⟩
              obtain ⟨c2, hc2⟩ : ∃ c2, c - 1 = c2 := ⟨_, rfl⟩
              obtain ⟨z, hz⟩ : ∃ z, y / 13 = z := ⟨_, rfl⟩
              rw [hz, hf] at hT
              rw [hz] at hlt hq
              have t5 : f ≤ 29 := hT.e29
              have HE2 : Hx (c2 = (ee : Int) - (f : Int)) := ⟨by have := HE.out; omega⟩
              have hcb0 : -29 ≤ c2 := by have := HE2.out; omega
              have hcb1 : c2 ≤ 29 := by have := HE2.out; omega
              have cHO : wr.cell? ⟨w.heap.size + 1, 5, none⟩ = some (.int .i64 c) := by rw [HO.out.cell 5 (by omega), put_at]
              have fHO := HO.out.fz 5 (by omega)
              have HT2 := Hx.mk hT
              clear hd hz hf hT
              go_wp2
              go_roundw
              case rel => exact ⟨z, f, c2, rfl, HT2, HE2, hcb0, hcb1, ⟨HO.out.set _ (by omega) (put_put 5 c c2 q)⟩, ⟨HR.out.other _ (by omega)⟩, ⟨(by repeat (first | with_reducible exact hB.out | with_reducible exact Below.refl _ _ | (with_reducible refine Below.setCell ?_ ?side _; case side => (first | omega | (simp <;> omega))) | (with_reducible refine Below.alloc ?_ ?side _; case side => (first | omega | (simp <;> omega))) | with_reducible apply below_drewN | with_reducible apply Below.drew))⟩, by first | omega | (simp <;> omega)⟩
              case measure => simp [intOf]; omega
            · have hm : ((y : Int) % 13 == 0) = false := by rw [beq_eq_false_iff_ne]; omega
              have HN := Hx.mk hd
              clear hd
              go_wp2
              go_roundw
              case rel => exact ⟨6, ye, y, put 5 (ee : Int) va, put 5 (e : Int) vb, put 5 c q, by omega, by omega, rfl, rfl, rfl, ⟨HA.out.step HTE.out HNE.out (by omega)⟩, ⟨HB.out.step HT.out HN.out (by omega)⟩, ⟨HFIN.out _ _ _ HE.out⟩, HO, HR, hB, hsz⟩
              case measure => simp [intOf]
    · have HO := Hx.mk (HO.out.congr HQ.out)
      have cHO0 := HO.out.cell 0 (by omega)
      have fHO0 := HO.out.fz 0 (by omega)
      have cHO1 := HO.out.cell 1 (by omega)
      have fHO1 := HO.out.fz 1 (by omega)
      have cHO2 := HO.out.cell 2 (by omega)
      have fHO2 := HO.out.fz 2 (by omega)
      have cHO3 := HO.out.cell 3 (by omega)
      have fHO3 := HO.out.fz 3 (by omega)
      have cHO4 := HO.out.cell 4 (by omega)
      have fHO4 := HO.out.fz 4 (by omega)
      have cHO5 := HO.out.cell 5 (by omega)
      have fHO5 := HO.out.fz 5 (by omega)
      have cHR0 := HR.out.cell 0 (by omega)
      have fHR0 := HR.out.fz 0 (by omega)
      have cHR1 := HR.out.cell 1 (by omega)
      have fHR1 := HR.out.fz 1 (by omega)
      have cHR2 := HR.out.cell 2 (by omega)
      have fHR2 := HR.out.fz 2 (by omega)
      have cHR3 := HR.out.cell 3 (by omega)
      have fHR3 := HR.out.fz 3 (by omega)
      have cHR4 := HR.out.cell 4 (by omega)
      have fHR4 := HR.out.fz 4 (by omega)
      have cHR5 := HR.out.cell 5 (by omega)
      have fHR5 := HR.out.fz 5 (by omega)
      by_cases hr : y0 = z0
      · subst hr
        go_wp2_with fail
        refine bodyPost_ret_by (v := .tuple #[PV fun j => va j - vb j, .int .i64 0]) (by simp [results, Tryz.results22, go_sem, cHR0, cHR1, cHR2, cHR3, cHR4, cHR5]) rfl ?_
        exact ⟨⟨va, vb, _, y0, y0, HA.out.fac, HB.out.fac, .inl ⟨rfl, fun i hi => rfl, rfl⟩⟩, (by repeat (first | with_reducible exact hB.out | with_reducible exact Below.refl _ _ | (with_reducible refine Below.setCell ?_ ?side _; case side => (first | omega | (simp <;> omega))) | (with_reducible refine Below.alloc ?_ ?side _; case side => (first | omega | (simp <;> omega))) | with_reducible apply below_drewN | with_reducible apply Below.drew))⟩
      · have hrr : ((y0 : Int) == (z0 : Int)) = false := beq_eq_false_iff_ne.2 (by omega)
        have hrn : ((y0 : Int) != (z0 : Int)) = true := by rw [bne_iff_ne]; omega
        have HNE := Hx.mk hr
        clear hr
        go_wp2_with fail
        refine bodyPost_ret_by (v := .tuple #[PV fun _ => 0, .int .i64 9]) (by simp [results, Tryz.results22, go_sem, cHR0, cHR1, cHR2, cHR3, cHR4, cHR5]) rfl ?_
        exact ⟨⟨va, vb, fun _ => 0, y0, z0, HA.out.fac, HB.out.fac, .inr ⟨HNE.out, rfl⟩⟩, (by repeat (first | with_reducible exact hB.out | with_reducible exact Below.refl _ _ | (with_reducible refine Below.setCell ?_ ?side _; case side => (first | omega | (simp <;> omega))) | (with_reducible refine Below.alloc ?_ ?side _; case side => (first | omega | (simp <;> omega))) | with_reducible apply below_drewN | with_reducible apply Below.drew))⟩
theorem refRatio_n0 (n d : Int) (w : World) (h1 : n < 1) : Calls Tryz.prog 22 #[.int .i64 n, .int .i64 d] w (OutV w (fun _ => 0) 1) := by
  go_enter Tryz.func22, Tryz.ntmps22
  go_wp2_with fail
  refine bodyPost_ret_by (v := .tuple #[PV fun _ => 0, .int .i64 1]) (by simp [results, Tryz.results22, go_sem]) rfl ?_
  exact ⟨rfl, (by repeat (first | with_reducible exact Below.refl _ _ | with_reducible exact Below.refl _ _ | (with_reducible refine Below.setCell ?_ ?side _; case side => (first | omega | (simp <;> omega))) | (with_reducible refine Below.alloc ?_ ?side _; case side => (first | omega | (simp <;> omega))) | with_reducible apply below_drewN))⟩
theorem refRatio_n1 (n d : Int) (w : World) (h0 : 1 ≤ n) (h1 : 1000000000 < n) : Calls Tryz.prog 22 #[.int .i64 n, .int .i64 d] w (OutV w (fun _ => 0) 1) := by
  go_enter Tryz.func22, Tryz.ntmps22
  go_wp2_with fail
  refine bodyPost_ret_by (v := .tuple #[PV fun _ => 0, .int .i64 1]) (by simp [results, Tryz.results22, go_sem]) rfl ?_
  exact ⟨rfl, (by repeat (first | with_reducible exact Below.refl _ _ | with_reducible exact Below.refl _ _ | (with_reducible refine Below.setCell ?_ ?side _; case side => (first | omega | (simp <;> omega))) | (with_reducible refine Below.alloc ?_ ?side _; case side => (first | omega | (simp <;> omega))) | with_reducible apply below_drewN))⟩
theorem refRatio_d0 (n d : Int) (w : World) (h0 : 1 ≤ n) (h01 : n ≤ 1000000000) (h1 : d < 1) : Calls Tryz.prog 22 #[.int .i64 n, .int .i64 d] w (OutV w (fun _ => 0) 1) := by
  go_enter Tryz.func22, Tryz.ntmps22
  go_wp2_with fail
  refine bodyPost_ret_by (v := .tuple #[PV fun _ => 0, .int .i64 1]) (by simp [results, Tryz.results22, go_sem]) rfl ?_
  exact ⟨rfl, (by repeat (first | with_reducible exact Below.refl _ _ | with_reducible exact Below.refl _ _ | (with_reducible refine Below.setCell ?_ ?side _; case side => (first | omega | (simp <;> omega))) | (with_reducible refine Below.alloc ?_ ?side _; case side => (first | omega | (simp <;> omega))) | with_reducible apply below_drewN))⟩
theorem refRatio_d1 (n d : Int) (w : World) (h0 : 1 ≤ n) (h01 : n ≤ 1000000000) (h02 : 1 ≤ d) (h1 : 1000000000 < d) : Calls Tryz.prog 22 #[.int .i64 n, .int .i64 d] w (OutV w (fun _ => 0) 1) := by
  go_enter Tryz.func22, Tryz.ntmps22
  go_wp2_with fail
  refine bodyPost_ret_by (v := .tuple #[PV fun _ => 0, .int .i64 1]) (by simp [results, Tryz.results22, go_sem]) rfl ?_
  exact ⟨rfl, (by repeat (first | with_reducible exact Below.refl _ _ | with_reducible exact Below.refl _ _ | (with_reducible refine Below.setCell ?_ ?side _; case side => (first | omega | (simp <;> omega))) | (with_reducible refine Below.alloc ?_ ?side _; case side => (first | omega | (simp <;> omega))) | with_reducible apply below_drewN))⟩
end Go.Proofs.YtdlfnonlalkjdaaGreatDoor

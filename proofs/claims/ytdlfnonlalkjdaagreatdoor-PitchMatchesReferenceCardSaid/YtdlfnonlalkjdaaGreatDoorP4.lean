/- pitch.factors. -/
import Derived.Test.YtdlfnonlalkjdaaGreatDoorP3
import Derived.LoopN
namespace Go.Proofs.YtdlfnonlalkjdaaGreatDoor
open Go.RowKit M
/-- The table of the primes. -/
structure Pm (w : World) : Prop where
  lt : 0 < w.heap.size
  c0 : w.cell? ⟨0, 0, none⟩ = some (.int .i64 2)
  c1 : w.cell? ⟨0, 1, none⟩ = some (.int .i64 3)
  c2 : w.cell? ⟨0, 2, none⟩ = some (.int .i64 5)
  c3 : w.cell? ⟨0, 3, none⟩ = some (.int .i64 7)
  c4 : w.cell? ⟨0, 4, none⟩ = some (.int .i64 11)
  c5 : w.cell? ⟨0, 5, none⟩ = some (.int .i64 13)
theorem Pm.keep {w w' : World} (h : Pm w) (hb : Below w.heap.size w w') : Pm w' :=
  ⟨Nat.lt_of_lt_of_le h.lt hb.size, (hb.cell (p := ⟨0, 0, none⟩) h.lt).trans h.c0, (hb.cell (p := ⟨0, 1, none⟩) h.lt).trans h.c1, (hb.cell (p := ⟨0, 2, none⟩) h.lt).trans h.c2,
   (hb.cell (p := ⟨0, 3, none⟩) h.lt).trans h.c3, (hb.cell (p := ⟨0, 4, none⟩) h.lt).trans h.c4, (hb.cell (p := ⟨0, 5, none⟩) h.lt).trans h.c5⟩
abbrev primes : Value := .agg #[.int .i64 2, .int .i64 3, .int .i64 5, .int .i64 7, .int .i64 11, .int .i64 13]
/-- What factors finds. -/
structure FacR (n : Nat) (v : Nat → Int) (r : Nat) : Prop where
  low : ∀ i, i < 6 → 0 ≤ v i ∧ v i ≤ 30
  eq : n = up v * r
  pos : 1 ≤ r
  no : ∀ i, i < 6 → ¬ pr i ∣ r
def OutF (n : Nat) (w : World) (e : Ending) (w' : World) : Prop := ∃ v r, e = .returned (.tuple #[PV v, .int .i64 (r : Nat)]) ∧ FacR n v r ∧ Below w.heap.size w w'
theorem two_bound {p e y x : Nat} (hp : 2 ≤ p) (hx : x ≤ 1000000000) (h : x = p ^ e * y) (hy : 1 ≤ y) : e ≤ 29 := by
  refine Nat.le_of_not_lt fun hlt => ?_
  have h1 : 2 ^ 30 ≤ p ^ e := Nat.le_trans (Nat.pow_le_pow_right (by omega) hlt) (Nat.pow_le_pow_left hp e)
  have h2 : p ^ e * 1 ≤ p ^ e * y := Nat.mul_le_mul_left _ hy
  have : (2 : Nat) ^ 30 = 1073741824 := by decide
  omega
/-- One prime taken out. -/
structure Took (p x e y : Nat) : Prop where
  eq : x = p ^ e * y
  pos : 1 ≤ y
  le : y ≤ x
  e29 : e ≤ 29
theorem Took.start {p x : Nat} (hx : 1 ≤ x) : Took p x 0 x := ⟨by simp, hx, Nat.le_refl _, by omega⟩
theorem Took.step {p x e y : Nat} (hp : 2 ≤ p) (hx : x ≤ 1000000000) (h : Took p x e y) (hd : y % p = 0) : Took p x (e + 1) (y / p) ∧ y / p < y := by
  obtain ⟨z, rfl⟩ := Nat.dvd_of_mod_eq_zero hd
  have hz : 1 ≤ z := by
    refine Nat.one_le_iff_ne_zero.2 fun e => ?_
    have := h.pos; simp [e] at this
  have hq : p * z / p = z := Nat.mul_div_cancel_left z (by omega)
  have he : x = p ^ (e + 1) * z := by rw [h.eq, Nat.pow_succ, Nat.mul_assoc]
  have hlt : z < p * z := by have : 2 * z ≤ p * z := Nat.mul_le_mul_right _ hp; omega
  rw [hq]
  exact ⟨⟨he, hz, by have := h.le; omega, two_bound hp hx he hz⟩, hlt⟩
theorem facR_of {n : Nat} {e : Nat → Nat} {y0 y1 y2 y3 y4 y5 : Nat} (h0 : Took 2 n (e 0) y0) (h1 : Took 3 y0 (e 1) y1) (h2 : Took 5 y1 (e 2) y2) (h3 : Took 7 y2 (e 3) y3) (h4 : Took 11 y3 (e 4) y4) (h5 : Took 13 y4 (e 5) y5)
    (n0 : ¬ y0 % 2 = 0) (n1 : ¬ y1 % 3 = 0) (n2 : ¬ y2 % 5 = 0) (n3 : ¬ y3 % 7 = 0) (n4 : ¬ y4 % 11 = 0) (n5 : ¬ y5 % 13 = 0) : FacR n (fun i => (e i : Int)) y5 := by
  have d5 : y5 ∣ y4 := ⟨13 ^ e 5, by rw [h5.eq, Nat.mul_comm]⟩
  have d4 : y5 ∣ y3 := Nat.dvd_trans d5 ⟨11 ^ e 4, by rw [h4.eq, Nat.mul_comm]⟩
  have d3 : y5 ∣ y2 := Nat.dvd_trans d4 ⟨7 ^ e 3, by rw [h3.eq, Nat.mul_comm]⟩
  have d2 : y5 ∣ y1 := Nat.dvd_trans d3 ⟨5 ^ e 2, by rw [h2.eq, Nat.mul_comm]⟩
  have d1 : y5 ∣ y0 := Nat.dvd_trans d2 ⟨3 ^ e 1, by rw [h1.eq, Nat.mul_comm]⟩
  refine ⟨six (p := fun i => 0 ≤ (e i : Int) ∧ (e i : Int) ≤ 30) ⟨by omega, by have := h0.e29; omega⟩ ⟨by omega, by have := h1.e29; omega⟩ ⟨by omega, by have := h2.e29; omega⟩ ⟨by omega, by have := h3.e29; omega⟩ ⟨by omega, by have := h4.e29; omega⟩ ⟨by omega, by have := h5.e29; omega⟩, ?_, h5.pos,
    six (p := fun i => ¬ pr i ∣ y5) (fun h => n0 (Nat.mod_eq_zero_of_dvd (Nat.dvd_trans h d1))) (fun h => n1 (Nat.mod_eq_zero_of_dvd (Nat.dvd_trans h d2))) (fun h => n2 (Nat.mod_eq_zero_of_dvd (Nat.dvd_trans h d3))) (fun h => n3 (Nat.mod_eq_zero_of_dvd (Nat.dvd_trans h d4))) (fun h => n4 (Nat.mod_eq_zero_of_dvd (Nat.dvd_trans h d5))) (fun h => n5 (Nat.mod_eq_zero_of_dvd h))⟩
  have e0 := h0.eq; have e1 := h1.eq; have e2 := h2.eq; have e3 := h3.eq; have e4 := h4.eq; have e5 := h5.eq
  have hup : up (fun i => (e i : Int)) = 1 * 2 ^ e 0 * 3 ^ e 1 * 5 ^ e 2 * 7 ^ e 3 * 11 ^ e 4 * 13 ^ e 5 := rfl
  rw [hup, e0, e1, e2, e3, e4, e5]
  ac_rfl
set_option maxHeartbeats 4000000 in
theorem factors_any (n : Nat) (w : World) (hn0 : 1 ≤ n) (hn1 : n ≤ 1000000000) (hP : Pm w) :
    Calls Tryz.prog 38 #[.int .i64 (n : Int)] w (OutF n w) := by
  have g0 := hP.c0
  have g1 := hP.c1
  have g2 := hP.c2
  have g3 := hP.c3
  have g4 := hP.c4
  have g5 := hP.c5
  have gl := hP.lt
  clear hP
  have i0 : ∀ w, (Instr.index 22 primes (.int .i64 0)).run Tryz.prog w = .ok (.int .i64 2) w := fun _ => by kernel_rfl
  have i1 : ∀ w, (Instr.index 22 primes (.int .i64 1)).run Tryz.prog w = .ok (.int .i64 3) w := fun _ => by kernel_rfl
  have i2 : ∀ w, (Instr.index 22 primes (.int .i64 2)).run Tryz.prog w = .ok (.int .i64 5) w := fun _ => by kernel_rfl
  have i3 : ∀ w, (Instr.index 22 primes (.int .i64 3)).run Tryz.prog w = .ok (.int .i64 7) w := fun _ => by kernel_rfl
  have i4 : ∀ w, (Instr.index 22 primes (.int .i64 4)).run Tryz.prog w = .ok (.int .i64 11) w := fun _ => by kernel_rfl
  have i5 : ∀ w, (Instr.index 22 primes (.int .i64 5)).run Tryz.prog w = .ok (.int .i64 13) w := fun _ => by kernel_rfl
  go_enter Tryz.func38, Tryz.ntmps38
  go_wp2
  refine wp_loop_rounds 7 ?_
  rw [rounds_succ]
  go_wp2
  have b00 : 1 ≤ n := hn0
  have b01 : n ≤ 1000000000 := hn1
  go_loopw [0] (fun nv wr => ∃ y e : Nat, nv = .int .i64 (y : Int) ∧ Took 2 n e y ∧ Hx (wr = (w.alloc (.cells #[.int .i64 0, .int .i64 0, .int .i64 0, .int .i64 0, .int .i64 0, .int .i64 0] 22)).alloc (.cells #[.int .i64 (e : Int), .int .i64 0, .int .i64 0, .int .i64 0, .int .i64 0, .int .i64 0] 22))) (fun nv _ => (intOf nv).toNat)
  case atStart => exact ⟨n, 0, rfl, Took.start b00, ⟨rfl⟩⟩
  case round =>
    obtain ⟨y0, e0, rfl, T0, hw⟩ := hrel
    have t00 := T0.pos
    have t01 := Nat.le_trans T0.le b01
    have t02 := T0.e29
    obtain rfl := hw.out
    clear hw
    by_cases hd : y0 % 2 = 0
    · obtain ⟨hT, hlt⟩ := T0.step (by omega) b01 hd
      have hm : ((y0 : Int) % 2 == 0) = true := by rw [beq_iff_eq]; omega
      have hq : (y0 : Int) / 2 = ((y0 / 2 : Nat) : Int) := by omega
      obtain ⟨f, hf⟩ : ∃ f, e0 + 1 = f := ⟨_, rfl⟩
      have hs : (e0 : Int) + 1 = (f : Int) := by omega
      obtain ⟨z, hz⟩ : ∃ z, y0 / 2 = z := ⟨_, rfl⟩
      rw [hz, hf] at hT
      rw [hz] at hlt hq
      clear hd hz hf
      go_wp2
      go_roundw
      case rel => exact ⟨z, f, rfl, hT, ⟨rfl⟩⟩
      case measure => simp [intOf]; omega
    · have hm : ((y0 : Int) % 2 == 0) = false := by rw [beq_eq_false_iff_ne]; omega
      have N0 := Hx.mk hd
      clear hd
      go_wp2
      rw [rounds_succ]
      go_wp2
      have b10 : 1 ≤ y0 := T0.pos
      have b11 : y0 ≤ 1000000000 := Nat.le_trans T0.le b01
      go_loopw [0] (fun nv wr => ∃ y e : Nat, nv = .int .i64 (y : Int) ∧ Took 3 y0 e y ∧ Hx (wr = (w.alloc (.cells #[.int .i64 0, .int .i64 0, .int .i64 0, .int .i64 0, .int .i64 0, .int .i64 0] 22)).alloc (.cells #[.int .i64 (e0 : Int), .int .i64 (e : Int), .int .i64 0, .int .i64 0, .int .i64 0, .int .i64 0] 22))) (fun nv _ => (intOf nv).toNat)
      case atStart => exact ⟨y0, 0, rfl, Took.start b10, ⟨rfl⟩⟩
      case round =>
        obtain ⟨y1, e1, rfl, T1, hw⟩ := hrel
        have t10 := T1.pos
        have t11 := Nat.le_trans T1.le b11
        have t12 := T1.e29
        obtain rfl := hw.out
        clear hw
        by_cases hd : y1 % 3 = 0
        · obtain ⟨hT, hlt⟩ := T1.step (by omega) b11 hd
          have hm : ((y1 : Int) % 3 == 0) = true := by rw [beq_iff_eq]; omega
          have hq : (y1 : Int) / 3 = ((y1 / 3 : Nat) : Int) := by omega
          obtain ⟨f, hf⟩ : ∃ f, e1 + 1 = f := ⟨_, rfl⟩
          have hs : (e1 : Int) + 1 = (f : Int) := by omega
          obtain ⟨z, hz⟩ : ∃ z, y1 / 3 = z := ⟨_, rfl⟩
          rw [hz, hf] at hT
          rw [hz] at hlt hq
          clear hd hz hf
          go_wp2
          go_roundw
          case rel => exact ⟨z, f, rfl, hT, ⟨rfl⟩⟩
          case measure => simp [intOf]; omega
        · have hm : ((y1 : Int) % 3 == 0) = false := by rw [beq_eq_false_iff_ne]; omega
          have N1 := Hx.mk hd
          clear hd
          go_wp2
          rw [rounds_succ]
          go_wp2
          have b20 : 1 ≤ y1 := T1.pos
          have b21 : y1 ≤ 1000000000 := Nat.le_trans T1.le b11
          go_loopw [0] (fun nv wr => ∃ y e : Nat, nv = .int .i64 (y : Int) ∧ Took 5 y1 e y ∧ Hx (wr = (w.alloc (.cells #[.int .i64 0, .int .i64 0, .int .i64 0, .int .i64 0, .int .i64 0, .int .i64 0] 22)).alloc (.cells #[.int .i64 (e0 : Int), .int .i64 (e1 : Int), .int .i64 (e : Int), .int .i64 0, .int .i64 0, .int .i64 0] 22))) (fun nv _ => (intOf nv).toNat)
          case atStart => exact ⟨y1, 0, rfl, Took.start b20, ⟨rfl⟩⟩
          case round =>
            obtain ⟨y2, e2, rfl, T2, hw⟩ := hrel
            have t20 := T2.pos
            have t21 := Nat.le_trans T2.le b21
            have t22 := T2.e29
            obtain rfl := hw.out
            clear hw
            by_cases hd : y2 % 5 = 0
            · obtain ⟨hT, hlt⟩ := T2.step (by omega) b21 hd
              have hm : ((y2 : Int) % 5 == 0) = true := by rw [beq_iff_eq]; omega
              have hq : (y2 : Int) / 5 = ((y2 / 5 : Nat) : Int) := by omega
              obtain ⟨f, hf⟩ : ∃ f, e2 + 1 = f := ⟨_, rfl⟩
              have hs : (e2 : Int) + 1 = (f : Int) := by omega
              obtain ⟨z, hz⟩ : ∃ z, y2 / 5 = z := ⟨_, rfl⟩
              rw [hz, hf] at hT
              rw [hz] at hlt hq
              clear hd hz hf
              go_wp2
              go_roundw
              case rel => exact ⟨z, f, rfl, hT, ⟨rfl⟩⟩
              case measure => simp [intOf]; omega
            · have hm : ((y2 : Int) % 5 == 0) = false := by rw [beq_eq_false_iff_ne]; omega
              have N2 := Hx.mk hd
              clear hd
              go_wp2
              rw [rounds_succ]
              go_wp2
              have b30 : 1 ≤ y2 := T2.pos
              have b31 : y2 ≤ 1000000000 := Nat.le_trans T2.le b21
              go_loopw [0] (fun nv wr => ∃ y e : Nat, nv = .int .i64 (y : Int) ∧ Took 7 y2 e y ∧ Hx (wr = (w.alloc (.cells #[.int .i64 0, .int .i64 0, .int .i64 0, .int .i64 0, .int .i64 0, .int .i64 0] 22)).alloc (.cells #[.int .i64 (e0 : Int), .int .i64 (e1 : Int), .int .i64 (e2 : Int), .int .i64 (e : Int), .int .i64 0, .int .i64 0] 22))) (fun nv _ => (intOf nv).toNat)
              case atStart => exact ⟨y2, 0, rfl, Took.start b30, ⟨rfl⟩⟩
              case round =>
                obtain ⟨y3, e3, rfl, T3, hw⟩ := hrel
                have t30 := T3.pos
                have t31 := Nat.le_trans T3.le b31
                have t32 := T3.e29
                obtain rfl := hw.out
                clear hw
                by_cases hd : y3 % 7 = 0
                · obtain ⟨hT, hlt⟩ := T3.step (by omega) b31 hd
                  have hm : ((y3 : Int) % 7 == 0) = true := by rw [beq_iff_eq]; omega
                  have hq : (y3 : Int) / 7 = ((y3 / 7 : Nat) : Int) := by omega
                  obtain ⟨f, hf⟩ : ∃ f, e3 + 1 = f := ⟨_, rfl⟩
                  have hs : (e3 : Int) + 1 = (f : Int) := by omega
                  obtain ⟨z, hz⟩ : ∃ z, y3 / 7 = z := ⟨_, rfl⟩
                  rw [hz, hf] at hT
                  rw [hz] at hlt hq
                  clear hd hz hf
                  go_wp2
                  go_roundw
                  case rel => exact ⟨z, f, rfl, hT, ⟨rfl⟩⟩
                  case measure => simp [intOf]; omega
                · have hm : ((y3 : Int) % 7 == 0) = false := by rw [beq_eq_false_iff_ne]; omega
                  have N3 := Hx.mk hd
                  clear hd
                  go_wp2
                  rw [rounds_succ]
                  go_wp2
                  have b40 : 1 ≤ y3 := T3.pos
                  have b41 : y3 ≤ 1000000000 := Nat.le_trans T3.le b31
                  go_loopw [0] (fun nv wr => ∃ y e : Nat, nv = .int .i64 (y : Int) ∧ Took 11 y3 e y ∧ Hx (wr = (w.alloc (.cells #[.int .i64 0, .int .i64 0, .int .i64 0, .int .i64 0, .int .i64 0, .int .i64 0] 22)).alloc (.cells #[.int .i64 (e0 : Int), .int .i64 (e1 : Int), .int .i64 (e2 : Int), .int .i64 (e3 : Int), .int .i64 (e : Int), .int .i64 0] 22))) (fun nv _ => (intOf nv).toNat)
                  case atStart => exact ⟨y3, 0, rfl, Took.start b40, ⟨rfl⟩⟩
                  case round =>
                    obtain ⟨y4, e4, rfl, T4, hw⟩ := hrel
                    have t40 := T4.pos
                    have t41 := Nat.le_trans T4.le b41
                    have t42 := T4.e29
                    obtain rfl := hw.out
                    clear hw
                    by_cases hd : y4 % 11 = 0
                    · obtain ⟨hT, hlt⟩ := T4.step (by omega) b41 hd
                      have hm : ((y4 : Int) % 11 == 0) = true := by rw [beq_iff_eq]; omega
                      have hq : (y4 : Int) / 11 = ((y4 / 11 : Nat) : Int) := by omega
                      obtain ⟨f, hf⟩ : ∃ f, e4 + 1 = f := ⟨_, rfl⟩
                      have hs : (e4 : Int) + 1 = (f : Int) := by omega
                      obtain ⟨z, hz⟩ : ∃ z, y4 / 11 = z := ⟨_, rfl⟩
                      rw [hz, hf] at hT
                      rw [hz] at hlt hq
                      clear hd hz hf
                      go_wp2
                      go_roundw
                      case rel => exact ⟨z, f, rfl, hT, ⟨rfl⟩⟩
                      case measure => simp [intOf]; omega
                    · have hm : ((y4 : Int) % 11 == 0) = false := by rw [beq_eq_false_iff_ne]; omega
                      have N4 := Hx.mk hd
                      clear hd
                      go_wp2
                      rw [rounds_succ]
                      go_wp2
                      have b50 : 1 ≤ y4 := T4.pos
                      have b51 : y4 ≤ 1000000000 := Nat.le_trans T4.le b41
                      go_loopw [0] (fun nv wr => ∃ y e : Nat, nv = .int .i64 (y : Int) ∧ Took 13 y4 e y ∧ Hx (wr = (w.alloc (.cells #[.int .i64 0, .int .i64 0, .int .i64 0, .int .i64 0, .int .i64 0, .int .i64 0] 22)).alloc (.cells #[.int .i64 (e0 : Int), .int .i64 (e1 : Int), .int .i64 (e2 : Int), .int .i64 (e3 : Int), .int .i64 (e4 : Int), .int .i64 (e : Int)] 22))) (fun nv _ => (intOf nv).toNat)
                      case atStart => exact ⟨y4, 0, rfl, Took.start b50, ⟨rfl⟩⟩
                      case round =>
                        obtain ⟨y5, e5, rfl, T5, hw⟩ := hrel
                        have t50 := T5.pos
                        have t51 := Nat.le_trans T5.le b51
                        have t52 := T5.e29
                        obtain rfl := hw.out
                        clear hw
                        by_cases hd : y5 % 13 = 0
                        · obtain ⟨hT, hlt⟩ := T5.step (by omega) b51 hd
                          have hm : ((y5 : Int) % 13 == 0) = true := by rw [beq_iff_eq]; omega
                          have hq : (y5 : Int) / 13 = ((y5 / 13 : Nat) : Int) := by omega
                          obtain ⟨f, hf⟩ : ∃ f, e5 + 1 = f := ⟨_, rfl⟩
                          have hs : (e5 : Int) + 1 = (f : Int) := by omega
                          obtain ⟨z, hz⟩ : ∃ z, y5 / 13 = z := ⟨_, rfl⟩
                          rw [hz, hf] at hT
                          rw [hz] at hlt hq
                          clear hd hz hf
                          go_wp2
                          go_roundw
                          case rel => exact ⟨z, f, rfl, hT, ⟨rfl⟩⟩
                          case measure => simp [intOf]; omega
                        · have hm : ((y5 : Int) % 13 == 0) = false := by rw [beq_eq_false_iff_ne]; omega
                          have N5 := Hx.mk hd
                          clear hd
                          go_wp2
                          rw [rounds_succ]
                          go_wp2
                          have hR := facR_of (e := fun i => if i = 0 then e0 else if i = 1 then e1 else if i = 2 then e2 else if i = 3 then e3 else if i = 4 then e4 else e5) T0 T1 T2 T3 T4 T5 N0.out N1.out N2.out N3.out N4.out N5.out
                          exact bodyPost_ret (v := .tuple #[.agg #[.int .i64 e0, .int .i64 e1, .int .i64 e2, .int .i64 e3, .int .i64 e4, .int .i64 e5], .int .i64 y5]) (by simp [results, Tryz.results38, go_sem]) rfl ⟨_, y5, rfl, hR, ((Below.refl _ _).alloc (Nat.le_refl _) _).alloc (by simp) _⟩
end Go.Proofs.YtdlfnonlalkjdaaGreatDoor

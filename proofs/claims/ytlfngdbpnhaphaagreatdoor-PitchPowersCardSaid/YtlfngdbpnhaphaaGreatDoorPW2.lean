/- PitchPowers' loop, walked. -/
import Derived.Test.YtlfngdbpnhaphaaGreatDoorPW0
namespace Go.Proofs.YtlfngdbpnhaphaaGreatDoor
open Go.RowKit M
theorem LS.sub {w0 w : World} {L : List (Value × Nat)} {R R' : List (Nat × TypeId × Array Value)} (h : LS w0 w L R) (hs : ∀ t ∈ R', t ∈ R) : LS w0 w L R' := ⟨h.bl, h.gv, h.nm, fun t ht => h.rows t (hs t ht)⟩
/-- What the loop keeps. -/
structure PwI (w0 : World) (bp b1 : Nat) (P : Int → Nat → Int) (p a : Nat → Int) (k : Int) (w : World) : Prop where
  ls : LS w0 w [] [(bp, 23, PC (P k)), (b1, 23, PC p), (w0.heap.size, 23, PC a)]
  lo : w0.heap.size < bp
  l8 : 8 ≤ w0.heap.size
  ne : b1 ≠ bp
theorem PwI.next {w0 w w1 : World} {bp b1 : Nat} {P : Int → Nat → Int} {p a : Nat → Int} {k : Int} (h : PwI w0 bp b1 P p a k w) (hb : Below w.heap.size w w1) :
    PwI w0 bp b1 P p a (k + 1) ((((((w1.alloc (.cells (PC (P (k + 1))) 23)).setCell ⟨bp, 0, none⟩ (.int .i64 (P (k + 1) 0))).setCell ⟨bp, 1, none⟩ (.int .i64 (P (k + 1) 1))).setCell ⟨bp, 2, none⟩ (.int .i64 (P (k + 1) 2))).setCell ⟨bp, 3, none⟩ (.int .i64 (P (k + 1) 3))).setCell ⟨bp, 4, none⟩ (.int .i64 (P (k + 1) 4)) |>.setCell ⟨bp, 5, none⟩ (.int .i64 (P (k + 1) 5))) := by
  have S := ((h.ls.call hb).push (PC (P (k + 1))) 23).drop
  have hne : ∀ u ∈ [(b1, 23, PC p), (w0.heap.size, (23 : TypeId), PC a)], u.1 ≠ bp := by
    intro u hu
    simp only [List.mem_cons, List.not_mem_nil, or_false] at hu
    have h1 := h.lo
    have h2 := h.ne
    rcases hu with rfl | rfl
    · exact h2
    · simp only; omega
  have h1 := h.lo
  have h2 := h.l8
  have S := S.set1 (by omega) h2 hne 0 (.int .i64 (P (k + 1) 0)) #[.int .i64 (P (k + 1) 0), .int .i64 (P k 1), .int .i64 (P k 2), .int .i64 (P k 3), .int .i64 (P k 4), .int .i64 (P k 5)] (by simp)
  have S := S.set1 (by omega) h2 hne 1 (.int .i64 (P (k + 1) 1)) #[.int .i64 (P (k + 1) 0), .int .i64 (P (k + 1) 1), .int .i64 (P k 2), .int .i64 (P k 3), .int .i64 (P k 4), .int .i64 (P k 5)] (by simp)
  have S := S.set1 (by omega) h2 hne 2 (.int .i64 (P (k + 1) 2)) #[.int .i64 (P (k + 1) 0), .int .i64 (P (k + 1) 1), .int .i64 (P (k + 1) 2), .int .i64 (P k 3), .int .i64 (P k 4), .int .i64 (P k 5)] (by simp)
  have S := S.set1 (by omega) h2 hne 3 (.int .i64 (P (k + 1) 3)) #[.int .i64 (P (k + 1) 0), .int .i64 (P (k + 1) 1), .int .i64 (P (k + 1) 2), .int .i64 (P (k + 1) 3), .int .i64 (P k 4), .int .i64 (P k 5)] (by simp)
  have S := S.set1 (by omega) h2 hne 4 (.int .i64 (P (k + 1) 4)) #[.int .i64 (P (k + 1) 0), .int .i64 (P (k + 1) 1), .int .i64 (P (k + 1) 2), .int .i64 (P (k + 1) 3), .int .i64 (P (k + 1) 4), .int .i64 (P k 5)] (by simp)
  have S := S.set1 (by omega) h2 hne 5 (.int .i64 (P (k + 1) 5)) (PC (P (k + 1))) (by simp)
  exact ⟨S, h.lo, h.l8, h.ne⟩
theorem powers_y_loop (a b : Nat → Int) (n : Int) (w : World) (hg : Gv w) (hn0 : 1 ≤ n) (hn1 : n ≤ 12) (p : Nat → Int) (P : Int → Nat → Int) (HP0 : Hx (∀ i, P 0 i = 0)) (HPn : Hx (∀ w, (Op.equalIn 10000 23 (PV (P n)) (PV p)).run Tryz.prog w = .ok true w)) (K8 : Hx (∀ k, 0 ≤ k → k < n → ∀ w, Calls Tryz.prog 19 #[PV (P k), PV a] w (OutV w (P (k + 1)) 0))) (q r : Nat → Int) (x : Int) (K1 : Hx (∀ w, Calls Tryz.prog 23 #[PV a, .int .i64 n, .int .i64 1] w (OutV w p 0))) (K2 : Hx (∀ w, Calls Tryz.prog 23 #[PV b, .int .i64 n, .int .i64 1] w (OutV w q 0))) (K3 : Hx (∀ w, Pm w → Calls Tryz.prog 25 #[PV a, PV b] w fun e w' => e = .returned (.tuple #[.int .i64 x, .int .i64 0]) ∧ Below w.heap.size w w')) (K4 : Hx (∀ w, Pm w → Calls Tryz.prog 25 #[PV p, PV q] w fun e w' => e = .returned (.tuple #[.int .i64 x, .int .i64 0]) ∧ Below w.heap.size w w')) (K5 : Hx (∀ w, Calls Tryz.prog 23 #[PV a, .int .i64 1, .int .i64 1] w (OutV w r 0))) (K6 : Hx (∀ w, Calls Tryz.prog 23 #[PV r, .int .i64 1, .int .i64 1] w (OutV w a 0))) (K7 : Hx (∀ w, Calls Tryz.prog 23 #[PV r, .int .i64 n, .int .i64 1] w (OutV w p 0))) :
    Calls Tryz.prog 7 #[PV a, PV b, .int .i64 n, .int .i64 1] w fun e w' => e = .returned (.bool true) ∧ Below w.heap.size w w' := by
  have S : Bx (LS w w [] []) := ⟨LS.start w hg⟩
  replace S := Bx.mk (S.out.push #[.int .i64 (a 0), .int .i64 (a 1), .int .i64 (a 2), .int .i64 (a 3), .int .i64 (a 4), .int .i64 (a 5)] 23)
  replace S := Bx.mk (S.out.push #[.int .i64 (b 0), .int .i64 (b 1), .int .i64 (b 2), .int .i64 (b 3), .int .i64 (b 4), .int .i64 (b 5)] 23)
  simp only [World.size_alloc] at S
  go_enter Tryz.func7, Tryz.ntmps7
  go_wp2_with fail
  refine (head_any _ S.out.gv).mono ?_
  rintro e w1 ⟨rfl, hb⟩
  replace S := Bx.mk (S.out.call hb)
  clear hb
  obtain ⟨c1_0, c1_1, c1_2, c1_3, c1_4, c1_5, z1⟩ := S.out.six w.heap.size 23 (.int .i64 (a 0)) (.int .i64 (a 1)) (.int .i64 (a 2)) (.int .i64 (a 3)) (.int .i64 (a 4)) (.int .i64 (a 5)) (List.mem_cons_of_mem _ List.mem_cons_self)
  go_wp2_with fail
  refine (K1.out _).mono ?_
  rintro e w2 ⟨rfl, hb⟩
  replace S := Bx.mk (S.out.call hb)
  clear hb
  clear c1_0 c1_1 c1_2 c1_3 c1_4 c1_5 z1
  replace S := Bx.mk (S.out.push #[.int .i64 (p 0), .int .i64 (p 1), .int .i64 (p 2), .int .i64 (p 3), .int .i64 (p 4), .int .i64 (p 5)] 23)
  obtain ⟨c1_0, c1_1, c1_2, c1_3, c1_4, c1_5, z1⟩ := S.out.six (w.heap.size + 1) 23 (.int .i64 (b 0)) (.int .i64 (b 1)) (.int .i64 (b 2)) (.int .i64 (b 3)) (.int .i64 (b 4)) (.int .i64 (b 5)) (List.mem_cons_of_mem _ List.mem_cons_self)
  go_wp2_with fail
  refine (K2.out _).mono ?_
  rintro e w3 ⟨rfl, hb⟩
  replace S := Bx.mk (S.out.call hb)
  clear hb
  clear c1_0 c1_1 c1_2 c1_3 c1_4 c1_5 z1
  replace S := Bx.mk (S.out.push #[.int .i64 (q 0), .int .i64 (q 1), .int .i64 (q 2), .int .i64 (q 3), .int .i64 (q 4), .int .i64 (q 5)] 23)
  obtain ⟨c2_0, c2_1, c2_2, c2_3, c2_4, c2_5, z2⟩ := S.out.six (w.heap.size + 1) 23 (.int .i64 (b 0)) (.int .i64 (b 1)) (.int .i64 (b 2)) (.int .i64 (b 3)) (.int .i64 (b 4)) (.int .i64 (b 5)) (List.mem_cons_of_mem _ (List.mem_cons_of_mem _ List.mem_cons_self))
  obtain ⟨c3_0, c3_1, c3_2, c3_3, c3_4, c3_5, z3⟩ := S.out.six w.heap.size 23 (.int .i64 (a 0)) (.int .i64 (a 1)) (.int .i64 (a 2)) (.int .i64 (a 3)) (.int .i64 (a 4)) (.int .i64 (a 5)) (List.mem_cons_of_mem _ (List.mem_cons_of_mem _ (List.mem_cons_of_mem _ List.mem_cons_self)))
  go_wp2_with fail
  refine (K3.out _ S.out.gv.pm).mono ?_
  rintro e w4 ⟨rfl, hb⟩
  replace S := Bx.mk (S.out.call hb)
  clear hb
  clear c2_0 c2_1 c2_2 c2_3 c2_4 c2_5 z2 c3_0 c3_1 c3_2 c3_3 c3_4 c3_5 z3
  obtain ⟨c0_0, c0_1, c0_2, c0_3, c0_4, c0_5, z0⟩ := S.out.six w3.heap.size 23 (.int .i64 (q 0)) (.int .i64 (q 1)) (.int .i64 (q 2)) (.int .i64 (q 3)) (.int .i64 (q 4)) (.int .i64 (q 5)) List.mem_cons_self
  obtain ⟨c1_0, c1_1, c1_2, c1_3, c1_4, c1_5, z1⟩ := S.out.six w2.heap.size 23 (.int .i64 (p 0)) (.int .i64 (p 1)) (.int .i64 (p 2)) (.int .i64 (p 3)) (.int .i64 (p 4)) (.int .i64 (p 5)) (List.mem_cons_of_mem _ List.mem_cons_self)
  go_wp2_with fail
  refine (K4.out _ S.out.gv.pm).mono ?_
  rintro e w5 ⟨rfl, hb⟩
  replace S := Bx.mk (S.out.call hb)
  clear hb
  clear c0_0 c0_1 c0_2 c0_3 c0_4 c0_5 z0 c1_0 c1_1 c1_2 c1_3 c1_4 c1_5 z1
  obtain ⟨c3_0, c3_1, c3_2, c3_3, c3_4, c3_5, z3⟩ := S.out.six w.heap.size 23 (.int .i64 (a 0)) (.int .i64 (a 1)) (.int .i64 (a 2)) (.int .i64 (a 3)) (.int .i64 (a 4)) (.int .i64 (a 5)) (List.mem_cons_of_mem _ (List.mem_cons_of_mem _ (List.mem_cons_of_mem _ List.mem_cons_self)))
  go_wp2_with fail
  refine (K5.out _).mono ?_
  rintro e w6 ⟨rfl, hb⟩
  replace S := Bx.mk (S.out.call hb)
  clear hb
  clear c3_0 c3_1 c3_2 c3_3 c3_4 c3_5 z3
  replace S := Bx.mk (S.out.push #[.int .i64 (r 0), .int .i64 (r 1), .int .i64 (r 2), .int .i64 (r 3), .int .i64 (r 4), .int .i64 (r 5)] 23)
  obtain ⟨c0_0, c0_1, c0_2, c0_3, c0_4, c0_5, z0⟩ := S.out.six w6.heap.size 23 (.int .i64 (r 0)) (.int .i64 (r 1)) (.int .i64 (r 2)) (.int .i64 (r 3)) (.int .i64 (r 4)) (.int .i64 (r 5)) List.mem_cons_self
  go_wp2_with fail
  refine (K6.out _).mono ?_
  rintro e w7 ⟨rfl, hb⟩
  replace S := Bx.mk (S.out.call hb)
  clear hb
  clear c0_0 c0_1 c0_2 c0_3 c0_4 c0_5 z0
  replace S := Bx.mk (S.out.push #[.int .i64 (a 0), .int .i64 (a 1), .int .i64 (a 2), .int .i64 (a 3), .int .i64 (a 4), .int .i64 (a 5)] 23)
  obtain ⟨c1_0, c1_1, c1_2, c1_3, c1_4, c1_5, z1⟩ := S.out.six w6.heap.size 23 (.int .i64 (r 0)) (.int .i64 (r 1)) (.int .i64 (r 2)) (.int .i64 (r 3)) (.int .i64 (r 4)) (.int .i64 (r 5)) (List.mem_cons_of_mem _ List.mem_cons_self)
  go_wp2_with fail
  refine (K7.out _).mono ?_
  rintro e w8 ⟨rfl, hb⟩
  replace S := Bx.mk (S.out.call hb)
  clear hb
  clear c1_0 c1_1 c1_2 c1_3 c1_4 c1_5 z1
  replace S := Bx.mk (S.out.push #[.int .i64 (p 0), .int .i64 (p 1), .int .i64 (p 2), .int .i64 (p 3), .int .i64 (p 4), .int .i64 (p 5)] 23)
  have q1 := eq6_same 23 (by kernel_rfl) a
  have q2 := eq6_same 23 (by kernel_rfl) p
  obtain ⟨c0_0, c0_1, c0_2, c0_3, c0_4, c0_5, z0⟩ := S.out.six w8.heap.size 23 (.int .i64 (p 0)) (.int .i64 (p 1)) (.int .i64 (p 2)) (.int .i64 (p 3)) (.int .i64 (p 4)) (.int .i64 (p 5)) List.mem_cons_self
  obtain ⟨c1_0, c1_1, c1_2, c1_3, c1_4, c1_5, z1⟩ := S.out.six w7.heap.size 23 (.int .i64 (a 0)) (.int .i64 (a 1)) (.int .i64 (a 2)) (.int .i64 (a 3)) (.int .i64 (a 4)) (.int .i64 (a 5)) (List.mem_cons_of_mem _ List.mem_cons_self)
  obtain ⟨c4_0, c4_1, c4_2, c4_3, c4_4, c4_5, z4⟩ := S.out.six w2.heap.size 23 (.int .i64 (p 0)) (.int .i64 (p 1)) (.int .i64 (p 2)) (.int .i64 (p 3)) (.int .i64 (p 4)) (.int .i64 (p 5)) (List.mem_cons_of_mem _ (List.mem_cons_of_mem _ (List.mem_cons_of_mem _ (List.mem_cons_of_mem _ List.mem_cons_self))))
  obtain ⟨c6_0, c6_1, c6_2, c6_3, c6_4, c6_5, z6⟩ := S.out.six w.heap.size 23 (.int .i64 (a 0)) (.int .i64 (a 1)) (.int .i64 (a 2)) (.int .i64 (a 3)) (.int .i64 (a 4)) (.int .i64 (a 5)) (List.mem_cons_of_mem _ (List.mem_cons_of_mem _ (List.mem_cons_of_mem _ (List.mem_cons_of_mem _ (List.mem_cons_of_mem _ (List.mem_cons_of_mem _ List.mem_cons_self))))))
  have la := (S.out.six w.heap.size 23 (.int .i64 (a 0)) (.int .i64 (a 1)) (.int .i64 (a 2)) (.int .i64 (a 3)) (.int .i64 (a 4)) (.int .i64 (a 5)) (List.mem_cons_of_mem _ (List.mem_cons_of_mem _ (List.mem_cons_of_mem _ (List.mem_cons_of_mem _ (List.mem_cons_of_mem _ (List.mem_cons_of_mem _ List.mem_cons_self))))))).2.2.2.2.2.2
  have lp := (S.out.six w2.heap.size 23 (.int .i64 (p 0)) (.int .i64 (p 1)) (.int .i64 (p 2)) (.int .i64 (p 3)) (.int .i64 (p 4)) (.int .i64 (p 5)) (List.mem_cons_of_mem _ (List.mem_cons_of_mem _ (List.mem_cons_of_mem _ (List.mem_cons_of_mem _ List.mem_cons_self))))).2.2.2.2.2.2
  simp only [World.size_alloc] at la lp
  replace S := Bx.mk (S.out.push #[.int .i64 0, .int .i64 0, .int .i64 0, .int .i64 0, .int .i64 0, .int .i64 0] 23)
  simp only [World.size_alloc] at S
  go_wp2
  have e0 : PC (P 0) = #[.int .i64 0, .int .i64 0, .int .i64 0, .int .i64 0, .int .i64 0, .int .i64 0] := by simp [HP0.out]
  have HI : Hx (PwI w (w8.heap.size + 1) (w2.heap.size) P p a 0 _) := ⟨⟨S.out.sub (by rw [e0]; intro t ht; simp only [List.mem_cons, List.not_mem_nil, or_false] at ht ⊢; rcases ht with rfl | rfl | rfl <;> simp), la, hg.lt8, by omega⟩⟩
  have hbp : w8.heap.size + 1 = w8.heap.size + 1 := rfl
  clear S e0 la lp K1 K2 K3 K4 K5 hg K6 K7
  generalize w8.heap.size + 1 = bp at *
  generalize w2.heap.size = b1 at *
  go_loopw [124] (fun s wr => ∃ k : Int, 0 ≤ k ∧ k ≤ n ∧ s = .int .i64 k ∧ Hx (PwI w bp b1 P p a k wr)) (fun s _ => (n - intOf s).toNat)
  case atStart => exact ⟨0, by omega, by omega, rfl, HI⟩
  case round =>
    clear HI
    obtain ⟨k, hk0, hk1, rfl, HI⟩ := hrel
    have lo := HI.out.lo
    by_cases hkn : k = n
    · obtain ⟨c0, c1, c2, c3, c4, c5, _⟩ := HI.out.ls.six bp 23 (.int .i64 (P k 0)) (.int .i64 (P k 1)) (.int .i64 (P k 2)) (.int .i64 (P k 3)) (.int .i64 (P k 4)) (.int .i64 (P k 5)) List.mem_cons_self
      obtain ⟨d0, d1, d2, d3, d4, d5, _⟩ := HI.out.ls.six b1 23 (.int .i64 (p 0)) (.int .i64 (p 1)) (.int .i64 (p 2)) (.int .i64 (p 3)) (.int .i64 (p 4)) (.int .i64 (p 5)) (List.mem_cons_of_mem _ List.mem_cons_self)
      have qn := HPn.out
      rw [← hkn] at qn
      have hz : n ≤ k := by omega
      clear K8 hkn
      go_wp2_with fail
      go_ret
      exact ⟨rfl, HI.out.ls.bl⟩
    · have hlt : k < n := by omega
      obtain ⟨c0, c1, c2, c3, c4, c5, cz⟩ := HI.out.ls.six bp 23 (.int .i64 (P k 0)) (.int .i64 (P k 1)) (.int .i64 (P k 2)) (.int .i64 (P k 3)) (.int .i64 (P k 4)) (.int .i64 (P k 5)) List.mem_cons_self
      obtain ⟨d0, d1, d2, d3, d4, d5, dz⟩ := HI.out.ls.six w.heap.size 23 (.int .i64 (a 0)) (.int .i64 (a 1)) (.int .i64 (a 2)) (.int .i64 (a 3)) (.int .i64 (a 4)) (.int .i64 (a 5)) (List.mem_cons_of_mem _ (List.mem_cons_of_mem _ List.mem_cons_self))
      have hK := Hx.mk (K8.out k hk0 hlt)
      clear K8 hkn
      go_wp2_with fail
      refine (hK.out _).mono ?_
      rintro e w9 ⟨rfl, hb⟩
      have HN := Hx.mk (HI.out.next hb)
      have S9 := Hx.mk ((HI.out.ls.call hb).push (PC (P (k + 1))) 23)
      clear hb hK c0 c1 c2 c3 c4 c5 cz d0 d1 d2 d3 d4 d5 dz
      obtain ⟨c0, c1, c2, c3, c4, c5, cz⟩ := S9.out.six bp 23 (.int .i64 (P k 0)) (.int .i64 (P k 1)) (.int .i64 (P k 2)) (.int .i64 (P k 3)) (.int .i64 (P k 4)) (.int .i64 (P k 5)) (List.mem_cons_of_mem _ List.mem_cons_self)
      obtain ⟨f0, f1, f2, f3, f4, f5⟩ := S9.out.frz bp 23 _ (List.mem_cons_of_mem _ List.mem_cons_self)
      clear S9
      go_wp2
      go_roundw
      case rel => exact ⟨k + 1, by omega, by omega, rfl, HN⟩
      case measure => simp [intOf]; omega
theorem powers_n_loop (a b : Nat → Int) (n : Int) (w : World) (hg : Gv w) (hn0 : 1 ≤ n) (hn1 : n ≤ 12) (p : Nat → Int) (P : Int → Nat → Int) (HP0 : Hx (∀ i, P 0 i = 0)) (HPn : Hx (∀ w, (Op.equalIn 10000 23 (PV (P n)) (PV p)).run Tryz.prog w = .ok true w)) (K8 : Hx (∀ k, 0 ≤ k → k < n → ∀ w, Calls Tryz.prog 19 #[PV (P k), PV a] w (OutV w (P (k + 1)) 0))) (q r : Nat → Int) (x : Int) (K1 : Hx (∀ w, Calls Tryz.prog 23 #[PV a, .int .i64 n, .int .i64 1] w (OutV w p 0))) (K2 : Hx (∀ w, Calls Tryz.prog 23 #[PV b, .int .i64 n, .int .i64 1] w (OutV w q 0))) (K3 : Hx (∀ w, Pm w → Calls Tryz.prog 25 #[PV a, PV b] w fun e w' => e = .returned (.tuple #[.int .i64 x, .int .i64 0]) ∧ Below w.heap.size w w')) (K4 : Hx (∀ w, Pm w → Calls Tryz.prog 25 #[PV p, PV q] w fun e w' => e = .returned (.tuple #[.int .i64 x, .int .i64 0]) ∧ Below w.heap.size w w')) (g : Int) (hgz : ¬ g = 0) (K5 : Hx (∀ w, Calls Tryz.prog 23 #[PV a, .int .i64 1, .int .i64 1] w (OutV w r g))) :
    Calls Tryz.prog 7 #[PV a, PV b, .int .i64 n, .int .i64 1] w fun e w' => e = .returned (.bool true) ∧ Below w.heap.size w w' := by
  have S : Bx (LS w w [] []) := ⟨LS.start w hg⟩
  replace S := Bx.mk (S.out.push #[.int .i64 (a 0), .int .i64 (a 1), .int .i64 (a 2), .int .i64 (a 3), .int .i64 (a 4), .int .i64 (a 5)] 23)
  replace S := Bx.mk (S.out.push #[.int .i64 (b 0), .int .i64 (b 1), .int .i64 (b 2), .int .i64 (b 3), .int .i64 (b 4), .int .i64 (b 5)] 23)
  simp only [World.size_alloc] at S
  go_enter Tryz.func7, Tryz.ntmps7
  go_wp2_with fail
  refine (head_any _ S.out.gv).mono ?_
  rintro e w1 ⟨rfl, hb⟩
  replace S := Bx.mk (S.out.call hb)
  clear hb
  obtain ⟨c1_0, c1_1, c1_2, c1_3, c1_4, c1_5, z1⟩ := S.out.six w.heap.size 23 (.int .i64 (a 0)) (.int .i64 (a 1)) (.int .i64 (a 2)) (.int .i64 (a 3)) (.int .i64 (a 4)) (.int .i64 (a 5)) (List.mem_cons_of_mem _ List.mem_cons_self)
  go_wp2_with fail
  refine (K1.out _).mono ?_
  rintro e w2 ⟨rfl, hb⟩
  replace S := Bx.mk (S.out.call hb)
  clear hb
  clear c1_0 c1_1 c1_2 c1_3 c1_4 c1_5 z1
  replace S := Bx.mk (S.out.push #[.int .i64 (p 0), .int .i64 (p 1), .int .i64 (p 2), .int .i64 (p 3), .int .i64 (p 4), .int .i64 (p 5)] 23)
  obtain ⟨c1_0, c1_1, c1_2, c1_3, c1_4, c1_5, z1⟩ := S.out.six (w.heap.size + 1) 23 (.int .i64 (b 0)) (.int .i64 (b 1)) (.int .i64 (b 2)) (.int .i64 (b 3)) (.int .i64 (b 4)) (.int .i64 (b 5)) (List.mem_cons_of_mem _ List.mem_cons_self)
  go_wp2_with fail
  refine (K2.out _).mono ?_
  rintro e w3 ⟨rfl, hb⟩
  replace S := Bx.mk (S.out.call hb)
  clear hb
  clear c1_0 c1_1 c1_2 c1_3 c1_4 c1_5 z1
  replace S := Bx.mk (S.out.push #[.int .i64 (q 0), .int .i64 (q 1), .int .i64 (q 2), .int .i64 (q 3), .int .i64 (q 4), .int .i64 (q 5)] 23)
  obtain ⟨c2_0, c2_1, c2_2, c2_3, c2_4, c2_5, z2⟩ := S.out.six (w.heap.size + 1) 23 (.int .i64 (b 0)) (.int .i64 (b 1)) (.int .i64 (b 2)) (.int .i64 (b 3)) (.int .i64 (b 4)) (.int .i64 (b 5)) (List.mem_cons_of_mem _ (List.mem_cons_of_mem _ List.mem_cons_self))
  obtain ⟨c3_0, c3_1, c3_2, c3_3, c3_4, c3_5, z3⟩ := S.out.six w.heap.size 23 (.int .i64 (a 0)) (.int .i64 (a 1)) (.int .i64 (a 2)) (.int .i64 (a 3)) (.int .i64 (a 4)) (.int .i64 (a 5)) (List.mem_cons_of_mem _ (List.mem_cons_of_mem _ (List.mem_cons_of_mem _ List.mem_cons_self)))
  go_wp2_with fail
  refine (K3.out _ S.out.gv.pm).mono ?_
  rintro e w4 ⟨rfl, hb⟩
  replace S := Bx.mk (S.out.call hb)
  clear hb
  clear c2_0 c2_1 c2_2 c2_3 c2_4 c2_5 z2 c3_0 c3_1 c3_2 c3_3 c3_4 c3_5 z3
  obtain ⟨c0_0, c0_1, c0_2, c0_3, c0_4, c0_5, z0⟩ := S.out.six w3.heap.size 23 (.int .i64 (q 0)) (.int .i64 (q 1)) (.int .i64 (q 2)) (.int .i64 (q 3)) (.int .i64 (q 4)) (.int .i64 (q 5)) List.mem_cons_self
  obtain ⟨c1_0, c1_1, c1_2, c1_3, c1_4, c1_5, z1⟩ := S.out.six w2.heap.size 23 (.int .i64 (p 0)) (.int .i64 (p 1)) (.int .i64 (p 2)) (.int .i64 (p 3)) (.int .i64 (p 4)) (.int .i64 (p 5)) (List.mem_cons_of_mem _ List.mem_cons_self)
  go_wp2_with fail
  refine (K4.out _ S.out.gv.pm).mono ?_
  rintro e w5 ⟨rfl, hb⟩
  replace S := Bx.mk (S.out.call hb)
  clear hb
  clear c0_0 c0_1 c0_2 c0_3 c0_4 c0_5 z0 c1_0 c1_1 c1_2 c1_3 c1_4 c1_5 z1
  obtain ⟨c3_0, c3_1, c3_2, c3_3, c3_4, c3_5, z3⟩ := S.out.six w.heap.size 23 (.int .i64 (a 0)) (.int .i64 (a 1)) (.int .i64 (a 2)) (.int .i64 (a 3)) (.int .i64 (a 4)) (.int .i64 (a 5)) (List.mem_cons_of_mem _ (List.mem_cons_of_mem _ (List.mem_cons_of_mem _ List.mem_cons_self)))
  go_wp2_with fail
  refine (K5.out _).mono ?_
  rintro e w6 ⟨rfl, hb⟩
  replace S := Bx.mk (S.out.call hb)
  clear hb
  clear c3_0 c3_1 c3_2 c3_3 c3_4 c3_5 z3
  replace S := Bx.mk (S.out.push #[.int .i64 (r 0), .int .i64 (r 1), .int .i64 (r 2), .int .i64 (r 3), .int .i64 (r 4), .int .i64 (r 5)] 23)
  have la := (S.out.six w.heap.size 23 (.int .i64 (a 0)) (.int .i64 (a 1)) (.int .i64 (a 2)) (.int .i64 (a 3)) (.int .i64 (a 4)) (.int .i64 (a 5)) (List.mem_cons_of_mem _ (List.mem_cons_of_mem _ (List.mem_cons_of_mem _ (List.mem_cons_of_mem _ List.mem_cons_self))))).2.2.2.2.2.2
  have lp := (S.out.six w2.heap.size 23 (.int .i64 (p 0)) (.int .i64 (p 1)) (.int .i64 (p 2)) (.int .i64 (p 3)) (.int .i64 (p 4)) (.int .i64 (p 5)) (List.mem_cons_of_mem _ (List.mem_cons_of_mem _ List.mem_cons_self))).2.2.2.2.2.2
  simp only [World.size_alloc] at la lp
  replace S := Bx.mk (S.out.push #[.int .i64 0, .int .i64 0, .int .i64 0, .int .i64 0, .int .i64 0, .int .i64 0] 23)
  simp only [World.size_alloc] at S
  go_wp2
  have e0 : PC (P 0) = #[.int .i64 0, .int .i64 0, .int .i64 0, .int .i64 0, .int .i64 0, .int .i64 0] := by simp [HP0.out]
  have HI : Hx (PwI w (w6.heap.size + 1) (w2.heap.size) P p a 0 _) := ⟨⟨S.out.sub (by rw [e0]; intro t ht; simp only [List.mem_cons, List.not_mem_nil, or_false] at ht ⊢; rcases ht with rfl | rfl | rfl <;> simp), la, hg.lt8, by omega⟩⟩
  have hbp : w6.heap.size + 1 = w6.heap.size + 1 := rfl
  clear S e0 la lp K1 K2 K3 K4 K5 hg
  generalize w6.heap.size + 1 = bp at *
  generalize w2.heap.size = b1 at *
  go_loopw [124] (fun s wr => ∃ k : Int, 0 ≤ k ∧ k ≤ n ∧ s = .int .i64 k ∧ Hx (PwI w bp b1 P p a k wr)) (fun s _ => (n - intOf s).toNat)
  case atStart => exact ⟨0, by omega, by omega, rfl, HI⟩
  case round =>
    clear HI
    obtain ⟨k, hk0, hk1, rfl, HI⟩ := hrel
    have lo := HI.out.lo
    by_cases hkn : k = n
    · obtain ⟨c0, c1, c2, c3, c4, c5, _⟩ := HI.out.ls.six bp 23 (.int .i64 (P k 0)) (.int .i64 (P k 1)) (.int .i64 (P k 2)) (.int .i64 (P k 3)) (.int .i64 (P k 4)) (.int .i64 (P k 5)) List.mem_cons_self
      obtain ⟨d0, d1, d2, d3, d4, d5, _⟩ := HI.out.ls.six b1 23 (.int .i64 (p 0)) (.int .i64 (p 1)) (.int .i64 (p 2)) (.int .i64 (p 3)) (.int .i64 (p 4)) (.int .i64 (p 5)) (List.mem_cons_of_mem _ List.mem_cons_self)
      have qn := HPn.out
      rw [← hkn] at qn
      have hz : n ≤ k := by omega
      clear K8 hkn
      go_wp2_with fail
      go_ret
      exact ⟨rfl, HI.out.ls.bl⟩
    · have hlt : k < n := by omega
      obtain ⟨c0, c1, c2, c3, c4, c5, cz⟩ := HI.out.ls.six bp 23 (.int .i64 (P k 0)) (.int .i64 (P k 1)) (.int .i64 (P k 2)) (.int .i64 (P k 3)) (.int .i64 (P k 4)) (.int .i64 (P k 5)) List.mem_cons_self
      obtain ⟨d0, d1, d2, d3, d4, d5, dz⟩ := HI.out.ls.six w.heap.size 23 (.int .i64 (a 0)) (.int .i64 (a 1)) (.int .i64 (a 2)) (.int .i64 (a 3)) (.int .i64 (a 4)) (.int .i64 (a 5)) (List.mem_cons_of_mem _ (List.mem_cons_of_mem _ List.mem_cons_self))
      have hK := Hx.mk (K8.out k hk0 hlt)
      clear K8 hkn
      go_wp2_with fail
      refine (hK.out _).mono ?_
      rintro e w9 ⟨rfl, hb⟩
      have HN := Hx.mk (HI.out.next hb)
      have S9 := Hx.mk ((HI.out.ls.call hb).push (PC (P (k + 1))) 23)
      clear hb hK c0 c1 c2 c3 c4 c5 cz d0 d1 d2 d3 d4 d5 dz
      obtain ⟨c0, c1, c2, c3, c4, c5, cz⟩ := S9.out.six bp 23 (.int .i64 (P k 0)) (.int .i64 (P k 1)) (.int .i64 (P k 2)) (.int .i64 (P k 3)) (.int .i64 (P k 4)) (.int .i64 (P k 5)) (List.mem_cons_of_mem _ List.mem_cons_self)
      obtain ⟨f0, f1, f2, f3, f4, f5⟩ := S9.out.frz bp 23 _ (List.mem_cons_of_mem _ List.mem_cons_self)
      clear S9
      go_wp2
      go_roundw
      case rel => exact ⟨k + 1, by omega, by omega, rfl, HN⟩
      case measure => simp [intOf]; omega
end Go.Proofs.YtlfngdbpnhaphaaGreatDoor

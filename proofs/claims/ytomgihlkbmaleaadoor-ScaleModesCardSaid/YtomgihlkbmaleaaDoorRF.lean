/- ScaleModes, walked. -/
import Derived.Test.YtomgihlkbmaleaaDoorRE
import Derived.BigQuiet
import Derived.Deep.QuietTactic
namespace Go.Proofs.YtomgihlkbmaleaaDoor
open Go.RowKit M
set_option maxRecDepth 100000 in
set_option maxHeartbeats 40000000 in
theorem smd_n (ao : Option Addr) (n c di dk : Nat) (M : Nat → Nat → Int) (w : World) (hs : Sm w) (hS : CV w ao n M) (hn : n ≤ 9223372036854775807) (h : 16 < n) :
    Calls Tryd.prog 6 #[.slice ao n c, .int .u8 (di : Nat), .int .u8 (dk : Nat)] w fun e w' => e = .returned (.bool true) ∧ Below w.heap.size w w' := by
  have d0 : decide ((16 : Int) < (n : Int)) = true := by simp; omega
  have HS := Bx.mk hS
  have S : Bx (SS w w []) := ⟨SS.start w hs⟩
  go_enter Tryd.func6, Tryd.ntmps6
  go_wp2_with fail
  refine (shead_any _ S.out.sm).mono ?_
  rintro e w1 ⟨rfl, hb⟩
  replace S := Bx.mk (S.out.call hb)
  clear hb
  go_wp2_with fail
  go_ret
  exact ⟨rfl, S.out.bl⟩
set_option maxRecDepth 100000 in
set_option maxHeartbeats 40000000 in
theorem smd_nv (ao : Option Addr) (n c di dk : Nat) (M : Nat → Nat → Int) (w : World) (hs : Sm w) (hS : CV w ao n M) (h : ¬ 16 < n) (H1 : Hx (∀ w, CV w ao n M → Calls Tryd.prog 16 #[.slice ao n c] w fun e w' => e = .returned (.bool false) ∧ Below w.heap.size w w')) :
    Calls Tryd.prog 6 #[.slice ao n c, .int .u8 (di : Nat), .int .u8 (dk : Nat)] w fun e w' => e = .returned (.bool true) ∧ Below w.heap.size w w' := by
  have d0 : decide ((16 : Int) < (n : Int)) = false := by simp; omega
  have HS := Bx.mk hS
  have S : Bx (SS w w []) := ⟨SS.start w hs⟩
  go_enter Tryd.func6, Tryd.ntmps6
  go_wp2_with fail
  refine (shead_any _ S.out.sm).mono ?_
  rintro e w1 ⟨rfl, hb⟩
  replace S := Bx.mk (S.out.call hb)
  clear hb
  go_wp2_with fail
  refine (H1.out _ (HS.out.keep S.out.bl)).mono ?_
  rintro e w2 ⟨rfl, hb⟩
  replace S := Bx.mk (S.out.call hb)
  clear hb
  go_wp2_with fail
  go_ret
  exact ⟨rfl, S.out.bl⟩
set_option maxRecDepth 100000 in
set_option maxHeartbeats 40000000 in
theorem smd_ok (ao : Option Addr) (n c di dk : Nat) (M : Nat → Nat → Int) (w : World) (hs : Sm w) (hS : CV w ao n M) (h : ¬ 16 < n) (hn0 : 0 < n) (hcn : n ≤ c) (hcm : c ≤ maxLen) (a b d : Nat) (ha : a < n) (hb : b < n) (hd : d < n) (hi : di ≤ 255) (hk : dk ≤ 255) (ra : (di : Int) % (n : Int) = (a : Int)) (rb : (dk : Int) % (n : Int) = (b : Int)) (rd : ((a : Int) + (b : Int)) % (n : Int) = (d : Int)) (N P Q : Nat → Nat → Int) (H1 : Hx (∀ w, CV w ao n M → Calls Tryd.prog 16 #[.slice ao n c] w fun e w' => e = .returned (.bool true) ∧ Below w.heap.size w w')) (H2 : Hx (∀ ao c w, n ≤ c → c ≤ maxLen → CV w ao n (M) → Sm w → Calls Tryd.prog 17 #[.slice ao n c, .int .i64 0] w (fun e w' => ∃ g cap, e = .returned (.tuple #[.slice (some ⟨g, 0, none⟩) n cap, .int .i64 0]) ∧ n ≤ cap ∧ cap ≤ maxLen ∧ Bx (CV w' (some ⟨g, 0, none⟩) n (md M 0 n)) ∧ Below w.heap.size w w'))) (E1 : Hx (∀ ao bo ca cb w, n ≤ ca → n ≤ cb → CV w ao n (md M 0 n) → CV w bo n (M) → Calls Tryd.prog 18 #[.slice ao n ca, .slice bo n cb] w fun e w' => e = .returned (.bool true) ∧ Below w.heap.size w w')) (H3 : Hx (∀ ao c w, n ≤ c → c ≤ maxLen → CV w ao n (M) → Sm w → Calls Tryd.prog 17 #[.slice ao n c, .int .i64 a] w (fun e w' => (∃ g cap, e = .returned (.tuple #[.slice (some ⟨g, 0, none⟩) n cap, .int .i64 0]) ∧ n ≤ cap ∧ cap ≤ maxLen ∧ Bx (CV w' (some ⟨g, 0, none⟩) n (N)) ∧ Below w.heap.size w w') ∨ (e = .returned (.tuple #[.slice none 0 0, .int .i64 3]) ∧ Below w.heap.size w w')))) (V1 : Hx (∀ ao c w, n ≤ c → CV w ao n N → Sm w → Calls Tryd.prog 19 #[.slice ao n c] w fun e w' => e = .returned (.bool true) ∧ Below w.heap.size w w')) (H4 : Hx (∀ ao c w, n ≤ c → c ≤ maxLen → CV w ao n (N) → Sm w → Calls Tryd.prog 17 #[.slice ao n c, .int .i64 b] w (fun e w' => (∃ g cap, e = .returned (.tuple #[.slice (some ⟨g, 0, none⟩) n cap, .int .i64 0]) ∧ n ≤ cap ∧ cap ≤ maxLen ∧ Bx (CV w' (some ⟨g, 0, none⟩) n (P)) ∧ Below w.heap.size w w') ∨ (e = .returned (.tuple #[.slice none 0 0, .int .i64 3]) ∧ Below w.heap.size w w')))) (H5 : Hx (∀ ao c w, n ≤ c → c ≤ maxLen → CV w ao n (M) → Sm w → Calls Tryd.prog 17 #[.slice ao n c, .int .i64 d] w (fun e w' => (∃ g cap, e = .returned (.tuple #[.slice (some ⟨g, 0, none⟩) n cap, .int .i64 0]) ∧ n ≤ cap ∧ cap ≤ maxLen ∧ Bx (CV w' (some ⟨g, 0, none⟩) n (Q)) ∧ Below w.heap.size w w') ∨ (e = .returned (.tuple #[.slice none 0 0, .int .i64 3]) ∧ Below w.heap.size w w')))) (E2 : Hx (∀ ao bo ca cb w, n ≤ ca → n ≤ cb → CV w ao n (P) → CV w bo n (Q) → Calls Tryd.prog 18 #[.slice ao n ca, .slice bo n cb] w fun e w' => e = .returned (.bool true) ∧ Below w.heap.size w w')) (H6 : Hx (∀ ao c w, n ≤ c → CV w ao n (M) → Sm w → Calls Tryd.prog 14 #[.slice ao n c] w (fun e w' => (∃ g cap, e = .returned (.tuple #[.slice (some ⟨g, 0, none⟩) n cap, .int .i64 0]) ∧ n ≤ cap ∧ cap ≤ maxLen ∧ Bx (CV w' (some ⟨g, 0, none⟩) n (stp M n)) ∧ Below w.heap.size w w') ∨ (e = .returned (.tuple #[.slice none 0 0, .int .i64 3]) ∧ Below w.heap.size w w')))) (H7 : Hx (∀ ao c w, n ≤ c → CV w ao n (N) → Sm w → Calls Tryd.prog 14 #[.slice ao n c] w (fun e w' => (∃ g cap, e = .returned (.tuple #[.slice (some ⟨g, 0, none⟩) n cap, .int .i64 0]) ∧ n ≤ cap ∧ cap ≤ maxLen ∧ Bx (CV w' (some ⟨g, 0, none⟩) n (stp N n)) ∧ Below w.heap.size w w') ∨ (e = .returned (.tuple #[.slice none 0 0, .int .i64 3]) ∧ Below w.heap.size w w')))) (hT : Bx (∀ i d, i < n → d < n → (a + i) % n = d → ∀ j, j < 6 → stp N n i j = stp M n d j)) :
    Calls Tryd.prog 6 #[.slice ao n c, .int .u8 (di : Nat), .int .u8 (dk : Nat)] w fun e w' => e = .returned (.bool true) ∧ Below w.heap.size w w' := by
  have d0 : decide ((16 : Int) < (n : Int)) = false := by simp; omega
  have HS := Bx.mk hS
  have S : Bx (SS w w []) := ⟨SS.start w hs⟩
  go_enter Tryd.func6, Tryd.ntmps6
  go_wp2_with fail
  refine (shead_any _ S.out.sm).mono ?_
  rintro e w1 ⟨rfl, hb⟩
  replace S := Bx.mk (S.out.call hb)
  clear hb
  go_wp2_with fail
  refine (H1.out _ (HS.out.keep S.out.bl)).mono ?_
  rintro e w2 ⟨rfl, hb⟩
  replace S := Bx.mk (S.out.call hb)
  clear hb
  have C0 := Bx.mk (HS.out.keep S.out.bl)
  clear HS
  have hn1 : ((n : Int) == 0) = false := by simp; omega
  go_wp2_with fail
  go_quiet (fail)
  replace S := Bx.mk (S.out.drewN nq)
  replace C0 : Bx (CV (w2.drewN nq) ao n M) := Bx.mk (C0.out.keep (below_drewN (Below.refl _ _) nq))
  go_wp2_with fail
  refine (H2.out _ _ _ hcn hcm C0.out S.out.sm).mono ?_
  rintro e w11 ⟨g2, c2, rfl, k2, m2, C2, hb⟩
  replace S := Bx.mk (S.out.call hb)
  replace C0 := Bx.mk (C0.out.keep hb)
  clear hb
  go_wp2_with fail
  refine (E1.out _ _ _ _ _ k2 hcn C2.out C0.out).mono ?_
  rintro e w12 ⟨rfl, hb⟩
  replace S := Bx.mk (S.out.call hb)
  replace C0 := Bx.mk (C0.out.keep hb)
  clear hb
  clear C2
  go_wp2_with fail
  refine (H3.out _ _ _ hcn hcm C0.out S.out.sm).mono ?_
  rintro e w13 (⟨g3, c3, rfl, k3, m3, C3, hb⟩ | ⟨rfl, hb⟩)
  · replace S := Bx.mk (S.out.call hb)
    replace C0 := Bx.mk (C0.out.keep hb)
    clear hb
    go_wp2_with fail
    refine (V1.out _ _ _ k3 C3.out S.out.sm).mono ?_
    rintro e w14 ⟨rfl, hb⟩
    replace S := Bx.mk (S.out.call hb)
    replace C0 := Bx.mk (C0.out.keep hb)
    replace C3 := Bx.mk (C3.out.keep hb)
    clear hb
    go_wp2_with fail
    refine (H4.out _ _ _ k3 m3 C3.out S.out.sm).mono ?_
    rintro e w15 (⟨g4, c4, rfl, k4, m4, C4, hb⟩ | ⟨rfl, hb⟩)
    · replace S := Bx.mk (S.out.call hb)
      replace C0 := Bx.mk (C0.out.keep hb)
      replace C3 := Bx.mk (C3.out.keep hb)
      clear hb
      go_wp2_with fail
      refine (H5.out _ _ _ hcn hcm C0.out S.out.sm).mono ?_
      rintro e w16 (⟨g5, c5, rfl, k5, m5, C5, hb⟩ | ⟨rfl, hb⟩)
      · replace S := Bx.mk (S.out.call hb)
        replace C0 := Bx.mk (C0.out.keep hb)
        replace C3 := Bx.mk (C3.out.keep hb)
        replace C4 := Bx.mk (C4.out.keep hb)
        clear hb
        go_wp2_with fail
        refine (E2.out _ _ _ _ _ k4 k5 C4.out C5.out).mono ?_
        rintro e w17 ⟨rfl, hb⟩
        replace S := Bx.mk (S.out.call hb)
        replace C0 := Bx.mk (C0.out.keep hb)
        replace C3 := Bx.mk (C3.out.keep hb)
        clear hb
        clear C4 C5
        go_wp2_with fail
        refine (H6.out _ _ _ hcn C0.out S.out.sm).mono ?_
        rintro e w18 (⟨g6, c6, rfl, k6, m6, C6, hb⟩ | ⟨rfl, hb⟩)
        · replace S := Bx.mk (S.out.call hb)
          replace C0 := Bx.mk (C0.out.keep hb)
          replace C3 := Bx.mk (C3.out.keep hb)
          clear hb
          go_wp2_with fail
          refine (H7.out _ _ _ k3 C3.out S.out.sm).mono ?_
          rintro e w19 (⟨g7, c7, rfl, k7, m7, C7, hb⟩ | ⟨rfl, hb⟩)
          · replace S := Bx.mk (S.out.call hb)
            replace C0 := Bx.mk (C0.out.keep hb)
            replace C3 := Bx.mk (C3.out.keep hb)
            replace C6 := Bx.mk (C6.out.keep hb)
            clear hb
            obtain ⟨W, hW⟩ : ∃ W, w19 = W := ⟨_, rfl⟩
            obtain ⟨b6, o6, e6, hb6, hc6⟩ := C6.out hn0
            cases e6
            obtain ⟨b7, o7, e7, hb7, hc7⟩ := C7.out hn0
            cases e7
            have D6 := Bx.mk hc6
            have D7 := Bx.mk hc7
            have hBL := Bx.mk S.out.bl
            rw [hW] at D6 D7 hb6 hb7 hBL
            clear hc6 hc7 C6 C7 C0 C3 S
            have nn : ((n : Int) == (n : Int)) = true := by simp
            go_wp2_with fail
            try rw [hW]
            go_loopw [7, 151] (fun up ix wr => ∃ i : Nat, i ≤ n ∧ up = .bool true ∧ ix = .int .i64 i ∧ Bx (Below W.heap.size W wr)) (fun _ ix _ => n - (intOf ix).toNat)
            case atStart => exact ⟨0, by omega, rfl, rfl, ⟨by first | exact Below.refl _ _ | (rw [← hW]; exact Below.refl _ _)⟩⟩
            case round =>
              obtain ⟨i, hi, rfl, rfl, HW⟩ := hrel
              by_cases hin : i < n
              · have hin' : (i : Int) < (n : Int) := by omega
                obtain ⟨q, hq⟩ : ∃ q, (a + i) % n = q := ⟨_, rfl⟩
                have hqn : q < n := by rw [← hq]; exact Nat.mod_lt _ hn0
                have hqn' : (q : Int) < (n : Int) := by omega
                have rq : ((a : Int) + (i : Int)) % (n : Int) = (q : Int) := by rw [← hq, Int.natCast_emod, Int.natCast_add]
                obtain ⟨x0, x1, x2, x3, x4, x5⟩ := row_six D7.out hb7 HW.out hin
                obtain ⟨y0, y1, y2, y3, y4, y5⟩ := row_six D6.out hb6 HW.out hqn
                obtain ⟨x, hx⟩ : ∃ x, stp N n i = x := ⟨_, rfl⟩
                obtain ⟨y, hy⟩ : ∃ y, stp M n q = y := ⟨_, rfl⟩
                rw [hx] at x0 x1 x2 x3 x4 x5
                rw [hy] at y0 y1 y2 y3 y4 y5
                simp only [Nat.zero_add] at x0 x1 x2 x3 x4 x5 y0 y1 y2 y3 y4 y5
                have E := eq6_is 23 und_pitch x y true ⟨(fun _ j hj => by rw [← hx, ← hy]; exact hT.out i q hin hqn hq j hj), fun _ => rfl⟩
                unfold PV at E
                clear hx hy hq
                go_wp2_with fail
                go_quiet (fail)
                go_wp2_with fail
                exact ⟨⟨i + 1, by omega, rfl, by go_num, ⟨below_drewN HW.out _⟩⟩, by simp [intOf]; omega⟩
              · obtain rfl : i = n := by omega
                go_wp2_with fail
                go_ret
                exact ⟨rfl, hBL.out.trans (HW.out.mono hBL.out.size)⟩
          · replace S := Bx.mk (S.out.call hb)
            replace C0 := Bx.mk (C0.out.keep hb)
            replace C3 := Bx.mk (C3.out.keep hb)
            replace C6 := Bx.mk (C6.out.keep hb)
            clear hb
            go_wp2_with fail
            go_ret
            exact ⟨rfl, S.out.bl⟩
        · replace S := Bx.mk (S.out.call hb)
          replace C0 := Bx.mk (C0.out.keep hb)
          replace C3 := Bx.mk (C3.out.keep hb)
          clear hb
          go_wp2_with fail
          refine (H7.out _ _ _ k3 C3.out S.out.sm).mono ?_
          rintro e w20 (⟨g7, c7, rfl, k7, m7, C7, hb⟩ | ⟨rfl, hb⟩)
          · replace S := Bx.mk (S.out.call hb)
            replace C0 := Bx.mk (C0.out.keep hb)
            replace C3 := Bx.mk (C3.out.keep hb)
            clear hb
            go_wp2_with fail
            go_ret
            exact ⟨rfl, S.out.bl⟩
          · replace S := Bx.mk (S.out.call hb)
            replace C0 := Bx.mk (C0.out.keep hb)
            replace C3 := Bx.mk (C3.out.keep hb)
            clear hb
            go_wp2_with fail
            go_ret
            exact ⟨rfl, S.out.bl⟩
      · replace S := Bx.mk (S.out.call hb)
        replace C0 := Bx.mk (C0.out.keep hb)
        replace C3 := Bx.mk (C3.out.keep hb)
        replace C4 := Bx.mk (C4.out.keep hb)
        clear hb
        clear C4
        go_wp2_with fail
        refine (H6.out _ _ _ hcn C0.out S.out.sm).mono ?_
        rintro e w21 (⟨g6, c6, rfl, k6, m6, C6, hb⟩ | ⟨rfl, hb⟩)
        · replace S := Bx.mk (S.out.call hb)
          replace C0 := Bx.mk (C0.out.keep hb)
          replace C3 := Bx.mk (C3.out.keep hb)
          clear hb
          go_wp2_with fail
          refine (H7.out _ _ _ k3 C3.out S.out.sm).mono ?_
          rintro e w22 (⟨g7, c7, rfl, k7, m7, C7, hb⟩ | ⟨rfl, hb⟩)
          · replace S := Bx.mk (S.out.call hb)
            replace C0 := Bx.mk (C0.out.keep hb)
            replace C3 := Bx.mk (C3.out.keep hb)
            replace C6 := Bx.mk (C6.out.keep hb)
            clear hb
            obtain ⟨W, hW⟩ : ∃ W, w22 = W := ⟨_, rfl⟩
            obtain ⟨b6, o6, e6, hb6, hc6⟩ := C6.out hn0
            cases e6
            obtain ⟨b7, o7, e7, hb7, hc7⟩ := C7.out hn0
            cases e7
            have D6 := Bx.mk hc6
            have D7 := Bx.mk hc7
            have hBL := Bx.mk S.out.bl
            rw [hW] at D6 D7 hb6 hb7 hBL
            clear hc6 hc7 C6 C7 C0 C3 S
            have nn : ((n : Int) == (n : Int)) = true := by simp
            go_wp2_with fail
            try rw [hW]
            go_loopw [7, 151] (fun up ix wr => ∃ i : Nat, i ≤ n ∧ up = .bool true ∧ ix = .int .i64 i ∧ Bx (Below W.heap.size W wr)) (fun _ ix _ => n - (intOf ix).toNat)
            case atStart => exact ⟨0, by omega, rfl, rfl, ⟨by first | exact Below.refl _ _ | (rw [← hW]; exact Below.refl _ _)⟩⟩
            case round =>
              obtain ⟨i, hi, rfl, rfl, HW⟩ := hrel
              by_cases hin : i < n
              · have hin' : (i : Int) < (n : Int) := by omega
                obtain ⟨q, hq⟩ : ∃ q, (a + i) % n = q := ⟨_, rfl⟩
                have hqn : q < n := by rw [← hq]; exact Nat.mod_lt _ hn0
                have hqn' : (q : Int) < (n : Int) := by omega
                have rq : ((a : Int) + (i : Int)) % (n : Int) = (q : Int) := by rw [← hq, Int.natCast_emod, Int.natCast_add]
                obtain ⟨x0, x1, x2, x3, x4, x5⟩ := row_six D7.out hb7 HW.out hin
                obtain ⟨y0, y1, y2, y3, y4, y5⟩ := row_six D6.out hb6 HW.out hqn
                obtain ⟨x, hx⟩ : ∃ x, stp N n i = x := ⟨_, rfl⟩
                obtain ⟨y, hy⟩ : ∃ y, stp M n q = y := ⟨_, rfl⟩
                rw [hx] at x0 x1 x2 x3 x4 x5
                rw [hy] at y0 y1 y2 y3 y4 y5
                simp only [Nat.zero_add] at x0 x1 x2 x3 x4 x5 y0 y1 y2 y3 y4 y5
                have E := eq6_is 23 und_pitch x y true ⟨(fun _ j hj => by rw [← hx, ← hy]; exact hT.out i q hin hqn hq j hj), fun _ => rfl⟩
                unfold PV at E
                clear hx hy hq
                go_wp2_with fail
                go_quiet (fail)
                go_wp2_with fail
                exact ⟨⟨i + 1, by omega, rfl, by go_num, ⟨below_drewN HW.out _⟩⟩, by simp [intOf]; omega⟩
              · obtain rfl : i = n := by omega
                go_wp2_with fail
                go_ret
                exact ⟨rfl, hBL.out.trans (HW.out.mono hBL.out.size)⟩
          · replace S := Bx.mk (S.out.call hb)
            replace C0 := Bx.mk (C0.out.keep hb)
            replace C3 := Bx.mk (C3.out.keep hb)
            replace C6 := Bx.mk (C6.out.keep hb)
            clear hb
            go_wp2_with fail
            go_ret
            exact ⟨rfl, S.out.bl⟩
        · replace S := Bx.mk (S.out.call hb)
          replace C0 := Bx.mk (C0.out.keep hb)
          replace C3 := Bx.mk (C3.out.keep hb)
          clear hb
          go_wp2_with fail
          refine (H7.out _ _ _ k3 C3.out S.out.sm).mono ?_
          rintro e w23 (⟨g7, c7, rfl, k7, m7, C7, hb⟩ | ⟨rfl, hb⟩)
          · replace S := Bx.mk (S.out.call hb)
            replace C0 := Bx.mk (C0.out.keep hb)
            replace C3 := Bx.mk (C3.out.keep hb)
            clear hb
            go_wp2_with fail
            go_ret
            exact ⟨rfl, S.out.bl⟩
          · replace S := Bx.mk (S.out.call hb)
            replace C0 := Bx.mk (C0.out.keep hb)
            replace C3 := Bx.mk (C3.out.keep hb)
            clear hb
            go_wp2_with fail
            go_ret
            exact ⟨rfl, S.out.bl⟩
    · replace S := Bx.mk (S.out.call hb)
      replace C0 := Bx.mk (C0.out.keep hb)
      replace C3 := Bx.mk (C3.out.keep hb)
      clear hb
      go_wp2_with fail
      refine (H5.out _ _ _ hcn hcm C0.out S.out.sm).mono ?_
      rintro e w24 (⟨g5, c5, rfl, k5, m5, C5, hb⟩ | ⟨rfl, hb⟩)
      · replace S := Bx.mk (S.out.call hb)
        replace C0 := Bx.mk (C0.out.keep hb)
        replace C3 := Bx.mk (C3.out.keep hb)
        clear hb
        clear C5
        go_wp2_with fail
        refine (H6.out _ _ _ hcn C0.out S.out.sm).mono ?_
        rintro e w25 (⟨g6, c6, rfl, k6, m6, C6, hb⟩ | ⟨rfl, hb⟩)
        · replace S := Bx.mk (S.out.call hb)
          replace C0 := Bx.mk (C0.out.keep hb)
          replace C3 := Bx.mk (C3.out.keep hb)
          clear hb
          go_wp2_with fail
          refine (H7.out _ _ _ k3 C3.out S.out.sm).mono ?_
          rintro e w26 (⟨g7, c7, rfl, k7, m7, C7, hb⟩ | ⟨rfl, hb⟩)
          · replace S := Bx.mk (S.out.call hb)
            replace C0 := Bx.mk (C0.out.keep hb)
            replace C3 := Bx.mk (C3.out.keep hb)
            replace C6 := Bx.mk (C6.out.keep hb)
            clear hb
            obtain ⟨W, hW⟩ : ∃ W, w26 = W := ⟨_, rfl⟩
            obtain ⟨b6, o6, e6, hb6, hc6⟩ := C6.out hn0
            cases e6
            obtain ⟨b7, o7, e7, hb7, hc7⟩ := C7.out hn0
            cases e7
            have D6 := Bx.mk hc6
            have D7 := Bx.mk hc7
            have hBL := Bx.mk S.out.bl
            rw [hW] at D6 D7 hb6 hb7 hBL
            clear hc6 hc7 C6 C7 C0 C3 S
            have nn : ((n : Int) == (n : Int)) = true := by simp
            go_wp2_with fail
            try rw [hW]
            go_loopw [7, 151] (fun up ix wr => ∃ i : Nat, i ≤ n ∧ up = .bool true ∧ ix = .int .i64 i ∧ Bx (Below W.heap.size W wr)) (fun _ ix _ => n - (intOf ix).toNat)
            case atStart => exact ⟨0, by omega, rfl, rfl, ⟨by first | exact Below.refl _ _ | (rw [← hW]; exact Below.refl _ _)⟩⟩
            case round =>
              obtain ⟨i, hi, rfl, rfl, HW⟩ := hrel
              by_cases hin : i < n
              · have hin' : (i : Int) < (n : Int) := by omega
                obtain ⟨q, hq⟩ : ∃ q, (a + i) % n = q := ⟨_, rfl⟩
                have hqn : q < n := by rw [← hq]; exact Nat.mod_lt _ hn0
                have hqn' : (q : Int) < (n : Int) := by omega
                have rq : ((a : Int) + (i : Int)) % (n : Int) = (q : Int) := by rw [← hq, Int.natCast_emod, Int.natCast_add]
                obtain ⟨x0, x1, x2, x3, x4, x5⟩ := row_six D7.out hb7 HW.out hin
                obtain ⟨y0, y1, y2, y3, y4, y5⟩ := row_six D6.out hb6 HW.out hqn
                obtain ⟨x, hx⟩ : ∃ x, stp N n i = x := ⟨_, rfl⟩
                obtain ⟨y, hy⟩ : ∃ y, stp M n q = y := ⟨_, rfl⟩
                rw [hx] at x0 x1 x2 x3 x4 x5
                rw [hy] at y0 y1 y2 y3 y4 y5
                simp only [Nat.zero_add] at x0 x1 x2 x3 x4 x5 y0 y1 y2 y3 y4 y5
                have E := eq6_is 23 und_pitch x y true ⟨(fun _ j hj => by rw [← hx, ← hy]; exact hT.out i q hin hqn hq j hj), fun _ => rfl⟩
                unfold PV at E
                clear hx hy hq
                go_wp2_with fail
                go_quiet (fail)
                go_wp2_with fail
                exact ⟨⟨i + 1, by omega, rfl, by go_num, ⟨below_drewN HW.out _⟩⟩, by simp [intOf]; omega⟩
              · obtain rfl : i = n := by omega
                go_wp2_with fail
                go_ret
                exact ⟨rfl, hBL.out.trans (HW.out.mono hBL.out.size)⟩
          · replace S := Bx.mk (S.out.call hb)
            replace C0 := Bx.mk (C0.out.keep hb)
            replace C3 := Bx.mk (C3.out.keep hb)
            replace C6 := Bx.mk (C6.out.keep hb)
            clear hb
            go_wp2_with fail
            go_ret
            exact ⟨rfl, S.out.bl⟩
        · replace S := Bx.mk (S.out.call hb)
          replace C0 := Bx.mk (C0.out.keep hb)
          replace C3 := Bx.mk (C3.out.keep hb)
          clear hb
          go_wp2_with fail
          refine (H7.out _ _ _ k3 C3.out S.out.sm).mono ?_
          rintro e w27 (⟨g7, c7, rfl, k7, m7, C7, hb⟩ | ⟨rfl, hb⟩)
          · replace S := Bx.mk (S.out.call hb)
            replace C0 := Bx.mk (C0.out.keep hb)
            replace C3 := Bx.mk (C3.out.keep hb)
            clear hb
            go_wp2_with fail
            go_ret
            exact ⟨rfl, S.out.bl⟩
          · replace S := Bx.mk (S.out.call hb)
            replace C0 := Bx.mk (C0.out.keep hb)
            replace C3 := Bx.mk (C3.out.keep hb)
            clear hb
            go_wp2_with fail
            go_ret
            exact ⟨rfl, S.out.bl⟩
      · replace S := Bx.mk (S.out.call hb)
        replace C0 := Bx.mk (C0.out.keep hb)
        replace C3 := Bx.mk (C3.out.keep hb)
        clear hb
        go_wp2_with fail
        refine (H6.out _ _ _ hcn C0.out S.out.sm).mono ?_
        rintro e w28 (⟨g6, c6, rfl, k6, m6, C6, hb⟩ | ⟨rfl, hb⟩)
        · replace S := Bx.mk (S.out.call hb)
          replace C0 := Bx.mk (C0.out.keep hb)
          replace C3 := Bx.mk (C3.out.keep hb)
          clear hb
          go_wp2_with fail
          refine (H7.out _ _ _ k3 C3.out S.out.sm).mono ?_
          rintro e w29 (⟨g7, c7, rfl, k7, m7, C7, hb⟩ | ⟨rfl, hb⟩)
          · replace S := Bx.mk (S.out.call hb)
            replace C0 := Bx.mk (C0.out.keep hb)
            replace C3 := Bx.mk (C3.out.keep hb)
            replace C6 := Bx.mk (C6.out.keep hb)
            clear hb
            obtain ⟨W, hW⟩ : ∃ W, w29 = W := ⟨_, rfl⟩
            obtain ⟨b6, o6, e6, hb6, hc6⟩ := C6.out hn0
            cases e6
            obtain ⟨b7, o7, e7, hb7, hc7⟩ := C7.out hn0
            cases e7
            have D6 := Bx.mk hc6
            have D7 := Bx.mk hc7
            have hBL := Bx.mk S.out.bl
            rw [hW] at D6 D7 hb6 hb7 hBL
            clear hc6 hc7 C6 C7 C0 C3 S
            have nn : ((n : Int) == (n : Int)) = true := by simp
            go_wp2_with fail
            try rw [hW]
            go_loopw [7, 151] (fun up ix wr => ∃ i : Nat, i ≤ n ∧ up = .bool true ∧ ix = .int .i64 i ∧ Bx (Below W.heap.size W wr)) (fun _ ix _ => n - (intOf ix).toNat)
            case atStart => exact ⟨0, by omega, rfl, rfl, ⟨by first | exact Below.refl _ _ | (rw [← hW]; exact Below.refl _ _)⟩⟩
            case round =>
              obtain ⟨i, hi, rfl, rfl, HW⟩ := hrel
              by_cases hin : i < n
              · have hin' : (i : Int) < (n : Int) := by omega
                obtain ⟨q, hq⟩ : ∃ q, (a + i) % n = q := ⟨_, rfl⟩
                have hqn : q < n := by rw [← hq]; exact Nat.mod_lt _ hn0
                have hqn' : (q : Int) < (n : Int) := by omega
                have rq : ((a : Int) + (i : Int)) % (n : Int) = (q : Int) := by rw [← hq, Int.natCast_emod, Int.natCast_add]
                obtain ⟨x0, x1, x2, x3, x4, x5⟩ := row_six D7.out hb7 HW.out hin
                obtain ⟨y0, y1, y2, y3, y4, y5⟩ := row_six D6.out hb6 HW.out hqn
                obtain ⟨x, hx⟩ : ∃ x, stp N n i = x := ⟨_, rfl⟩
                obtain ⟨y, hy⟩ : ∃ y, stp M n q = y := ⟨_, rfl⟩
                rw [hx] at x0 x1 x2 x3 x4 x5
                rw [hy] at y0 y1 y2 y3 y4 y5
                simp only [Nat.zero_add] at x0 x1 x2 x3 x4 x5 y0 y1 y2 y3 y4 y5
                have E := eq6_is 23 und_pitch x y true ⟨(fun _ j hj => by rw [← hx, ← hy]; exact hT.out i q hin hqn hq j hj), fun _ => rfl⟩
                unfold PV at E
                clear hx hy hq
                go_wp2_with fail
                go_quiet (fail)
                go_wp2_with fail
                exact ⟨⟨i + 1, by omega, rfl, by go_num, ⟨below_drewN HW.out _⟩⟩, by simp [intOf]; omega⟩
              · obtain rfl : i = n := by omega
                go_wp2_with fail
                go_ret
                exact ⟨rfl, hBL.out.trans (HW.out.mono hBL.out.size)⟩
          · replace S := Bx.mk (S.out.call hb)
            replace C0 := Bx.mk (C0.out.keep hb)
            replace C3 := Bx.mk (C3.out.keep hb)
            replace C6 := Bx.mk (C6.out.keep hb)
            clear hb
            go_wp2_with fail
            go_ret
            exact ⟨rfl, S.out.bl⟩
        · replace S := Bx.mk (S.out.call hb)
          replace C0 := Bx.mk (C0.out.keep hb)
          replace C3 := Bx.mk (C3.out.keep hb)
          clear hb
          go_wp2_with fail
          refine (H7.out _ _ _ k3 C3.out S.out.sm).mono ?_
          rintro e w30 (⟨g7, c7, rfl, k7, m7, C7, hb⟩ | ⟨rfl, hb⟩)
          · replace S := Bx.mk (S.out.call hb)
            replace C0 := Bx.mk (C0.out.keep hb)
            replace C3 := Bx.mk (C3.out.keep hb)
            clear hb
            go_wp2_with fail
            go_ret
            exact ⟨rfl, S.out.bl⟩
          · replace S := Bx.mk (S.out.call hb)
            replace C0 := Bx.mk (C0.out.keep hb)
            replace C3 := Bx.mk (C3.out.keep hb)
            clear hb
            go_wp2_with fail
            go_ret
            exact ⟨rfl, S.out.bl⟩
  · replace S := Bx.mk (S.out.call hb)
    replace C0 := Bx.mk (C0.out.keep hb)
    clear hb
    go_wp2_with fail
    go_ret
    exact ⟨rfl, S.out.bl⟩
set_option maxRecDepth 100000 in
set_option maxHeartbeats 40000000 in
theorem smd_err (ao : Option Addr) (n c di dk : Nat) (M : Nat → Nat → Int) (w : World) (hs : Sm w) (hS : CV w ao n M) (h : ¬ 16 < n) (hn0 : 0 < n) (hcn : n ≤ c) (hcm : c ≤ maxLen) (a b : Nat) (ha : a < n) (hb : b < n) (hi : di ≤ 255) (hk : dk ≤ 255) (ra : (di : Int) % (n : Int) = (a : Int)) (rb : (dk : Int) % (n : Int) = (b : Int)) (H1 : Hx (∀ w, CV w ao n M → Calls Tryd.prog 16 #[.slice ao n c] w fun e w' => e = .returned (.bool true) ∧ Below w.heap.size w w')) (H2 : Hx (∀ ao c w, n ≤ c → c ≤ maxLen → CV w ao n (M) → Sm w → Calls Tryd.prog 17 #[.slice ao n c, .int .i64 0] w (fun e w' => ∃ g cap, e = .returned (.tuple #[.slice (some ⟨g, 0, none⟩) n cap, .int .i64 0]) ∧ n ≤ cap ∧ cap ≤ maxLen ∧ Bx (CV w' (some ⟨g, 0, none⟩) n (md M 0 n)) ∧ Below w.heap.size w w'))) (E1 : Hx (∀ ao bo ca cb w, n ≤ ca → n ≤ cb → CV w ao n (md M 0 n) → CV w bo n (M) → Calls Tryd.prog 18 #[.slice ao n ca, .slice bo n cb] w fun e w' => e = .returned (.bool true) ∧ Below w.heap.size w w')) (H3 : Hx (∀ ao c w, n ≤ c → c ≤ maxLen → CV w ao n (M) → Sm w → Calls Tryd.prog 17 #[.slice ao n c, .int .i64 a] w (NilR w 3))) :
    Calls Tryd.prog 6 #[.slice ao n c, .int .u8 (di : Nat), .int .u8 (dk : Nat)] w fun e w' => e = .returned (.bool true) ∧ Below w.heap.size w w' := by
  have d0 : decide ((16 : Int) < (n : Int)) = false := by simp; omega
  have HS := Bx.mk hS
  have S : Bx (SS w w []) := ⟨SS.start w hs⟩
  go_enter Tryd.func6, Tryd.ntmps6
  go_wp2_with fail
  refine (shead_any _ S.out.sm).mono ?_
  rintro e w1 ⟨rfl, hb⟩
  replace S := Bx.mk (S.out.call hb)
  clear hb
  go_wp2_with fail
  refine (H1.out _ (HS.out.keep S.out.bl)).mono ?_
  rintro e w2 ⟨rfl, hb⟩
  replace S := Bx.mk (S.out.call hb)
  clear hb
  have C0 := Bx.mk (HS.out.keep S.out.bl)
  clear HS
  have hn1 : ((n : Int) == 0) = false := by simp; omega
  go_wp2_with fail
  go_quiet (fail)
  replace S := Bx.mk (S.out.drewN nq)
  replace C0 : Bx (CV (w2.drewN nq) ao n M) := Bx.mk (C0.out.keep (below_drewN (Below.refl _ _) nq))
  go_wp2_with fail
  refine (H2.out _ _ _ hcn hcm C0.out S.out.sm).mono ?_
  rintro e w31 ⟨g2, c2, rfl, k2, m2, C2, hb⟩
  replace S := Bx.mk (S.out.call hb)
  replace C0 := Bx.mk (C0.out.keep hb)
  clear hb
  go_wp2_with fail
  refine (E1.out _ _ _ _ _ k2 hcn C2.out C0.out).mono ?_
  rintro e w32 ⟨rfl, hb⟩
  replace S := Bx.mk (S.out.call hb)
  replace C0 := Bx.mk (C0.out.keep hb)
  clear hb
  go_wp2_with fail
  refine (H3.out _ _ _ hcn hcm C0.out S.out.sm).mono ?_
  rintro e w33 ⟨rfl, hb⟩
  replace S := Bx.mk (S.out.call hb)
  replace C0 := Bx.mk (C0.out.keep hb)
  clear hb
  go_wp2_with fail
  go_ret
  exact ⟨rfl, S.out.bl⟩
theorem bd_congr {u v : Nat → Int} (h : ∀ j, j < 6 → u j = v j) (k : bdB v 576 = true) : bdB u 576 = true := bdB_yes.2 fun i hi => by rw [h i hi]; exact bdB_yes.1 k i hi
/-- Mode returns the mode or an error. -/
theorem mode_cases (n d k : Nat) (M : Nat → Nat → Int) (hdk : d + k = n) (hk : 0 < k) (hv : SV M n) : (∀ ao c w, n ≤ c → c ≤ maxLen → CV w ao n M → Sm w → Calls Tryd.prog 17 #[.slice ao n c, .int .i64 d] w (fun e w' => ∃ g cap, e = .returned (.tuple #[.slice (some ⟨g, 0, none⟩) n cap, .int .i64 0]) ∧ n ≤ cap ∧ cap ≤ maxLen ∧ Bx (CV w' (some ⟨g, 0, none⟩) n (md M d k)) ∧ Below w.heap.size w w')) ∧ (∀ i, i < n → bdB (md M d k i) 576 = true) ∨ ∀ ao c w, n ≤ c → c ≤ maxLen → CV w ao n M → Sm w → Calls Tryd.prog 17 #[.slice ao n c, .int .i64 d] w (NilR w 3) := by
  by_cases h : ∀ i, i < n → bdB (md M d k i) 576 = true
  · exact .inl ⟨fun ao c w hcn hcm hS hs => (mode_ok ao n d k c M w hdk hk hcn hcm hS hs hv h).mono fun e w' ⟨g, cap, h1, h2, h3, h4⟩ => ⟨g, cap, h1, h2.1, h2.2, ⟨h3⟩, h4⟩, h⟩
  · exact .inr fun ao c w hcn hcm hS hs => mode_no ao n d k c M w hdk hk hcn hcm hS hs hv h
theorem steps_cases (n : Nat) (M : Nat → Nat → Int) (hv : SV M n) (ao : Option Addr) (c : Nat) (w : World) (hcn : n ≤ c) (hS : CV w ao n M) (hs : Sm w) : Calls Tryd.prog 14 #[.slice ao n c] w (fun e w' => (∃ g cap, e = .returned (.tuple #[.slice (some ⟨g, 0, none⟩) n cap, .int .i64 0]) ∧ n ≤ cap ∧ cap ≤ maxLen ∧ Bx (CV w' (some ⟨g, 0, none⟩) n (stp M n)) ∧ Below w.heap.size w w') ∨ (e = .returned (.tuple #[.slice none 0 0, .int .i64 3]) ∧ Below w.heap.size w w')) := by
  by_cases h : ∀ i, i < n → bdB (stp M n i) 576 = true
  · exact (steps_ok ao n c M w hcn hS hs hv h).mono fun e w' ⟨g, cap, h1, h2, h3, h4⟩ => .inl ⟨g, cap, h1, h2.1, h2.2, ⟨h3⟩, h4⟩
  · exact (steps_no ao n c M w hcn hS hs hv h).mono fun e w' h => .inr h
theorem smodes_all (ao : Option Addr) (n c di dk : Nat) (M : Nat → Nat → Int) (w : World) (hs : Sm w) (hn : n ≤ 9223372036854775807) (hcn : n ≤ c) (hcm : c ≤ maxLen) (hi : di ≤ 255) (hk : dk ≤ 255) (hS : CV w ao n M) :
    Calls Tryd.prog 6 #[.slice ao n c, .int .u8 (di : Nat), .int .u8 (dk : Nat)] w fun e w' => e = .returned (.bool true) ∧ Below w.heap.size w w' := by
  by_cases h : 16 < n
  · exact smd_n ao n c di dk M w hs hS hn h
  obtain ⟨r, hr⟩ := bool_of (SV M n)
  cases r with
  | false => exact smd_nv ao n c di dk M w hs hS h ⟨fun w hS => rvalid_any ao n c M (by omega) hcn false hr w hS⟩
  | true =>
    have hv := hr.1 rfl
    have hn0 := hv.pos
    have V := fun w hS => rvalid_any ao n c M (by omega) hcn true hr w hS
    obtain ⟨a, ea⟩ : ∃ a, di % n = a := ⟨_, rfl⟩
    obtain ⟨b, eb⟩ : ∃ b, dk % n = b := ⟨_, rfl⟩
    obtain ⟨d, ed⟩ : ∃ d, (a + b) % n = d := ⟨_, rfl⟩
    have ha : a < n := by rw [← ea]; exact Nat.mod_lt _ hn0
    have hb : b < n := by rw [← eb]; exact Nat.mod_lt _ hn0
    have hd : d < n := by rw [← ed]; exact Nat.mod_lt _ hn0
    have ra : (di : Int) % (n : Int) = (a : Int) := by rw [← ea]; omega
    have rb : (dk : Int) % (n : Int) = (b : Int) := by rw [← eb]; omega
    have rd : ((a : Int) + (b : Int)) % (n : Int) = (d : Int) := by rw [← ed, Int.natCast_emod, Int.natCast_add]
    have H2 : ∀ ao c w, n ≤ c → c ≤ maxLen → CV w ao n M → Sm w → Calls Tryd.prog 17 #[.slice ao n c, .int .i64 0] w (fun e w' => ∃ g cap, e = .returned (.tuple #[.slice (some ⟨g, 0, none⟩) n cap, .int .i64 0]) ∧ n ≤ cap ∧ cap ≤ maxLen ∧ Bx (CV w' (some ⟨g, 0, none⟩) n (md M 0 n)) ∧ Below w.heap.size w w') := fun ao c w hcn hcm hS hs =>
      (mode_ok ao n 0 n c M w (by omega) hn0 hcn hcm hS hs hv (fun i hi => bd_congr (md_zero M hv.zero hi) (sv_val hv hi))).mono fun e w' ⟨g, cap, h1, h2, h3, h4⟩ => ⟨g, cap, h1, h2.1, h2.2, ⟨h3⟩, h4⟩
    have same : ∀ A B : Nat → Nat → Int, (∀ i, i < n → ∀ j, j < 6 → A i j = B i j) → ∀ ao bo ca cb w, n ≤ ca → n ≤ cb → CV w ao n A → CV w bo n B → Calls Tryd.prog 18 #[.slice ao n ca, .slice bo n cb] w fun e w' => e = .returned (.bool true) ∧ Below w.heap.size w w' := fun A B e ao bo ca cb w h1 h2 hA hB => rsame_any ao bo n n ca cb A B (by omega) h1 h2 true ⟨fun _ => ⟨rfl, e⟩, fun _ => rfl⟩ w hA hB
    have E1 := same (md M 0 n) M fun i hi j hj => md_zero M hv.zero hi j hj
    obtain ⟨k, hak⟩ : ∃ k, a + k = n := ⟨n - a, by omega⟩
    obtain ⟨l, hbl⟩ : ∃ l, b + l = n := ⟨n - b, by omega⟩
    obtain ⟨m, hdm⟩ : ∃ m, d + m = n := ⟨n - d, by omega⟩
    have H6 := steps_cases n M hv
    rcases mode_cases n a k M hak (by omega) hv with ⟨H3, hok⟩ | H3
    · have hN := md_sv hv ha hak hok
      have V1 : ∀ ao c w, n ≤ c → CV w ao n (md M a k) → Sm w → Calls Tryd.prog 19 #[.slice ao n c] w fun e w' => e = .returned (.bool true) ∧ Below w.heap.size w w' := fun ao c w h1 hS hs => svalid_any ao n c (md M a k) (by omega) h1 true ⟨fun _ => hN, fun _ => rfl⟩ w hS hs
      have H4 : ∀ ao c w, n ≤ c → c ≤ maxLen → CV w ao n (md M a k) → Sm w → Calls Tryd.prog 17 #[.slice ao n c, .int .i64 b] w (fun e w' => (∃ g cap, e = .returned (.tuple #[.slice (some ⟨g, 0, none⟩) n cap, .int .i64 0]) ∧ n ≤ cap ∧ cap ≤ maxLen ∧ Bx (CV w' (some ⟨g, 0, none⟩) n (md (md M a k) b l)) ∧ Below w.heap.size w w') ∨ (e = .returned (.tuple #[.slice none 0 0, .int .i64 3]) ∧ Below w.heap.size w w')) := by
        rcases mode_cases n b l (md M a k) hbl (by omega) hN with ⟨H, _⟩ | H
        · exact fun ao c w h1 h2 h3 h4 => (H ao c w h1 h2 h3 h4).mono fun e w' h => .inl h
        · exact fun ao c w h1 h2 h3 h4 => (H ao c w h1 h2 h3 h4).mono fun e w' h => .inr h
      have H5 : ∀ ao c w, n ≤ c → c ≤ maxLen → CV w ao n M → Sm w → Calls Tryd.prog 17 #[.slice ao n c, .int .i64 d] w (fun e w' => (∃ g cap, e = .returned (.tuple #[.slice (some ⟨g, 0, none⟩) n cap, .int .i64 0]) ∧ n ≤ cap ∧ cap ≤ maxLen ∧ Bx (CV w' (some ⟨g, 0, none⟩) n (md M d m)) ∧ Below w.heap.size w w') ∨ (e = .returned (.tuple #[.slice none 0 0, .int .i64 3]) ∧ Below w.heap.size w w')) := by
        rcases mode_cases n d m M hdm (by omega) hv with ⟨H, _⟩ | H
        · exact fun ao c w h1 h2 h3 h4 => (H ao c w h1 h2 h3 h4).mono fun e w' h => .inl h
        · exact fun ao c w h1 h2 h3 h4 => (H ao c w h1 h2 h3 h4).mono fun e w' h => .inr h
      exact smd_ok ao n c di dk M w hs hS h hn0 hcn hcm a b d ha hb hd hi hk ra rb rd _ _ _ ⟨V⟩ ⟨H2⟩ ⟨E1⟩ ⟨fun ao c w h1 h2 h3 h4 => (H3 ao c w h1 h2 h3 h4).mono fun e w' h => .inl h⟩ ⟨V1⟩ ⟨H4⟩ ⟨H5⟩ ⟨same _ _ fun i hi j _ => md_md ha hak hb hbl hd hdm ed hi j⟩ ⟨H6⟩ ⟨steps_cases n _ hN⟩ ⟨fun i q hi hq e j hj => stp_md hv.zero ha hak hi hq e j hj⟩
    · exact smd_err ao n c di dk M w hs hS h hn0 hcn hcm a b ha hb hi hk ra rb ⟨V⟩ ⟨H2⟩ ⟨E1⟩ ⟨H3⟩
end Go.Proofs.YtomgihlkbmaleaaDoor

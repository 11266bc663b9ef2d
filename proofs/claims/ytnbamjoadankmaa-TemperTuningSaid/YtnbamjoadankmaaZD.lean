/- TemperLinear: the law's walk. -/
import Derived.Test.YtnbamjoadankmaaZC
namespace Go.Proofs.Ytnbamjoadankmaa
open Go.RowKit D
/-- A list of integers in memory. -/
structure Li (w : World) (b o n : Nat) (f : Nat → Int) : Prop where
  lt : b < w.heap.size
  cell : ∀ j, j < n → w.cell? ⟨b, o + j, none⟩ = some (.int .i64 (f j))
theorem Li.keep {w w' : World} {b o n : Nat} {f : Nat → Int} (h : Li w b o n f) (hb : Below w.heap.size w w') : Li w' b o n f :=
  ⟨Nat.lt_of_lt_of_le h.lt hb.size, fun j hj => (hb.cell (p := ⟨b, o + j, none⟩) h.lt).trans (h.cell j hj)⟩
/-- Image of valid arguments. -/
theorem img_ok (a : Option Addr) (n c : Nat) (M : Nat → Nat → Int) (v : Nat → Int) (w : World) (hc1 : n ≤ c) (hc2 : c ≤ maxLen) (hR : CV w a n M) (ht : Tm M n) (hv : Iv v) : Calls Try.prog 49 #[.agg #[.slice a n c], PV v] w fun e w' => ∃ bb o cc, e = .returned (.tuple #[.slice (some ⟨bb, o, none⟩) n cc, .int .i64 0]) ∧ n ≤ cc ∧ Bx (Li w' bb o n (img M v)) ∧ Bx (Below w.heap.size w w') :=
  (Image_any a n c M v w hc1 hc2 hR).mono fun e w' ⟨h, hb⟩ => by
    rcases h with ⟨_, _, ao, cc, he, h1, _, h3⟩ | ⟨h, _⟩
    · obtain ⟨bb, o, rfl, h4, h5⟩ := ci_cells h3.out ht.some
      exact ⟨bb, o, cc, he, h1, ⟨h4, h5⟩, hb⟩
    · exact absurd ⟨ht, hv⟩ h
set_option maxRecDepth 100000 in
set_option maxHeartbeats 32000000 in
theorem tlinear_law (a : Option Addr) (n c : Nat) (M : Nat → Nat → Int) (v u : Nat → Int) (w : World) (hc1 : n ≤ c) (hc2 : c ≤ maxLen) (hR : CV w a n M) :
    Calls Try.prog 12 #[.agg #[.slice a n c], PV v, PV u] w fun e w' => e = .returned (.bool true) ∧ Below w.heap.size w w' := by
  have M1 : Bx True := ⟨trivial⟩
  have M2 : Bx True := ⟨trivial⟩
  have M3 : Bx True := ⟨trivial⟩
  have M4 : Bx True := ⟨trivial⟩
  have M5 : Bx True := ⟨trivial⟩
  have M6 : Bx True := ⟨trivial⟩
  have M7 : Bx True := ⟨trivial⟩
  have M8 : Bx True := ⟨trivial⟩
  have M9 : Bx True := ⟨trivial⟩
  have M10 : Bx True := ⟨trivial⟩
  obtain ⟨W, hW⟩ : ∃ W, ((w.alloc (.cells #[.slice a n c] 57)).alloc (.cells #[.int .i64 (v 0), .int .i64 (v 1), .int .i64 (v 2), .int .i64 (v 3), .int .i64 (v 4), .int .i64 (v 5)] 36)).alloc (.cells #[.int .i64 (u 0), .int .i64 (u 1), .int .i64 (u 2), .int .i64 (u 3), .int .i64 (u 4), .int .i64 (u 5)] 36) = W := ⟨_, rfl⟩
  have L0 := Bx.mk (Lw.start w a none n 0 c M (fun _ _ => 0) v u hR (fun h => absurd h (Nat.lt_irrefl _)) W hW)
  obtain ⟨b, hb1⟩ := bool_of (Tm M n)
  obtain ⟨bv, hbv⟩ := bool_of (Iv v)
  obtain ⟨bu, hbu⟩ := bool_of (Iv u)
  have HT := Bx.mk hb1
  have HV := Bx.mk hbv
  have HU := Bx.mk hbu
  have H1 := Bx.mk (fun W (L : Lw w a none n 0 c M (fun _ _ => 0) v u W) => tvalid_any a n c M W hc1 hc2 L.R b hb1)
  have H2 := Bx.mk (fun W => interval_any v W bv hbv)
  have H3 := Bx.mk (fun W => interval_any u W bu hbu)
  have HIm := Bx.mk (fun x W (L : Lw w a none n 0 c M (fun _ _ => 0) v u W) => img_ok a n c M x W hc1 hc2 L.R)
  obtain ⟨y, hy⟩ : ∃ y : Nat → Int, (fun j => -(v j)) = y := ⟨_, rfl⟩
  obtain ⟨s, hs⟩ : ∃ s : Nat → Int, (fun j => v j + u j) = s := ⟨_, rfl⟩
  have HY := Bx.mk (show Iv v → Iv y ∧ ∀ i, img M y i = -(img M v i) from fun h => by rw [← hy]; exact ⟨h.neg, fun i => img_neg M v i⟩)
  have HSs := Bx.mk (show ∀ i, img M s i = img M v i + img M u i from fun i => by rw [← hs]; exact img_add M v u i)
  have HIn := Bx.mk (fun W (hv : Iv v) => tinverse_any v W (fun j hj => by have := hv j hj; omega))
  have HPl := Bx.mk (fun W (hv : Iv v) (hu : Iv u) => tplus_any v u W (fun j hj => by have := hv j hj; omega) (fun j hj => by have := hu j hj; omega))
  obtain ⟨bs, hbs⟩ := bool_of (Iv s)
  have HI := Bx.mk hbs
  have HIv := Bx.mk (fun W => interval_any s W bs hbs)
  simp only [hy, hs] at HIn HPl
  unfold PV at H2 H3 HIm HIn HPl HIv ⊢
  have im := L0.out.m.cell
  have iv0 := L0.out.v.c0
  have iv1 := L0.out.v.c1
  have iv2 := L0.out.v.c2
  have iv3 := L0.out.v.c3
  have iv4 := L0.out.v.c4
  have iv5 := L0.out.v.c5
  have iu0 := L0.out.u.c0
  have iu1 := L0.out.u.c1
  have iu2 := L0.out.u.c2
  have iu3 := L0.out.u.c3
  have iu4 := L0.out.u.c4
  have iu5 := L0.out.u.c5
  clear hR hy hs hbs hb1 hbv hbu
  go_enter Try.func12, Try.ntmps12
  go_wp2_with (first
    | (clear M1; go_at_call 46; refine (thead_any _).mono ?_; clear im iv0 iv1 iv2 iv3 iv4 iv5 iu0 iu1 iu2 iu3 iu4 iu5 hW; rintro e w1 ⟨rfl, k1⟩
       have L1 := Bx.mk (L0.out.keep k1)
       have im := L1.out.m.cell
       have iv0 := L1.out.v.c0
       have iv1 := L1.out.v.c1
       have iv2 := L1.out.v.c2
       have iv3 := L1.out.v.c3
       have iv4 := L1.out.v.c4
       have iv5 := L1.out.v.c5
       have iu0 := L1.out.u.c0
       have iu1 := L1.out.u.c1
       have iu2 := L1.out.u.c2
       have iu3 := L1.out.u.c3
       have iu4 := L1.out.u.c4
       have iu5 := L1.out.u.c5
       clear k1)
    | (clear M2; go_at_call 47; refine (H1.out w1 L1.out).mono ?_; clear im iv0 iv1 iv2 iv3 iv4 iv5 iu0 iu1 iu2 iu3 iu4 iu5; rintro e w2 ⟨rfl, k2⟩
       have L2 := Bx.mk (L1.out.keep k2)
       have im := L2.out.m.cell
       have iv0 := L2.out.v.c0
       have iv1 := L2.out.v.c1
       have iv2 := L2.out.v.c2
       have iv3 := L2.out.v.c3
       have iv4 := L2.out.v.c4
       have iv5 := L2.out.v.c5
       have iu0 := L2.out.u.c0
       have iu1 := L2.out.u.c1
       have iu2 := L2.out.u.c2
       have iu3 := L2.out.u.c3
       have iu4 := L2.out.u.c4
       have iu5 := L2.out.u.c5
       clear k2
       cases b)
    | (clear M3; go_at_call 63; refine (H2.out w2).mono ?_; clear im iv0 iv1 iv2 iv3 iv4 iv5 iu0 iu1 iu2 iu3 iu4 iu5; rintro e w3 ⟨rfl, k3⟩
       have L3 := Bx.mk (L2.out.keep k3)
       have im := L3.out.m.cell
       have iv0 := L3.out.v.c0
       have iv1 := L3.out.v.c1
       have iv2 := L3.out.v.c2
       have iv3 := L3.out.v.c3
       have iv4 := L3.out.v.c4
       have iv5 := L3.out.v.c5
       have iu0 := L3.out.u.c0
       have iu1 := L3.out.u.c1
       have iu2 := L3.out.u.c2
       have iu3 := L3.out.u.c3
       have iu4 := L3.out.u.c4
       have iu5 := L3.out.u.c5
       clear k3
       cases bv)
    | (clear M4; go_at_call 63; refine (H3.out w3).mono ?_; clear im iv0 iv1 iv2 iv3 iv4 iv5 iu0 iu1 iu2 iu3 iu4 iu5; rintro e w4 ⟨rfl, k4⟩
       have L4 := Bx.mk (L3.out.keep k4)
       have im := L4.out.m.cell
       have iv0 := L4.out.v.c0
       have iv1 := L4.out.v.c1
       have iv2 := L4.out.v.c2
       have iv3 := L4.out.v.c3
       have iv4 := L4.out.v.c4
       have iv5 := L4.out.v.c5
       have iu0 := L4.out.u.c0
       have iu1 := L4.out.u.c1
       have iu2 := L4.out.u.c2
       have iu3 := L4.out.u.c3
       have iu4 := L4.out.u.c4
       have iu5 := L4.out.u.c5
       clear k4
       cases bu)
    | (clear M5; go_at_call 49; refine (HIm.out v w4 L4.out (HT.out.1 (by trivial)) (HV.out.1 (by trivial))).mono ?_; clear im iv0 iv1 iv2 iv3 iv4 iv5 iu0 iu1 iu2 iu3 iu4 iu5; rintro e w5 ⟨ab, ao, ac, rfl, hac, A5, k5⟩
       have L5 := Bx.mk (L4.out.keep k5.out)
       have im := L5.out.m.cell
       have iv0 := L5.out.v.c0
       have iv1 := L5.out.v.c1
       have iv2 := L5.out.v.c2
       have iv3 := L5.out.v.c3
       have iv4 := L5.out.v.c4
       have iv5 := L5.out.v.c5
       have iu0 := L5.out.u.c0
       have iu1 := L5.out.u.c1
       have iu2 := L5.out.u.c2
       have iu3 := L5.out.u.c3
       have iu4 := L5.out.u.c4
       have iu5 := L5.out.u.c5
       clear k5)
    | (clear M6; go_at_call 49; refine (HIm.out u w5 L5.out (HT.out.1 (by trivial)) (HU.out.1 (by trivial))).mono ?_; clear im iv0 iv1 iv2 iv3 iv4 iv5 iu0 iu1 iu2 iu3 iu4 iu5; rintro e w6 ⟨bb, bo, bc, rfl, hbc, B6, k6⟩
       have L6 := Bx.mk (L5.out.keep k6.out)
       have A6 := Bx.mk (A5.out.keep k6.out)
       have im := L6.out.m.cell
       have iv0 := L6.out.v.c0
       have iv1 := L6.out.v.c1
       have iv2 := L6.out.v.c2
       have iv3 := L6.out.v.c3
       have iv4 := L6.out.v.c4
       have iv5 := L6.out.v.c5
       have iu0 := L6.out.u.c0
       have iu1 := L6.out.u.c1
       have iu2 := L6.out.u.c2
       have iu3 := L6.out.u.c3
       have iu4 := L6.out.u.c4
       have iu5 := L6.out.u.c5
       clear k6))
  · go_ret; exact ⟨rfl, L2.out.b⟩
  · go_ret; exact ⟨rfl, L3.out.b⟩
  · go_ret; exact ⟨rfl, L4.out.b⟩
  go_region_held3 (fun w' => w'.cell? ⟨w.heap.size, 0, none⟩ = some (.slice a n c) ∧ w'.cell? ⟨w.heap.size + 1, 0, none⟩ = some (.int .i64 (v 0)) ∧ w'.cell? ⟨w.heap.size + 1, 1, none⟩ = some (.int .i64 (v 1)) ∧ w'.cell? ⟨w.heap.size + 1, 2, none⟩ = some (.int .i64 (v 2)) ∧ w'.cell? ⟨w.heap.size + 1, 3, none⟩ = some (.int .i64 (v 3)) ∧ w'.cell? ⟨w.heap.size + 1, 4, none⟩ = some (.int .i64 (v 4)) ∧ w'.cell? ⟨w.heap.size + 1, 5, none⟩ = some (.int .i64 (v 5)))
    (first
      | go_keep
      | exact HS2
      | exact HS3)
    (first
      | (go_at_call 64; refine (HIn.out _ (HV.out.1 (by trivial))).mono ?_; rintro e w7 ⟨rfl, k7⟩
         have L7 := Bx.mk ((L6.out.dr).keep k7)
         have A7 := Bx.mk (A6.out.keep ((below_drew (Below.refl _ w6)).trans k7))
         have B7 := Bx.mk (B6.out.keep ((below_drew (Below.refl _ w6)).trans k7))
         have HS2 : w7.cell? ⟨w.heap.size, 0, none⟩ = some (.slice a n c) ∧ w7.cell? ⟨w.heap.size + 1, 0, none⟩ = some (.int .i64 (v 0)) ∧ w7.cell? ⟨w.heap.size + 1, 1, none⟩ = some (.int .i64 (v 1)) ∧ w7.cell? ⟨w.heap.size + 1, 2, none⟩ = some (.int .i64 (v 2)) ∧ w7.cell? ⟨w.heap.size + 1, 3, none⟩ = some (.int .i64 (v 3)) ∧ w7.cell? ⟨w.heap.size + 1, 4, none⟩ = some (.int .i64 (v 4)) ∧ w7.cell? ⟨w.heap.size + 1, 5, none⟩ = some (.int .i64 (v 5)) := L7.out.seven)
      | (go_at_call 49; refine (HIm.out y w7 L7.out (HT.out.1 (by trivial)) (HY.out (HV.out.1 (by trivial))).1).mono ?_; rintro e w8 ⟨cb, co, cc, rfl, hcc, C8, k8⟩
         have L8 := Bx.mk (L7.out.keep k8.out)
         have A8 := Bx.mk (A7.out.keep k8.out)
         have B8 := Bx.mk (B7.out.keep k8.out)
         have HS3 : w8.cell? ⟨w.heap.size, 0, none⟩ = some (.slice a n c) ∧ w8.cell? ⟨w.heap.size + 1, 0, none⟩ = some (.int .i64 (v 0)) ∧ w8.cell? ⟨w.heap.size + 1, 1, none⟩ = some (.int .i64 (v 1)) ∧ w8.cell? ⟨w.heap.size + 1, 2, none⟩ = some (.int .i64 (v 2)) ∧ w8.cell? ⟨w.heap.size + 1, 3, none⟩ = some (.int .i64 (v 3)) ∧ w8.cell? ⟨w.heap.size + 1, 4, none⟩ = some (.int .i64 (v 4)) ∧ w8.cell? ⟨w.heap.size + 1, 5, none⟩ = some (.int .i64 (v 5)) := L8.out.seven))
  have im := L8.out.m.cell
  have hn3 := (HT.out.1 (by trivial)).three
  have hn0 := (HT.out.1 (by trivial)).some
  go_wp2_with fail
  go_loopw [15] (fun ix wr => ∃ i : Nat, i ≤ n ∧ ix = .int .i64 i ∧ Bx (Below w8.heap.size w8 wr)) (fun ix _ => n - (intOf ix).toNat)
  case atStart => exact ⟨0, by omega, rfl, ⟨Below.refl _ _⟩⟩
  case round =>
    obtain ⟨i, hi, rfl, IB⟩ := hrel
    by_cases hlt : i < n
    · have hlt' : (i : Int) < n := by omega
      have hcc' : (i : Int) < cc := by omega
      have c0 := (C8.out.keep (IB.out)).cell i hlt
      have d0 := (A8.out.keep (IB.out)).cell i hlt
      have hbd := img_bound (HT.out.1 (by trivial)) (HV.out.1 (by trivial)) hlt
      rw [(HY.out (HV.out.1 (by trivial))).2 i] at c0
      obtain ⟨x, hx⟩ : ∃ x, img M v i = x := ⟨_, rfl⟩
      rw [hx] at c0 d0 hbd
      have q1 : IntKind.i64.wrap (-x) = -x := by rw [IntWalk.i64_in] <;> omega
      have q2 : wrap64 (-x) = -x := by unfold wrap64; omega
      clear hx
      go_wp2_with fail
      go_region
      all_goals go_wp2_with fail
      all_goals first
        | exact ⟨⟨i + 1, by omega, by go_num, IB⟩, by simp [intOf]; omega⟩
        | exact ⟨⟨i + 1, by omega, by go_num, ⟨below_drew IB.out⟩⟩, by simp [intOf]; omega⟩
    · obtain rfl : i = n := by omega
      have L9 := Bx.mk (L8.out.keep IB.out)
      have A9 := Bx.mk (A8.out.keep IB.out)
      have B9 := Bx.mk (B8.out.keep IB.out)
      clear im
      have im := L9.out.m.cell
      have iv0 := L9.out.v.c0
      have iv1 := L9.out.v.c1
      have iv2 := L9.out.v.c2
      have iv3 := L9.out.v.c3
      have iv4 := L9.out.v.c4
      have iv5 := L9.out.v.c5
      have iu0 := L9.out.u.c0
      have iu1 := L9.out.u.c1
      have iu2 := L9.out.u.c2
      have iu3 := L9.out.u.c3
      have iu4 := L9.out.u.c4
      have iu5 := L9.out.u.c5
      go_wp2_with (first
        | (clear M7; go_at_call 65; refine (HPl.out wr (HV.out.1 (by trivial)) (HU.out.1 (by trivial))).mono ?_; clear im iv0 iv1 iv2 iv3 iv4 iv5 iu0 iu1 iu2 iu3 iu4 iu5; rintro e w10 ⟨rfl, k10⟩
           have E10 := above_new w10 (.cells #[.int .i64 (s 0), .int .i64 (s 1), .int .i64 (s 2), .int .i64 (s 3), .int .i64 (s 4), .int .i64 (s 5)] 36)
           have L10 := Bx.mk ((L9.out.keep k10).keep E10)
           have A10 := Bx.mk ((A9.out.keep k10).keep E10)
           have B10 := Bx.mk ((B9.out.keep k10).keep E10)
           have S10 := Bx.mk (VT.new w10 36 s)
           have im := L10.out.m.cell
           have s0 := S10.out.c0
           have s1 := S10.out.c1
           have s2 := S10.out.c2
           have s3 := S10.out.c3
           have s4 := S10.out.c4
           have s5 := S10.out.c5
           clear k10 E10)
        | (clear M8; go_at_call 63; refine (HIv.out _).mono ?_; clear im s0 s1 s2 s3 s4 s5; rintro e w11 ⟨rfl, k11⟩
           have L11 := Bx.mk (L10.out.keep k11)
           have A11 := Bx.mk (A10.out.keep k11)
           have B11 := Bx.mk (B10.out.keep k11)
           have S11 := Bx.mk (S10.out.keep (k11.block _ S10.out.lt))
           have im := L11.out.m.cell
           have s0 := S11.out.c0
           have s1 := S11.out.c1
           have s2 := S11.out.c2
           have s3 := S11.out.c3
           have s4 := S11.out.c4
           have s5 := S11.out.c5
           clear k11
           cases bs)
        | (clear M9; go_at_call 49; refine (HIm.out s w11 L11.out (HT.out.1 (by trivial)) (HI.out.1 (by trivial))).mono ?_; clear im s0 s1 s2 s3 s4 s5; rintro e w12 ⟨db, do', dc, rfl, hdc, D12, k12⟩
           have L12 := Bx.mk (L11.out.keep k12.out)
           have A12 := Bx.mk (A11.out.keep k12.out)
           have B12 := Bx.mk (B11.out.keep k12.out)
           clear k12))
      · go_ret; exact ⟨rfl, L11.out.b⟩
      · go_loopw [19] (fun ix wz => ∃ k : Nat, k ≤ i ∧ ix = .int .i64 k ∧ Bx (Below w12.heap.size w12 wz)) (fun ix _ => i - (intOf ix).toNat)
        case atStart => exact ⟨0, by omega, rfl, ⟨Below.refl _ _⟩⟩
        case round =>
          obtain ⟨k, hk, rfl, JB⟩ := hrel
          by_cases hlt : k < i
          · have hlt' : (k : Int) < i := by omega
            have hac' : (k : Int) < ac := by omega
            have hbc' : (k : Int) < bc := by omega
            have hdc' : (k : Int) < dc := by omega
            have c0 := (D12.out.keep (JB.out)).cell k hlt
            have d0 := (A12.out.keep (JB.out)).cell k hlt
            have e0 := (B12.out.keep (JB.out)).cell k hlt
            have hb1 := img_bound (HT.out.1 (by trivial)) (HV.out.1 (by trivial)) hlt
            have hb2 := img_bound (HT.out.1 (by trivial)) (HU.out.1 (by trivial)) hlt
            rw [HSs.out k] at c0
            obtain ⟨x, hx⟩ : ∃ x, img M v k = x := ⟨_, rfl⟩
            obtain ⟨z, hz⟩ : ∃ z, img M u k = z := ⟨_, rfl⟩
            rw [hx, hz] at c0
            rw [hx] at d0 hb1
            rw [hz] at e0 hb2
            have q1 : IntKind.i64.wrap (x + z) = x + z := by rw [IntWalk.i64_in] <;> omega
            have q2 : wrap64 (x + z) = x + z := by unfold wrap64; omega
            clear hx hz
            go_wp2_with fail
            go_region
            all_goals go_wp2_with fail
            all_goals first
              | exact ⟨⟨k + 1, by omega, by go_num, JB⟩, by simp [intOf]; omega⟩
              | exact ⟨⟨k + 1, by omega, by go_num, ⟨below_drew JB.out⟩⟩, by simp [intOf]; omega⟩
          · obtain rfl : k = i := by omega
            go_wp2_with fail
            go_ret
            exact ⟨rfl, L12.out.b.trans (JB.out.mono L12.out.b.size)⟩
end Go.Proofs.Ytnbamjoadankmaa

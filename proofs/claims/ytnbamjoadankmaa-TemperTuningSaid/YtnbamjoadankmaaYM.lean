/- The program's temper: tuned. -/
import Derived.Test.YtnbamjoadankmaaYF
import Derived.Test.YtnbamjoadankmaaYK
namespace Go.Proofs.Ytnbamjoadankmaa
open Go.RowKit D
/-- The product of the generators' powers. -/
def tu (M : Nat → Nat → Int) (v : Nat → Int) (G : Nat → Nat → Int) (k j : Nat) : Int := sm k (fun i => img M v i * G i j)
theorem img_bound {M : Nat → Nat → Int} {n : Nat} {v : Nat → Int} (hM : Tm M n) (hv : Iv v) {i : Nat} (hi : i < n) : (img M v i).natAbs ≤ 115200 :=
  sm6_bound (B := 19200) (fun j hj => by
    have p1 := hM.ent i hi j hj
    have p2 := hv j hj
    rw [Int.natAbs_mul]
    exact Nat.mul_le_mul (show (M i j).natAbs ≤ 400 by omega) (show (v j).natAbs ≤ 48 by omega)) 6 (Nat.le_refl _)
theorem tu_bound {M G : Nat → Nat → Int} {n : Nat} {v : Nat → Int} (hM : Tm M n) (hv : Iv v) (hG : ∀ i j, i < n → j < 6 → (G i j).natAbs ≤ 576) {j : Nat} (hj : j < 6) : ∀ k, k ≤ n → (tu M v G k j).natAbs ≤ k * 66355200 := by
  intro k
  induction k with
  | zero => intro _; simp [tu, sm]
  | succ k ih =>
    intro hk
    have a := ih (by omega)
    have b : (img M v k * G k j).natAbs ≤ 115200 * 576 := by rw [Int.natAbs_mul]; exact Nat.mul_le_mul (img_bound hM hv (by omega)) (hG k j (by omega) hj)
    show (tu M v G k j + img M v k * G k j).natAbs ≤ (k + 1) * 66355200
    omega
theorem index_six3 (v : Nat → Int) {l : Nat} (hl : l < 6) (x : Int) (hx : v l = x) : ∀ w, (Instr.index 65 (.agg #[.int .i64 (v 0), .int .i64 (v 1), .int .i64 (v 2), .int .i64 (v 3), .int .i64 (v 4), .int .i64 (v 5)]) (.int .i64 l)).run Try.prog w = .ok (.int .i64 x) w := by
  intro w
  have hu := Try.underlying65
  subst hx
  obtain ⟨ti, hti, hti2⟩ := Option.map_eq_some_iff.1 info_int
  simp only [Prod.mk.injEq] at hti2
  rcases six_cases' hl with rfl | rfl | rfl | rfl | rfl | rfl <;> simp [Instr.index, asIntOf, run_underlying hu, sizeOf, typeInfo, hti, hti2.2.1, Sem.run_bind, Result.andThen, part]
set_option maxRecDepth 100000 in
set_option maxHeartbeats 16000000 in
theorem tuned_any (a go : Option Addr) (n c gc : Nat) (M G : Nat → Nat → Int) (v : Nat → Int) (w : World) (hc1 : n ≤ c) (hgc : n ≤ gc) (hR : CV w a n M) (hM : Tm M n) (hv : Iv v) (hS : CV w go n G) (hG : ∀ i j, i < n → j < 6 → (G i j).natAbs ≤ 576) :
    Calls Try.prog 109 #[PV v, .func (.func 102) #[.agg #[.slice a n c]] #[], .slice go n gc] w fun e w' => e = .returned (PV (tu M v G n)) ∧ Below w.heap.size w w' := by
  obtain ⟨W, hW⟩ : ∃ W, ((w.alloc (.cells #[.int .i64 (v 0), .int .i64 (v 1), .int .i64 (v 2), .int .i64 (v 3), .int .i64 (v 4), .int .i64 (v 5)] 36)).alloc (.cells #[.int .i64 0, .int .i64 0, .int .i64 0, .int .i64 0, .int .i64 0, .int .i64 0] 65)).alloc (.cells #[.int .i64 0, .int .i64 0, .int .i64 0, .int .i64 0, .int .i64 0, .int .i64 0] 65) = W := ⟨_, rfl⟩
  obtain ⟨hV, hZ, hP, hB, hs⟩ := three6 w 36 65 65 v (fun _ => 0) (fun _ => 0) W hW
  have v0 := hV.c0
  have v1 := hV.c1
  have v2 := hV.c2
  have v3 := hV.c3
  have v4 := hV.c4
  have v5 := hV.c5
  have hlP := hP.lt
  have hlZ := hZ.lt
  have HZ := Bx.mk hZ
  have HP := Bx.mk hP
  have HB := Bx.mk hB
  have HS := Bx.mk hS
  have HGB := Bx.mk hG
  have HTB := Bx.mk (fun j (hj : j < 6) => tu_bound hM hv hG hj)
  have HIB := Bx.mk (fun i (hi : i < n) => img_bound hM hv hi)
  have h3 := hM.three
  have h0 := hM.some
  have H2 := Bx.mk (image_any a n c M v W hc1 (hR.keep hB) hM hv)
  have HSZ := Bx.mk hs
  unfold PV at H2 ⊢
  clear hV hZ hP hB hs hR hM hv hS hG
  go_enter Try.func109, Try.ntmps109
  go_wp2_with (first
    | (go_at_call 102; refine H2.out.mono ?_; clear H2 hW; go_loud (rintro e w2 ⟨ao, cc, rfl, e2, e3, e4, k2, e6⟩)
       have B2 := Bx.mk (HB.out.trans (k2.out.mono HB.out.size))
       go_loud (obtain ⟨bb, o, rfl, hbb, hcells⟩ := ci_cells e4.out h0)
       have HCE := Bx.mk hcells
       have hfr : w.heap.size + 3 ≤ bb := by have q1 : W.heap.size ≤ bb := e6.out _ rfl; have q2 := HSZ.out; omega
       have HP2 := Bx.mk (HP.out.keep (k2.out.block _ hlP))
       have HZ2 := Bx.mk (HZ.out.keep (k2.out.block _ hlZ))
       clear k2 e4 hcells e6))
  go_loopw [16] (fun ix wr => ∃ k : Nat, k ≤ n ∧ ix = .int .i64 k ∧ Bx (VT wr (w.heap.size + 1 + 1) 65 (tu M v G k)) ∧ Bx (But (w.heap.size + 1 + 1) w2 wr)) (fun ix _ => n - (intOf ix).toNat)
  case atStart => exact ⟨0, by omega, rfl, HP2, ⟨But.refl _ _⟩⟩
  case round =>
    obtain ⟨k, hk, rfl, IP, IB⟩ := hrel
    have HBr := Bx.mk (B2.out.trans (IB.out.below (n := w.heap.size) B2.out.size (by omega)))
    by_cases hlt : k < n
    · obtain ⟨b6, o6, rfl, hb6, hcr⟩ := HS.out (by omega)
      obtain ⟨a0, a1, a2, a3, a4, a5⟩ := row_six hcr hb6 HBr.out hlt
      have hki : (k : Int) < (n : Int) := by omega
      clear hcr
      have ic := (IB.out.cell (c := bb) (k := o + k) hbb (by omega)).trans (HCE.out k hlt)
      have ib := HIB.out k hlt
      obtain ⟨x, hx⟩ : ∃ x, G k = x := ⟨_, rfl⟩
      have hg6 := fun j hj => HGB.out k j hlt hj
      rw [hx] at a0 a1 a2 a3 a4 a5 hg6
      have HG6 := Bx.mk hg6
      obtain ⟨N, hN⟩ : ∃ N, img M v k = N := ⟨_, rfl⟩
      rw [hN] at ic ib
      have HTS := Bx.mk (fun j => show tu M v G (k + 1) j = tu M v G k j + N * x j by
        show tu M v G k j + img M v k * G k j = tu M v G k j + N * x j
        rw [hN, hx])
      clear hx hN hg6
      go_wp2_with fail
      go_loopw [25] (fun jx wz => ∃ l : Nat, l ≤ 6 ∧ jx = .int .i64 l ∧ Bx (VT wz (w.heap.size + 1 + 1) 65 (fun j => if j < l then tu M v G (k + 1) j else tu M v G k j)) ∧ Bx (But (w.heap.size + 1 + 1) w2 wz)) (fun jx _ => 6 - (intOf jx).toNat)
      case atStart => exact ⟨0, by omega, rfl, ⟨IP.out.congr fun j _ => by simp⟩, IB⟩
      case round =>
        obtain ⟨l, hl, rfl, JP, JB⟩ := hrel
        by_cases hl6 : l < 6
        · have c0 := JP.out.cellk hl6
          simp only [Nat.lt_irrefl, if_false] at c0
          have f0 := JP.out.f l
          have hl6' : (l : Int) < 6 := by omega
          have hb2 := HG6.out l hl6
          have hb1 := HTB.out l hl6 k (by omega)
          have HPS' := HTS.out l
          obtain ⟨r, hr⟩ : ∃ r, x l = r := ⟨_, rfl⟩
          have hix := index_six3 x hl6 r hr
          obtain ⟨s, hs⟩ : ∃ s, tu M v G k l = s := ⟨_, rfl⟩
          rw [hs] at c0 hb1
          rw [hr] at hb2
          rw [hs, hr] at HPS'
          have hyr : (N * r).natAbs ≤ 115200 * 576 := by rw [Int.natAbs_mul]; exact Nat.mul_le_mul ib hb2
          obtain ⟨P, hP⟩ : ∃ P, N * r = P := ⟨_, rfl⟩
          rw [hP] at hyr HPS'
          have HPS := Bx.mk HPS'
          have hk3 : k * 66355200 ≤ 3 * 66355200 := Nat.mul_le_mul (by omega) (Nat.le_refl _)
          have q1 : IntKind.i64.wrap P = P := by rw [IntWalk.i64_in] <;> omega
          have q2 : wrap64 P = P := by unfold wrap64; omega
          have q3 : IntKind.i64.wrap (s + P) = s + P := by rw [IntWalk.i64_in] <;> omega
          have q4 : wrap64 (s + P) = s + P := by unfold wrap64; omega
          clear hr hs HPS'
          have K1 := Bx.mk ((JP.out.setk hl6 (s + P)).congr (v := fun j => if j < l + 1 then tu M v G (k + 1) j else tu M v G k j) (fun j hj => by
            by_cases e : j = l
            · subst e; simp [HPS.out]
            · by_cases e2 : j < l
              · simp [e, e2, show j < l + 1 by omega]
              · simp [e, e2, show ¬ j < l + 1 by omega]))
          have K4 := Bx.mk (JB.out.trans (But.set (b := w.heap.size + 1 + 1) wr l (.int .i64 (s + P))))
          go_wp2_with fail
          all_goals first
            | exact ⟨⟨l + 1, by omega, by go_num, K1, K4⟩, by simp [intOf]; omega⟩
            | exact ⟨⟨l + 1, by omega, by go_num, ⟨K1.out.drew⟩, ⟨K4.out.drew⟩⟩, by simp [intOf]; omega⟩
        · obtain rfl : l = 6 := by omega
          go_wp2_with fail
          exact ⟨⟨k + 1, by omega, by go_num, ⟨JP.out.congr fun j hj => by simp [hj]⟩, JB⟩, by simp [intOf]; omega⟩
    · obtain rfl : k = n := by omega
      obtain ⟨u, hu⟩ : ∃ u, tu M v G k = u := ⟨_, rfl⟩
      rw [hu] at IP
      have HE := Bx.mk hu
      clear hu
      have IZ := HZ2.out.keep (IB.out.block _ HZ2.out.lt (by omega))
      have HIZ := Bx.mk IZ
      have c0 := IP.out.c0
      have c1 := IP.out.c1
      have c2 := IP.out.c2
      have c3 := IP.out.c3
      have c4 := IP.out.c4
      have c5 := IP.out.c5
      have g0 := IZ.c0
      have g1 := IZ.c1
      have g2 := IZ.c2
      have g3 := IZ.c3
      have g4 := IZ.c4
      have g5 := IZ.c5
      have z0 := IZ.f 0
      have z1 := IZ.f 1
      have z2 := IZ.f 2
      have z3 := IZ.f 3
      have z4 := IZ.f 4
      have z5 := IZ.f 5
      clear IZ
      go_wp2_with fail
      have V6 := HIZ.out.lit u
      have hb6 := but_lit (w.heap.size + 1) wr u
      have y0 := V6.c0
      have y1 := V6.c1
      have y2 := V6.c2
      have y3 := V6.c3
      have y4 := V6.c4
      have y5 := V6.c5
      have HBF := Bx.mk (HBr.out.trans (but_below hb6 (n := w.heap.size) (by omega) HBr.out.size))
      refine bodyPost_ret_by (v := .agg #[.int .i64 (u 0), .int .i64 (u 1), .int .i64 (u 2), .int .i64 (u 3), .int .i64 (u 4), .int .i64 (u 5)]) (by simp [results, Try.results109, go_sem, y0, y1, y2, y3, y4, y5]) rfl ?_
      exact ⟨by rw [HE.out], HBF.out⟩
end Go.Proofs.Ytnbamjoadankmaa

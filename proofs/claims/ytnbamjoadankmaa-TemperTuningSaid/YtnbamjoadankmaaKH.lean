/- triangle: the triangular form of a lattice that has all multiples of a number. -/
import Derived.Test.YtnbamjoadankmaaKK
namespace Go.Proofs.Ytnbamjoadankmaa
open Go.RowKit D
theorem made_rows (n : Nat) : ∀ i j, i < n → j < 6 → (madeCells #[Value.int .i64 0, .int .i64 0, .int .i64 0, .int .i64 0, .int .i64 0, .int .i64 0] (n * 6)).toList[i * 6 + j]? = some (.int .i64 0) := by
  intro i j hi hj
  rw [Array.getElem?_toList]
  have h : i * 6 + j < n * 6 := by omega
  unfold madeCells
  rw [Array.getElem?_map, Array.getElem?_range]
  rw [if_pos h]
  have : (i * 6 + j) % 6 = j := by omega
  rcases six_cases' hj with rfl | rfl | rfl | rfl | rfl | rfl <;> simp [this]
theorem info_rows : (Try.prog.info? 36).map (fun i => (i.zero, i.size, i.bytes)) = some (some (.agg #[.int .i64 0, .int .i64 0, .int .i64 0, .int .i64 0, .int .i64 0, .int .i64 0]), 6, 48) := by kernel_rfl
/-- The rows that are copied so far, modulo a number. -/
def cpy (A : Nat → Nat → Int) (D : Int) (k l : Nat) : Nat → Nat → Int := fun r s => if r < k ∨ (r = k ∧ s < l) then A r s % D else 0
set_option maxRecDepth 100000 in
set_option maxHeartbeats 16000000 in
theorem triangle_pos (ao : Option Addr) (n c1 m : Nat) (d D : Int) (A : Nat → Nat → Int) (w : World) (hn : n ≤ 8) (hc1 : n ≤ c1) (hm : m ≤ 6) (hpe : d = D) (hD0 : 0 < D) (hD1 : D ≤ 1000000000) (hR : CV w ao n A) (hA : ∀ i j, i < n → j < 6 → -9000000000000000000 ≤ A i j ∧ A i j ≤ 9000000000000000000) :
    Calls Try.prog 114 #[.slice ao n c1, .int .i64 m, .int .i64 d] w fun e w' => ∃ (v : Value) (H : Nat → Nat → Int), e = .returned v ∧ w'.ownsRow w.heap.size 36 6 v m (rowsL H m) ∧ Frm m m D H ∧ (∃ R, Zer n m R ∧ Ge m n A D m n R H m) ∧ Below w.heap.size w w' := by
  have hmx : Try.prog.follows .mixedOrders = true := by kernel_rfl
  obtain ⟨ti, hti, hti2⟩ := Option.map_eq_some_iff.1 info_rows
  simp only [Prod.mk.injEq] at hti2
  obtain ⟨hz0, hz1, hz2⟩ := hti2
  have HTI := Bx.mk hti
  have HA := Bx.mk hA
  have HR := Bx.mk hR
  clear hti hA hR
  subst hpe
  have hpn : ¬ d < -d := by omega
  go_enter Try.func114, Try.ntmps114
  go_wp2_with (at_make; refine wpList_make_full w rfl _ _ 22 rfl w.heap.size 36 ti _ 6 Try.underlying22 HTI.out hz0 hz1 .i64 .i64 _ _ n rfl rfl rfl rfl (by rw [hz2]; omega) (by unfold maxLen; omega) (Nat.le_refl _) ?_; intro w1 hown1 hg1)
  have HG0 := Bx.mk (RB.of_own (M := fun _ _ => 0) hown1 (made_rows n))
  have HB1 := Bx.mk ((Below.refl w.heap.size w).grown hg1 (Nat.le_refl _) (fun k e => by cases e))
  clear hown1 hg1
  go_loopw [27] (fun i wr => ∃ k : Nat, k ≤ n ∧ i = .int .i64 k ∧ Bx (RB wr w.heap.size n n (cpy A d k 0)) ∧ Bx (Below w.heap.size w wr)) (fun i _ => n - (intOf i).toNat)
  case atStart => exact ⟨0, by omega, rfl, ⟨HG0.out.congr fun i j hi hj => by unfold cpy; rw [if_neg (by omega)]⟩, HB1⟩
  case round =>
    obtain ⟨k, hk, rfl, HG, HB⟩ := hrel
    by_cases hlt : k < n
    · obtain ⟨b, o, rfl, hb, hcr⟩ := HR.out (by omega)
      have a0 := HB.out.cell (p := ⟨b, o + k * 6 + 0, none⟩) hb
      have a1 := HB.out.cell (p := ⟨b, o + k * 6 + 1, none⟩) hb
      have a2 := HB.out.cell (p := ⟨b, o + k * 6 + 2, none⟩) hb
      have a3 := HB.out.cell (p := ⟨b, o + k * 6 + 3, none⟩) hb
      have a4 := HB.out.cell (p := ⟨b, o + k * 6 + 4, none⟩) hb
      have a5 := HB.out.cell (p := ⟨b, o + k * 6 + 5, none⟩) hb
      rw [hcr k _ hlt (by omega)] at a0 a1 a2 a3 a4 a5
      rw [Nat.add_zero] at a0
      clear hcr
      have hgl := HG.out.lt
      have HG1 := Bx.mk (HG.out.below ((Below.refl wr.heap.size wr).alloc (Nat.le_refl _) (.cells #[.int .i64 (A k 0), .int .i64 (A k 1), .int .i64 (A k 2), .int .i64 (A k 3), .int .i64 (A k 4), .int .i64 (A k 5)] 36)) hgl)
      have HB2 := Bx.mk (HB.out.alloc HB.out.size (.cells #[.int .i64 (A k 0), .int .i64 (A k 1), .int .i64 (A k 2), .int .i64 (A k 3), .int .i64 (A k 4), .int .i64 (A k 5)] 36))
      go_wp2_with fail
      go_loopw [33] (fun i wr => ∃ l : Nat, l ≤ 6 ∧ i = .int .i64 l ∧ Bx (RB wr w.heap.size n n (cpy A d k l)) ∧ Bx (Below w.heap.size w wr)) (fun i _ => 6 - (intOf i).toNat)
      case atStart => exact ⟨0, by omega, rfl, HG1, HB2⟩
      case round =>
        obtain ⟨l, hl6, rfl, HG3, HB3⟩ := hrel
        by_cases hl : l < 6
        · obtain ⟨x, hx⟩ : ∃ x, A k l = x := ⟨_, rfl⟩
          have hix := index_six (A k) hl x hx
          have hxb := HA.out k l hlt hl
          rw [hx] at hxb
          obtain ⟨hx1, hx2⟩ := hxb
          have RM := Bx.mk (fun w => remainder_any x d w hD0 hD1 (by omega) (by omega))
          have c1' := HG3.out.cell hlt hl
          have c2' := HG3.out.frozen (k * 6 + l)
          have HX := Bx.mk hx
          clear hx
          go_wp2_with fail
          refine wp_region_still_tail 8 hmx (by kernel_rfl) ?_
          simp only [List.take_succ_cons, List.take_zero, List.drop_succ_cons, List.drop_zero]
          change wpStill _ _ wr.drew (fun a' => wpList _ _ _ _ a' wr.drew) _ _
          iterate 5 still_step
          still_call (RM.out _)
          still_step
          still_step
          refine wpStill_nil ?_
          go_wp2_with fail
          go_roundw
          case rel =>
            exact ⟨l + 1, by omega, by go_num, ⟨(HG3.out.set hlt hl (x % d)).congr fun i j hi hj => by
              unfold cpy
              by_cases e : i = k ∧ j = l
              · rw [if_pos e, if_pos (by omega), e.1, e.2, HX.out]
              · rw [if_neg e]
                by_cases e2 : i < k ∨ (i = k ∧ j < l)
                · rw [if_pos e2, if_pos (by omega)]
                · rw [if_neg e2, if_neg (by omega)]⟩, ⟨below_drew (HB3.out.setCell (p := ⟨w.heap.size, k * 6 + l, none⟩) (Nat.le_refl _) _)⟩⟩
          case measure => simp [intOf]; omega
        · obtain rfl : l = 6 := by omega
          go_wp2_with fail
          go_roundw
          case rel => exact ⟨k + 1, by omega, by go_num, ⟨HG3.out.congr fun i j hi hj => by
              unfold cpy
              by_cases e2 : i < k + 1 ∨ (i = k + 1 ∧ j < 0)
              · rw [if_pos e2, if_pos (by omega)]
              · rw [if_neg e2, if_neg (by omega)]⟩, HB3⟩
          case measure => simp [intOf]; omega
    · obtain rfl : n = k := by omega
      have HT0 : Bx (Tri m n A d 0 (cpy A d n 0) fun _ _ => 0) := ⟨⟨fun t ht j hj => by omega, fun t ht j hj => by unfold cpy; rw [if_pos (by omega)]; exact ⟨Int.emod_nonneg _ (by omega), Int.emod_lt_of_pos _ hD0⟩, ⟨fun k hk => by omega, fun k j hk => by omega, fun i k _ hk => by omega, fun k j hk => by omega⟩, Ge.start _ fun t ht j hj => by unfold cpy; rw [if_pos (by omega)]⟩⟩
      have HW0 : Bx (wr.ownsRow w.heap.size 36 6 (.slice none 0 0) 0 (rowsL (fun _ _ => 0) 0)) := ⟨World.ownsRow_nil _ _ _ _⟩
      go_wp2_with fail
      go_loopw [8, 13, 48] (fun rs fm ix wr => ∃ (c gr cr : Nat) (R F : Nat → Nat → Int) (fv : Value), c ≤ m ∧ ix = .int .i64 c ∧ rs = .slice (some ⟨gr, 0, none⟩) n cr ∧ fv = fm ∧ Bx (RB wr gr n cr R ∧ cr ≤ maxLen ∧ w.heap.size ≤ gr) ∧ Bx (wr.ownsRow w.heap.size 36 6 fv c (rowsL F c)) ∧ Bx (∀ k, fv.ownBlock = some k → k ≠ gr) ∧ Bx (Tri m n A d c R F) ∧ Bx (Below w.heap.size w wr)) (fun _ _ ix _ => m - (intOf ix).toNat)
      case atStart => exact ⟨0, w.heap.size, n, _, _, _, by omega, rfl, rfl, rfl, ⟨HG.out, by unfold maxLen; omega, Nat.le_refl _⟩, HW0, ⟨fun k hk => by simp [Value.ownBlock] at hk⟩, HT0, HB⟩
      case round =>
        obtain ⟨c, gr, cr, R, F, fm, hc, rfl, rfl, rfl, HG, HF, HNE, HT, HB⟩ := hrel
        by_cases hlt : c < m
        · have hc6 : c < 6 := by omega
          obtain ⟨hRB, hcr, hgr⟩ := HG.out
          have hgl := hRB.lt
          have HGB := Bx.mk hRB
          have HCR := Bx.mk hcr
          clear hRB HG hcr
          have z1 : (wr.alloc (.cells #[.int .i64 0, .int .i64 0, .int .i64 0, .int .i64 0, .int .i64 0, .int .i64 0] 36)).cell? ⟨wr.heap.size, c, none⟩ = some (.int .i64 0) := box_cell wr (fun _ => 0) 36 c hc6
          have z2 : (wr.alloc (.cells #[.int .i64 0, .int .i64 0, .int .i64 0, .int .i64 0, .int .i64 0, .int .i64 0] 36)).frozen? ⟨wr.heap.size, c, none⟩ = false := by simp [go_sem]
          have hset := unit_set c d hc6
          obtain ⟨U, hU⟩ : ∃ U, unitV d c = U := ⟨_, rfl⟩
          rw [hU] at hset
          unfold sixL at hset
          have HU := Bx.mk hU
          clear hU
          have hB3 : Below wr.heap.size wr ((wr.alloc (.cells #[.int .i64 (U 0), .int .i64 (U 1), .int .i64 (U 2), .int .i64 (U 3), .int .i64 (U 4), .int .i64 (U 5)] 36)).alloc (.cells #[.int .i64 (U 0), .int .i64 (U 1), .int .i64 (U 2), .int .i64 (U 3), .int .i64 (U 4), .int .i64 (U 5)] 36)) :=
            ((Below.refl _ wr).alloc (Nat.le_refl _) _).alloc (by simp) _
          have HN6 := Bx.mk (six_new (wr.alloc (.cells #[.int .i64 (U 0), .int .i64 (U 1), .int .i64 (U 2), .int .i64 (U 3), .int .i64 (U 4), .int .i64 (U 5)] 36)) U 36)
          rw [World.size_alloc] at HN6
          have HB3 := Bx.mk hB3
          clear hB3
          go_wp2_with (at_builtin; refine wpList_append_fresh rfl (.tmp 54) (.tmp 56) 22 rfl w.heap.size 36 ti _ 6 48 Try.underlying22 HTI.out hz0 hz1 hz2 rfl (by decide) _ n (rowsL R n) rfl (RB.own (HGB.out.below HB3.out hgl) hgr HCR.out (Nat.le_refl _)) _ 1 _ (sixL U) rfl rfl ?c1 ?c2 (six_one U) ?c4 ?c5 ?c6 ?_)
          case c1 => intro h; cases h
          case c2 => intro ad had; cases had; exact HN6.out
          case c4 => unfold maxLen; omega
          case c5 => omega
          case c6 => exact Nat.le_trans HB.out.size HB3.out.size
          intro v' w2 ho2 hg2 hf2
          obtain ⟨g2, cr2, rfl, hg20, hg2s⟩ := own_form ho2 (by omega)
          have hsn := RB.of_snoc ho2
          have HR2 := Bx.mk hsn.1
          have HC2 := Bx.mk hsn.2.1
          have hgg : g2 = gr ∨ wr.heap.size ≤ g2 := by
            rcases hf2 g2 rfl with h | h
            · left; simpa [Value.ownBlock] using h.symm
            · right; omega
          have HB2 := Bx.mk (((HB.out.trans (HB3.out.mono HB.out.size))).grown hg2 (Nat.le_trans HB.out.size HB3.out.size) (fun k e => by cases e; exact hgr))
          have HF2 : Bx (w2.ownsRow w.heap.size 36 6 fm c (rowsL F c)) := ⟨own_keep HF.out fun k hk hks => (hg2.block k (Nat.lt_of_lt_of_le hks HB3.out.size) (by intro e; exact HNE.out k hk (by simpa [Value.ownBlock] using e))).trans (HB3.out.block k hks)⟩
          have HN2 : Bx (∀ k, fm.ownBlock = some k → k ≠ g2) := ⟨fun k hk e => by
            subst e
            rcases hgg with h | h
            · exact HNE.out k hk h
            · rcases HF.out.2 with ⟨e, _⟩ | ⟨g', _, _, e, _, hgx, _⟩
              · subst e; simp [Value.ownBlock] at hk
              · subst e; simp [Value.ownBlock] at hk; subst hk
                have := (Array.getElem?_eq_some_iff.1 hgx).1; omega⟩
          have hw2 := HB2.out.size
          have EA := Bx.mk (eliminate_any g2 (n + 1) cr2 c d (snR R n U) w2 (by omega) hc6 hD0 hD1 HR2.out (by rw [← HU.out]; exact okd_push HT.out.bd hD0 hD1 hc6) ⟨n, by omega, by rw [snR_eq, ← HU.out]; simp [unitV]; exact hD0⟩)
          clear ho2 hg2 hf2 hsn hset z1 z2 HN6 HB3 HF HNE HGB
          go_wp2_with (first
            | (go_at_call 146; refine EA.out.mono ?_; clear EA; rintro e w4 ⟨f, N, rfl, hf, hf0, hfz, hE, hRB4, hBut4⟩
               obtain ⟨V, hV⟩ : ∃ V, N f = V := ⟨_, rfl⟩
               have n0 := hRB4.cell hf (j := 0) (by omega)
               have n1 := hRB4.cell hf (j := 1) (by omega)
               have n2 := hRB4.cell hf (j := 2) (by omega)
               have n3 := hRB4.cell hf (j := 3) (by omega)
               have n4 := hRB4.cell hf (j := 4) (by omega)
               have n5 := hRB4.cell hf (j := 5) (by omega)
               rw [hV] at n0 n1 n2 n3 n4 n5
               rw [Nat.add_zero] at n0
               have HV := Bx.mk hV
               have HZ := Bx.mk hfz
               have HE := Bx.mk hE
               have HRB4 := Bx.mk hRB4
               have HBut4 := Bx.mk hBut4
               have HF0 := Bx.mk hf0
               have HF4 := Bx.mk (own_keep HF2.out fun k hk hks => hBut4.block k hks (HN2.out k hk))
               have hs4 := hBut4.size
               have hgl4 := hRB4.lt
               clear hV hfz hE hRB4 hBut4 hf0)
            | (at_builtin; refine wpList_append_fresh rfl (.tmp 62) (.tmp 67) 22 rfl w.heap.size 36 ti _ 6 48 Try.underlying22 HTI.out hz0 hz1 hz2 rfl (by decide) fm c (rowsL F c) rfl (HF4.out.alloc _) _ 1 _ (sixL V) rfl rfl ?c1 ?c2 (six_one V) ?c4 ?c5 ?c6 ?_))
          case c1 => intro h; cases h
          case c2 => intro ad had; cases had; exact six_new _ V 36
          case c4 => unfold maxLen; omega
          case c5 => omega
          case c6 => simp; omega
          intro v' w6 ho6 hg6 hf6
          obtain ⟨gf, cf, rfl, hgf0, hgfs⟩ := own_form ho6 (by omega)
          have hsn := RB.of_snoc ho6
          have HK6 := Bx.mk hsn.1
          have HCF := Bx.mk hsn.2.1
          have hne6 : gf ≠ g2 := by
            rcases hf6 gf rfl with h | h
            · exact HN2.out gf h
            · omega
          have HR6 : Bx (RB w6 g2 (n + 1) cr2 N) := ⟨(HRB4.out.below ((Below.refl w4.heap.size w4).alloc (Nat.le_refl _) _) hgl4).keep (hg6.block g2 (by simp; omega) (fun e => HN2.out g2 e.symm rfl))⟩
          have hs6 := hg6.size
          rw [World.size_alloc] at hs6
          have HB6 : Bx (Below w.heap.size w w6) := ⟨((HB2.out.trans (HBut4.out.below hw2 hg20)).alloc (by omega) _).grown hg6 (by simp; omega) (owns_block (HF4.out))⟩
          have DA := Bx.mk (fun x hx => delete_at g2 (n + 1) cr2 f x N w6 (by omega) hf hx HC2.out HR6.out)
          rw [Nat.add_sub_cancel] at DA
          clear ho6 hg6 hf6 hsn n0 n1 n2 n3 n4 n5
          go_wp2_with (go_at_call 147; refine (DA.out _ (by go_num)).mono ?_; clear DA; rintro e w7 ⟨rfl, hR7, hBut7⟩
                       have HR7 := Bx.mk hR7
                       have HK7 := Bx.mk (HK6.out.keep (hBut7.block gf hgfs hne6))
                       have HB7 := Bx.mk (HB6.out.trans (hBut7.below HB6.out.size hg20))
                       clear hR7 hBut7)
          have hTN := HT.out.next hD0 hD1 hlt hm (by rw [HU.out]; exact HE.out) hf HF0.out HZ.out
          rw [HV.out] at hTN
          obtain ⟨t1, t2, t3, t4⟩ := hTN
          have HZ1 := Bx.mk t1
          have HBD := Bx.mk t2
          have HQ0 : Bx (Frm (c + 1) c d (snR F c V) ∧ Abv c 0 (snR F c V) ∧ Ge m n A d (c + 1) n (delR N f) (snR F c V) (c + 1)) := ⟨t3, fun i hi => by omega, t4⟩
          clear t1 t2 t3 t4 HT HE HZ HF0 HN2 HR2 HRB4 HBut4 HF4 HF2 HR6 HK6
          go_loopw [75] (fun ix wr => ∃ (a : Nat) (K : Nat → Nat → Int), a ≤ c ∧ ix = .int .i64 a ∧ Bx (RB wr gf (c + 1) cf K) ∧ Bx (RB wr g2 n cr2 (delR N f)) ∧ Bx (Frm (c + 1) c d K ∧ Abv c a K ∧ Ge m n A d (c + 1) n (delR N f) K (c + 1)) ∧ Bx (Below w.heap.size w wr)) (fun ix _ => c - (intOf ix).toNat)
          case atStart => exact ⟨0, _, by omega, rfl, HK7, HR7, HQ0, HB7⟩
          case round =>
            clear HK7 HR7 HQ0 HB7
            obtain ⟨a, K, ha, rfl, HK, HRr, HQ, HBl⟩ := hrel
            by_cases hac : a < c
            · have haw : a < c + 1 := by omega
              have hcw : c < c + 1 := by omega
              have a0 := HK.out.cell haw (j := 0) (by omega)
              have a1 := HK.out.cell haw (j := 1) (by omega)
              have a2 := HK.out.cell haw (j := 2) (by omega)
              have a3 := HK.out.cell haw (j := 3) (by omega)
              have a4 := HK.out.cell haw (j := 4) (by omega)
              have a5 := HK.out.cell haw (j := 5) (by omega)
              have l0 := HK.out.cell hcw (j := 0) (by omega)
              have l1 := HK.out.cell hcw (j := 1) (by omega)
              have l2 := HK.out.cell hcw (j := 2) (by omega)
              have l3 := HK.out.cell hcw (j := 3) (by omega)
              have l4 := HK.out.cell hcw (j := 4) (by omega)
              have l5 := HK.out.cell hcw (j := 5) (by omega)
              rw [Nat.add_zero] at a0 l0
              have hKl := HK.out.lt
              have hRl := HRr.out.lt
              have LW := Bx.mk (fun w' => lowered_any (K a) (K c) c d w' hc6 hD0 hD1 (HQ.out.1.piv c hcw).1 (fun j _ hj => by have := HQ.out.1.bnd a j haw hj; omega) (fun j _ hj => by have := HQ.out.1.bnd c j hcw hj; omega))
              have HS := frm_low HQ.out.1 hac HQ.out.2.1 hc6 hD0
              have HSG := HQ.out.2.2.above hac (HQ.out.1.bnd a c haw hc6).1 (HQ.out.1.piv c hcw).1 (HQ.out.1.piv c hcw).2 (fun j hj => HQ.out.1.left c j hcw hj)
              obtain ⟨v, hv⟩ : ∃ v, low (K a) (K c) c d = v := ⟨_, rfl⟩
              unfold PV at LW
              rw [hv] at LW HS HSG
              have HST := Bx.mk HS
              have HSG' := Bx.mk HSG
              clear hv HS HSG
              go_wp2_with fail
              go_region_with (go_at_call 148; refine (LW.out _).mono ?_; rintro e w8 ⟨rfl, hb8⟩
                              have hbx : Below wr.heap.size wr w8 := Below.trans (by repeat (first | with_reducible exact Below.refl _ _ | with_reducible apply below_drewN | with_reducible apply below_drew)) (Below.mono hb8 (by first | exact Nat.le_refl _ | simp))
                              have HK8 := Bx.mk (HK.out.below hbx hKl)
                              have s0 := HK8.out.cell haw (j := 0) (by omega)
                              have s1 := HK8.out.cell haw (j := 1) (by omega)
                              have s2 := HK8.out.cell haw (j := 2) (by omega)
                              have s3 := HK8.out.cell haw (j := 3) (by omega)
                              have s4 := HK8.out.cell haw (j := 4) (by omega)
                              have s5 := HK8.out.cell haw (j := 5) (by omega)
                              rw [Nat.add_zero] at s0
                              have z0 := HK8.out.frozen (a * 6)
                              have z1 := HK8.out.frozen (a * 6 + 1)
                              have z2 := HK8.out.frozen (a * 6 + 2)
                              have z3 := HK8.out.frozen (a * 6 + 3)
                              have z4 := HK8.out.frozen (a * 6 + 4)
                              have z5 := HK8.out.frozen (a * 6 + 5)
                              have HBX := Bx.mk hbx
                              clear hbx hb8)
              all_goals go_wp2_with fail
              all_goals
                go_roundw
                case rel =>
                  have hb6 := But.six6 (b := gf) w8 (a * 6) v
                  exact ⟨a + 1, _, by omega, by go_num, ⟨HK8.out.row haw v⟩, ⟨(HRr.out.below HBX.out hRl).keep (hb6.block g2 (Nat.lt_of_lt_of_le hRl HBX.out.size) (Ne.symm hne6))⟩, ⟨HST.out.1, HST.out.2, HSG'.out⟩, ⟨(HBl.out.trans (HBX.out.mono HBl.out.size)).trans (hb6.below (Nat.le_trans HBl.out.size HBX.out.size) hgf0)⟩⟩
                case measure => simp [intOf]; omega
            · obtain rfl : c = a := by omega
              go_wp2_with fail
              go_roundw
              case rel => exact ⟨c + 1, g2, cr2, delR N f, K, _, by omega, by go_num, rfl, rfl, ⟨HRr.out, HC2.out, hg20⟩, ⟨HK.out.own hgf0 HCF.out (Nat.le_refl _)⟩, ⟨fun k hk => by simp [Value.ownBlock] at hk; omega⟩, ⟨⟨HZ1.out, HBD.out, frm_done HQ.out.1 HQ.out.2.1, HQ.out.2.2⟩⟩, HBl⟩
              case measure => simp [intOf]; omega
        · obtain rfl : m = c := by omega
          have HFIN := HT.out
          have HOW := HF.out
          go_wp2_with fail
          go_ret
          exact ⟨_, F, rfl, HOW, HFIN.frm, ⟨R, HFIN.zer, HFIN.ge⟩, HB.out⟩
end Go.Proofs.Ytnbamjoadankmaa

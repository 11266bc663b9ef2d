/- The program's lattice: a basis with the columns of its pivots. -/
import Derived.Test.YtnbamjoadankmaaVF
import Derived.Test.YtnbamjoadankmaaLM
import Derived.Test.YtnbamjoadankmaaKZ
import Derived.Deep.RegionLaw
import Derived.Test.YtnbamjoadankmaaVJ
namespace Go.Proofs.Ytnbamjoadankmaa
open Go.RowKit D
theorem step_go_call {P : Program} {ops : Array Oper} {o : Oper} {a : Act} {w : World} {K : Act → World → Prop} {Q : Exit → Act → World → Prop} {E : Prop} (hg : o.guard = none) (f : FuncId) (args : Array Value) (v : Value)
    (hx : (execOp a.eval o).run P w = .ok (.enter f args) w) (hc : Calls P f args w fun e w' => e = .returned v ∧ w' = w) (h : K (a.put o.dst v) w) : if Region.wanted o (yielded ops a.tmps) = true then Oper.wp P o a w K Q else E := by
  have hw : Region.wanted o (yielded ops a.tmps) = true := by simp [Region.wanted, hg]
  rw [if_pos hw]
  unfold Oper.wp
  rw [hx]
  exact hc.mono (by rintro e w' ⟨rfl, rfl⟩; exact h)
theorem prod_pos {s : Nat → Int} {r : Nat} (h : ∀ k, k < r → 0 < s k) : 0 < pr s r := by
  induction r with
  | zero => show (0 : Int) < 1; decide
  | succ r ih => exact Int.mul_pos (ih fun k hk => h k (by omega)) (h r (by omega))
theorem prod_le {s : Nat → Int} {k r : Nat} (hk : k ≤ r) (h : ∀ k, k < r → 0 < s k) : pr s k ≤ pr s r := by
  induction r with
  | zero => rw [show k = 0 by omega]; exact Int.le_refl _
  | succ r ih =>
    by_cases e : k = r + 1
    · rw [e]; exact Int.le_refl _
    · have h1 := ih (by omega) (fun k hk => h k (by omega))
      have h2 := prod_pos (s := s) (r := r) (fun k hk => h k (by omega))
      have h3 := h r (by omega)
      have h4 : pr s r * 1 ≤ pr s r * s r := Int.mul_le_mul_of_nonneg_left (by omega) (by omega)
      show pr s k ≤ pr s r * s r
      omega
theorem pivs_bound {M O : Nat → Nat → Int} {n q : Nat} {p : Nat → Nat} (hv : VM M n) (h : Hf O q 6 p) (h1 : ∀ t, t < n → Sp O q 6 (M t)) (h2 : ∀ i, i < q → Sp M n 6 (O i)) : pr (fun k => O k (p k)) q ≤ 1000000000 := by
  obtain ⟨is, hl, hn, h0⟩ := h.rows_at h2
  have hd := h.pivots h1 hl hn
  have hb := vm_any hv (is := is) (js := (List.range q).map p) (by simp [hl]) hn (by
    intro j hj; obtain ⟨k, hk, rfl⟩ := List.mem_map.1 hj; exact h.lt k (List.mem_range.1 hk))
  have hx := Int.natAbs_dvd_natAbs.2 hd
  have := Nat.le_of_dvd (by omega) hx
  omega
theorem piv_bound {M O : Nat → Nat → Int} {n q : Nat} {p : Nat → Nat} (hv : VM M n) (h : Hf O q 6 p) (h1 : ∀ t, t < n → Sp O q 6 (M t)) (h2 : ∀ i, i < q → Sp M n 6 (O i)) : ∀ k, k < q → O k (p k) ≤ 1000000000 := fun k hk => by
  have a := pivs_bound hv h h1 h2
  have b := prod_le (s := fun k => O k (p k)) (k := k + 1) (r := q) (by omega) h.pos
  have c := prod_pos (s := fun k => O k (p k)) (r := k) (fun t ht => h.pos t (by omega))
  have d : (1 : Int) * O k (p k) ≤ pr (fun k => O k (p k)) k * O k (p k) := Int.mul_le_mul_of_nonneg_right (by omega) (by have := h.pos k hk; omega)
  have e : pr (fun k => O k (p k)) (k + 1) = pr (fun k => O k (p k)) k * O k (p k) := rfl
  omega
/-- The basis of a valid matrix. -/
theorem BS.of {w : World} {fo co : Option Addr} {fc cc n q : Nat} {M O : Nat → Nat → Int} {p : Nat → Nat} (hv : VM M n) (hq : q ≤ 6) (h : Hf O q 6 p) (h1 : ∀ t, t < n → Sp O q 6 (M t)) (h2 : ∀ i, i < q → Sp M n 6 (O i)) (hR : CV w fo q O) (hC : CN w co ((List.range q).map p)) (lf : q ≤ fc) (lc : q ≤ cc) : BS w fo fc co cc q O p where
  rows := hR
  cols := hC
  lf := lf
  lc := lc
  six := hq
  lt := h.lt
  pos := h.pos
  ent k j hk hj := by have := hf_entry hv hq h h1 h2 k j hk hj; omega
  piv := piv_bound hv h h1 h2
end Go.Proofs.Ytnbamjoadankmaa
/- The program's lattice: basisOf. -/
namespace Go.Proofs.Ytnbamjoadankmaa
open Go.RowKit D
theorem lbelow_new {w w' : World} {o : Obj} (h : Below (w.alloc o).heap.size (w.alloc o) w') : Below w.heap.size w w' := ((Below.refl _ w).alloc (Nat.le_refl _) o).trans (h.mono (by simp))
set_option maxRecDepth 100000 in
set_option maxHeartbeats 16000000 in
theorem basisOf_any (ao : Option Addr) (n c1 : Nat) (M : Nat → Nat → Int) (w : World) (hc1 : n ≤ c1) (hc2 : c1 ≤ maxLen) (hR : CV w ao n M) (hv : VM M n) :
    Calls Try.prog 89 #[.slice ao n c1] w fun e w' => ∃ (fo : Option Addr) (fc : Nat) (co : Option Addr) (cc q : Nat) (O : Nat → Nat → Int) (p : Nat → Nat), e = .returned (.tuple #[.agg #[.slice fo q fc, .slice co q cc], .int .i64 0]) ∧ Bx (BS w' fo fc co cc q O p) ∧ Bx (Hf O q 6 p ∧ (∀ t, t < n → Sp O q 6 (M t)) ∧ ∀ i, i < q → Sp M n 6 (O i)) ∧ fc ≤ maxLen ∧ Bx (Below w.heap.size w w') := by
  obtain ⟨ti, hti, hti2⟩ := Option.map_eq_some_iff.1 info_int
  simp only [Prod.mk.injEq] at hti2
  obtain ⟨hz0, hz1, hz2⟩ := hti2
  have HTI := Bx.mk hti
  have HV := Bx.mk hv
  have HR := Bx.mk (hR.keep ((Below.refl _ w).alloc (Nat.le_refl _) (.cells #[.slice none 0 0, .slice none 0 0] 100)))
  have HPR := Bx.mk (PB.new w (.slice none 0 0) (.slice none 0 0))
  clear hti hv hR
  go_enter Try.func89, Try.ntmps89
  go_wp2_with (go_at_call 21; refine ((hermite_pub ao n c1 M _ hc1 hc2 HR.out).mono (R' := fun e w' => ∃ (ho : Option Addr) (hc q : Nat) (O : Nat → Nat → Int) (p : Nat → Nat), e = .returned (.tuple #[.slice ho q hc, .int .i64 0]) ∧ q ≤ 6 ∧ q ≤ hc ∧ hc ≤ maxLen ∧ Bx (CV w' ho q O) ∧ Bx (Hf O q 6 p) ∧ Bx ((∀ t, t < n → Sp O q 6 (M t)) ∧ ∀ i, i < q → Sp M n 6 (O i)) ∧ Bx (Below (w.alloc (.cells #[.slice none 0 0, .slice none 0 0] 100)).heap.size (w.alloc (.cells #[.slice none 0 0, .slice none 0 0] 100)) w')) fun e w' ⟨h, hb⟩ => by
      rcases h with ⟨h, _⟩ | ⟨_, ho, hc, q, O, p, he, hcv, h1, h2, h6, hO, k1, k2⟩
      · exact absurd HV.out h
      · exact ⟨ho, hc, q, O, p, he, h6, h1, h2, ⟨hcv⟩, ⟨hO⟩, ⟨k1, k2⟩, ⟨hb⟩⟩).mono ?_; rintro e w2 ⟨ho, hc, q, O, p, rfl, hq6, hqc, hcm, HH, HO, HS, B2w⟩)
  have HB2 := Bx.mk (lbelow_new B2w.out)
  have hws : w.heap.size < w2.heap.size := by have := B2w.out.size; simp at this; omega
  have HPR2 := Bx.mk (HPR.out.keep (B2w.out.block w.heap.size (by simp)))
  clear B2w HPR HR
  go_loopw [18] (fun ix wr => ∃ (k : Nat) (cv : Value), k ≤ q ∧ ix = .int .i64 k ∧ Bx (PB wr w2.heap.size (.slice ho q hc) cv) ∧ Bx (wr.ownsRow (w2.heap.size + 1) 3 1 cv k (((List.range k).map p).map fun (j : Nat) => Value.int .i64 (j : Int))) ∧ Bx (Below w2.heap.size w2 wr) ∧ w2.heap.size + 1 ≤ wr.heap.size) (fun ix _ => q - (intOf ix).toNat)
  case atStart => exact ⟨0, _, by omega, rfl, ⟨PB.new w2 _ _⟩, ⟨World.ownsRow_nil _ _ _ _⟩, ⟨(Below.refl _ w2).alloc (Nat.le_refl _) _⟩, by simp⟩
  case round =>
    obtain ⟨k, cv, hk, rfl, HP, HOw, HB, hsz⟩ := hrel
    by_cases hlt : k < q
    · obtain ⟨b, o, rfl, hb, hcr⟩ := HH.out (by omega)
      obtain ⟨a0, a1, a2, a3, a4, a5⟩ := row_six hcr hb HB.out hlt
      have hp6 := HO.out.lt k hlt
      have PI := Bx.mk (fun W (h : ∀ j, j < 6 → W.cell? ⟨wr.heap.size, 0 + j, none⟩ = some (.int .i64 (O k j))) => indexf_nonzero wr.heap.size 0 6 (O k) W (Nat.le_refl _) h (p k) (by omega) (fun j hj => by have := HO.out.left k j hlt hj; omega) (fun _ => by have := HO.out.pos k hlt; omega))
      have HC := Bx.mk (box_cell wr (O k) 36)
      have p1 := HP.out.c1
      have p1' : (wr.alloc (.cells #[.int .i64 (O k 0), .int .i64 (O k 1), .int .i64 (O k 2), .int .i64 (O k 3), .int .i64 (O k 4), .int .i64 (O k 5)] 36)).cell? ⟨w2.heap.size, 1, none⟩ = some cv := (((Below.refl _ wr).alloc (Nat.le_refl _) _).cell (p := ⟨w2.heap.size, 1, none⟩) HP.out.lt).trans p1
      have p1x : ∀ x : Nat, ((wr.alloc (.cells #[.int .i64 (O k 0), .int .i64 (O k 1), .int .i64 (O k 2), .int .i64 (O k 3), .int .i64 (O k 4), .int .i64 (O k 5)] 36)).alloc (.cells #[.int .i64 (x : Int)] 3)).cell? ⟨w2.heap.size, 1, none⟩ = some cv := fun x => ((((Below.refl _ wr).alloc (Nat.le_refl _) _).alloc (by simp) _).cell (p := ⟨w2.heap.size, 1, none⟩) HP.out.lt).trans p1
      obtain ⟨x, hx⟩ : ∃ x, p k = x := ⟨_, rfl⟩
      have p1'' := p1x x
      clear p1x
      rw [hx] at PI hp6
      rw [if_pos hp6] at PI
      have HX := Bx.mk hx
      clear hx hcr
      go_wp2_with fail
      go_region_law (first
        | (refine step_go_call rfl 133 #[.slice (some ⟨wr.heap.size, 0, none⟩) 6 6, .func (.func 134) #[] #[]] (.int .i64 (x : Int)) (by simp [execOp, resolve, invoke, go_sem]) (PI.out _ (fun j hj => by rw [Nat.zero_add]; exact HC.out j hj)) ?_)
        | (refine step_append_fresh rfl (.tmp 23) (.tmp 26) 29 rfl (w2.heap.size + 1) 3 ti (.int .i64 0) 1 8 Try.underlying29 HTI.out hz0 hz1 hz2 rfl (by decide) cv k _ rfl (own_keep HOw.out fun q _ hqs => Below.block (by repeat (first | with_reducible exact Below.refl _ _ | (with_reducible refine Below.alloc ?_ ?side _; case side => (first | omega | (simp <;> omega))) | with_reducible apply below_drewN | with_reducible apply below_drew)) q hqs) _ 1 _ [.int .i64 (x : Int)] rfl rfl (by intro h; cases h) (by intro ad had; cases had; intro j u hu; match j, hu with | 0, hu => simp at hu; subst hu; simp [Addr.add, go_sem]) (by simp [Value.oneCell']) (by unfold maxLen; omega) (by omega) (by first | omega | (simp; omega)) ?_
           intro v8 w8 ho8 hg8 hf8
           rw [ints_snoc] at ho8
           obtain ⟨gm, cm, rfl, hgm0, hgms⟩ := own_form ho8 (by omega)
           have hk8 : ∀ k', k' < wr.heap.size → (∀ b, cv.ownBlock = some b → k' ≠ b) → w8.heap[k']? = wr.heap[k']? := fun k' hk' hne => (hg8.block k' (by simp; omega) (fun e => hne k' e.symm rfl)).trans (Below.block (show Below wr.heap.size wr _ from (by repeat (first | with_reducible exact Below.refl _ _ | (with_reducible refine Below.alloc ?_ ?side _; case side => (first | omega | (simp <;> omega))) | with_reducible apply below_drewN | with_reducible apply below_drew))) k' hk')
           have HP8 := HP.out.keep (hk8 _ HP.out.lt (fun b hb => by have := (own_lt HOw.out b hb).1; omega))
           have HB8 : Below w2.heap.size w2 w8 := Below.grown (HB.out.trans ((show Below wr.heap.size wr _ from (by repeat (first | with_reducible exact Below.refl _ _ | (with_reducible refine Below.alloc ?_ ?side _; case side => (first | omega | (simp <;> omega))) | with_reducible apply below_drewN | with_reducible apply below_drew))).mono HB.out.size)) hg8 (by simp; omega) (fun b hb => by have := (own_lt HOw.out b hb).1; omega)
           have hs8 := hg8.size
           have p8 := HP8.c1
           have f8 := HP8.f 1))
      all_goals go_wp2_with fail
      all_goals
        have HO8 : (w8.setCell ⟨w2.heap.size, 1, none⟩ (.slice (some ⟨gm, 0, none⟩) (k + 1) cm)).ownsRow (w2.heap.size + 1) 3 1 (.slice (some ⟨gm, 0, none⟩) (k + 1) cm) (k + 1) (((List.range (k + 1)).map p).map fun (j : Nat) => Value.int .i64 (j : Int)) := by
          rw [show (List.range (k + 1)).map p = (List.range k).map p ++ [x] by rw [List.range_succ, List.map_append, List.map_singleton, HX.out]]
          exact ownsRow_setCell_below ho8 (a := ⟨w2.heap.size, 1, none⟩) (Nat.lt_succ_self _) _
        exact ⟨⟨k + 1, .slice (some ⟨gm, 0, none⟩) (k + 1) cm, by omega, by go_num, ⟨by first | exact HP8.set1 _ | exact (HP8.set1 _).drew⟩, ⟨HO8⟩, ⟨by first | exact HB8.setCell (p := ⟨w2.heap.size, 1, none⟩) (Nat.le_refl _) _ | exact below_drew (HB8.setCell (p := ⟨w2.heap.size, 1, none⟩) (Nat.le_refl _) _)⟩, by simp [World.setCell, World.drew] at hs8 ⊢; omega⟩, by simp [intOf]; omega⟩
    · obtain rfl : k = q := by omega
      have q0 := HP.out.c0
      have q1 := HP.out.c1
      have HPW := HPR2.out.keep (HB.out.block w.heap.size hws)
      have r0 := HPW.c0
      have r1 := HPW.c1
      have g0 := HPW.f 0
      have g1 := HPW.f 1
      have HOf : ((wr.setCell ⟨w.heap.size, 0, none⟩ (.slice ho k hc)).setCell ⟨w.heap.size, 1, none⟩ cv).ownsRow (w2.heap.size + 1) 3 1 cv k (((List.range k).map p).map fun (j : Nat) => Value.int .i64 (j : Int)) :=
        ownsRow_setCell_below (ownsRow_setCell_below HOw.out (a := ⟨w.heap.size, 0, none⟩) (by show w.heap.size < _; omega) _) (a := ⟨w.heap.size, 1, none⟩) (by show w.heap.size < _; omega) _
      obtain ⟨co, cc, hcv, hlc, hcm2, hcn⟩ := cn_of_owns HOf
      simp only [List.length_map, List.length_range] at hcv hlc
      subst hcv
      have HR2 : CV ((wr.setCell ⟨w.heap.size, 0, none⟩ (.slice ho k hc)).setCell ⟨w.heap.size, 1, none⟩ (.slice co k cc)) ho k O := fun hk0 => by
        obtain ⟨b, o, e, hb, hcc⟩ := HH.out hk0
        have hne : b ≠ w.heap.size := fun e => by
          subst e
          have h5 := hcc 0 5 hk0 (by omega)
          have h6 : w2.heap[w.heap.size]? = _ := HPR2.out
          simp only [World.cell?, h6] at h5
          rw [Array.getElem?_eq_none (by simp <;> omega)] at h5
          cases h5
        refine ⟨b, o, e, by simp [World.setCell]; exact Nat.lt_of_lt_of_le hb HB.out.size, fun i j hi hj => ?_⟩
        rw [World.cell?_setCell_other _ _ _ _ (fun c => hne (congrArg Addr.block c).symm), World.cell?_setCell_other _ _ _ _ (fun c => hne (congrArg Addr.block c).symm)]
        exact (HB.out.cell (p := ⟨b, o + i * 6 + j, none⟩) hb).trans (hcc i j hi hj)
      have HBS := Bx.mk (BS.of HV.out hq6 HO.out HS.out.1 HS.out.2 HR2 hcn hqc hlc)
      have HBF := Bx.mk (((HB2.out.trans (HB.out.mono (Nat.le_of_lt hws))).setCell (p := ⟨w.heap.size, 0, none⟩) (Nat.le_refl _) (.slice ho k hc)).setCell (p := ⟨w.heap.size, 1, none⟩) (Nat.le_refl _) (.slice co k cc))
      clear HOf hcn HR2 HH HOw
      go_wp2_with fail
      refine bodyPost_ret_by (v := .tuple #[.agg #[.slice ho k hc, .slice co k cc], .int .i64 0]) (by simp [results, Try.results89, go_sem, r0, r1]) rfl ?_
      exact ⟨ho, hc, co, cc, k, O, p, rfl, HBS, ⟨HO.out, HS.out.1, HS.out.2⟩, hcm, HBF⟩
end Go.Proofs.Ytnbamjoadankmaa
/- The program's lattice: basisFor, and basisOf where the rows are not valid. -/
namespace Go.Proofs.Ytnbamjoadankmaa
open Go.RowKit D
/-- A valid vector. -/
def VV (v : Nat → Int) : Prop := ∀ j, j < 6 → -1000000000 ≤ v j ∧ v j ≤ 1000000000
set_option maxRecDepth 100000 in
set_option maxHeartbeats 8000000 in
theorem basisOf_bad (ao : Option Addr) (n c1 : Nat) (M : Nat → Nat → Int) (w : World) (hc1 : n ≤ c1) (hc2 : c1 ≤ maxLen) (hR : CV w ao n M) (hv : ¬ VM M n) :
    Calls Try.prog 89 #[.slice ao n c1] w fun e w' => e = .returned (.tuple #[.agg #[.slice none 0 0, .slice none 0 0], .int .i64 1]) ∧ Below w.heap.size w w' := by
  have HV := Bx.mk hv
  have HR := Bx.mk (hR.keep ((Below.refl _ w).alloc (Nat.le_refl _) (.cells #[.slice none 0 0, .slice none 0 0] 100)))
  have HPR := Bx.mk (PB.new w (.slice none 0 0) (.slice none 0 0))
  clear hv hR
  go_enter Try.func89, Try.ntmps89
  go_wp2_with (go_at_call 21; refine ((hermite_pub ao n c1 M _ hc1 hc2 HR.out).mono (R' := fun e w' => e = .returned (.tuple #[.slice none 0 0, .int .i64 1]) ∧ Bx (Below (w.alloc (.cells #[.slice none 0 0, .slice none 0 0] 100)).heap.size (w.alloc (.cells #[.slice none 0 0, .slice none 0 0] 100)) w')) fun e w' ⟨h, hb⟩ => by
      rcases h with ⟨_, h⟩ | ⟨h, _⟩
      · exact ⟨h, ⟨hb⟩⟩
      · exact absurd h HV.out).mono ?_; rintro e w2 ⟨rfl, B2w⟩)
  have HB2 := Bx.mk (lbelow_new B2w.out)
  have hws : w.heap.size < w2.heap.size := by have := B2w.out.size; simp at this; omega
  have HPR2 := Bx.mk (HPR.out.keep (B2w.out.block w.heap.size (by simp)))
  clear B2w HPR HR
  go_loopw [18] (fun ix wr => ix = .int .i64 0 ∧ Bx (PB wr w2.heap.size (.slice none 0 0) (.slice none 0 0)) ∧ Bx (Below w2.heap.size w2 wr)) (fun ix _ => 1 - (intOf ix).toNat)
  case atStart => exact ⟨rfl, ⟨PB.new w2 _ _⟩, ⟨(Below.refl _ w2).alloc (Nat.le_refl _) _⟩⟩
  case round =>
    obtain ⟨rfl, HP, HB⟩ := hrel
    have q0 := HP.out.c0
    have q1 := HP.out.c1
    have HPW := HPR2.out.keep (HB.out.block w.heap.size hws)
    have r0 := HPW.c0
    have r1 := HPW.c1
    have g0 := HPW.f 0
    have g1 := HPW.f 1
    have HBF := Bx.mk (((HB2.out.trans (HB.out.mono (Nat.le_of_lt hws))).setCell (p := ⟨w.heap.size, 0, none⟩) (Nat.le_refl _) (.slice none 0 0)).setCell (p := ⟨w.heap.size, 1, none⟩) (Nat.le_refl _) (.slice none 0 0))
    go_wp2_with fail
    refine bodyPost_ret_by (v := .tuple #[.agg #[.slice none 0 0, .slice none 0 0], .int .i64 1]) (by simp [results, Try.results89, go_sem, r0, r1]) rfl ?_
    exact ⟨rfl, HBF.out⟩
end Go.Proofs.Ytnbamjoadankmaa

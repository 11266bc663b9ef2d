/- slices.Clone; replaced: the minors with a column in the place of another one. -/
import Derived.Test.YtnbamjoadankmaaKM
import Derived.Test.YtnbamjoadankmaaKK
import Derived.Test.YtnbamjoadankmaaMN
import Derived.Test.YtnbamjoadankmaaR6
import Derived.Test.YtnbamjoadankmaaR13
namespace Go.Proofs.Ytnbamjoadankmaa
open Go.RowKit D
theorem not_nil (a : Addr) (n c : Nat) (w : World) : (binOp .eql 29 (.slice (some a) n c) (.slice none 0 0)).run Try.prog w = .ok (.bool false) w := by
  have h := Try.underlying29
  have e : ∀ d, (Op.equalIn (d + 1) 29 (.slice (some a) n c) (.slice none 0 0)).run Try.prog w = .ok false w := fun d => by simp [Op.equalIn, run_underlying h]
  simp only [binOp]
  simp [Op.equal, Op.maxDepth, e 9999]
set_option maxHeartbeats 4000000 in
theorem clone_any (ao : Option Addr) (c1 n : Nat) (l : List Nat) (w : World) (hl : l.length = n) (hk : 0 < n) (hn : n ≤ 1000) (hc1 : n ≤ c1) (hA : CN w ao l) :
    Calls Try.prog 160 #[.slice ao n c1] w fun e w' => ∃ v, e = .returned v ∧ w'.ownsRow w.heap.size 3 1 v n (l.map fun (j : Nat) => Value.int .i64 (j : Int)) ∧ Below w.heap.size w w' := by
  obtain ⟨ti, hti, hti2⟩ := Option.map_eq_some_iff.1 info_int
  simp only [Prod.mk.injEq] at hti2
  obtain ⟨hz0, hz1, hz2⟩ := hti2
  obtain ⟨b, o, rfl, hb, hc⟩ := hA (by intro e; subst e; simp at hl; omega)
  have HL := Bx.mk hl
  have HC := Bx.mk hc
  have hnil := not_nil ⟨b, o, none⟩ n c1
  clear hA hc hl
  go_enter Try.func160, Try.ntmps160
  go_wp2_with (at_builtin; refine wpList_append_any rfl (.tmp 5) (.tmp 6) 29 rfl w.heap.size 3 ti (.int .i64 0) 1 8 Try.underlying29 hti hz0 hz1 hz2 rfl (by decide) _ 0 [] rfl (owns_empty (by first | omega | (simp; omega)) (by show (Array.push w.heap _)[w.heap.size]? = _; simp)) _ n _ (l.map fun (j : Nat) => Value.int .i64 (j : Int)) rfl ?c1 ?c2 ?c3 int_cells ?c4 ?c5 ?c6 ?_)
  case c1 => have := HL.out; simpa using this
  case c2 => intro h; cases h
  case c3 =>
    intro ad had j u hu
    have := take_cells (W := w.alloc (.cells #[] 3)) (t := n) (l := l) ((Below.refl _ w).alloc (Nat.le_refl _) _) hb HC.out ad had j u
    rw [List.take_of_length_le (by have := HL.out; omega)] at this
    exact this hu
  case c4 => unfold maxLen; omega
  case c5 => omega
  case c6 => first | omega | (simp; done) | (simp; omega)
  intro v1 w1 ho1 hg1
  have HB1 : Bx (Below w.heap.size w w1) := ⟨Below.grown ((Below.refl _ w).alloc (Nat.le_refl _) _) hg1 (by first | omega | (simp; done) | (simp; omega)) (by intro k hk; have hk' : some w.heap.size = some k := hk; simp at hk'; omega)⟩
  have HO := Bx.mk ho1
  clear ho1 hg1
  go_wp2_with fail
  go_ret
  exact ⟨v1, rfl, by have := HO.out; simpa using this, HB1.out⟩
set_option maxRecDepth 100000 in
set_option maxHeartbeats 8000000 in
theorem replaced_any (ao bo co : Option Addr) (n c1 c2 c3 r i : Nat) (M : Nat → Nat → Int) (is cs : List Nat) (w : World) (hv : VM M n) (hc1 : n ≤ c1) (h1 : ∀ i ∈ is, i < n) (h2 : ∀ j ∈ cs, j < 6) (hl2 : is.length = r) (hl3 : cs.length = r) (hr : r ≤ 6) (hc2 : r ≤ c2) (hc3 : r ≤ c3) (hi : i < r) (hR : CV w ao n M) (hI : CN w bo is) (hJ : CN w co cs) :
    Calls Try.prog 153 #[.slice ao n c1, .slice bo r c2, .slice co r c3, .int .i64 i] w fun e w' => e = .returned (PV fun t => mn (is.map M) (cs.set i t)) ∧ Below w.heap.size w w' := by
  have hn8 := hv.1
  have HM : Bx (∀ t, t < 6 → (mn (is.map M) (cs.set i t)).natAbs ≤ 1000000000) := ⟨fun t ht => Nat.le_trans (mn_set_vol (by omega) h1 h2 ht) hv.2.2⟩
  have HC2 := Bx.mk (box_cell2 w (fun _ => 0) (fun _ => 0) 36)
  have hB0 : Below w.heap.size w ((w.alloc (.cells #[.int .i64 0, .int .i64 0, .int .i64 0, .int .i64 0, .int .i64 0, .int .i64 0] 36)).alloc (.cells #[.int .i64 0, .int .i64 0, .int .i64 0, .int .i64 0, .int .i64 0, .int .i64 0] 36)) := ((Below.refl _ w).alloc (Nat.le_refl _) _).alloc (by simp) _
  have CA := Bx.mk (clone_any co c3 r cs _ hl3 (by omega) (by omega) hc3 (hJ.keep hB0))
  have HRI := Bx.mk (And.intro hR hI)
  have HL := Bx.mk (And.intro hl2 hl3)
  have H12 := Bx.mk (And.intro h1 h2)
  have HB0 := Bx.mk hB0
  clear hB0 hR hI hJ hl2 hl3 h1 h2 hv
  go_enter Try.func153, Try.ntmps153
  go_wp2_with (go_at_call 160; refine CA.out.mono ?_; clear CA; rintro e w2 ⟨v, rfl, ho, hb⟩
               obtain ⟨g, cap, rfl, hg0, hgs⟩ := own_form ho (by omega)
               have HO := Bx.mk ho
               have HB2 := Bx.mk hb
               clear ho hb)
  have hw2 : w.heap.size + 2 ≤ g := by simp at hg0; omega
  have HBw : Bx (Below w.heap.size w w2) := ⟨HB0.out.trans (HB2.out.mono HB0.out.size)⟩
  have HX1 : Bx (∀ t, t < 6 → w2.cell? ⟨w.heap.size + 1, t, none⟩ = some (.int .i64 0) ∧ w2.frozen? ⟨w.heap.size + 1, t, none⟩ = false) := ⟨fun t ht => ⟨by rw [HB2.out.cell (p := ⟨w.heap.size + 1, t, none⟩) (by simp)]; exact HC2.out.2 t ht, by rw [HB2.out.frozen (p := ⟨w.heap.size + 1, t, none⟩) (by simp)]; simp [go_sem]⟩⟩
  have HX0 : Bx (∀ t, t < 6 → w2.cell? ⟨w.heap.size, t, none⟩ = some (.int .i64 0) ∧ w2.frozen? ⟨w.heap.size, t, none⟩ = false) := ⟨fun t ht => ⟨by rw [HB2.out.cell (p := ⟨w.heap.size, t, none⟩) (by simp; omega)]; exact HC2.out.1 t ht, by rw [HB2.out.frozen (p := ⟨w.heap.size, t, none⟩) (by simp; omega)]; simp [go_sem]⟩⟩
  go_loopw [14] (fun ix wr => ∃ (k : Nat) (L : List Nat), k ≤ 6 ∧ ix = .int .i64 k ∧ Bx (wr.ownsRow (w.heap.size + 2) 3 1 (.slice (some ⟨g, 0, none⟩) r cap) r (L.map fun (j : Nat) => Value.int .i64 (j : Int))) ∧ Bx (∀ x, L.set i x = cs.set i x) ∧ Bx (∀ t, t < 6 → wr.cell? ⟨w.heap.size + 1, t, none⟩ = some (.int .i64 (if t < k then mn (is.map M) (cs.set i t) else 0)) ∧ wr.frozen? ⟨w.heap.size + 1, t, none⟩ = false) ∧ Bx (∀ t, t < 6 → wr.cell? ⟨w.heap.size, t, none⟩ = some (.int .i64 0) ∧ wr.frozen? ⟨w.heap.size, t, none⟩ = false) ∧ Bx (Below w.heap.size w wr)) (fun ix _ => 6 - (intOf ix).toNat)
  case atStart => exact ⟨0, cs, by omega, rfl, ⟨by have := HO.out; simpa using this⟩, ⟨fun _ => rfl⟩, HX1, HX0, HBw⟩
  case round =>
    clear HO HX1 HX0 HBw HB2 HC2
    obtain ⟨k, L, hk, rfl, HO, HS, HX1, HX0, HB⟩ := hrel
    by_cases hlt : k < 6
    · have hL : L.length = r := by have := HO.out.1; simpa using this
      have hcell := World.ownsRow.cellAt HO.out i (by omega)
      have hfr := World.ownsRow.frozenAt HO.out i
      have hst := (World.ownsRow.stored HO.out i (.int .i64 (k : Int))).1
      obtain ⟨y, hy⟩ : ∃ y, (L.map fun (j : Nat) => Value.int .i64 (j : Int))[i]? = some y := ⟨_, List.getElem?_eq_getElem (by simp; omega)⟩
      rw [hy] at hcell
      rw [← List.map_set] at hst
      have HST := Bx.mk hst
      have hgl : g < wr.heap.size := by
        rcases HO.out.2 with ⟨e, _⟩ | ⟨g', _, _, e, _, hgx, _⟩
        · cases e
        · cases e; exact (Array.getElem?_eq_some_iff.1 hgx).1
      have hB2 : Below w.heap.size w (wr.setCell ⟨g, i, none⟩ (.int .i64 (k : Int))) := HB.out.setCell (p := ⟨g, i, none⟩) (show w.heap.size ≤ g by omega) _
      obtain ⟨ao', cc, e', hll, -, hcn⟩ := cn_of_owns hst
      simp only [Value.slice.injEq] at e'
      obtain ⟨rfl, hlen, rfl⟩ := e'
      rw [HS.out k] at hcn
      have PM := pminor_any ao bo (some ⟨g, 0, none⟩) n c1 c2 cap M is (cs.set i k) (wr.setCell ⟨g, i, none⟩ (.int .i64 (k : Int))) (by omega) hc1 H12.out.1 (fun j hj => (List.mem_or_eq_of_mem_set hj).elim (H12.out.2 j) (fun e => by omega)) (by rw [HL.out.1]; exact hc2) (by have := HL.out.2; simp at hll; simp; omega) (by rw [HL.out.1]; exact hr) (by have := HL.out.2; simp; omega) (HRI.out.1.keep hB2) (HRI.out.2.keep hB2) hcn
      rw [HL.out.1, List.length_set, HL.out.2] at PM
      obtain ⟨x, hx⟩ : ∃ x, mn (is.map M) (cs.set i k) = x := ⟨_, rfl⟩
      have hxb := HM.out k hlt
      rw [hx] at PM hxb
      rw [show wrap64 x = x from by unfold wrap64; omega] at PM
      have PM' := Bx.mk (PM.mono (R' := fun e w' => e = .returned (.int .i64 x) ∧ Bx (Below (wr.setCell ⟨g, i, none⟩ (.int .i64 (k : Int))).heap.size (wr.setCell ⟨g, i, none⟩ (.int .i64 (k : Int))) w') ∧ w'.cell? ⟨w.heap.size + 1, k, none⟩ = some (.int .i64 0) ∧ w'.frozen? ⟨w.heap.size + 1, k, none⟩ = false) fun e w' h => ⟨h.1, ⟨h.2⟩, by
        rw [h.2.cell (p := ⟨w.heap.size + 1, k, none⟩) (by simp [World.setCell]; omega), World.cell?_setCell_other _ _ _ _ (by first | (simp; done) | (simp; omega))]
        have := (HX1.out k hlt).1; rwa [if_neg (Nat.lt_irrefl k)] at this, by
        rw [h.2.frozen (p := ⟨w.heap.size + 1, k, none⟩) (by simp [World.setCell]; omega), World.frozen?_setCell]; exact (HX1.out k hlt).2⟩)
      have HXE := Bx.mk hx
      have HSZ := Bx.mk hB2
      clear PM hst hcn hll hxb hx hB2 hy hlen
      go_wp2_with (go_at_call 121; refine PM'.out.mono ?_; clear PM'; rintro e w3 ⟨rfl, HB3, e1, e2⟩)
      go_roundw
      case rel =>
        have keep : ∀ b t, b < wr.heap.size → b ≠ g → w3.cell? ⟨b, t, none⟩ = wr.cell? ⟨b, t, none⟩ ∧ w3.frozen? ⟨b, t, none⟩ = wr.frozen? ⟨b, t, none⟩ := fun b t hb hne => ⟨by
          rw [HB3.out.cell (p := ⟨b, t, none⟩) (by simpa [World.setCell] using hb), World.cell?_setCell_other _ _ _ _ (by first | (simp; done) | (simp; omega))], by
          rw [HB3.out.frozen (p := ⟨b, t, none⟩) (by simpa [World.setCell] using hb), World.frozen?_setCell]⟩
        have hws := HB.out.size
        refine ⟨k + 1, L.set i k, by omega, by go_num, ⟨?_⟩, ⟨fun x => by rw [List.set_set]; exact HS.out x⟩, ⟨cells_set (fun t ht => ⟨(keep _ _ (by omega) (by omega)).1.trans (HX1.out t ht).1, (keep _ _ (by omega) (by omega)).2.trans (HX1.out t ht).2⟩) hlt (h := fun t => if t < k + 1 then mn (is.map M) (cs.set i t) else 0) (by simp only [if_pos (Nat.lt_succ_self k)]; exact HXE.out.symm) fun t ht hne => by
            by_cases z : t < k
            · simp only [if_pos z, if_pos (show t < k + 1 by omega)]
            · simp only [if_neg z, if_neg (show ¬ t < k + 1 by omega)]⟩, ⟨fun t ht => ⟨(World.cell?_setCell_other w3 _ _ _ (by simp)).trans ((keep _ _ (by omega) (by omega)).1.trans (HX0.out t ht).1), (World.frozen?_setCell w3 _ _ _).trans ((keep _ _ (by omega) (by omega)).2.trans (HX0.out t ht).2)⟩⟩, ⟨((HSZ.out.trans (HB3.out.mono HSZ.out.size))).setCell (p := ⟨w.heap.size + 1, k, none⟩) (by simp) _⟩⟩
        refine own_keep HST.out fun q hq hqs => ?_
        have hqg : q = g := by simpa [Value.ownBlock] using hq.symm
        subst hqg
        rw [Below.heap_setCell _ _ _ _ (by simp; omega)]
        exact HB3.out.block q hqs
      case measure => simp [intOf]; omega
    · obtain rfl : 6 = k := by omega
      obtain ⟨v, hv⟩ : ∃ v : Nat → Int, (fun t => mn (is.map M) (cs.set i t)) = v := ⟨_, rfl⟩
      have hvt : ∀ t, mn (is.map M) (cs.set i t) = v t := fun t => by rw [← hv]
      have f0 := (HX1.out 0 (by omega)).1
      have f1 := (HX1.out 1 (by omega)).1
      have f2 := (HX1.out 2 (by omega)).1
      have f3 := (HX1.out 3 (by omega)).1
      have f4 := (HX1.out 4 (by omega)).1
      have f5 := (HX1.out 5 (by omega)).1
      simp only [Nat.reduceLT, reduceIte, hvt] at f0 f1 f2 f3 f4 f5
      have g0 := (HX0.out 0 (by omega)).1
      have g1 := (HX0.out 1 (by omega)).1
      have g2 := (HX0.out 2 (by omega)).1
      have g3 := (HX0.out 3 (by omega)).1
      have g4 := (HX0.out 4 (by omega)).1
      have g5 := (HX0.out 5 (by omega)).1
      have k0 := (HX0.out 0 (by omega)).2
      have k1 := (HX0.out 1 (by omega)).2
      have k2 := (HX0.out 2 (by omega)).2
      have k3 := (HX0.out 3 (by omega)).2
      have k4 := (HX0.out 4 (by omega)).2
      have k5 := (HX0.out 5 (by omega)).2
      have hB := HB.out
      have HV := Bx.mk hv
      clear hv hvt
      go_wp2_with fail
      refine bodyPost_ret_by (v := PV v) (by simp [results, Try.results153, go_sem, g0, g1, g2, g3, g4, g5]) rfl ?_
      exact ⟨by rw [HV.out], (by repeat (first | with_reducible exact hB | (with_reducible refine Below.setCell ?_ ?side _; case side => (first | omega | (simp <;> omega)))))⟩
end Go.Proofs.Ytnbamjoadankmaa
/- An append that leaves the older slice as it reads. -/
namespace Go.Proofs.Ytnbamjoadankmaa
open Go.RowKit D
theorem append_keeps {P : Program} {w w' : World} {v' : Value} (base : Nat) (t ty e : TypeId) (i : TypeInfo) (z : Value) (ht : P.underlying t = some (.slice e)) (hi : P.info? e = some i) (hz : i.zero = some z)
    (v : Value) (n : Nat) (xs : List Value) (hown : w.ownsRow base e i.size v n xs) (a : Addr) (m c : Nat) (news : List Value) (hl : news.length = m * i.size)
    (hnews : ∀ j u, news[j]? = some u → w.cell? (a.add j) = some u) (h1 : ∀ u ∈ news, u.oneCell' = true) (h63 : n + m ≤ maxLen) (hbytes : (n + m) * i.bytes ≤ 140737488355328)
    (hrun : (Builtin.append_ #[t, t] ty #[v, .slice (some a) m c]).run P w = .ok v' w') (h2 : w'.ownsRow base e i.size v' (n + m) (xs ++ news)) : w'.ownsRow base e i.size v n xs := by
  have hsmall : n + m ≤ 9223372036854775807 := by simp only [maxLen] at h63; omega
  rcases hown.2 with ⟨rfl, rfl⟩ | ⟨g, cap, cur, rfl, hbg, hg, hnc, hcm, hcs, htake⟩
  · exact ⟨hown.1, .inl ⟨rfl, rfl⟩⟩
  · by_cases hroom : n + m ≤ cap
    · have hfit : n * i.size + news.length ≤ cur.size := by rw [hl, hcs, ← Nat.add_mul]; exact Nat.mul_le_mul_right _ hroom
      have hr := run_append_room (P := P) w t ty e i ht hi g n cap cur hg a m c news hl hnews h1 hroom hfit
      rw [hr] at hrun
      injection hrun with e1 e2
      subst e1
      rcases h2.2 with ⟨e, _⟩ | ⟨g', cap', cur', e, hb', hg', hn', hm', hs', ht'⟩
      · cases e
      · simp only [Value.slice.injEq, Option.some.injEq, Addr.mk.injEq, and_true, true_and] at e
        obtain ⟨rfl, rfl⟩ := e
        refine ⟨hown.1, .inr ⟨g, cap, cur', rfl, hbg, hg', hnc, hcm, hs', ?_⟩⟩
        have h3 : (cur'.toList.take ((n + m) * i.size)).take (n * i.size) = (xs ++ news).take (n * i.size) := by rw [ht']
        rw [List.take_take, Nat.min_eq_left (Nat.mul_le_mul_right _ (by omega))] at h3
        rw [h3, ← hown.1]
        exact List.take_left
    · have holds : ∀ j u, xs[j]? = some u → w.cell? ((⟨g, 0, none⟩ : Addr).add j) = some u := hown.cells (g := g) rfl
      have hr := run_append_grow (P := P) w t ty e i z ht hi hz ⟨g, 0, none⟩ n cap xs hown.1 holds a m c news hl hnews (by omega) (by omega) (growslice_fits (by omega) hbytes)
      rw [hr] at hrun
      injection hrun with e1 e2
      subst e2
      exact own_keep hown fun k hk hks => Below.heap_alloc w.drew _ _ hks
theorem wpList_append_two {P : Program} {w : World} {ops : Array Oper} {rest : List Oper} {o : Oper} {a : Act} {Q : Exit → Act → World → Prop} (hgd : o.guard = none) (s x : Operand) (t : TypeId)
    (ho : o.op = .call { callee := .builtin .append, args := #[s, x], argTypes := #[t, t] })
    (base : Nat) (e : TypeId) (i : TypeInfo) (z : Value) (size bytes : Nat) (ht : P.underlying t = some (.slice e)) (hi : P.info? e = some i) (hz : i.zero = some z)
    (hsize : i.size = size) (hby : i.bytes = bytes) (hzs : z.cells.size = size) (hsz : 0 < size)
    (v : Value) (n : Nat) (xs : List Value) (hs : a.eval s = v) (hown : w.ownsRow base e size v n xs)
    (ad : Addr) (m c : Nat) (news : List Value) (hx : a.eval x = .slice (some ad) m c) (hl : news.length = m * size) (hnews : ∀ j u, news[j]? = some u → w.cell? (ad.add j) = some u) (h1 : ∀ u ∈ news, u.oneCell' = true)
    (h63 : n + m ≤ maxLen) (hbytes : (n + m) * bytes ≤ 140737488355328) (hbase : base ≤ w.heap.size)
    (h : ∀ v' w', w'.ownsRow base e size v' (n + m) (xs ++ news) → w'.ownsRow base e size v n xs → w.grownBy w' v.ownBlock → (∀ k, v'.ownBlock = some k → v.ownBlock = some k ∨ w.heap.size ≤ k) → wpList P ops Q rest (a.put o.dst v') w') : wpList P ops Q (o :: rest) a w := by
  refine wpList_plain hgd fun K hK => ?_
  obtain ⟨v', w', hrun, h2, h3, _⟩ := run_append_own (P := P) w base t o.type e i z size bytes ht hi hz hsize hby hzs hsz v n xs hown ad m c news hl hnews h1 h63 hbytes hbase
  have hf := append_fresh base t o.type e i z ht hi hz v n xs (by rw [hsize]; exact hown) ad m c news (by rw [hsize]; exact hl) hnews h1 h63 (by rw [hby]; exact hbytes) hrun
  have hk := append_keeps base t o.type e i z ht hi hz v n xs (by rw [hsize]; exact hown) ad m c news (by rw [hsize]; exact hl) hnews h1 h63 (by rw [hby]; exact hbytes) hrun (by rw [hsize]; exact h2)
  rw [hsize] at hk
  unfold Oper.wp
  simp [execOp, ho, resolve, invoke, builtin, hs, hx, hrun, Result.andThen]
  exact hK _ _ (h v' w' h2 hk h3 hf)
/-- Any minor of a valid matrix. -/
theorem vm_any {M : Nat → Nat → Int} {n : Nat} (hv : VM M n) {is js : List Nat} (hl : is.length = js.length) (hn : ∀ i ∈ is, i < n) (hm : ∀ j ∈ js, j < 6) : (mn (is.map M) js).natAbs ≤ 1000000000 := by
  by_cases h1 : is.Nodup
  · by_cases h2 : js.Nodup
    · exact Nat.le_trans (mn_vol h1 hn h2 hm) hv.2.2
    · rw [mn_cols_dup h2 _ (by simpa using hl)]; omega
  · rw [mn_dup (fun x => h1 ((List.pairwise_map.1 x).imp fun hab e => hab (by rw [e])))]; omega
/-- Ints behind a list of indices. -/
theorem ints_snoc (l : List Nat) (x : Nat) : (l.map fun (j : Nat) => Value.int .i64 (j : Int)) ++ [.int .i64 (x : Int)] = (l ++ [x]).map fun (j : Nat) => Value.int .i64 (j : Int) := by simp
theorem ne_block {w : World} {b1 b2 n m s1 s2 : Nat} {e1 e2 : TypeId} {u v : Value} {xs ys : List Value} (h : w.ownsRow b1 e1 s1 u n xs) (k : w.ownsRow b2 e2 s2 v m ys) (he : e1 ≠ e2) : ∀ q, u.ownBlock = some q → v.ownBlock ≠ some q := by
  intro q hq hv
  rcases h.2 with ⟨rfl, _⟩ | ⟨g, _, _, rfl, _, hg, _⟩
  · simp [Value.ownBlock] at hq
  · rcases k.2 with ⟨rfl, _⟩ | ⟨g', _, _, rfl, _, hg', _⟩
    · simp [Value.ownBlock] at hv
    · simp [Value.ownBlock] at hq hv; subst hq; subst hv; rw [hg] at hg'; cases hg'; exact he rfl
theorem own_lt {w : World} {base n s : Nat} {e : TypeId} {v : Value} {xs : List Value} (h : w.ownsRow base e s v n xs) : ∀ k, v.ownBlock = some k → base ≤ k ∧ k < w.heap.size := by
  intro k hk
  rcases h.2 with ⟨rfl, _⟩ | ⟨g, _, _, rfl, hb, hg, _⟩
  · simp [Value.ownBlock] at hk
  · simp [Value.ownBlock] at hk; subst hk; exact ⟨hb, (Array.getElem?_eq_some_iff.1 hg).1⟩
end Go.Proofs.Ytnbamjoadankmaa

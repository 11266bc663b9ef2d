/- build: the frame of a matrix. -/
import Derived.Test.YtnbamjoadankmaaKP
namespace Go.Proofs.Ytnbamjoadankmaa
open Go.RowKit D
theorem info_rows2 : (Try.prog.info? 36).map (fun i => (i.zero, i.size, i.bytes)) = some (some (.agg #[.int .i64 0, .int .i64 0, .int .i64 0, .int .i64 0, .int .i64 0, .int .i64 0]), 6, 48) := by kernel_rfl
/-- A frame in memory. -/
def FB (W : World) (b : Nat) (u x v : Value) : Prop := W.heap[b]? = some (.cells #[u, x, v] 96 (0, 0))
theorem FB.lt {W : World} {b : Nat} {u x v : Value} (h : FB W b u x v) : b < W.heap.size := (Array.getElem?_eq_some_iff.1 h).1
theorem FB.c0 {W : World} {b : Nat} {u x v : Value} (h : FB W b u x v) : W.cell? ⟨b, 0, none⟩ = some u := by simp [World.cell?, show W.heap[b]? = _ from h]
theorem FB.c1 {W : World} {b : Nat} {u x v : Value} (h : FB W b u x v) : W.cell? ⟨b, 1, none⟩ = some x := by simp [World.cell?, show W.heap[b]? = _ from h]
theorem FB.c2 {W : World} {b : Nat} {u x v : Value} (h : FB W b u x v) : W.cell? ⟨b, 2, none⟩ = some v := by simp [World.cell?, show W.heap[b]? = _ from h]
theorem FB.fz {W : World} {b : Nat} {u x v : Value} (h : FB W b u x v) (k : Nat) : W.frozen? ⟨b, k, none⟩ = false := by simp [World.frozen?, show W.heap[b]? = _ from h]
theorem FB.s0 {W : World} {b : Nat} {u x v : Value} (h : FB W b u x v) (y : Value) : FB (W.setCell ⟨b, 0, none⟩ y) b y x v := (heap_set W b 0 y h).trans (by simp)
theorem FB.s1 {W : World} {b : Nat} {u x v : Value} (h : FB W b u x v) (y : Value) : FB (W.setCell ⟨b, 1, none⟩ y) b u y v := (heap_set W b 1 y h).trans (by simp)
theorem FB.s2 {W : World} {b : Nat} {u x v : Value} (h : FB W b u x v) (y : Value) : FB (W.setCell ⟨b, 2, none⟩ y) b u x y := (heap_set W b 2 y h).trans (by simp)
theorem FB.keep {W W' : World} {b : Nat} {u x v : Value} (h : FB W b u x v) (hk : W'.heap[b]? = W.heap[b]?) : FB W' b u x v := hk.trans h
theorem one_new (w : World) (v : Value) (t : TypeId) : ∀ j u, [v][j]? = some u → (w.alloc (.cells #[v] t)).cell? ((⟨w.heap.size, 0, none⟩ : Addr).add j) = some u := by
  intro j u hj
  have hl : j < 1 := by have := (List.getElem?_eq_some_iff.1 hj).1; simpa using this
  obtain rfl : j = 0 := by omega
  simp at hj; subst hj
  have h := World.alloc_heap_new w (.cells #[v] t)
  rw [Addr.add_lit]
  simp only [World.cell?, Nat.add_zero, h]
  rfl
theorem own_any {w : World} {base n s : Nat} {e : TypeId} {v : Value} {xs : List Value} (h : w.ownsRow base e s v n xs) : ∃ ao c, v = .slice ao n c := by
  rcases h.2 with ⟨rfl, rfl⟩ | ⟨g, cap, _, rfl, _⟩
  · exact ⟨none, 0, rfl⟩
  · exact ⟨_, _, rfl⟩
theorem own_low {w : World} {base b2 n s : Nat} {e : TypeId} {v : Value} {xs : List Value} (h : w.ownsRow base e s v n xs) (hb : b2 ≤ base) : w.ownsRow b2 e s v n xs := ⟨h.1, h.2.imp id fun ⟨g, cap, cur, h1, h2, h3⟩ => ⟨g, cap, cur, h1, Nat.le_trans hb h2, h3⟩⟩
theorem own_ne {w : World} {base n s k : Nat} {e : TypeId} {v : Value} {xs : List Value} (h : w.ownsRow base e s v n xs) (hk : k < base) : some k ≠ v.ownBlock := fun e => by
  have := (own_lt h k e.symm).1; omega
set_option maxRecDepth 100000 in
set_option maxHeartbeats 16000000 in
theorem build_any (bef : Nat → Nat → Prop) (hbr : ∀ j, bef j j) (ord : List Nat) (hol : ord.length = 6) (ho6 : ∀ j ∈ ord, j < 6) (hop : ord.Pairwise bef) (ao oo : Option Addr) (n c1 c4 : Nat) (M : Nat → Nat → Int) (w : World) (hv : VM M n) (hc1 : n ≤ c1) (hc4 : 6 ≤ c4) (hR : CV w ao n M) (hO : CN w oo ord) :
    Calls Try.prog 125 #[.slice ao n c1, .slice oo 6 c4] w fun e w' => ∃ (is cs : List Nat) (fv rv : Value), e = .returned (.agg #[fv, .int .i64 (mn (is.map M) cs), rv]) ∧ Gd M n bef ord is cs ∧ cs.Sublist ord ∧ w'.ownsRow w.heap.size 3 1 fv cs.length (cs.map fun (j : Nat) => Value.int .i64 (j : Int)) ∧ w'.ownsRow w.heap.size 36 6 rv cs.length (rowsL (fun t c => mn (is.map M) (cs.set t c)) cs.length) ∧ Below w.heap.size w w' := by
  have hn8 := hv.1
  obtain ⟨ti, hti, hti2⟩ := Option.map_eq_some_iff.1 info_int
  simp only [Prod.mk.injEq] at hti2
  obtain ⟨hz0, hz1, hz2⟩ := hti2
  obtain ⟨tj, htj, htj2⟩ := Option.map_eq_some_iff.1 info_rows2
  simp only [Prod.mk.injEq] at htj2
  obtain ⟨hy0, hy1, hy2⟩ := htj2
  have HTJ := Bx.mk htj
  have HTI := Bx.mk hti
  have HV := Bx.mk hv
  have HR := Bx.mk hR
  have HORD := Bx.mk (And.intro hol (And.intro ho6 hop))
  have HBR := Bx.mk hbr
  obtain ⟨b4, o4, rfl, hb4, hco⟩ := hO (by intro e; subst e; simp at hol)
  have HCO := Bx.mk hco
  have HF1 : Bx (FB ((w.alloc (.cells #[.slice none 0 0, .int .i64 0, .slice none 0 0] 96)).alloc (.cells #[.slice none 0 0, .int .i64 1, .slice none 0 0] 96)) (w.heap.size + 1) (.slice none 0 0) (.int .i64 1) (.slice none 0 0)) := ⟨by
    have := World.alloc_heap_new (w.alloc (.cells #[.slice none 0 0, .int .i64 0, .slice none 0 0] 96)) (.cells #[.slice none 0 0, .int .i64 1, .slice none 0 0] 96)
    rw [World.size_alloc] at this; exact this⟩
  have HF0 : Bx (FB ((w.alloc (.cells #[.slice none 0 0, .int .i64 0, .slice none 0 0] 96)).alloc (.cells #[.slice none 0 0, .int .i64 1, .slice none 0 0] 96)) w.heap.size (.slice none 0 0) (.int .i64 0) (.slice none 0 0)) := ⟨(Below.heap_alloc _ _ _ (by simp)).trans (World.alloc_heap_new w _)⟩
  have HB0 := Bx.mk ((((Below.refl _ w).alloc (Nat.le_refl _) (.cells #[.slice none 0 0, .int .i64 0, .slice none 0 0] 96)).alloc (by simp) (.cells #[.slice none 0 0, .int .i64 1, .slice none 0 0] 96)))
  have hmx : Try.prog.follows .mixedOrders = true := by kernel_rfl
  clear hti htj hv hR hol ho6 hop hbr hO hco
  go_enter Try.func125, Try.ntmps125
  go_wp2_with fail
  go_loopw [6, 17] (fun ch ix wr => ∃ (k : Nat) (is cs : List Nat) (cv fv : Value), k ≤ 6 ∧ ix = .int .i64 k ∧ cv = ch ∧ Bx (wr.ownsRow (w.heap.size + 2) 3 1 cv is.length (is.map fun (j : Nat) => Value.int .i64 (j : Int))) ∧ Bx (wr.ownsRow (w.heap.size + 2) 3 1 fv cs.length (cs.map fun (j : Nat) => Value.int .i64 (j : Int))) ∧ Bx (∀ q, cv.ownBlock = some q → fv.ownBlock ≠ some q) ∧ Bx (FB wr (w.heap.size + 1) fv (.int .i64 (mn (is.map M) cs)) (.slice none 0 0)) ∧ Bx (FB wr w.heap.size (.slice none 0 0) (.int .i64 0) (.slice none 0 0)) ∧ Bx (Gd M n bef (ord.take k) is cs) ∧ Bx (cs.Sublist (ord.take k)) ∧ Bx (Below w.heap.size w wr)) (fun _ ix _ => 6 - (intOf ix).toNat)
  case atStart => exact ⟨0, [], [], _, _, by omega, rfl, rfl, ⟨World.ownsRow_nil _ _ _ _⟩, ⟨World.ownsRow_nil _ _ _ _⟩, ⟨fun q hq => by simp [Value.ownBlock] at hq⟩, HF1, HF0, ⟨Gd.nil M n bef⟩, ⟨List.nil_sublist _⟩, HB0⟩
  case round =>
    clear HF1 HF0 HB0
    obtain ⟨k, is, cs, cv, fv, hk, rfl, rfl, HCV, HFV, HDI, HF1, HF0, HGD, HSB, HB⟩ := hrel
    by_cases hlt : k < 6
    · obtain ⟨c, hc⟩ : ∃ c, ord.getD k 0 = c := ⟨_, rfl⟩
      have ek := HB.out.cell (p := ⟨b4, o4 + k, none⟩) hb4
      rw [HCO.out k (by have := HORD.out.1; omega), hc] at ek
      have HCK : Bx (ord.take (k + 1) = ord.take k ++ [c] ∧ c < 6 ∧ ∀ x ∈ ord.take k, bef x c) := ⟨by
        have hkl : k < ord.length := by have := HORD.out.1; omega
        have e1 : ord[k] = c := by rw [← hc]; simp [List.getElem?_eq_getElem hkl]
        refine ⟨by rw [List.take_succ_eq_append_getElem hkl, e1], HORD.out.2.1 c (by rw [← e1]; exact List.getElem_mem hkl), fun x hx => ?_⟩
        have hp := HORD.out.2.2
        rw [← List.take_append_drop k ord, List.drop_eq_getElem_cons hkl, e1] at hp
        exact (List.pairwise_append.1 hp).2.2 x hx c (by simp)⟩
      have p0 := HF1.out.c0
      have hq6 : cs.length ≤ 5 := by
        have h := HGD.out.ne cs.length (Nat.le_refl _)
        rw [List.take_length] at h
        have hnd : cs.Nodup := by
          refine Classical.byContradiction fun hx => h ?_
          exact mn_cols_dup hx _ (by simp [HGD.out.len])
        have := (List.Nodup.length_le_of_subset hnd (l₂ := ord.take k) fun j hj => HGD.out.cols j hj)
        simp at this; omega
      have hws := HB.out.size
      go_wp2_with (at_builtin; refine wpList_append_two rfl (.tmp 22) (.tmp 24) 29 rfl (w.heap.size + 2) 3 ti (.int .i64 0) 1 8 Try.underlying29 HTI.out hz0 hz1 hz2 rfl (by decide) fv cs.length _ rfl (HFV.out.alloc _) _ 1 _ [.int .i64 (c : Int)] rfl rfl (one_new _ _ _) (by simp [Value.oneCell']) (by unfold maxLen; omega) (by omega) (by have := HF1.out.lt; simp; omega) ?_)
      intro uv w2 hou hof hg hfr
      rw [ints_snoc] at hou
      obtain ⟨gu, cu, rfl, hgu0, hgus⟩ := own_form hou (by omega)
      have hal := (Below.refl wr.heap.size wr).alloc (Nat.le_refl _) (.cells #[.int .i64 (c : Int)] 3)
      have HU2 := Bx.mk hou
      have HF2 := Bx.mk hof
      have HC2 : Bx (w2.ownsRow (w.heap.size + 2) 3 1 cv is.length (is.map fun (j : Nat) => Value.int .i64 (j : Int))) := ⟨own_keep HCV.out fun q hq hqs => (hg.block q (by simp; omega) (fun e => HDI.out q hq e.symm)).trans (hal.block q hqs)⟩
      have HG1 : Bx (FB w2 (w.heap.size + 1) fv (.int .i64 (mn (is.map M) cs)) (.slice none 0 0)) := ⟨HF1.out.keep ((hg.block _ (by have := HF1.out.lt; simp; omega) (own_ne HFV.out (by omega))).trans (hal.block _ HF1.out.lt))⟩
      have HG0 : Bx (FB w2 w.heap.size (.slice none 0 0) (.int .i64 0) (.slice none 0 0)) := ⟨HF0.out.keep ((hg.block _ (by have := HF0.out.lt; simp; omega) (own_ne HFV.out (by omega))).trans (hal.block _ HF0.out.lt))⟩
      have hgs := hg.size
      rw [World.size_alloc] at hgs
      have HB2 : Bx (Below w.heap.size w w2) := ⟨(HB.out.alloc hws _).grown hg (by simp; omega) (fun q hq => by have := (own_lt HFV.out q hq).1; omega)⟩
      have HDU : Bx (∀ q, cv.ownBlock = some q → q ≠ gu) := ⟨fun q hq e => by
        subst e
        rcases hfr q rfl with h | h
        · exact HDI.out q hq h
        · have := (own_lt HCV.out q hq).2; omega⟩
      have HDF : Bx (∀ q, cv.ownBlock = some q → fv.ownBlock ≠ some q) := HDI
      have HWS := Bx.mk hgs
      clear hou hof hg hfr hal HF1 HF0 HCV HFV HDI p0 hc HB hgs
      have hw2 := HB2.out.size
      go_wp2_with fail
      go_loopw [6, 28] (fun ch ix wr => ∃ (j : Nat), j ≤ n ∧ ix = .int .i64 j ∧ cv = ch ∧ Bx (wr.ownsRow (w.heap.size + 2) 3 1 cv is.length (is.map fun (j : Nat) => Value.int .i64 (j : Int))) ∧ Bx (wr.ownsRow (w.heap.size + 2) 3 1 (.slice (some ⟨gu, 0, none⟩) (cs.length + 1) cu) (cs.length + 1) ((cs ++ [c]).map fun (j : Nat) => Value.int .i64 (j : Int))) ∧ Bx (wr.ownsRow (w.heap.size + 2) 3 1 fv cs.length (cs.map fun (j : Nat) => Value.int .i64 (j : Int))) ∧ Bx (FB wr (w.heap.size + 1) fv (.int .i64 (mn (is.map M) cs)) (.slice none 0 0)) ∧ Bx (FB wr w.heap.size (.slice none 0 0) (.int .i64 0) (.slice none 0 0)) ∧ Bx (∀ i, i < j → mn ((is ++ [i]).map M) (cs ++ [c]) = 0) ∧ Bx (Below w.heap.size w wr)) (fun _ ix _ => n - (intOf ix).toNat)
      case atStart => exact ⟨0, by omega, rfl, rfl, HC2, HU2, HF2, HG1, HG0, ⟨fun i hi => by omega⟩, HB2⟩
      case round =>
        clear HC2 HU2 HF2 HG1 HG0 HB2 hw2 HWS
        obtain ⟨j, hj, rfl, rfl, HCV, HUV, HFV, HF1, HF0, HZ, HB⟩ := hrel
        by_cases hjn : j < n
        · have hws := HB.out.size
          go_wp2_with (at_builtin; refine wpList_append_two rfl (.tmp 31) (.tmp 33) 29 rfl (w.heap.size + 2) 3 ti (.int .i64 0) 1 8 Try.underlying29 HTI.out hz0 hz1 hz2 rfl (by decide) cv is.length _ rfl (HCV.out.alloc _) _ 1 _ [.int .i64 (j : Int)] rfl rfl (one_new _ _ _) (by simp [Value.oneCell']) (by have := HGD.out.len; unfold maxLen; omega) (by have := HGD.out.len; omega) (by have := HF1.out.lt; simp; omega) ?_)
          intro mv w3 hom hoc hg hfr
          rw [ints_snoc] at hom
          obtain ⟨gm, cm, rfl, hgm0, hgms⟩ := own_form hom (by omega)
          have hal := (Below.refl wr.heap.size wr).alloc (Nat.le_refl _) (.cells #[.int .i64 (j : Int)] 3)
          have HM3 := Bx.mk hom
          have HC3 := Bx.mk hoc
          have HU3 : Bx (w3.ownsRow (w.heap.size + 2) 3 1 (.slice (some ⟨gu, 0, none⟩) (cs.length + 1) cu) (cs.length + 1) ((cs ++ [c]).map fun (j : Nat) => Value.int .i64 (j : Int))) := ⟨own_keep HUV.out fun q hq hqs => (hg.block q (by simp; omega) (fun e => by have hq' : some gu = some q := hq; cases hq'; exact HDU.out _ e.symm rfl)).trans (hal.block q hqs)⟩
          have HF3 : Bx (w3.ownsRow (w.heap.size + 2) 3 1 fv cs.length (cs.map fun (j : Nat) => Value.int .i64 (j : Int))) := ⟨own_keep HFV.out fun q hq hqs => (hg.block q (by simp; omega) (fun e => HDF.out q e.symm hq)).trans (hal.block q hqs)⟩
          have HG1 : Bx (FB w3 (w.heap.size + 1) fv (.int .i64 (mn (is.map M) cs)) (.slice none 0 0)) := ⟨HF1.out.keep ((hg.block _ (by have := HF1.out.lt; simp; omega) (own_ne HCV.out (by omega))).trans (hal.block _ HF1.out.lt))⟩
          have HG0 : Bx (FB w3 w.heap.size (.slice none 0 0) (.int .i64 0) (.slice none 0 0)) := ⟨HF0.out.keep ((hg.block _ (by have := HF0.out.lt; simp; omega) (own_ne HCV.out (by omega))).trans (hal.block _ HF0.out.lt))⟩
          have hgs := hg.size
          rw [World.size_alloc] at hgs
          have HB3 : Bx (Below w.heap.size w w3) := ⟨(HB.out.alloc hws _).grown hg (by simp; omega) (fun q hq => by have := (own_lt HCV.out q hq).1; omega)⟩
          have HDM : Bx (gm ≠ gu) := ⟨fun e => by
            subst e
            rcases hfr gm rfl with h | h
            · exact HDU.out gm h rfl
            · have := (own_lt HUV.out gm rfl).2; omega⟩
          obtain ⟨a1, k1, e1, l1, -, n1⟩ := cn_of_owns HM3.out
          simp only [Value.slice.injEq] at e1
          obtain ⟨rfl, h1, rfl⟩ := e1
          obtain ⟨a2, k2, e2, l2, -, n2⟩ := cn_of_owns HU3.out
          simp only [Value.slice.injEq] at e2
          obtain ⟨rfl, h2, rfl⟩ := e2
          have hlen := HGD.out.len
          have hrows : ∀ x ∈ is ++ [j], x < n := fun x hx => (List.mem_append.1 hx).elim (HGD.out.rows x) (fun e => by rw [List.mem_singleton.1 e]; exact hjn)
          have hcols : ∀ x ∈ cs ++ [c], x < 6 := fun x hx => (List.mem_append.1 hx).elim (fun hx => HORD.out.2.1 x (List.take_subset _ _ (HGD.out.cols x hx))) (fun e => by rw [List.mem_singleton.1 e]; exact HCK.out.2.1)
          have PM := pminor_any ao (some ⟨gm, 0, none⟩) (some ⟨gu, 0, none⟩) n c1 cm cu M (is ++ [j]) (cs ++ [c]) w3 (by omega) hc1 hrows hcols l1 l2 (by simp [hlen]; omega) (by simp; omega) (HR.out.keep HB3.out) n1 n2
          obtain ⟨mm, hmm⟩ : ∃ mm, mn ((is ++ [j]).map M) (cs ++ [c]) = mm := ⟨_, rfl⟩
          have hmb := vm_any HV.out (is := is ++ [j]) (js := cs ++ [c]) (by simp [hlen]) hrows hcols
          rw [hmm] at PM hmb
          rw [show wrap64 mm = mm from by unfold wrap64; omega, ← h1, ← h2] at PM
          have hb1 : w.heap.size + 1 < w3.heap.size := HG1.out.lt
          have PM' := Bx.mk (PM.mono (R' := fun e w' => e = .returned (.int .i64 mm) ∧ Bx (Below w3.heap.size w3 w') ∧ w'.cell? ⟨w.heap.size + 1, 0, none⟩ = some fv ∧ w'.cell? ⟨w.heap.size + 1, 1, none⟩ = some (.int .i64 (mn (is.map M) cs)) ∧ w'.frozen? ⟨w.heap.size + 1, 0, none⟩ = false ∧ w'.frozen? ⟨w.heap.size + 1, 1, none⟩ = false) fun e w' h => ⟨h.1, ⟨h.2⟩, by
            rw [h.2.cell (p := ⟨w.heap.size + 1, 0, none⟩) hb1]; exact HG1.out.c0, by
            rw [h.2.cell (p := ⟨w.heap.size + 1, 1, none⟩) hb1]; exact HG1.out.c1, by
            rw [h.2.frozen (p := ⟨w.heap.size + 1, 0, none⟩) hb1]; exact HG1.out.fz 0, by
            rw [h.2.frozen (p := ⟨w.heap.size + 1, 1, none⟩) hb1]; exact HG1.out.fz 1⟩)
          have HMM := Bx.mk hmm
          have HRW := Bx.mk hrows
          obtain ⟨om, hom'⟩ : ∃ om, mn (is.map M) cs = om := ⟨_, rfl⟩
          rw [hom'] at PM' HG1
          have HOM := Bx.mk hom'
          have HL1 := Bx.mk h1
          have HL2 := Bx.mk h2
          have HLEN := Bx.mk hlen
          clear PM hmm hmb hom hoc hg hfr hal hrows hcols n1 n2 l1 l2 h1 h2 hom' hlen
          by_cases h0 : mm = 0
          · subst h0
            go_wp2_with (go_at_call 121; refine PM'.out.mono ?_; clear PM'; rintro e w4 ⟨rfl, HB4, e1, e2, e3, e4⟩)
            go_roundw
            case rel => exact ⟨j + 1, by omega, by go_num, rfl, ⟨own_keep HC3.out fun q _ hqs => HB4.out.block q hqs⟩, ⟨own_keep HU3.out fun q _ hqs => HB4.out.block q hqs⟩, ⟨own_keep HF3.out fun q _ hqs => HB4.out.block q hqs⟩, ⟨by rw [HOM.out]; exact HG1.out.keep (HB4.out.block _ HG1.out.lt)⟩, ⟨HG0.out.keep (HB4.out.block _ HG0.out.lt)⟩, ⟨fun i hi => if e : i = j then by rw [e]; exact HMM.out else HZ.out i (by omega)⟩, ⟨HB3.out.trans (HB4.out.mono HB3.out.size)⟩⟩
            case measure => simp [intOf]; omega
          · have h0' : (mm != 0) = true := by simp [bne]; omega
            go_wp2_with (go_at_call 121; refine PM'.out.mono ?_; clear PM'; rintro e w4 ⟨rfl, HB4, e1, e2, e3, e4⟩)
            go_roundw
            case rel =>
              have g1 := HG1.out.keep (HB4.out.block _ HG1.out.lt)
              have b2 : ∀ q, q ≠ w.heap.size + 1 → ((w4.setCell ⟨w.heap.size + 1, 0, none⟩ (.slice (some ⟨gu, 0, none⟩) (cs.length + 1) cu)).setCell ⟨w.heap.size + 1, 1, none⟩ (.int .i64 mm)).heap[q]? = w4.heap[q]? := fun q hq => by rw [Below.heap_setCell _ _ _ _ (by simpa using hq), Below.heap_setCell _ _ _ _ (by simpa using hq)]
              refine ⟨k + 1, is ++ [j], cs ++ [c], _, .slice (some ⟨gu, 0, none⟩) (cs.length + 1) cu, by omega, by go_num, rfl, ⟨?_⟩, ⟨?_⟩, ⟨fun q hq => ?_⟩, ⟨by rw [HMM.out]; exact (g1.s0 _).s1 _⟩, ⟨(HG0.out.keep (HB4.out.block _ HG0.out.lt)).keep (b2 _ (by omega))⟩, ⟨by rw [HCK.out.1]; exact HGD.out.add hjn (by rw [HMM.out]; exact h0) (fun x hx => HCK.out.2.2 x (HGD.out.cols x hx)) (HBR.out c)⟩, ⟨by rw [HCK.out.1]; exact HSB.out.append (List.Sublist.refl _)⟩, ⟨((HB3.out.trans (HB4.out.mono HB3.out.size)).setCell (p := ⟨w.heap.size + 1, 0, none⟩) (by simp) _).setCell (p := ⟨w.heap.size + 1, 1, none⟩) (by simp) _⟩⟩
              · have h := own_keep HM3.out fun q hq hqs => (b2 q (by have := (own_lt HM3.out q hq).1; omega)).trans (HB4.out.block q hqs)
                simpa using h
              · have h := own_keep HU3.out fun q hq hqs => (b2 q (by have := (own_lt HU3.out q hq).1; omega)).trans (HB4.out.block q hqs)
                simpa using h
              · intro hq'
                have hq1 : gm = q := by simpa [Value.ownBlock] using hq
                have hq2 : gu = q := by simpa [Value.ownBlock] using hq'
                exact HDM.out (by omega)
            case measure => simp [intOf]; omega
        · obtain rfl : n = j := by omega
          go_wp2_with fail
          go_roundw
          case rel => exact ⟨k + 1, is, cs, cv, fv, by omega, by go_num, rfl, HCV, HFV, HDF, HF1, HF0, ⟨by rw [HCK.out.1]; exact HGD.out.skip HZ.out (fun x hx => HCK.out.2.2 x (HGD.out.cols x hx))⟩, ⟨by rw [HCK.out.1]; exact HSB.out.trans (List.sublist_append_left _ _)⟩, HB⟩
          case measure => simp [intOf]; omega
    · obtain rfl : 6 = k := by omega
      have HGD6 : Bx (Gd M n bef ord is cs) := ⟨by have := HGD.out; rwa [List.take_of_length_le (by have := HORD.out.1; omega)] at this⟩
      have HSB6 : Bx (cs.Sublist ord) := ⟨by have := HSB.out; rwa [List.take_of_length_le (by have := HORD.out.1; omega)] at this⟩
      have hq6 : cs.length ≤ 6 := by
        have h := HGD6.out.ne cs.length (Nat.le_refl _)
        rw [List.take_length] at h
        have hnd : cs.Nodup := by
          refine Classical.byContradiction fun hx => h ?_
          exact mn_cols_dup hx _ (by simp [HGD6.out.len])
        have := (List.Nodup.length_le_of_subset hnd (l₂ := List.range 6) fun j hj => List.mem_range.2 (HORD.out.2.1 j (HGD6.out.cols j hj)))
        simpa using this
      obtain ⟨fo, fc, rfl, lf, -, nf⟩ := cn_of_owns HFV.out
      obtain ⟨co, cc, rfl, lc, -, nc⟩ := cn_of_owns HCV.out
      have hlen := HGD6.out.len
      obtain ⟨q, hq⟩ : ∃ q, cs.length = q := ⟨_, rfl⟩
      obtain ⟨om, hom⟩ : ∃ om, mn (is.map M) cs = om := ⟨_, rfl⟩
      obtain ⟨G, hG⟩ : ∃ G : Nat → Nat → Int, (fun t c => mn (is.map M) (cs.set t c)) = G := ⟨_, rfl⟩
      rw [hlen, hq] at lc
      rw [hq] at lf hq6
      rw [hq] at HFV HF1
      rw [hom] at HF1
      have NC := Bx.mk nc
      have NF := Bx.mk nf
      have HQ := Bx.mk hq
      have HOM := Bx.mk hom
      have HGG := Bx.mk hG
      have HLEN := Bx.mk hlen
      have q0 := HF1.out.c0
      have RA := Bx.mk (fun t ht w' (hb : CV w' ao n M) (h1 : CN w' co is) (h2 : CN w' fo cs) => replaced_any ao co fo n c1 cc fc q t M is cs w' HV.out hc1 HGD6.out.rows (fun x hx => HORD.out.2.1 x (HGD6.out.cols x hx)) (by rw [HLEN.out, HQ.out]) HQ.out hq6 lc lf ht hb h1 h2)
      have RA2 : Bx (∀ t, t < q → ∀ w', CV w' ao n M → CN w' co is → CN w' fo cs → Calls Try.prog 153 #[.slice ao n c1, .slice co is.length cc, .slice fo q fc, .int .i64 t] w' fun e w'' => e = .returned (PV (G t)) ∧ Below w'.heap.size w' w'') := ⟨fun t ht w' h1 h2 h3 => by
        have h := RA.out t ht w' h1 h2 h3
        rw [HLEN.out, HQ.out, ← HGG.out]; exact h⟩
      have hisq : is.length = is.length := rfl
      clear nc nf hq hom hG hlen RA HDI HGD
      have HB' := HB
      go_wp2_with fail
      go_loopw [51] (fun ix wr => ∃ (t : Nat) (rv : Value), t ≤ q ∧ ix = .int .i64 t ∧ Bx (wr.ownsRow (w.heap.size + 2) 36 6 rv t (rowsL G t)) ∧ Bx (wr.ownsRow (w.heap.size + 2) 3 1 (.slice fo q fc) q (cs.map fun (j : Nat) => Value.int .i64 (j : Int))) ∧ Bx (wr.ownsRow (w.heap.size + 2) 3 1 (.slice co is.length cc) is.length (is.map fun (j : Nat) => Value.int .i64 (j : Int))) ∧ Bx (FB wr (w.heap.size + 1) (.slice fo q fc) (.int .i64 om) rv) ∧ Bx (FB wr w.heap.size (.slice none 0 0) (.int .i64 0) (.slice none 0 0)) ∧ Bx (Below w.heap.size w wr)) (fun ix _ => q - (intOf ix).toNat)
      case atStart => exact ⟨0, _, by omega, rfl, ⟨World.ownsRow_nil _ _ _ _⟩, HFV, HCV, HF1, HF0, HB⟩
      case round =>
        clear HFV HCV NC NF HF1 HF0 HB HB' q0
        obtain ⟨t, rv, ht, rfl, HRV, HFV, HCV, HF1, HF0, HB⟩ := hrel
        have HCC : Bx (CN wr co is ∧ CN wr fo cs) := ⟨by
          obtain ⟨x1, x2, x3, -, -, x4⟩ := cn_of_owns HCV.out
          obtain ⟨y1, y2, y3, -, -, y4⟩ := cn_of_owns HFV.out
          simp only [Value.slice.injEq] at x3 y3
          obtain ⟨rfl, -, rfl⟩ := x3
          obtain ⟨rfl, -, rfl⟩ := y3
          exact ⟨x4, y4⟩⟩
        by_cases htq : t < q
        · have e0 := HF1.out.c0
          have e2 := HF1.out.c2
          have hb1 := HF1.out.lt
          have hws := HB.out.size
          have CR : Bx (∀ w', Below wr.heap.size wr w' → Calls Try.prog 153 #[.slice ao n c1, .slice co is.length cc, .slice fo q fc, .int .i64 t] w' fun e w'' => e = .returned (PV (G t)) ∧ Bx (Below wr.heap.size wr w'')) := ⟨fun w' hb => (RA2.out t htq w' ((HR.out.keep HB.out).keep hb) (HCC.out.1.keep hb) (HCC.out.2.keep hb)).mono fun e w'' h => ⟨h.1, ⟨hb.trans (h.2.mono hb.size)⟩⟩⟩
          obtain ⟨g, hg⟩ : ∃ g, G t = g := ⟨_, rfl⟩
          rw [hg] at CR
          unfold PV at CR
          have HG := Bx.mk hg
          clear hg
          go_wp2_with fail
          go_region_law (first
            | (go_simp; go_at_call 153; refine (CR.out _ (by repeat (first | with_reducible exact Below.refl _ _ | with_reducible apply below_drewN | with_reducible apply below_drew))).mono ?_; rintro e w3 ⟨rfl, HB3⟩
               have e3 := (HF1.out.keep (HB3.out.block _ hb1)).c0
               have e4 := (HF1.out.keep (HB3.out.block _ hb1)).c2
               have e5 := (HF1.out.keep (HB3.out.block _ hb1)).fz 2
               have e8 := ((HF1.out.keep (HB3.out.block _ hb1)).keep (Below.heap_alloc w3 (.cells #[.int .i64 (g 0), .int .i64 (g 1), .int .i64 (g 2), .int .i64 (g 3), .int .i64 (g 4), .int .i64 (g 5)] 36) _ (Nat.lt_of_lt_of_le hb1 HB3.out.size))).c2)
            | (refine step_append_fresh rfl (.tmp 55) (.tmp 62) 22 rfl (w.heap.size + 2) 36 tj _ 6 48 Try.underlying22 HTJ.out hy0 hy1 hy2 rfl (by decide) rv t (rowsL G t) rfl (World.ownsRow.alloc (own_keep HRV.out fun p _ hps => HB3.out.block p hps) _) _ 1 _ (sixL g) rfl rfl (by intro h; cases h) (by intro ad had; cases had; exact six_new _ g 36) (six_one g) (by unfold maxLen; omega) (by omega) (by have := HB3.out.size; simp; omega) ?_; intro rv' w5 hor hg5 hf5
               obtain ⟨gr, cr, rfl, hgr0, hgrs⟩ := own_form hor (by omega)
               have hw53 : ∀ p, p < wr.heap.size → some p ≠ rv.ownBlock → w5.heap[p]? = wr.heap[p]? := fun p hp hne => (hg5.block p (by have := HB3.out.size; simp; omega) hne).trans ((Below.heap_alloc w3 _ _ (Nat.lt_of_lt_of_le hp HB3.out.size)).trans (HB3.out.block p hp))
               have HK5 := Bx.mk (HF1.out.keep (hw53 _ hb1 (own_ne HRV.out (by omega))))
               have HZ5 := Bx.mk (HF0.out.keep (hw53 _ HF0.out.lt (own_ne HRV.out (by omega))))
               have HCC5 : Bx (w5.ownsRow (w.heap.size + 2) 3 1 (.slice fo q fc) q (cs.map fun (j : Nat) => Value.int .i64 (j : Int))) := ⟨own_keep HFV.out fun p hp hps => hw53 p hps (fun e => ne_block HFV.out HRV.out (by decide) p hp e.symm)⟩
               have HCV5 : Bx (w5.ownsRow (w.heap.size + 2) 3 1 (.slice co is.length cc) is.length (is.map fun (j : Nat) => Value.int .i64 (j : Int))) := ⟨own_keep HCV.out fun p hp hps => hw53 p hps (fun e => ne_block HCV.out HRV.out (by decide) p hp e.symm)⟩
               have HO5 := Bx.mk hor
               have HB5 : Bx (Below w.heap.size w w5) := ⟨(((HB.out.trans (HB3.out.mono hws)).alloc (Nat.le_trans hws HB3.out.size) _)).grown hg5 (by have := HB3.out.size; simp; omega) (fun p hp => by have := (own_lt HRV.out p hp).1; omega)⟩
               have e6 := HK5.out.c2
               have e7 := HK5.out.fz 2
               clear hor hg5 hf5 hw53))
          all_goals go_wp2_with fail
          all_goals
            go_roundw
            case rel =>
              have b2 : ∀ p, p ≠ w.heap.size + 1 → (w5.setCell ⟨w.heap.size + 1, 2, none⟩ (.slice (some ⟨gr, 0, none⟩) (t + 1) cr)).heap[p]? = w5.heap[p]? := fun p hp => Below.heap_setCell _ _ _ _ (by simpa using hp)
              have o2 := own_keep (w' := w5.setCell ⟨w.heap.size + 1, 2, none⟩ (.slice (some ⟨gr, 0, none⟩) (t + 1) cr)) HCC5.out fun p hp _ => b2 p (by have := (own_lt HCC5.out p hp).1; omega)
              have o3 := own_keep (w' := w5.setCell ⟨w.heap.size + 1, 2, none⟩ (.slice (some ⟨gr, 0, none⟩) (t + 1) cr)) HO5.out fun p hp _ => b2 p (by have := (own_lt HO5.out p hp).1; omega)
              have B5 : Below w.heap.size w (w5.setCell ⟨w.heap.size + 1, 2, none⟩ (.slice (some ⟨gr, 0, none⟩) (t + 1) cr)) := HB5.out.setCell (p := ⟨w.heap.size + 1, 2, none⟩) (by simp) _
              have o4 := own_keep (w' := w5.setCell ⟨w.heap.size + 1, 2, none⟩ (.slice (some ⟨gr, 0, none⟩) (t + 1) cr)) HCV5.out fun p hp _ => b2 p (by have := (own_lt HCV5.out p hp).1; omega)
              refine ⟨t + 1, _, by omega, by go_num, ⟨?_⟩, ⟨o2⟩, ⟨o4⟩, ⟨HK5.out.s2 _⟩, ⟨HZ5.out.keep (b2 _ (by omega))⟩, ⟨B5⟩⟩
              have := rowsL_snoc G t g
              rw [this, show rowsL (snR G t g) (t + 1) = rowsL G (t + 1) from by
                congr 1; funext r; unfold snR; split
                · rename_i e; rw [e]; exact HG.out.symm
                · rfl] at o3
              exact o3
            case measure => simp [intOf]; omega
        · obtain rfl : q = t := by omega
          obtain ⟨ro, rc, rfl⟩ := own_any HRV.out
          have e0 := HF1.out.c0
          have e1 := HF1.out.c1
          have e2 := HF1.out.c2
          have g0 := HF0.out.c0
          have g1 := HF0.out.c1
          have g2 := HF0.out.c2
          have k0 := HF0.out.fz 0
          have k1 := HF0.out.fz 1
          have k2 := HF0.out.fz 2
          go_wp2_with fail
          refine bodyPost_ret_by (v := .agg #[.slice fo q fc, .int .i64 om, .slice ro q rc]) (by simp [results, Try.results125, go_sem, g0, g1, g2]) rfl ?_
          have b2 : ∀ p, p ≠ w.heap.size → (((wr.setCell ⟨w.heap.size, 0, none⟩ (.slice fo q fc)).setCell ⟨w.heap.size, 1, none⟩ (.int .i64 om)).setCell ⟨w.heap.size, 2, none⟩ (.slice ro q rc)).heap[p]? = wr.heap[p]? := fun p hp => by rw [Below.heap_setCell _ _ _ _ (by simpa using hp), Below.heap_setCell _ _ _ _ (by simpa using hp), Below.heap_setCell _ _ _ _ (by simpa using hp)]
          refine ⟨is, cs, .slice fo q fc, .slice ro q rc, by rw [HOM.out], HGD6.out, HSB6.out, ?_, ?_, ((HB.out.setCell (p := ⟨w.heap.size, 0, none⟩) (by simp) _).setCell (p := ⟨w.heap.size, 1, none⟩) (by simp) _).setCell (p := ⟨w.heap.size, 2, none⟩) (by simp) _⟩
          · have h := own_keep HFV.out fun p hp _ => b2 p (by have := (own_lt HFV.out p hp).1; omega)
            rw [HQ.out]; exact own_low h (by omega)
          · have h := own_keep HRV.out fun p hp _ => b2 p (by have := (own_lt HRV.out p hp).1; omega)
            rw [HQ.out, HGG.out]; exact own_low h (by omega)
end Go.Proofs.Ytnbamjoadankmaa

/- The program's minors: the expansion by the first row, with a list of used columns. -/
import Derived.Test.YtnbamjoadankmaaR2
import Derived.Test.YtnbamjoadankmaaRF
namespace Go.Proofs.Ytnbamjoadankmaa
open Go.RowKit D
attribute [local go_sem] run_store_fn
/-- The columns that are not used. -/
def un (u : Nat → Bool) (cs : List Nat) : List Nat := ((List.range cs.length).filter fun i => !u i).map fun i => cs.getD i 0
def bef (u : Nat → Bool) (i : Nat) : Nat := ((List.range i).filter fun t => !u t).length
def upd (u : Nat → Bool) (i : Nat) (x : Bool) : Nat → Bool := fun t => if t = i then x else u t
theorem upd_same {u : Nat → Bool} {i : Nat} {x : Bool} (h : u i = x) (y : Bool) : upd (upd u i y) i x = u := by
  funext t; simp only [upd]; split <;> simp_all
theorem range_at {i n : Nat} (hi : i < n) : List.range n = List.range i ++ i :: List.range' (i + 1) (n - (i + 1)) := by
  rw [show List.range i ++ i :: List.range' (i + 1) (n - (i + 1)) = List.range' 0 i ++ List.range' i (n - (i + 1) + 1) by rw [List.range'_succ, List.range_eq_range'], List.range_eq_range']
  have := List.range'_append_1 (s := 0) (m := i) (n := n - (i + 1) + 1)
  rw [Nat.zero_add] at this
  rw [this]; congr 1; omega
theorem bef_succ (u : Nat → Bool) (i : Nat) : bef u (i + 1) = bef u i + if u i then 0 else 1 := by
  unfold bef
  rw [List.range_succ, List.filter_append, List.length_append]
  cases h : u i <;> simp [h]
theorem bef_all (u : Nat → Bool) (cs : List Nat) : bef u cs.length = (un u cs).length := by simp [bef, un]
theorem un_none (cs : List Nat) : un (fun _ => false) cs = cs := by
  unfold un
  rw [List.filter_eq_self.2 (by simp)]
  exact range_map cs
theorem filter_upd {u : Nat → Bool} {i : Nat} {x : Bool} {l : List Nat} (h : i ∉ l) : l.filter (fun t => !upd u i x t) = l.filter fun t => !u t :=
  List.filter_congr fun t ht => by
    have : t ≠ i := fun e => h (e ▸ ht)
    simp [upd, this]
theorem un_at {u : Nat → Bool} {cs : List Nat} {i : Nat} (hi : i < cs.length) (hu : u i = false) :
    bef u i < (un u cs).length ∧ (un u cs).getD (bef u i) 0 = cs.getD i 0 ∧ (un u cs).eraseIdx (bef u i) = un (upd u i true) cs := by
  have e1 : un u cs = ((List.range i).filter fun t => !u t).map (fun i => cs.getD i 0) ++ cs.getD i 0 :: ((List.range' (i + 1) (cs.length - (i + 1))).filter fun t => !u t).map (fun i => cs.getD i 0) := by
    unfold un; rw [range_at hi, List.filter_append, List.map_append, List.filter_cons_of_pos (by simp [hu]), List.map_cons]
  have e2 : un (upd u i true) cs = ((List.range i).filter fun t => !u t).map (fun i => cs.getD i 0) ++ ((List.range' (i + 1) (cs.length - (i + 1))).filter fun t => !u t).map (fun i => cs.getD i 0) := by
    unfold un; rw [range_at hi, List.filter_append, List.map_append, List.filter_cons_of_neg (by simp [upd]), filter_upd (by simp), filter_upd (by rw [List.mem_range'_1]; omega)]
  have hl : bef u i = (((List.range i).filter fun t => !u t).map fun i => cs.getD i 0).length := by simp [bef]
  rw [e1, e2, hl]
  refine ⟨by simp, ?_, ?_⟩
  · rw [List.getD_eq_getElem?_getD, List.getElem?_append_right (Nat.le_refl _)]; simp
  · rw [List.eraseIdx_append_of_length_le (Nat.le_refl _)]; simp
/-- The list of used columns in memory. -/
def UB (W : World) (B : Nat) (u : Nat → Bool) : Prop := W.heap[B]? = some (.cells #[.bool (u 0), .bool (u 1), .bool (u 2), .bool (u 3), .bool (u 4), .bool (u 5)] 160 (0, 0))
theorem six_cases {i : Nat} (h : i < 6) : i = 0 ∨ i = 1 ∨ i = 2 ∨ i = 3 ∨ i = 4 ∨ i = 5 := by omega
theorem UB.cell {W : World} {B i : Nat} {u : Nat → Bool} (h : UB W B u) (hi : i < 6) : W.cell? ⟨B, i, none⟩ = some (.bool (u i)) := by
  rcases six_cases hi with rfl | rfl | rfl | rfl | rfl | rfl <;> simp [World.cell?, show W.heap[B]? = _ from h]
theorem UB.frozen {W : World} {B i : Nat} {u : Nat → Bool} (h : UB W B u) : W.frozen? ⟨B, i, none⟩ = false := by simp [World.frozen?, show W.heap[B]? = _ from h]
theorem UB.lt {W : World} {B : Nat} {u : Nat → Bool} (h : UB W B u) : B < W.heap.size := (Array.getElem?_eq_some_iff.1 h).1
theorem UB.not_int {W : World} {B b k : Nat} {u : Nat → Bool} (h : UB W B u) {q : IntKind} {x : Int} (hc : W.cell? ⟨b, k, none⟩ = some (.int q x)) : b ≠ B := fun e => by
  subst e
  by_cases hk : k < 6
  · rw [h.cell hk] at hc; cases hc
  · simp [World.cell?, show W.heap[b]? = _ from h, show ¬ k < 6 from hk] at hc
theorem UB.not_box {W : World} {B b : Nat} {u : Nat → Bool} {t : TypeId} {v : Value} (h : UB W B u) (hb : Boxed W b t v) : b ≠ B := fun e => by
  subst e; have h1 : W.heap[_]? = _ := h; have h2 : W.heap[_]? = _ := hb; rw [h1] at h2; cases h2
theorem heap_set (W : World) (b i : Nat) (v : Value) {c : Array Value} {t : TypeId} {f : Nat × Nat} (h : W.heap[b]? = some (.cells c t f)) : (W.setCell ⟨b, i, none⟩ v).heap[b]? = some (.cells (c.setIfInBounds i v) t f) := by
  simp [World.setCell, Array.getElem?_modify, h]
theorem UB.set {W : World} {B i : Nat} {u : Nat → Bool} (h : UB W B u) (hi : i < 6) (x : Bool) : UB (W.setCell ⟨B, i, none⟩ (.bool x)) B (upd u i x) := by
  unfold UB
  rw [heap_set W B i _ h]
  rcases six_cases hi with rfl | rfl | rfl | rfl | rfl | rfl <;> simp [upd]
theorem UB.restore {W B : World} {b i : Nat} {u : Nat → Bool} (h : UB W b u) (hi : i < 6) {x : Bool} (hB : Below (W.setCell ⟨b, i, none⟩ (.bool x)).heap.size (W.setCell ⟨b, i, none⟩ (.bool x)) B) : Below W.heap.size W (B.setCell ⟨b, i, none⟩ (.bool (u i))) := by
  have hs : (W.setCell ⟨b, i, none⟩ (.bool x)).heap.size = W.heap.size := by simp [World.setCell]
  rw [hs] at hB
  refine ⟨hB.os, hB.tape, hB.output, by simpa [World.setCell] using hB.size, fun k hk => ?_⟩
  by_cases hkb : k = b
  · subst hkb
    have h1 : B.heap[k]? = _ := (hB.block k hk).trans (heap_set W k i _ h)
    rw [heap_set B k i _ h1, show W.heap[k]? = _ from h]
    rcases six_cases hi with rfl | rfl | rfl | rfl | rfl | rfl <;> simp
  · rw [Below.heap_setCell _ _ _ _ (by simpa using hkb), hB.block k hk, Below.heap_setCell _ _ _ _ (by simpa using hkb)]
theorem cell_other {W : World} {b B i k : Nat} (v : Value) (h : b ≠ B) : (W.setCell ⟨B, i, none⟩ v).cell? ⟨b, k, none⟩ = W.cell? ⟨b, k, none⟩ :=
  World.cell?_of_block (w := W) (Below.heap_setCell _ _ _ _ (by simpa using h))
/-- The variables of a minor. -/
structure Fr (ao bo co : Option Addr) (n c1 c2 c3 : Nat) (M : Nat → Nat → Int) (is cs : List Nat) (Br Bc Bk Bu Be : Nat) (W : World) (u : Nat → Bool) : Prop where
  cv : CV W ao n M
  ci : CN W bo is
  cc : CN W co cs
  vr : Boxed W Br 22 (.slice ao n c1)
  vc : Boxed W Bc 29 (.slice bo is.length c2)
  vk : Boxed W Bk 29 (.slice co cs.length c3)
  ve : Boxed W Be 153 (.func (.func 152) #[] #[.pointer (some ⟨Bc, 0, none⟩), .pointer (some ⟨Bk, 0, none⟩), .pointer (some ⟨Bu, 0, none⟩), .pointer (some ⟨Br, 0, none⟩), .pointer (some ⟨Be, 0, none⟩)])
  ub : UB W Bu u
theorem Fr.below {ao bo co : Option Addr} {n c1 c2 c3 : Nat} {M : Nat → Nat → Int} {is cs : List Nat} {Br Bc Bk Bu Be : Nat} {W W' : World} {u : Nat → Bool} (h : Fr ao bo co n c1 c2 c3 M is cs Br Bc Bk Bu Be W u) (hB : Below W.heap.size W W') : Fr ao bo co n c1 c2 c3 M is cs Br Bc Bk Bu Be W' u :=
  ⟨h.cv.keep hB, h.ci.keep hB, h.cc.keep hB, (hB.block _ h.vr.lt).trans h.vr, (hB.block _ h.vc.lt).trans h.vc, (hB.block _ h.vk.lt).trans h.vk, (hB.block _ h.ve.lt).trans h.ve, (hB.block _ h.ub.lt).trans h.ub⟩
theorem Fr.set {ao bo co : Option Addr} {n c1 c2 c3 : Nat} {M : Nat → Nat → Int} {is cs : List Nat} {Br Bc Bk Bu Be i : Nat} {W : World} {u : Nat → Bool} (h : Fr ao bo co n c1 c2 c3 M is cs Br Bc Bk Bu Be W u) (hi : i < 6) (x : Bool) : Fr ao bo co n c1 c2 c3 M is cs Br Bc Bk Bu Be (W.setCell ⟨Bu, i, none⟩ (.bool x)) (upd u i x) where
  cv := fun hn => by
    obtain ⟨b, o, e, hb, hc⟩ := h.cv hn
    refine ⟨b, o, e, by simpa [World.setCell] using hb, fun i j hi hj => ?_⟩
    rw [cell_other _ (h.ub.not_int (hc i j hi hj))]; exact hc i j hi hj
  ci := fun hn => by
    obtain ⟨b, o, e, hb, hc⟩ := h.ci hn
    refine ⟨b, o, e, by simpa [World.setCell] using hb, fun i hi => ?_⟩
    rw [cell_other _ (h.ub.not_int (hc i hi))]; exact hc i hi
  cc := fun hn => by
    obtain ⟨b, o, e, hb, hc⟩ := h.cc hn
    refine ⟨b, o, e, by simpa [World.setCell] using hb, fun i hi => ?_⟩
    rw [cell_other _ (h.ub.not_int (hc i hi))]; exact hc i hi
  vr := (Below.heap_setCell _ _ _ _ (h.ub.not_box h.vr)).trans h.vr
  vc := (Below.heap_setCell _ _ _ _ (h.ub.not_box h.vc)).trans h.vc
  vk := (Below.heap_setCell _ _ _ _ (h.ub.not_box h.vk)).trans h.vk
  ve := (Below.heap_setCell _ _ _ _ (h.ub.not_box h.ve)).trans h.ve
  ub := h.ub.set hi x
set_option maxRecDepth 100000 in
set_option maxHeartbeats 4000000 in
theorem expand_any (ao bo co : Option Addr) (n c1 c2 c3 : Nat) (M : Nat → Nat → Int) (is cs : List Nat) (Br Bc Bk Bu Be : Nat) (hn : n ≤ 1000) (hc1 : n ≤ c1) (h1 : ∀ i ∈ is, i < n) (h2 : ∀ j ∈ cs, j < 6) (hc2 : is.length ≤ c2) (hc3 : cs.length ≤ c3) (hl2 : is.length ≤ 6) (hl3 : cs.length ≤ 6) :
    ∀ (q d : Nat) (u : Nat → Bool) (w : World), d + q = is.length → Fr ao bo co n c1 c2 c3 M is cs Br Bc Bk Bu Be w u →
      Calls Try.prog 152 #[.int .i64 d, .pointer (some ⟨Bc, 0, none⟩), .pointer (some ⟨Bk, 0, none⟩), .pointer (some ⟨Bu, 0, none⟩), .pointer (some ⟨Br, 0, none⟩), .pointer (some ⟨Be, 0, none⟩)] w fun e w' =>
        e = .returned (.int .i64 (wrap64 (mn ((is.drop d).map M) (un u cs)))) ∧ Below w.heap.size w w' := by
  intro q
  induction q with
  | zero =>
    intro d u w hd hF
    have e0 : wrap64 (mn ((is.drop d).map M) (un u cs)) = 1 := by rw [List.drop_eq_nil_of_le (by omega)]; simp [mn, wrap64]
    rw [e0]
    have p1 := hF.vc.cell
    have hdl : ((d : Int) == (is.length : Int)) = true := by simp; omega
    go_enter Try.func152, Try.ntmps152
    go_wp2_with fail
    go_ret
    exact ⟨rfl, Below.refl _ _⟩
  | succ q ih =>
    intro d u w hd hF
    have p1 := hF.vc.cell
    have p2 := hF.vk.cell
    have hdl : ((d : Int) == (is.length : Int)) = false := by simp; omega
    obtain ⟨i0, hi0⟩ : ∃ i0, is.getD d 0 = i0 := ⟨_, rfl⟩
    have hdr : is.drop d = i0 :: is.drop (d + 1) := by
      rw [List.drop_eq_getElem_cons (by omega), ← hi0]; simp [List.getElem?_eq_getElem (show d < is.length by omega)]
    have i0n : i0 < n := h1 i0 (by rw [← hi0]; exact getD_mem (by omega))
    obtain ⟨b2, o2, rfl, hb2, hci⟩ := hF.ci (by intro e; subst e; simp at hd)
    have hii := hci d (by omega)
    rw [hi0] at hii
    obtain ⟨b3, o3, rfl, hb3, hcr⟩ := hF.cv (by omega)
    obtain ⟨m, hm⟩ : ∃ m, cs.length = m := ⟨_, rfl⟩
    obtain ⟨r, hr⟩ : ∃ r, is.length = r := ⟨_, rfl⟩
    rw [hm] at p2
    rw [hr] at p1 hdl
    have HF := Bx.mk hF
    have HCR := Bx.mk hcr
    have H2 := Bx.mk h2
    have HM := Bx.mk hm
    have HD := Bx.mk hdr
    have hb5 := hF.vr.lt
    have hb6 := hF.vc.lt
    have hb7 := hF.ve.lt
    have hp5 := hF.vr.cell
    have hp7 := hF.ve.cell
    have IH : Bx (∀ (x : Int) (u' : Nat → Bool) (w' : World), x = ((d + 1 : Nat) : Int) → Fr (some ⟨b3, o3, none⟩) (some ⟨b2, o2, none⟩) co n c1 c2 c3 M is cs Br Bc Bk Bu Be w' u' →
        Calls Try.prog 152 #[.int .i64 x, .pointer (some ⟨Bc, 0, none⟩), .pointer (some ⟨Bk, 0, none⟩), .pointer (some ⟨Bu, 0, none⟩), .pointer (some ⟨Br, 0, none⟩), .pointer (some ⟨Be, 0, none⟩)] w' fun e w'' =>
        e = .returned (.int .i64 (wrap64 (mn ((is.drop (d + 1)).map M) (un u' cs)))) ∧ Below w'.heap.size w' w'') := ⟨by rintro x u' w' rfl h; exact ih (d + 1) u' w' (by omega) h⟩
    rw [hr] at hc2 hl2 hd
    rw [hm] at hc3 hl3
    clear ih hF hcr hci hdr h1 h2 hm hi0 hr
    go_enter Try.func152, Try.ntmps152
    go_wp2_with fail
    go_loopw [8, 9, 19] (fun s g t wr => ∃ (k : Nat) (S G : Int), k ≤ m ∧ s = .int .i64 S ∧ g = .int .i64 G ∧ t = .int .i64 k ∧ Bx (S = wrap64 (sm (bef u k) (fun t => sg t * (M i0 ((un u cs).getD t 0) * mn ((is.drop (d + 1)).map M) ((un u cs).eraseIdx t))))) ∧ Bx (G = sg (bef u k)) ∧ Below w.heap.size w wr) (fun _ _ t _ => m - (intOf t).toNat)
    case atStart => exact ⟨0, 0, 1, by omega, rfl, rfl, rfl, ⟨by simp [bef, sm, wrap64]⟩, ⟨by simp [bef, sg]⟩, Below.refl _ _⟩
    case round =>
      obtain ⟨t, S, G, ht, rfl, rfl, rfl, HS, HG, hB⟩ := hrel
      by_cases hlt : t < m
      · have HFr := Bx.mk (HF.out.below hB)
        obtain ⟨b, o, rfl, hb, hcj⟩ := HF.out.cc (by intro e; have := HM.out; subst e; simp at this; omega)
        obtain ⟨j0, hj0⟩ : ∃ j0, cs.getD t 0 = j0 := ⟨_, rfl⟩
        have hkj := hB.cell (p := ⟨b, o + t, none⟩) hb
        rw [hcj t (by have := HM.out; omega), hj0] at hkj
        have j06 : j0 < 6 := by rw [← hj0]; exact H2.out _ (getD_mem (by have := HM.out; omega))
        have t6 : t < 6 := by omega
        have huc := HFr.out.ub.cell t6
        have huf := HFr.out.ub.frozen (i := t)
        have HJ0 := Bx.mk hj0
        clear hcj hj0
        cases hu : u t with
        | true =>
          rw [hu] at huc
          have e := bef_succ u t
          rw [hu] at e
          go_wp2_with fail
          go_roundw
          case rel => exact ⟨t + 1, S, G, by omega, rfl, rfl, by go_num, ⟨by rw [e]; exact HS.out⟩, ⟨by rw [e]; exact HG.out⟩, hB⟩
          case measure => simp [intOf]; omega
        | false =>
          rw [hu] at huc
          have e := bef_succ u t
          rw [hu, if_neg (by simp)] at e
          have hua := Bx.mk (un_at (u := u) (cs := cs) (i := t) (by have := HM.out; omega) hu)
          have HE := Bx.mk e
          clear e
          have hki := hB.cell (p := ⟨b2, o2 + d, none⟩) hb2
          have hkr := hB.cell (p := ⟨b3, o3 + i0 * 6 + j0, none⟩) hb3
          have hkx := hB.cell (p := ⟨Br, 0, none⟩) hb5
          have hky := hB.cell (p := ⟨Bc, 0, none⟩) hb6
          have hkz := hB.cell (p := ⟨Be, 0, none⟩) hb7
          obtain ⟨x, hx⟩ : ∃ x, M i0 j0 = x := ⟨_, rfl⟩
          rw [hii] at hki; rw [HCR.out i0 j0 i0n j06, hx] at hkr; rw [hp5] at hkx; rw [p1] at hky; rw [hp7] at hkz
          have HX := Bx.mk hx
          have g1 : -1 ≤ G := by rw [HG.out]; have := sg_pm (bef u t); omega
          have g2 : G ≤ 1 := by rw [HG.out]; have := sg_pm (bef u t); omega
          clear hx
          by_cases hz : x = 0
          · subst hz
            go_wp2_with fail
            go_region
            all_goals go_wp2_with fail
            go_roundw
            case rel => exact ⟨t + 1, S, -G, by omega, rfl, rfl, by go_num, ⟨by rw [HE.out, sm, hua.out.2.1, HJ0.out, HX.out, HS.out]; simp⟩, ⟨by rw [HE.out, HG.out]; rfl⟩, below_drew hB⟩
            case measure => simp [intOf]; omega
          · have hz' : (x == 0) = false := by simpa using hz
            have hF0 := HFr.out.set t6 true
            have hks := hF0.ve.cell
            have hF1 := hF0.below (W' := (wr.setCell ⟨Bu, t, none⟩ (.bool true)).drew) (below_drew (Below.refl _ _))
            have hB1 := HFr.out.ub
            have IH1 := Bx.mk (fun (x : Int) (hx : x = ((d + 1 : Nat) : Int)) => (IH.out x _ _ hx hF1).mono (R' := fun e w' => e = .returned (.int .i64 (wrap64 (mn ((is.drop (d + 1)).map M) (un (upd u t true) cs)))) ∧ Bx (Below w.heap.size w (w'.setCell ⟨Bu, t, none⟩ (.bool false))) ∧ w'.cell? ⟨Bu, t, none⟩ = some (.bool true) ∧ w'.frozen? ⟨Bu, t, none⟩ = false) (fun e w' h => ⟨h.1, ⟨by
              have := hB1.restore t6 ((below_drew (Below.refl (wr.setCell ⟨Bu, t, none⟩ (.bool true)).heap.size (wr.setCell ⟨Bu, t, none⟩ (.bool true)))).trans h.2)
              rw [hu] at this
              exact hB.trans (this.mono hB.size)⟩, by have := (hF1.below h.2).ub.cell t6; simpa [upd] using this, (hF1.below h.2).ub.frozen⟩))
            obtain ⟨mm, hmm⟩ : ∃ mm, wrap64 (mn ((is.drop (d + 1)).map M) (un (upd u t true) cs)) = mm := ⟨_, rfl⟩
            rw [hmm] at IH1
            have HMM := Bx.mk hmm
            clear hF1 hB1 hmm hF0
            go_wp2_with fail
            go_region
            all_goals go_wp2_with (go_at_call 152; refine (IH1.out _ (by go_num)).mono ?_; clear IH1; rintro e w3 ⟨rfl, HB3, k1, k2⟩)
            all_goals
              have HS' := Bx.mk (wrap_step (x := x) HS.out HMM.out.symm HG.out)
              go_roundw
              case rel => exact ⟨t + 1, _, _, by omega, rfl, rfl, by go_num, ⟨by rw [HS'.out, HE.out, sm, hua.out.2.1, hua.out.2.2, HJ0.out, HX.out]⟩, ⟨by rw [HE.out, HG.out]; rfl⟩, HB3.out⟩
              case measure => simp [intOf]; omega
      · have : t = m := by omega
        subst this
        have HR' := Bx.mk (show S = wrap64 (mn ((is.drop d).map M) (un u cs)) by rw [HD.out, List.map_cons, mn_sum, ← bef_all, HM.out]; exact HS.out)
        go_wp2_with fail
        go_ret
        exact ⟨by rw [← HR'.out]; rfl, hB⟩
def five (w : World) (a b c e : Value) : World := ((((w.alloc (.cells #[a] 22)).alloc (.cells #[b] 29)).alloc (.cells #[c] 29)).alloc (.cells #[.bool false, .bool false, .bool false, .bool false, .bool false, .bool false] 160)).alloc (.cells #[e] 153)
theorem five_fr {ao bo co : Option Addr} {n c1 c2 c3 : Nat} {M : Nat → Nat → Int} {is cs : List Nat} {w : World} (hR : CV w ao n M) (hI : CN w bo is) (hJ : CN w co cs) :
    Fr ao bo co n c1 c2 c3 M is cs w.heap.size (w.heap.size + 1) (w.heap.size + 1 + 1) (w.heap.size + 1 + 1 + 1) (w.heap.size + 1 + 1 + 1 + 1) (five w (.slice ao n c1) (.slice bo is.length c2) (.slice co cs.length c3) (.func (.func 152) #[] #[.pointer (some ⟨w.heap.size + 1, 0, none⟩), .pointer (some ⟨w.heap.size + 1 + 1, 0, none⟩), .pointer (some ⟨w.heap.size + 1 + 1 + 1, 0, none⟩), .pointer (some ⟨w.heap.size, 0, none⟩), .pointer (some ⟨w.heap.size + 1 + 1 + 1 + 1, 0, none⟩)])) (fun _ => false) ∧
    ∀ a b c e, Below w.heap.size w (five w a b c e) := by
  have hB : ∀ a b c e, Below w.heap.size w (five w a b c e) := fun a b c e => by
    unfold five
    exact (((((Below.refl _ w).alloc (Nat.le_refl _) _).alloc (by simp) _).alloc (by simp; omega) _).alloc (by simp; omega) _).alloc (by simp; omega) _
  refine ⟨⟨hR.keep (hB _ _ _ _), hI.keep (hB _ _ _ _), hJ.keep (hB _ _ _ _), ?_, ?_, ?_, ?_, ?_⟩, hB⟩ <;> unfold five
  · exact ((((Boxed.new w _ _).alloc _).alloc _).alloc _).alloc _
  · have := ((((Boxed.new (w.alloc (.cells #[.slice ao n c1] 22)) 29 (.slice bo is.length c2)).alloc (.cells #[.slice co cs.length c3] 29)).alloc (.cells #[.bool false, .bool false, .bool false, .bool false, .bool false, .bool false] 160)).alloc)
    simp only [World.size_alloc] at this; exact this _
  · have := (((Boxed.new ((w.alloc (.cells #[.slice ao n c1] 22)).alloc (.cells #[.slice bo is.length c2] 29)) 29 (.slice co cs.length c3)).alloc (.cells #[.bool false, .bool false, .bool false, .bool false, .bool false, .bool false] 160)).alloc)
    simp only [World.size_alloc] at this; exact this _
  · have h := Boxed.new ((((w.alloc (.cells #[.slice ao n c1] 22)).alloc (.cells #[.slice bo is.length c2] 29)).alloc (.cells #[.slice co cs.length c3] 29)).alloc (.cells #[.bool false, .bool false, .bool false, .bool false, .bool false, .bool false] 160)) 153
    simp only [World.size_alloc] at h; exact h _
  · unfold UB
    rw [Below.heap_alloc _ _ _ (by simp)]
    have h := World.alloc_heap_new (((w.alloc (.cells #[.slice ao n c1] 22)).alloc (.cells #[.slice bo is.length c2] 29)).alloc (.cells #[.slice co cs.length c3] 29)) (.cells #[.bool false, .bool false, .bool false, .bool false, .bool false, .bool false] 160)
    simp only [World.size_alloc] at h; exact h
set_option maxRecDepth 100000 in
set_option maxHeartbeats 4000000 in
/-- The program's minor. -/
theorem pminor_any (ao bo co : Option Addr) (n c1 c2 c3 : Nat) (M : Nat → Nat → Int) (is cs : List Nat) (w : World) (hn : n ≤ 1000) (hc1 : n ≤ c1) (h1 : ∀ i ∈ is, i < n) (h2 : ∀ j ∈ cs, j < 6) (hc2 : is.length ≤ c2) (hc3 : cs.length ≤ c3) (hl2 : is.length ≤ 6) (hl3 : cs.length ≤ 6) (hR : CV w ao n M) (hI : CN w bo is) (hJ : CN w co cs) :
    Calls Try.prog 121 #[.slice ao n c1, .slice bo is.length c2, .slice co cs.length c3] w fun e w' => e = .returned (.int .i64 (wrap64 (mn (is.map M) cs))) ∧ Below w.heap.size w w' := by
  obtain ⟨hF, hB⟩ := five_fr (c1 := c1) (c2 := c2) (c3 := c3) hR hI hJ
  have IH := Bx.mk ((expand_any ao bo co n c1 c2 c3 M is cs _ _ _ _ _ hn hc1 h1 h2 hc2 hc3 hl2 hl3 is.length 0 _ _ (by omega) hF).mono (R' := fun e w' => e = .returned (.int .i64 (wrap64 (mn (is.map M) cs))) ∧ Below w.heap.size w w') (fun e w' h => by rw [un_none] at h; exact ⟨h.1, (hB _ _ _ _).trans (h.2.mono (hB _ _ _ _).size)⟩))
  unfold five at IH
  clear hF hB
  obtain ⟨r, hr⟩ : ∃ r, is.length = r := ⟨_, rfl⟩
  obtain ⟨m, hm⟩ : ∃ m, cs.length = m := ⟨_, rfl⟩
  rw [hr, hm] at IH ⊢
  go_enter Try.func121, Try.ntmps121
  go_wp2_with (go_at_call 152; refine IH.out.mono ?_; clear IH; rintro e w3 ⟨rfl, hB3⟩)
  go_ret
  exact ⟨rfl, hB3⟩
end Go.Proofs.Ytnbamjoadankmaa

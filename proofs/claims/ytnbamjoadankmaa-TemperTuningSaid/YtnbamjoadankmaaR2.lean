/- the reference's Minor. -/
import Derived.Test.YtnbamjoadankmaaMC
import Derived.Test.YtnbamjoadankmaaDQ
namespace Go.Proofs.Ytnbamjoadankmaa
open Go.RowKit D
theorem owns_empty {w : World} {base g : Nat} {e : TypeId} (hb : base ≤ g) (h : w.heap[g]? = some (.cells #[] e (0, 0))) : w.ownsRow base e 1 (.slice (some ⟨g, 0, none⟩) 0 0) 0 [] :=
  ⟨rfl, Or.inr ⟨g, 0, #[], rfl, hb, h, Nat.le_refl _, by unfold maxLen; omega, rfl, rfl⟩⟩
/-- The minor as an alternating sum. -/
theorem alt_sum (f : Nat → List Nat → Int) (pre cs : List Nat) : alt (fun a r => f a (pre ++ r)) cs = sm cs.length (fun k => sg k * f (cs.getD k 0) (pre ++ cs.eraseIdx k)) := by
  induction cs generalizing pre with
  | nil => rfl
  | cons c cs ih =>
    unfold alt
    have := ih (pre ++ [c])
    simp only [List.append_assoc, List.singleton_append] at this
    rw [this, List.length_cons, sm_front]
    simp only [List.getD_cons_zero, List.eraseIdx_cons_zero, List.getD_cons_succ, List.eraseIdx_cons_succ, sg]
    rw [sm_congr (f := fun t => -sg t * f (cs.getD t 0) (pre ++ c :: cs.eraseIdx t)) (g := fun t => -1 * (sg t * f (cs.getD t 0) (pre ++ c :: cs.eraseIdx t))) fun t _ => by grind, sm_mul]
    omega
theorem mn_sum (v : Nat → Int) (vs : List (Nat → Int)) (js : List Nat) : mn (v :: vs) js = sm js.length (fun k => sg k * (v (js.getD k 0) * mn vs (js.eraseIdx k))) := by
  rw [mn_cons]
  have := alt_sum (fun a r => v a * mn vs r) [] js
  simpa using this
/-- Sums and products are counted modulo 2^64. -/
theorem wrap64_mod (n : Int) : ∃ q, wrap64 n = n + 18446744073709551616 * q := by
  refine ⟨-((n + 9223372036854775808) / 18446744073709551616), ?_⟩
  unfold wrap64; omega
theorem wrap64_of {a b q : Int} (h : a = b + 18446744073709551616 * q) : wrap64 a = wrap64 b := by
  subst h; unfold wrap64; omega
theorem wrap_step {S G x m P p s : Int} (h1 : S = wrap64 P) (h2 : m = wrap64 p) (hG : G = s) : wrap64 (S + wrap64 (wrap64 (G * x) * m)) = wrap64 (P + s * (x * p)) := by
  obtain ⟨a, ha⟩ := wrap64_mod P
  obtain ⟨b, hb⟩ := wrap64_mod p
  obtain ⟨c, hc⟩ := wrap64_mod (G * x)
  obtain ⟨d, hd⟩ := wrap64_mod (wrap64 (G * x) * m)
  rw [hd, hc, h1, h2, ha, hb, hG]
  exact wrap64_of (q := a + d + c * p + c * 18446744073709551616 * b + s * x * b) (by grind)
/-- What a call owns reads as a list of indices. -/
theorem cn_of_owns {w : World} {base n : Nat} {v : Value} {l : List Nat} (h : w.ownsRow base 3 1 v n (l.map fun (j : Nat) => Value.int .i64 (j : Int))) : ∃ ao c, v = .slice ao l.length c ∧ l.length ≤ c ∧ c ≤ maxLen ∧ CN w ao l := by
  have hn : l.length = n := by have := h.1; simpa using this
  rcases h.2 with ⟨h', h0⟩ | ⟨g, cap, cur, h', hb, hg, hnc, hm, hs, ht⟩
  · subst h'
    have : l = [] := List.eq_nil_of_length_eq_zero (by omega)
    subst this
    exact ⟨none, 0, rfl, Nat.le_refl _, by unfold maxLen; omega, CN.nil⟩
  · subst h'
    refine ⟨some ⟨g, 0, none⟩, cap, by rw [hn], by omega, hm, fun _ => ⟨g, 0, rfl, (Array.getElem?_eq_some_iff.1 hg).1, fun i hi => ?_⟩⟩
    rw [Nat.zero_add, h.cellAt i (by omega)]
    simp [List.getElem?_eq_getElem hi, List.getD]
theorem sg_pm (t : Nat) : sg t = 1 ∨ sg t = -1 := by
  induction t with
  | zero => exact Or.inl rfl
  | succ t ih => simp only [sg]; omega
/-- Where a slice that is cut at its head begins. -/
theorem cn_tail {w : World} {b o c : Nat} {x : Nat} {l : List Nat} (hc : l.length + 1 ≤ c) (h : CN w (some ⟨b, o, none⟩) (x :: l)) : CN w (if c = 1 then some ⟨b, o, none⟩ else some ⟨b, o + 1, none⟩) l := by
  intro hl
  have : 0 < l.length := List.length_pos_iff.2 hl
  rw [if_neg (by omega)]
  obtain ⟨b', o', e, hb, hi⟩ := h (by simp)
  simp only [Option.some.injEq, Addr.mk.injEq, and_true] at e
  obtain ⟨rfl, rfl⟩ := e
  refine ⟨b, o + 1, rfl, hb, fun i hil => ?_⟩
  have := hi (i + 1) (by simp; omega)
  rw [show o + 1 + i = o + (i + 1) by omega, this]; simp
theorem owns_block {w : World} {base n size : Nat} {e : TypeId} {v : Value} {xs : List Value} (h : w.ownsRow base e size v n xs) : ∀ k, v.ownBlock = some k → base ≤ k := by
  intro k hk
  rcases h.2 with ⟨rfl, _⟩ | ⟨g, cap, cur, rfl, hb, _⟩
  · simp [Value.ownBlock] at hk
  · simp [Value.ownBlock] at hk; omega
theorem take_cells {w W : World} {b o t : Nat} {l : List Nat} (hB : Below w.heap.size w W) (hb : b < w.heap.size) (hc : ∀ i, i < l.length → w.cell? ⟨b, o + i, none⟩ = some (.int .i64 ((l.getD i 0 : Nat) : Int))) :
    ∀ ad, (some ⟨b, o, none⟩ : Option Addr) = some ad → ∀ j u, ((l.take t).map fun (j : Nat) => Value.int .i64 (j : Int))[j]? = some u → W.cell? (ad.add j) = some u := by
  intro ad had j u hu
  obtain rfl := Option.some.inj had
  have hj : j < (l.take t).length := by have := (List.getElem?_eq_some_iff.1 hu).1; simpa using this
  have hjl : j < l.length := by simp at hj; omega
  rw [Addr.add_lit, hB.cell (p := ⟨b, o + j, none⟩) hb, hc j hjl, ← hu]
  simp at hj
  simp [List.getElem?_take, hj, List.getElem?_eq_getElem hjl]
theorem drop_cells {w W : World} {b o t c : Nat} {l : List Nat} (hB : Below w.heap.size w W) (hb : b < w.heap.size) (hc : ∀ i, i < l.length → w.cell? ⟨b, o + i, none⟩ = some (.int .i64 ((l.getD i 0 : Nat) : Int))) (hlc : l.length ≤ c) :
    ∀ ad, (if c = t then some ⟨b, o, none⟩ else some ⟨b, o + t, none⟩ : Option Addr) = some ad → ∀ j u, ((l.drop t).map fun (j : Nat) => Value.int .i64 (j : Int))[j]? = some u → W.cell? (ad.add j) = some u := by
  intro ad had j u hu
  have hj : j < (l.drop t).length := by have := (List.getElem?_eq_some_iff.1 hu).1; simpa using this
  have hjl : t + j < l.length := by simp at hj; omega
  rw [if_neg (by omega)] at had
  obtain rfl := Option.some.inj had
  rw [Addr.add_lit, Nat.add_assoc, hB.cell (p := ⟨b, o + (t + j), none⟩) hb, hc (t + j) hjl, ← hu]
  simp [List.getElem?_drop, List.getElem?_eq_getElem hjl]
theorem int_cells {l : List Nat} : ∀ u ∈ l.map (fun (j : Nat) => Value.int .i64 (j : Int)), u.oneCell' = true := by
  intro u hu; obtain ⟨_, _, rfl⟩ := List.mem_map.1 hu; rfl
set_option maxRecDepth 100000 in
set_option maxHeartbeats 4000000 in
theorem minor_any (ao : Option Addr) (n c1 : Nat) (M : Nat → Nat → Int) (hn : n ≤ 1000) (hc1 : n ≤ c1) (is : List Nat) : ∀ (js : List Nat) (bo co : Option Addr) (c2 c3 : Nat) (w : World), CV w ao n M → CN w bo is → CN w co js → (∀ i ∈ is, i < n) → (∀ j ∈ js, j < 6) →
    is.length ≤ c2 → is.length ≤ 1000 → js.length ≤ c3 → js.length ≤ 1000 →
    Calls Try.prog 70 #[.slice ao n c1, .slice bo is.length c2, .slice co js.length c3] w fun e w' => e = .returned (.int .i64 (wrap64 (mn (is.map M) js))) ∧ Below w.heap.size w w' := by
  induction is with
  | nil =>
    intro js bo co c2 c3 w hR hI hJ h1 h2 hc2 hk hc3 hm
    rw [show wrap64 (mn (([] : List Nat).map M) js) = 1 from by simp [mn, wrap64]]
    go_enter Try.func70, Try.ntmps70
    go_wp2_with fail
    go_ret
    exact ⟨rfl, (by repeat (first | with_reducible exact Below.refl _ _ | with_reducible exact hB | (with_reducible refine Below.setCell ?_ ?side _; case side => (first | omega | (simp <;> omega))) | (with_reducible refine Below.alloc ?_ ?side _; case side => (first | omega | (simp <;> omega))) | with_reducible apply below_drewN | with_reducible apply below_drew))⟩
  | cons i0 is ih =>
    intro js bo co c2 c3 w hR hI hJ h1 h2 hc2 hk hc3 hm
    have i0n : i0 < n := h1 i0 (by simp)
    have h1' : ∀ i ∈ is, i < n := fun i hi => h1 i (by simp [hi])
    obtain ⟨b2, o2, rfl, hb2, hci⟩ := hI (by simp)
    have ht2 := cn_tail hc2 hI
    obtain ⟨m, hjm⟩ : ∃ m, js.length = m := ⟨_, rfl⟩
    obtain ⟨q, hq⟩ : ∃ q, is.length = q := ⟨_, rfl⟩
    obtain ⟨bo', hbo⟩ : ∃ bo', (if c2 = 1 then some (⟨b2, o2, none⟩ : Addr) else some ⟨b2, o2 + 1, none⟩) = bo' := ⟨_, rfl⟩
    rw [hbo] at ht2
    have HBO := Bx.mk hbo
    have IH := Bx.mk (fun js' co' c3' w' hw hj2 hj6 hl3 hl => ih js' bo' co' (c2 - 1) c3' w' (hR.keep hw) (ht2.keep hw) hj2 h1' hj6 (by simp at hc2; omega) (by simp at hk; omega) hl3 hl)
    obtain ⟨b3, o3, rfl, hb3, hcr⟩ := hR (by omega)
    obtain ⟨ti, hti, hti2⟩ := Option.map_eq_some_iff.1 info_int
    simp only [Prod.mk.injEq] at hti2
    obtain ⟨hz0, hz1, hz2⟩ := hti2
    have c0 := hci 0 (by simp)
    rw [Nat.add_zero, List.getD_cons_zero] at c0
    simp only [List.length_cons, hq, hjm] at hc2 hk hc3 hm IH ⊢
    have HJL := Bx.mk hjm
    have HJ := Bx.mk hJ
    have H2 := Bx.mk h2
    have HTI := Bx.mk hti
    have hq0 : ((q : Int) + 1 == 0) = false := by simp; omega
    clear ih hR hci ht2 hJ h2 h1 h1' hq hbo
    go_enter Try.func70, Try.ntmps70
    go_wp2_with fail
    go_loopw [7, 8, 9] (fun s g t wr => ∃ (k : Nat) (S G : Int), k ≤ m ∧ s = .int .i64 S ∧ g = .int .i64 G ∧ t = .int .i64 k ∧ Bx (S = wrap64 (sm k (fun t => sg t * (M i0 (js.getD t 0) * mn (is.map M) (js.eraseIdx t))))) ∧ Bx (G = sg k) ∧ Below w.heap.size w wr) (fun _ _ t _ => m - (intOf t).toNat)
    case atStart => exact ⟨0, 0, 1, by omega, rfl, rfl, rfl, ⟨by simp [sm, wrap64]⟩, ⟨rfl⟩, Below.refl _ _⟩
    case round =>
      obtain ⟨t, S, G, ht, rfl, rfl, rfl, HS, HG, hB⟩ := hrel
      by_cases hlt : t < m
      · obtain ⟨b, o, rfl, hb, hcj⟩ := HJ.out (by intro e; have := HJL.out; subst e; simp at this; omega)
        obtain ⟨j0, hj0⟩ : ∃ j0, js.getD t 0 = j0 := ⟨_, rfl⟩
        have hjt := hcj t (by have := HJL.out; omega)
        have j06 : j0 < 6 := by rw [← hj0]; exact H2.out _ (getD_mem (by have := HJL.out; omega))
        have hki := hB.cell (p := ⟨b2, o2, none⟩) hb2
        have hkj := hB.cell (p := ⟨b, o + t, none⟩) hb
        have hkr := hB.cell (p := ⟨b3, o3 + i0 * 6 + j0, none⟩) hb3
        obtain ⟨x, hx⟩ : ∃ x, M i0 j0 = x := ⟨_, rfl⟩
        rw [c0] at hki; rw [hjt, hj0] at hkj; rw [hcr i0 j0 i0n j06, hx] at hkr
        have HX := Bx.mk hx
        have HJ0 := Bx.mk hj0
        have g1 : -1 ≤ G := by rw [HG.out]; have := sg_pm t; omega
        have g2 : G ≤ 1 := by rw [HG.out]; have := sg_pm t; omega
        have HCJ := Bx.mk hcj
        clear hcj hjt hx hj0
        by_cases hz : x = 0
        · subst hz
          go_wp2_with fail
          go_region
          all_goals go_wp2_with fail
          go_roundw
          case rel => exact ⟨t + 1, S, -G, by omega, rfl, rfl, by go_num, ⟨by rw [sm, HJ0.out, HX.out, HS.out]; simp⟩, ⟨by rw [HG.out]; rfl⟩, below_drew hB⟩
          case measure => simp [intOf]; omega
        · have hz' : (x == 0) = false := by simpa using hz
          have hsz := hB.size
          have hlen := HJL.out
          go_wp2_with fail
          go_region
          all_goals go_wp2_with fail
          have a1 : t ≤ c3 := by omega
          have a2 : IntKind.i64.wrap ((t : Int) + 1) = ((t + 1 : Nat) : Int) := by rw [IntWalk.i64_in] <;> omega
          have a3 : t + 1 ≤ m := by omega
          have a4 : m ≤ c3 := hc3
          have a5 : 0 ≤ (t : Int) + 1 := by omega
          have a6 : (t : Int) + 1 ≤ (m : Int) := by omega
          have hti := HTI.out
          have hcj := HCJ.out
          obtain ⟨co', hco⟩ : ∃ co', (if c3 = t + 1 then some (⟨b, o, none⟩ : Addr) else some ⟨b, o + (t + 1), none⟩) = co' := ⟨_, rfl⟩
          go_region_law (first
            | (refine step_append_own rfl (.tmp 34) (.tmp 37) 29 rfl w.heap.size 3 ti (.int .i64 0) 1 8 Try.underlying29 hti hz0 hz1 hz2 rfl (by decide) _ 0 [] rfl (owns_empty (by first | omega | (simp; omega)) (by show (Array.push wr.heap _)[wr.heap.size]? = _; simp)) _ t _ ((js.take t).map fun (j : Nat) => Value.int .i64 (j : Int)) rfl (by simp; omega) (by intro h; cases h) (take_cells (by repeat (first | with_reducible exact Below.refl _ _ | with_reducible exact hB | (with_reducible refine Below.setCell ?_ ?side _; case side => (first | omega | (simp <;> omega))) | (with_reducible refine Below.alloc ?_ ?side _; case side => (first | omega | (simp <;> omega))) | with_reducible apply below_drewN | with_reducible apply below_drew)) hb hcj) int_cells (by unfold maxLen; omega) (by omega) (by first | omega | (simp; omega)) ?_; intro v1 w1 ho1 hg1; rw [Nat.zero_add, List.nil_append] at ho1)
            | (refine step_append_own rfl (.tmp 38) (.tmp 42) 29 rfl w.heap.size 3 ti (.int .i64 0) 1 8 Try.underlying29 hti hz0 hz1 hz2 rfl (by decide) _ t _ rfl ho1 _ (m - (t + 1)) _ ((js.drop (t + 1)).map fun (j : Nat) => Value.int .i64 (j : Int)) rfl (by simp [hlen]) (by intro h; rw [← hco] at h; split at h <;> cases h) (by rw [← hco]; exact drop_cells (Below.grown (by repeat (first | with_reducible exact Below.refl _ _ | with_reducible exact hB | (with_reducible refine Below.setCell ?_ ?side _; case side => (first | omega | (simp <;> omega))) | (with_reducible refine Below.alloc ?_ ?side _; case side => (first | omega | (simp <;> omega))) | with_reducible apply below_drewN | with_reducible apply below_drew)) hg1 (by first | omega | (simp; omega)) (by intro k hk; have hk' : some wr.heap.size = some k := hk; simp at hk'; omega)) hb hcj (by have := HJL.out; omega)) int_cells (by unfold maxLen; omega) (by omega) (by have := hg1.size; simp at this; omega) ?_; intro v2 w2 ho2 hg2))
          all_goals
            have HB1 : Bx (Below w.heap.size w w1) := ⟨Below.grown (by repeat (first | with_reducible exact Below.refl _ _ | with_reducible exact hB | (with_reducible refine Below.setCell ?_ ?side _; case side => (first | omega | (simp <;> omega))) | (with_reducible refine Below.alloc ?_ ?side _; case side => (first | omega | (simp <;> omega))) | with_reducible apply below_drewN | with_reducible apply below_drew)) hg1 (by first | omega | (simp; omega)) (by intro k hk; have hk' : some wr.heap.size = some k := hk; simp at hk'; omega)⟩
            have HB2 : Bx (Below w.heap.size w w2) := ⟨Below.grown HB1.out hg2 HB1.out.size (owns_block ho1)⟩
            obtain ⟨ao2, c4, rfl, hl4, hm4, hcn⟩ := cn_of_owns (l := js.eraseIdx t) (by rw [List.eraseIdx_eq_take_drop_succ, List.map_append]; exact ho2)
            have hle : (js.eraseIdx t).length = m - 1 := by have := HJL.out; rw [List.length_eraseIdx, if_pos (by omega)]; omega
            obtain ⟨R, hR⟩ : ∃ R, js.eraseIdx t = R := ⟨_, rfl⟩
            have hR6 : ∀ j ∈ R, j < 6 := by rw [← hR]; exact fun j hj => H2.out j (List.mem_of_mem_eraseIdx hj)
            rw [hR] at hcn hl4 hle ⊢
            have HRL := Bx.mk hle
            have HR := Bx.mk hR
            have HR6 := Bx.mk hR6
            rw [hle] at hl4 ⊢
            have HCN := Bx.mk hcn
            clear hR hR6 hle hcn ho1 ho2 hg1 hg2 HB1
            have hbo := HBO.out
            go_wp2_with fail
            have IH' := IH.out R ao2 c4 w2 HB2.out HCN.out HR6.out (by rw [HRL.out]; exact hl4) (by rw [HRL.out]; omega)
            obtain ⟨mm, hmm⟩ : ∃ mm, wrap64 (mn (is.map M) R) = mm := ⟨_, rfl⟩
            rw [HRL.out, hmm] at IH'
            rw [← HR.out] at hmm
            refine IH'.mono ?_
            rintro e w3 ⟨rfl, hb4⟩
            clear IH'
            have HS' := Bx.mk (wrap_step (x := x) HS.out hmm.symm HG.out)
            have HB3 : Bx (Below w.heap.size w w3) := ⟨HB2.out.trans (hb4.mono HB2.out.size)⟩
            have HG' : Bx (-G = sg (t + 1)) := ⟨by rw [HG.out]; rfl⟩
            clear hmm hb4 hbo
            go_wp2_with fail
            go_roundw
            case rel => exact ⟨t + 1, _, _, by omega, rfl, rfl, by go_num, ⟨by rw [HS'.out, sm, HJ0.out, HX.out]⟩, ⟨HG'.out⟩, HB3.out⟩
            case measure => simp [intOf]; omega
      · have : t = m := by omega
        subst this
        have e : mn (((i0 :: is)).map M) js = sm t (fun k => sg k * (M i0 (js.getD k 0) * mn (is.map M) (js.eraseIdx k))) := by
          rw [List.map_cons, mn_sum, HJL.out]
        have HR' := Bx.mk (show S = wrap64 (mn ((i0 :: is).map M) js) by rw [e]; exact HS.out)
        go_wp2_with fail
        go_ret
        exact ⟨by rw [← HR'.out]; rfl, hB⟩
end Go.Proofs.Ytnbamjoadankmaa

/- slices.Equal, slices.Grow and slices.Concat over rows. -/
import Derived.Test.YtnbamjoadankmaaKZ
import Derived.Lib.AppendZeros
import Derived.Test.YtnbamjoadankmaaWS
import Derived.Test.YtnbamjoadankmaaWP
namespace Go.Proofs.Ytnbamjoadankmaa
open Go.RowKit D
theorem equal_any (ao bo : Option Addr) (c1 c2 n m : Nat) (A B : Nat → Nat → Int) (w : World) (hc1 : n ≤ c1) (hc2 : c1 ≤ maxLen) (hc3 : m ≤ c2) (hc4 : c2 ≤ maxLen) (hA : CV w ao n A) (hB : CV w bo m B) (b : Bool) (hb : b = true ↔ n = m ∧ ∀ i j, i < n → j < 6 → A i j = B i j) :
    Calls Try.prog 87 #[.slice ao n c1, .slice bo m c2] w fun e w' => e = .returned (.bool b) ∧ Below w.heap.size w w' := by
  unfold maxLen at hc2 hc4
  by_cases hl : n = m
  · subst hl
    have HY := Bx.mk (show (∀ i j, i < n → j < 6 → A i j = B i j) → b = true from fun h => hb.2 ⟨rfl, h⟩)
    have HN := Bx.mk (show ¬ (∀ i j, i < n → j < 6 → A i j = B i j) → b = false from fun h => by
      cases hbb : b with
      | false => rfl
      | true => exact absurd (hb.1 hbb).2 h)
    clear hb
    go_enter Try.func87, Try.ntmps87
    go_wp2_with fail
    go_loopw [13] (fun i wr => ∃ k : Nat, k ≤ n ∧ i = .int .i64 k ∧ Bx (∀ i j, i < k → j < 6 → A i j = B i j) ∧ Below w.heap.size w wr) (fun i _ => n - (intOf i).toNat)
    case atStart => exact ⟨0, by omega, rfl, ⟨fun i j hi => by omega⟩, Below.refl _ _⟩
    case round =>
      obtain ⟨k, hk, rfl, HE, hB'⟩ := hrel
      by_cases hlt : k < n
      · obtain ⟨b1, o1, rfl, hb1, hca⟩ := hA (by omega)
        obtain ⟨b2, o2, rfl, hb2, hcb⟩ := hB (by omega)
        have a0 := hB'.cell (p := ⟨b1, o1 + k * 6 + 0, none⟩) hb1
        have a1 := hB'.cell (p := ⟨b1, o1 + k * 6 + 1, none⟩) hb1
        have a2 := hB'.cell (p := ⟨b1, o1 + k * 6 + 2, none⟩) hb1
        have a3 := hB'.cell (p := ⟨b1, o1 + k * 6 + 3, none⟩) hb1
        have a4 := hB'.cell (p := ⟨b1, o1 + k * 6 + 4, none⟩) hb1
        have a5 := hB'.cell (p := ⟨b1, o1 + k * 6 + 5, none⟩) hb1
        have e0 := hB'.cell (p := ⟨b2, o2 + k * 6 + 0, none⟩) hb2
        have e1 := hB'.cell (p := ⟨b2, o2 + k * 6 + 1, none⟩) hb2
        have e2 := hB'.cell (p := ⟨b2, o2 + k * 6 + 2, none⟩) hb2
        have e3 := hB'.cell (p := ⟨b2, o2 + k * 6 + 3, none⟩) hb2
        have e4 := hB'.cell (p := ⟨b2, o2 + k * 6 + 4, none⟩) hb2
        have e5 := hB'.cell (p := ⟨b2, o2 + k * 6 + 5, none⟩) hb2
        rw [hca k _ hlt (by omega)] at a0 a1 a2 a3 a4 a5
        rw [hcb k _ hlt (by omega)] at e0 e1 e2 e3 e4 e5
        rw [Nat.add_zero] at a0 e0
        clear hca hcb
        by_cases hq : ∀ j, j < 6 → A k j = B k j
        · have E6 := eq6_is 36 Try.underlying36 (A k) (B k) true (by simpa using hq)
          have HE' := Bx.mk (show ∀ i j, i < k + 1 → j < 6 → A i j = B i j from fun i j hi hj => by
            rcases Nat.lt_or_eq_of_le (Nat.le_of_lt_succ hi) with z | z
            · exact HE.out i j z hj
            · rw [z]; exact hq j hj)
          clear hq
          go_wp2_with fail
          go_region
          all_goals go_wp2_with fail
          all_goals exact ⟨⟨k + 1, by omega, by go_num, HE', (by repeat (first | with_reducible exact Below.refl _ _ | with_reducible exact hB' | (with_reducible refine Below.setCell ?_ ?side _; case side => (first | omega | (simp <;> omega))) | (with_reducible refine Below.alloc ?_ ?side _; case side => (first | omega | (simp <;> omega))) | with_reducible apply below_drewN | with_reducible apply below_drew))⟩, by simp [intOf]; omega⟩
        · obtain rfl : b = false := HN.out fun h => hq fun j hj => h k j hlt hj
          have E6 := eq6_is 36 Try.underlying36 (A k) (B k) false (by simpa using hq)
          clear hq
          go_wp2_with fail
          go_region
          all_goals go_wp2_with fail
          all_goals go_ret
          all_goals exact ⟨rfl, (by repeat (first | with_reducible exact Below.refl _ _ | with_reducible exact hB' | (with_reducible refine Below.setCell ?_ ?side _; case side => (first | omega | (simp <;> omega))) | (with_reducible refine Below.alloc ?_ ?side _; case side => (first | omega | (simp <;> omega))) | with_reducible apply below_drewN | with_reducible apply below_drew))⟩
      · obtain rfl : k = n := by omega
        obtain rfl : b = true := HY.out HE.out
        go_wp2_with fail
        go_ret
        exact ⟨rfl, (by repeat (first | with_reducible exact Below.refl _ _ | with_reducible exact hB' | (with_reducible refine Below.setCell ?_ ?side _; case side => (first | omega | (simp <;> omega))) | (with_reducible refine Below.alloc ?_ ?side _; case side => (first | omega | (simp <;> omega))) | with_reducible apply below_drewN | with_reducible apply below_drew))⟩
  · obtain rfl : b = false := by
      cases hbb : b with
      | false => rfl
      | true => exact absurd (hb.1 hbb).1 hl
    have hl' : ((n : Int) == m) = false := by simp; omega
    go_enter Try.func87, Try.ntmps87
    go_wp2_with fail
    go_ret
    exact ⟨rfl, (by repeat (first | with_reducible exact Below.refl _ _ | with_reducible exact hB' | (with_reducible refine Below.setCell ?_ ?side _; case side => (first | omega | (simp <;> omega))) | (with_reducible refine Below.alloc ?_ ?side _; case side => (first | omega | (simp <;> omega))) | with_reducible apply below_drewN | with_reducible apply below_drew))⟩

theorem cv_cat {A B : Nat → Nat → Int} {n m : Nat} {w : World} {base : Nat} {v : Value} (h : w.ownsRow base 36 6 v (n + m) (rowsL A n ++ rowsL B m)) : ∃ ao c, v = .slice ao (n + m) c ∧ n + m ≤ c ∧ c ≤ maxLen ∧ CV w ao (n + m) (fun i j => if i < n then A i j else B (i - n) j) := by
  rcases h.2 with ⟨h', h0⟩ | ⟨g, cap, cur, h', hb, hg, hnc, hm, hs, ht⟩
  · subst h'
    exact ⟨none, 0, by rw [h0], by omega, by unfold maxLen; omega, fun hn => by omega⟩
  · subst h'
    have hx : ∀ i j, i < n + m → j < 6 → (rowsL A n ++ rowsL B m)[i * 6 + j]? = some (.int .i64 ((fun i j => if i < n then A i j else B (i - n) j) i j)) := fun i j hi hj => by
      by_cases e : i < n
      · rw [List.getElem?_append_left (by rw [rowsL_length]; omega), rowsL_get e hj]; simp [e]
      · rw [List.getElem?_append_right (by rw [rowsL_length]; omega), rowsL_length, show i * 6 + j - n * 6 = (i - n) * 6 + j by omega, rowsL_get (by omega) hj]; simp [e]
    exact ⟨_, cap, rfl, hnc, hm, (RB.of_own h hx).cv⟩
theorem below_drew' (w : World) (o : Obj) : Below w.heap.size w (w.drew.alloc o) := (below_drew (Below.refl w.heap.size w)).alloc (Nat.le_refl _) o
set_option maxRecDepth 100000 in
set_option maxHeartbeats 8000000 in
theorem grow_any (n : Nat) (w : World) (hn : n ≤ 100) : Calls Try.prog 132 #[.slice none 0 0, .int .i64 n] w fun e w' => ∃ v, e = .returned v ∧ Bx (w'.ownsRow w.heap.size 36 6 v 0 []) ∧ Bx (Below w.heap.size w w') := by
  obtain ⟨tj, htj, htj2⟩ := Option.map_eq_some_iff.1 info_rows2
  simp only [Prod.mk.injEq] at htj2
  obtain ⟨hy0, hy1, hy2⟩ := htj2
  have hw1 : wrap64 ((0 : Int) - 0) = 0 := by unfold wrap64; omega
  have hw2 : wrap64 ((n : Int) - 0) = n := by unfold wrap64; omega
  have hw3 : wrap64 (n : Int) = n := by unfold wrap64; omega
  have hn0 : ¬ (n : Int) < 0 := by omega
  by_cases h0 : n = 0
  · subst h0
    clear htj
    go_enter Try.func132, Try.ntmps132
    go_wp2_with fail
    go_ret
    exact ⟨_, rfl, ⟨World.ownsRow_nil _ _ _ _⟩, ⟨Below.refl _ _⟩⟩
  · have hpos : (0 : Int) < n := by omega
    have hrz := fun ty => Lib.run_append_nil_zeros (P := Try.prog) w 22 3 ty 36 tj _ .i64 .i64 Try.underlying22 Try.underlying3 htj hy0 n (by omega) (by rw [hy1]; omega) (by omega) (by rw [hy2]; omega)
    have hGn : n ≤ grownCap w n 0 36 := grownCap_ge w _ _ _
    have hG63 := grownCap_le_maxLen w n 0 36 (by unfold maxLen; omega)
    obtain ⟨G, hG⟩ : ∃ G, G = grownCap w n 0 36 := ⟨_, rfl⟩
    rw [← hG] at hrz hGn hG63
    have HG63 := Bx.mk hG63
    have hG64 : G ≤ 9223372036854775807 := by unfold maxLen at hG63; omega
    clear htj hG hG63
    go_enter Try.func132, Try.ntmps132
    go_wp2_with (at_builtin; refine Lib.wpList_append_run _ rfl _ _ _ _ rfl _ _ rfl rfl _ _ (hrz _) ?_)
    all_goals go_ret
    all_goals exact ⟨_, rfl, ⟨rfl, .inr ⟨w.heap.size, G, _, rfl, Nat.le_refl _, World.alloc_heap_new _ _, Nat.zero_le _, HG63.out, by simp [size_zeroCells, Value.cells]; omega, by simp⟩⟩, ⟨below_drew' w _⟩⟩
theorem cv_news {w : World} {ao : Option Addr} {n : Nat} {M : Nat → Nat → Int} (h : CV w ao n M) : ∀ ad, ao = some ad → ∀ (j : Nat) u, (rowsL M n)[j]? = some u → w.cell? (ad.add j) = some u := by
  intro ad had j u hu
  have hjl : j < n * 6 := by have := (List.getElem?_eq_some_iff.1 hu).1; rwa [rowsL_length] at this
  obtain ⟨b, o, e0, _, hc⟩ := h (by omega)
  rw [had] at e0
  cases e0
  have e := rowsL_get (M := M) (k := n) (i := j / 6) (j := j % 6) (by omega) (by omega)
  rw [show j / 6 * 6 + j % 6 = j by omega, hu] at e
  rw [Addr.add_lit, e]
  have h2 := hc (j / 6) (j % 6) (by omega) (by omega)
  rw [show o + j / 6 * 6 + j % 6 = o + j by omega] at h2
  exact h2
set_option maxRecDepth 100000 in
set_option maxHeartbeats 8000000 in
theorem concat_any (ao bo : Option Addr) (c1 c2 n m : Nat) (A B : Nat → Nat → Int) (sb : Nat) (w : World) (hn : n ≤ 8) (hm : m ≤ 8) (hc1 : n ≤ c1) (hc2 : m ≤ c2) (hA : CV w ao n A) (hB : CV w bo m B) (hsb : sb < w.heap.size)
    (hs0 : w.cell? ⟨sb, 0, none⟩ = some (.slice ao n c1)) (hs1 : w.cell? ⟨sb, 1, none⟩ = some (.slice bo m c2)) (hna : ao = none → n = 0 ∧ c1 = 0) (hnb : bo = none → m = 0 ∧ c2 = 0) :
    Calls Try.prog 88 #[.slice (some ⟨sb, 0, none⟩) 2 2] w fun e w' => ∃ v, e = .returned v ∧ Bx (w'.ownsRow w.heap.size 36 6 v (n + m) (rowsL A n ++ rowsL B m)) ∧ Bx (Below w.heap.size w w') := by
  obtain ⟨tj, htj, htj2⟩ := Option.map_eq_some_iff.1 info_rows2
  simp only [Prod.mk.injEq] at htj2
  obtain ⟨hy0, hy1, hy2⟩ := htj2
  have HTJ := Bx.mk htj
  have HA := Bx.mk hA
  have HB := Bx.mk hB
  have HNA := Bx.mk hna
  have HNB := Bx.mk hnb
  have hw0 : wrap64 ((0 : Int) + n) = n := by unfold wrap64; omega
  have hw1 : wrap64 ((n : Int) + m) = (n : Int) + m := by unfold wrap64; omega
  have hi1 : ¬ (n : Int) < 0 := by omega
  have hi2 : ¬ (n : Int) + m < 0 := by omega
  have HG : Bx (∀ w', Calls Try.prog 132 #[.slice none 0 0, .int .i64 ((n : Int) + m)] w' fun e w'' => ∃ v, e = .returned v ∧ Bx (w''.ownsRow w'.heap.size 36 6 v 0 []) ∧ Bx (Below w'.heap.size w' w'')) := ⟨fun w' => by have h := grow_any (n + m) w' (by omega); rwa [Int.natCast_add] at h⟩
  clear htj hA hB hna hnb
  go_enter Try.func88, Try.ntmps88
  go_wp2_with fail
  go_loopw [11, 3] (fun ix sz wr => w = wr ∧ ((ix = .int .i64 0 ∧ sz = .int .i64 0) ∨ (ix = .int .i64 1 ∧ sz = .int .i64 n) ∨ (ix = .int .i64 2 ∧ sz = .int .i64 ((n : Int) + m)))) (fun ix _ _ => 2 - (intOf ix).toNat)
  case atStart => exact ⟨rfl, .inl ⟨rfl, rfl⟩⟩
  case round =>
    obtain ⟨rfl, ⟨rfl, rfl⟩ | ⟨rfl, rfl⟩ | ⟨rfl, rfl⟩⟩ := hrel
    · go_wp2_with fail
      exact ⟨⟨by trivial, .inr (.inl ⟨rfl, rfl⟩)⟩, by simp [intOf]⟩
    · go_wp2_with fail
      exact ⟨⟨by trivial, .inr (.inr ⟨rfl, rfl⟩)⟩, by simp [intOf]⟩
    · go_wp2_with (go_at_call 132; refine (HG.out _).mono ?_; clear HG; rintro e w2 ⟨v, rfl, HOv, HBv⟩)
      clear hw0 hw1
      go_loopw [27, 6] (fun ix nv wr => Bx (Below w.heap.size w wr) ∧ ((ix = .int .i64 0 ∧ Bx (wr.ownsRow w.heap.size 36 6 nv 0 [])) ∨ (ix = .int .i64 1 ∧ Bx (wr.ownsRow w.heap.size 36 6 nv n (rowsL A n))) ∨ (ix = .int .i64 2 ∧ Bx (wr.ownsRow w.heap.size 36 6 nv (n + m) (rowsL A n ++ rowsL B m))))) (fun ix _ _ => 2 - (intOf ix).toNat)
      case atStart => exact ⟨HBv, .inl ⟨rfl, HOv⟩⟩
      case round =>
      obtain ⟨HB2, ⟨rfl, HO⟩ | ⟨rfl, HO⟩ | ⟨rfl, HO⟩⟩ := hrel
      · have cc := (HB2.out.cell (p := ⟨sb, 0, none⟩) hsb).trans hs0
        go_wp2_with (at_builtin; refine wpList_append_any rfl (.tmp 31) (.tmp 32) 22 rfl w.heap.size 36 tj _ 6 48 Try.underlying22 HTJ.out hy0 hy1 hy2 rfl (by decide) _ _ _ rfl HO.out ao n c1 (rowsL A n) rfl (rowsL_length A n) HNA.out (cv_news (HA.out.keep HB2.out)) (rowsL_one A n) (by unfold maxLen; omega) (by omega) HB2.out.size ?_)
        intro v8 w8 ho8 hg8
        have HB8 := Bx.mk (Below.grown HB2.out hg8 HB2.out.size (fun b hb => (own_lt HO.out b hb).1))
        have HO8 := Bx.mk ho8
        clear ho8 hg8
        go_wp2_with fail
        exact ⟨⟨HB8, .inr (.inl ⟨rfl, HO8⟩)⟩, by simp [intOf]⟩
      · have cc := (HB2.out.cell (p := ⟨sb, 1, none⟩) hsb).trans hs1
        go_wp2_with (at_builtin; refine wpList_append_any rfl (.tmp 31) (.tmp 32) 22 rfl w.heap.size 36 tj _ 6 48 Try.underlying22 HTJ.out hy0 hy1 hy2 rfl (by decide) _ _ _ rfl HO.out bo m c2 (rowsL B m) rfl (rowsL_length B m) HNB.out (cv_news (HB.out.keep HB2.out)) (rowsL_one B m) (by unfold maxLen; omega) (by omega) HB2.out.size ?_)
        intro v8 w8 ho8 hg8
        have HB8 := Bx.mk (Below.grown HB2.out hg8 HB2.out.size (fun b hb => (own_lt HO.out b hb).1))
        have HO8 := Bx.mk ho8
        clear ho8 hg8
        go_wp2_with fail
        exact ⟨⟨HB8, .inr (.inr ⟨rfl, HO8⟩)⟩, by simp [intOf]⟩
      · go_wp2_with fail
        go_ret
        exact ⟨_, rfl, HO, HB2⟩
end Go.Proofs.Ytnbamjoadankmaa
/- The program's lattice: Same and Sum. -/
namespace Go.Proofs.Ytnbamjoadankmaa
open Go.RowKit D
/-- The Hermite form of a matrix. -/
structure HfS (M : Nat → Nat → Int) (n : Nat) (O : Nat → Nat → Int) (q : Nat) (p : Nat → Nat) : Prop where
  hf : Hf O q 6 p
  rows : ∀ t, t < n → Sp O q 6 (M t)
  sub : ∀ i, i < q → Sp M n 6 (O i)
  six : q ≤ 6
theorem herm_ok (ao : Option Addr) (n c1 : Nat) (M : Nat → Nat → Int) (w : World) (hc1 : n ≤ c1) (hc2 : c1 ≤ maxLen) (hR : CV w ao n M) (hv : VM M n) :
    Calls Try.prog 21 #[.slice ao n c1] w fun e w' => ∃ (ho : Option Addr) (hc q : Nat) (O : Nat → Nat → Int) (p : Nat → Nat), e = .returned (.tuple #[.slice ho q hc, .int .i64 0]) ∧ Bx (CV w' ho q O) ∧ q ≤ hc ∧ hc ≤ maxLen ∧ q ≤ 6 ∧ Bx (HfS M n O q p) ∧ Bx (Below w.heap.size w w') :=
  (hermite_pub ao n c1 M w hc1 hc2 hR).mono fun e w' h => by
    obtain ⟨⟨h, _⟩ | ⟨_, ho, hc, q, O, p, he, hcv, h1, h2, h6, hO, k1, k2⟩, hb⟩ := h
    · exact absurd hv h
    · exact ⟨ho, hc, q, O, p, he, ⟨hcv⟩, h1, h2, h6, ⟨⟨hO, k1, k2, h6⟩⟩, ⟨hb⟩⟩
theorem herm_no (ao : Option Addr) (n c1 : Nat) (M : Nat → Nat → Int) (w : World) (hc1 : n ≤ c1) (hc2 : c1 ≤ maxLen) (hR : CV w ao n M) (hv : ¬ VM M n) :
    Calls Try.prog 21 #[.slice ao n c1] w fun e w' => e = .returned (.tuple #[.slice none 0 0, .int .i64 1]) ∧ Bx (Below w.heap.size w w') :=
  (hermite_pub ao n c1 M w hc1 hc2 hR).mono fun e w' h => by
    obtain ⟨⟨_, h⟩ | ⟨h, _⟩, hb⟩ := h
    · exact ⟨h, ⟨hb⟩⟩
    · exact absurd h hv
/-- Whatever the matrix is. -/
theorem herm_some (ao : Option Addr) (n c1 : Nat) (M : Nat → Nat → Int) (w : World) (hc1 : n ≤ c1) (hc2 : c1 ≤ maxLen) (hR : CV w ao n M) :
    Calls Try.prog 21 #[.slice ao n c1] w fun e w' => ∃ ho q hc c, e = .returned (.tuple #[.slice ho q hc, .int .i64 c]) ∧ Bx (Below w.heap.size w w') :=
  (hermite_pub ao n c1 M w hc1 hc2 hR).mono fun e w' h => by
    obtain ⟨⟨_, h⟩ | ⟨_, ho, hc, q, O, p, he, _⟩, hb⟩ := h
    · exact ⟨_, _, _, _, h, ⟨hb⟩⟩
    · exact ⟨_, _, _, _, he, ⟨hb⟩⟩
theorem bool_of (P : Prop) : ∃ b : Bool, b = true ↔ P := by
  by_cases h : P
  · exact ⟨true, ⟨fun _ => h, fun _ => rfl⟩⟩
  · exact ⟨false, ⟨fun e => Bool.noConfusion e, fun e => absurd e h⟩⟩
set_option maxRecDepth 100000 in
set_option maxHeartbeats 8000000 in
theorem lsame_ok (ao bo : Option Addr) (n m c1 c2 : Nat) (A B : Nat → Nat → Int) (w : World) (hc1 : n ≤ c1) (hc1m : c1 ≤ maxLen) (hc2 : m ≤ c2) (hc2m : c2 ≤ maxLen) (hA : CV w ao n A) (hB : CV w bo m B) (va : VM A n) (vb : VM B m) :
    Calls Try.prog 36 #[.slice ao n c1, .slice bo m c2] w fun e w' => ∃ (b : Bool) (q q' : Nat) (O O' : Nat → Nat → Int) (p p' : Nat → Nat), e = .returned (.tuple #[.bool b, .int .i64 0]) ∧ Bx (b = true ↔ q = q' ∧ ∀ i j, i < q → j < 6 → O i j = O' i j) ∧ Bx (HfS A n O q p) ∧ Bx (HfS B m O' q' p') ∧ Bx (Below w.heap.size w w') := by
  have H1 := Bx.mk (herm_ok ao n c1 A w hc1 hc1m hA va)
  have H2 := Bx.mk (fun w' (hb : Below w.heap.size w w') => herm_ok bo m c2 B w' hc2 hc2m (hB.keep hb) vb)
  have M1 : True := trivial
  clear hA hB
  go_enter Try.func36, Try.ntmps36
  go_wp2_with (first
    | (clear M1; go_at_call 21; refine H1.out.mono ?_; clear H1; rintro e w1 ⟨ho, hc, q, O, p, rfl, HO, hq, hcm, hq6, HS, HB1⟩)
    | (go_at_call 21; refine (H2.out _ HB1.out).mono ?_; clear H2; rintro e w2 ⟨ho', hc', q', O', p', rfl, HO', hq', hcm', hq6', HS', HB2⟩
       have HE := Bx.mk (fun b hb => (equal_any ho ho' hc hc' q q' O O' w2 hq hcm hq' hcm' (HO.out.keep HB2.out) HO'.out b hb).mono (R' := fun e w' => e = .returned (.bool b) ∧ Bx (Below w.heap.size w w')) fun e w' h => ⟨h.1, ⟨(HB1.out.trans (HB2.out.mono HB1.out.size)).trans (h.2.mono (Nat.le_trans HB1.out.size HB2.out.size))⟩⟩)
       obtain ⟨b, hb⟩ : ∃ b : Bool, b = true ↔ q = q' ∧ ∀ i j, i < q → j < 6 → O i j = O' i j := bool_of _
       have HBB := Bx.mk hb
       clear hb)
    | (go_at_call 87; refine (HE.out b HBB.out).mono ?_; clear HE; rintro e w3 ⟨rfl, HB3⟩))
  refine bodyPost_ret_by (v := .tuple #[.bool b, .int .i64 0]) (by simp [results, Try.results36, go_sem]) rfl ?_
  exact ⟨b, q, q', O, O', p, p', rfl, HBB, HS, HS', HB3⟩
set_option maxRecDepth 100000 in
set_option maxHeartbeats 8000000 in
theorem lsame_bad (ao bo : Option Addr) (n m c1 c2 : Nat) (A B : Nat → Nat → Int) (w : World) (hc1 : n ≤ c1) (hc1m : c1 ≤ maxLen) (hc2 : m ≤ c2) (hc2m : c2 ≤ maxLen) (hA : CV w ao n A) (hB : CV w bo m B) (h : ¬ (VM A n ∧ VM B m)) :
    Calls Try.prog 36 #[.slice ao n c1, .slice bo m c2] w fun e w' => e = .returned (.tuple #[.bool false, .int .i64 1]) ∧ Bx (Below w.heap.size w w') := by
  by_cases va : VM A n
  · have H1 := Bx.mk (herm_ok ao n c1 A w hc1 hc1m hA va)
    have H2 := Bx.mk (fun w' (hb : Below w.heap.size w w') => herm_no bo m c2 B w' hc2 hc2m (hB.keep hb) (fun vb => h ⟨va, vb⟩))
    have M1 : True := trivial
    clear hA hB h
    go_enter Try.func36, Try.ntmps36
    go_wp2_with (first
      | (clear M1; go_at_call 21; refine H1.out.mono ?_; clear H1; rintro e w1 ⟨ho, hc, q, O, p, rfl, HO, hq, hcm, hq6, HS, HB1⟩)
      | (go_at_call 21; refine (H2.out _ HB1.out).mono ?_; clear H2; rintro e w2 ⟨rfl, HB2⟩))
    refine bodyPost_ret_by (v := .tuple #[.bool false, .int .i64 1]) (by simp [results, Try.results36, go_sem]) rfl ?_
    exact ⟨rfl, ⟨HB1.out.trans (HB2.out.mono HB1.out.size)⟩⟩
  · have H1 := Bx.mk (herm_no ao n c1 A w hc1 hc1m hA va)
    have H2 := Bx.mk (fun w' (hb : Below w.heap.size w w') => herm_some bo m c2 B w' hc2 hc2m (hB.keep hb))
    have M1 : True := trivial
    clear hA hB h
    go_enter Try.func36, Try.ntmps36
    go_wp2_with (first
      | (clear M1; go_at_call 21; refine H1.out.mono ?_; clear H1; rintro e w1 ⟨rfl, HB1⟩)
      | (go_at_call 21; refine (H2.out _ HB1.out).mono ?_; clear H2; rintro e w2 ⟨ho, q, hc, c, rfl, HB2⟩))
    refine bodyPost_ret_by (v := .tuple #[.bool false, .int .i64 1]) (by simp [results, Try.results36, go_sem]) rfl ?_
    exact ⟨rfl, ⟨HB1.out.trans (HB2.out.mono HB1.out.size)⟩⟩
/-- The rows of both. -/
def cat (A B : Nat → Nat → Int) (n : Nat) : Nat → Nat → Int := fun i j => if i < n then A i j else B (i - n) j
set_option maxRecDepth 100000 in
set_option maxHeartbeats 8000000 in
theorem lsum_bad (ao bo : Option Addr) (n m c1 c2 : Nat) (A B : Nat → Nat → Int) (w : World) (hc1 : n ≤ c1) (hc1m : c1 ≤ maxLen) (hc2 : m ≤ c2) (hc2m : c2 ≤ maxLen) (hA : CV w ao n A) (hB : CV w bo m B) (h : ¬ (VM A n ∧ VM B m)) :
    Calls Try.prog 38 #[.slice ao n c1, .slice bo m c2] w fun e w' => e = .returned (.tuple #[.slice none 0 0, .int .i64 1]) ∧ Bx (Below w.heap.size w w') := by
  have M1 : True := trivial
  by_cases va : VM A n
  · have H1 := Bx.mk (pvalid_any ao n c1 A w hc1 hc1m hA true ⟨fun _ => va, fun _ => rfl⟩)
    have H2 := Bx.mk (fun w' (hb : Below w.heap.size w w') => pvalid_any bo m c2 B w' hc2 hc2m (hB.keep hb) false ⟨fun e => Bool.noConfusion e, fun vb => absurd ⟨va, vb⟩ h⟩)
    clear hA hB h
    go_enter Try.func38, Try.ntmps38
    go_wp2_with (first
      | (clear M1; go_at_call 19; refine H1.out.mono ?_; clear H1; rintro e w1 ⟨rfl, HB1w⟩; have HB1 := Bx.mk HB1w; clear HB1w)
      | (go_at_call 19; refine (H2.out _ HB1.out).mono ?_; clear H2; rintro e w2 ⟨rfl, HB2w⟩; have HB2 := Bx.mk (HB1.out.trans (HB2w.mono HB1.out.size)); clear HB2w))
    refine bodyPost_ret_by (v := .tuple #[.slice none 0 0, .int .i64 1]) (by simp [results, Try.results38, go_sem]) rfl ?_
    exact ⟨rfl, HB2⟩
  · have H1 := Bx.mk (pvalid_any ao n c1 A w hc1 hc1m hA false ⟨fun e => Bool.noConfusion e, fun e => absurd e va⟩)
    clear hA hB h
    go_enter Try.func38, Try.ntmps38
    go_wp2_with (first
      | (clear M1; go_at_call 19; refine H1.out.mono ?_; clear H1; rintro e w1 ⟨rfl, HB1w⟩; have HB1 := Bx.mk HB1w; clear HB1w))
    refine bodyPost_ret_by (v := .tuple #[.slice none 0 0, .int .i64 1]) (by simp [results, Try.results38, go_sem]) rfl ?_
    exact ⟨rfl, HB1⟩
theorem pair_new (w : World) (x y : Value) (t : TypeId) : (w.alloc (.cells #[x, y] t)).cell? ⟨w.heap.size, 0, none⟩ = some x ∧ (w.alloc (.cells #[x, y] t)).cell? ⟨w.heap.size, 1, none⟩ = some y := by
  have key : ∀ (W : World) b, W.heap[b]? = some (.cells #[x, y] t) → W.cell? ⟨b, 0, none⟩ = some x ∧ W.cell? ⟨b, 1, none⟩ = some y := fun W b h => by simp [World.cell?, h]
  exact key _ _ (World.alloc_heap_new w (.cells #[x, y] t))
/-- What Sum answers for valid rows. -/
def SumOut (A B : Nat → Nat → Int) (n m : Nat) (e : Ending) (w' : World) : Prop :=
  (¬ VM (cat A B n) (n + m) ∧ e = .returned (.tuple #[.slice none 0 0, .int .i64 2])) ∨
  (VM (cat A B n) (n + m) ∧ ∃ (ho : Option Addr) (hc q : Nat) (O : Nat → Nat → Int) (p : Nat → Nat), e = .returned (.tuple #[.slice ho q hc, .int .i64 0]) ∧ CV w' ho q O ∧ q ≤ hc ∧ hc ≤ maxLen ∧ HfS (cat A B n) (n + m) O q p)
set_option maxRecDepth 100000 in
set_option maxHeartbeats 8000000 in
theorem lsum_ok (ao bo : Option Addr) (n m c1 c2 : Nat) (A B : Nat → Nat → Int) (w : World) (hc1 : n ≤ c1) (hc1m : c1 ≤ maxLen) (hc2 : m ≤ c2) (hc2m : c2 ≤ maxLen) (hA : CV w ao n A) (hB : CV w bo m B) (va : VM A n) (vb : VM B m) (hna : ao = none → n = 0 ∧ c1 = 0) (hnb : bo = none → m = 0 ∧ c2 = 0) :
    Calls Try.prog 38 #[.slice ao n c1, .slice bo m c2] w fun e w' => SumOut A B n m e w' ∧ Below w.heap.size w w' := by
  have M1 : True := trivial
  have H1 := Bx.mk (pvalid_any ao n c1 A w hc1 hc1m hA true ⟨fun _ => va, fun _ => rfl⟩)
  have H2 := Bx.mk (fun w' (hb : Below w.heap.size w w') => pvalid_any bo m c2 B w' hc2 hc2m (hB.keep hb) true ⟨fun _ => vb, fun _ => rfl⟩)
  have hn8 := va.1
  have hm8 := vb.1
  have HC := Bx.mk (fun w2 (hb : Below w.heap.size w w2) => (concat_any ao bo c1 c2 n m A B w2.heap.size (w2.alloc (.cells #[.slice ao n c1, .slice bo m c2] 22)) hn8 hm8 hc1 hc2 (hA.keep (hb.trans ((above_new w2 _).mono hb.size))) (hB.keep (hb.trans ((above_new w2 _).mono hb.size))) (by simp) (pair_new w2 _ _ _).1 (pair_new w2 _ _ _).2 hna hnb).mono (R' := fun e w' => ∃ co cc, e = .returned (.slice co (n + m) cc) ∧ n + m ≤ cc ∧ cc ≤ maxLen ∧ Bx (CV w' co (n + m) (cat A B n)) ∧ Bx (Below w.heap.size w w')) fun e w' h => by
    obtain ⟨v, he, ho, hb'⟩ := h
    obtain ⟨co, cc, rfl, k1, k2, k3⟩ := cv_cat ho.out
    exact ⟨co, cc, he, k1, k2, ⟨k3⟩, ⟨(hb.trans ((above_new w2 _).mono hb.size)).trans (hb'.out.mono (Nat.le_trans hb.size (by simp)))⟩⟩)
  by_cases vc : VM (cat A B n) (n + m)
  · have HV := Bx.mk (show VM (cat A B n) (n + m) from vc)
    clear hA hB va vb hna hnb vc
    go_enter Try.func38, Try.ntmps38
    go_wp2_with (first
      | (clear M1; go_at_call 19; refine H1.out.mono ?_; clear H1; rintro e w1 ⟨rfl, HB1w⟩; have HB1 := Bx.mk HB1w; clear HB1w)
      | (go_at_call 19; refine (H2.out _ HB1.out).mono ?_; clear H2; rintro e w2 ⟨rfl, HB2w⟩; have HB2 := Bx.mk (HB1.out.trans (HB2w.mono HB1.out.size)); clear HB2w)
      | (go_at_call 88; refine (HC.out _ HB2.out).mono ?_; clear HC; rintro e w3 ⟨co, cc, rfl, k1, k2, K3, HB3⟩)
      | (go_at_call 21; refine (herm_ok co (n + m) cc (cat A B n) _ k1 k2 K3.out HV.out).mono ?_; rintro e w4 ⟨ho, hc, q, O, p, rfl, HO, hq, hcm, hq6, HS, HB4⟩))
    refine bodyPost_ret_by (v := .tuple #[.slice ho q hc, .int .i64 0]) (by simp [results, Try.results38, go_sem]) rfl ?_
    exact ⟨.inr ⟨HV.out, ho, hc, q, O, p, rfl, HO.out, hq, hcm, HS.out⟩, HB3.out.trans (HB4.out.mono HB3.out.size)⟩
  · have HV := Bx.mk (show ¬ VM (cat A B n) (n + m) from vc)
    clear hA hB va vb hna hnb vc
    go_enter Try.func38, Try.ntmps38
    go_wp2_with (first
      | (clear M1; go_at_call 19; refine H1.out.mono ?_; clear H1; rintro e w1 ⟨rfl, HB1w⟩; have HB1 := Bx.mk HB1w; clear HB1w)
      | (go_at_call 19; refine (H2.out _ HB1.out).mono ?_; clear H2; rintro e w2 ⟨rfl, HB2w⟩; have HB2 := Bx.mk (HB1.out.trans (HB2w.mono HB1.out.size)); clear HB2w)
      | (go_at_call 88; refine (HC.out _ HB2.out).mono ?_; clear HC; rintro e w3 ⟨co, cc, rfl, k1, k2, K3, HB3⟩)
      | (go_at_call 21; refine (herm_no co (n + m) cc (cat A B n) _ k1 k2 K3.out HV.out).mono ?_; rintro e w4 ⟨rfl, HB4⟩))
    refine bodyPost_ret_by (v := .tuple #[.slice none 0 0, .int .i64 2]) (by simp [results, Try.results38, go_sem]) rfl ?_
    exact ⟨.inl ⟨HV.out, rfl⟩, HB3.out.trans (HB4.out.mono HB3.out.size)⟩
end Go.Proofs.Ytnbamjoadankmaa
/- The program's lattice: Index. -/
namespace Go.Proofs.Ytnbamjoadankmaa
open Go.RowKit D
/-- A member. -/
def Mi (O : Nat → Nat → Int) (p : Nat → Nat) (q : Nat) (v : Nat → Int) : Prop := (∀ k, k ≤ q → Vv (rmd O p v k)) ∧ ∀ j, j < 6 → rmd O p v q j = 0
/-- Not a member. -/
def Mo (O : Nat → Nat → Int) (p : Nat → Nat) (q : Nat) (v : Nat → Int) : Prop := (∀ k, k ≤ q → Vv (rmd O p v k)) ∧ ¬ ∀ j, j < 6 → rmd O p v q j = 0
/-- A remainder is out of range. -/
def Mr (O : Nat → Nat → Int) (p : Nat → Nat) (q : Nat) (v : Nat → Int) : Prop := ∃ k, k ≤ q ∧ ¬ Vv (rmd O p v k)
theorem MemRes.split {O : Nat → Nat → Int} {p : Nat → Nat} {v : Nat → Int} {q : Nat} {e : Ending} {w' : World} (h : MemRes O p v q e w') :
    (∃ lo lc, e = .returned (.tuple #[.slice lo q lc, .bool true, .int .i64 0]) ∧ Bx (Mi O p q v)) ∨ (e = .returned (.tuple #[.slice none 0 0, .bool false, .int .i64 0]) ∧ Bx (Mo O p q v)) ∨ (e = .returned (.tuple #[.slice none 0 0, .bool false, .int .i64 3]) ∧ Bx (Mr O p q v)) := by
  rcases h with ⟨h, ⟨h0, lo, lc, rfl, _⟩ | ⟨h0, rfl⟩⟩ | ⟨h, rfl⟩
  · exact .inl ⟨lo, lc, rfl, ⟨h, h0⟩⟩
  · exact .inr (.inl ⟨rfl, ⟨h, h0⟩⟩)
  · exact .inr (.inr ⟨rfl, ⟨h⟩⟩)
/-- The product of the pivots. -/
def pv (O : Nat → Nat → Int) (p : Nat → Nat) (q : Nat) : Int := pr (fun i => O i (p i)) q
theorem HfS.pv {M O : Nat → Nat → Int} {n q : Nat} {p : Nat → Nat} (h : HfS M n O q p) (hv : VM M n) : 0 < pv O p q ∧ pv O p q ≤ 1000000000 ∧ ∀ k, k ≤ q → 0 ≤ pr (fun i => O i (p i)) k ∧ pr (fun i => O i (p i)) k ≤ 1000000000 := by
  have hb := pivs_bound hv h.hf h.rows h.sub
  refine ⟨prod_pos h.hf.pos, hb, fun k hk => ⟨Int.le_of_lt (prod_pos (s := fun i => O i (p i)) fun t ht => h.hf.pos t (by omega)), Int.le_trans (prod_le (s := fun i => O i (p i)) hk h.hf.pos) hb⟩⟩
theorem VM.row {M : Nat → Nat → Int} {n : Nat} (h : VM M n) {k : Nat} (hk : k < n) : Vv (M k) := fun j hj => h.2.1 k j hk hj
/-- What Index answers for valid rows. -/
def IndexOut (A B : Nat → Nat → Int) (n m : Nat) (e : Ending) : Prop :=
  ∃ (q : Nat) (O : Nat → Nat → Int) (p : Nat → Nat) (q' : Nat) (O' : Nat → Nat → Int) (p' : Nat → Nat), HfS A n O q p ∧ HfS B m O' q' p' ∧
    ((∃ k, k < n ∧ (∀ t, t < k → Mi O' p' q' (A t)) ∧ ((Mr O' p' q' (A k) ∧ e = .returned (.tuple #[.int .i64 0, .int .i64 3])) ∨ (Mo O' p' q' (A k) ∧ e = .returned (.tuple #[.int .i64 0, .int .i64 4])))) ∨
     ((∀ t, t < n → Mi O' p' q' (A t)) ∧ e = .returned (.tuple #[.int .i64 (if q < q' then 0 else pv O p q / pv O' p' q'), .int .i64 0])))
theorem basis_ok (ao : Option Addr) (n c1 : Nat) (M : Nat → Nat → Int) (w : World) (hc1 : n ≤ c1) (hc2 : c1 ≤ maxLen) (hR : CV w ao n M) (hv : VM M n) :
    Calls Try.prog 89 #[.slice ao n c1] w fun e w' => ∃ (fo : Option Addr) (fc : Nat) (co : Option Addr) (cc q : Nat) (O : Nat → Nat → Int) (p : Nat → Nat), e = .returned (.tuple #[.agg #[.slice fo q fc, .slice co q cc], .int .i64 0]) ∧ Bx (BS w' fo fc co cc q O p) ∧ Bx (HfS M n O q p) ∧ q ≤ 6 ∧ Bx (Below w.heap.size w w') :=
  (basisOf_any ao n c1 M w hc1 hc2 hR hv).mono fun e w' h => by
    obtain ⟨fo, fc, co, cc, q, O, p, he, hs, hh, _, hb⟩ := h
    exact ⟨fo, fc, co, cc, q, O, p, he, hs, ⟨⟨hh.out.1, hh.out.2.1, hh.out.2.2, hs.out.six⟩⟩, hs.out.six, hb⟩
theorem idx_keep {W0 w' : World} {a b : Nat} {x y x' y' : Value} (h1 : Bx (PB W0 a x y)) (h2 : Bx (PB W0 b x' y')) (hB : Bx (Below W0.heap.size W0 w')) (ha : a < W0.heap.size) (hb : b < W0.heap.size) :
    w'.cell? ⟨a, 0, none⟩ = some x ∧ w'.cell? ⟨a, 1, none⟩ = some y ∧ w'.cell? ⟨b, 0, none⟩ = some x' ∧ w'.cell? ⟨b, 1, none⟩ = some y' := by
  have k1 := h1.out.keep (hB.out.block a ha)
  have k2 := h2.out.keep (hB.out.block b hb)
  exact ⟨k1.c0, k1.c1, k2.c0, k2.c1⟩
set_option maxRecDepth 100000 in
set_option maxHeartbeats 16000000 in
theorem lindex_ok (ao bo : Option Addr) (n m c1 c2 : Nat) (A B : Nat → Nat → Int) (w : World) (hc1 : n ≤ c1) (hc1m : c1 ≤ maxLen) (hc2 : m ≤ c2) (hc2m : c2 ≤ maxLen) (hA : CV w ao n A) (hB : CV w bo m B) (va : VM A n) (vb : VM B m) :
    Calls Try.prog 40 #[.slice ao n c1, .slice bo m c2] w fun e w' => IndexOut A B n m e ∧ Below w.heap.size w w' := by
  have M1 : True := trivial
  have hn8 := va.1
  have H1 := Bx.mk (basis_ok ao n c1 A w hc1 hc1m hA va)
  have H2 := Bx.mk (fun w' (hb : Below w.heap.size w w') => basis_ok bo m c2 B w' hc2 hc2m (hB.keep hb) vb)
  have HA := Bx.mk hA
  have VA := Bx.mk va
  have VB' := Bx.mk vb
  clear hA hB va vb
  go_enter Try.func40, Try.ntmps40
  go_wp2_with (first
    | (clear M1; go_at_call 89; refine H1.out.mono ?_; clear H1; rintro e w1 ⟨fo, fc, co, cc, q, O, p, rfl, HS1, HH1, hq6, HB1⟩
       have HBa := Bx.mk (HB1.out.trans ((above_new w1 (.cells #[.slice fo q fc, .slice co q cc] 100)).mono HB1.out.size))
       have HP1 := Bx.mk (PB.new w1 (.slice fo q fc) (.slice co q cc)))
    | (go_at_call 89; refine (H2.out _ HBa.out).mono ?_; clear H2; rintro e w2 ⟨fo', fc', co', cc', q', O', p', rfl, HS2, HH2, hq6', HB2⟩))
  have hp := PB.new w2 (.slice fo' q' fc') (.slice co' q' cc')
  have hs1 := HB1.out.size
  have hs2 := HB2.out.size
  rw [World.size_alloc] at hs2
  have ha := above_new w2 (.cells #[.slice fo' q' fc', .slice co' q' cc'] 100)
  have hs0 : (w2.alloc (.cells #[.slice fo' q' fc', .slice co' q' cc'] 100)).heap.size = w2.heap.size + 1 := by simp
  obtain ⟨W0, hW0⟩ : ∃ W0, w2.alloc (.cells #[.slice fo' q' fc', .slice co' q' cc'] 100) = W0 := ⟨_, rfl⟩
  rw [hW0] at hp ha hs0
  try rw [hW0]
  clear hW0
  have HP2 := Bx.mk hp
  have HP1' := Bx.mk ((HP1.out.keep (HB2.out.block w1.heap.size (by simp))).keep (ha.block w1.heap.size (by omega)))
  have HBW := Bx.mk ((HBa.out.trans (HB2.out.mono (by simp; omega))).trans (ha.mono (by omega)))
  have HSI := Bx.mk ((HS1.out.keep ((above_new w1 _).trans (HB2.out.mono (by simp)))).keep ha)
  have HSO := Bx.mk (HS2.out.keep ha)
  clear hp ha HS1 HS2 HBa HB1 HB2 HP1
  go_loopw [33] (fun ix wr => ∃ k : Nat, k ≤ n ∧ ix = .int .i64 k ∧ Bx (Below W0.heap.size W0 wr) ∧ Bx (∀ t, t < k → Mi O' p' q' (A t))) (fun ix _ => n - (intOf ix).toNat)
  case atStart => exact ⟨0, by omega, rfl, ⟨Below.refl _ _⟩, ⟨fun t ht => by omega⟩⟩
  case round =>
    obtain ⟨k, hk, rfl, HB, HM⟩ := hrel
    have hsr := HB.out.size
    have HPr := HP2.out.keep (HB.out.block w2.heap.size (by omega))
    have p0 := HPr.c0
    have p1 := HPr.c1
    by_cases hlt : k < n
    · obtain ⟨b, o, rfl, hb, hcr⟩ := HA.out (by omega)
      have HBr := Bx.mk (HBW.out.trans (HB.out.mono HBW.out.size))
      obtain ⟨a0, a1, a2, a3, a4, a5⟩ := row_six hcr hb HBr.out hlt
      have hkn : (k : Int) < (n : Int) := by omega
      have hpa := HPr.keep ((above_new wr (.cells #[.int .i64 (A k 0), .int .i64 (A k 1), .int .i64 (A k 2), .int .i64 (A k 3), .int .i64 (A k 4), .int .i64 (A k 5)] 36)).block w2.heap.size (by omega))
      have g0 := hpa.c0
      have g1 := hpa.c1
      have HME := Bx.mk ((member_at fo' co' fc' cc' q' O' p' (A k) (wr.alloc (.cells #[.int .i64 (A k 0), .int .i64 (A k 1), .int .i64 (A k 2), .int .i64 (A k 3), .int .i64 (A k 4), .int .i64 (A k 5)] 36)) (HSO.out.keep (HB.out.trans ((above_new wr _).mono hsr))) (VA.out.row hlt)).mono (R' := fun e w' => ((∃ lo lc, e = .returned (.tuple #[.slice lo q' lc, .bool true, .int .i64 0]) ∧ Bx (Mi O' p' q' (A k))) ∨ (e = .returned (.tuple #[.slice none 0 0, .bool false, .int .i64 0]) ∧ Bx (Mo O' p' q' (A k))) ∨ (e = .returned (.tuple #[.slice none 0 0, .bool false, .int .i64 3]) ∧ Bx (Mr O' p' q' (A k)))) ∧ Bx (Below W0.heap.size W0 w')) fun e w' h => ⟨h.1.split, ⟨(HB.out.trans ((above_new wr _).mono hsr)).trans (h.2.mono (by rw [World.size_alloc]; omega))⟩⟩)
      unfold PV at HME
      clear hcr hpa HPr
      go_wp2_with (first
        | (go_at_call 83; refine HME.out.mono ?_; clear HME; rintro e w4 ⟨hr, HB4⟩
           rcases hr with ⟨lo, lc, rfl, HI⟩ | ⟨rfl, HI⟩ | ⟨rfl, HI⟩))
      · exact ⟨⟨k + 1, by omega, by go_num, HB4, ⟨fun t ht => by
          by_cases e : t = k
          · rw [e]; exact HI.out
          · exact HM.out t (by omega)⟩⟩, by simp [intOf]; omega⟩
      · refine bodyPost_ret_by (v := .tuple #[.int .i64 0, .int .i64 4]) (by simp [results, Try.results40, go_sem]) rfl ?_
        exact ⟨⟨q, O, p, q', O', p', HH1.out, HH2.out, .inl ⟨k, hlt, HM.out, .inr ⟨HI.out, rfl⟩⟩⟩, HBW.out.trans (HB4.out.mono HBW.out.size)⟩
      · refine bodyPost_ret_by (v := .tuple #[.int .i64 0, .int .i64 3]) (by simp [results, Try.results40, go_sem]) rfl ?_
        exact ⟨⟨q, O, p, q', O', p', HH1.out, HH2.out, .inl ⟨k, hlt, HM.out, .inl ⟨HI.out, rfl⟩⟩⟩, HBW.out.trans (HB4.out.mono HBW.out.size)⟩
    · obtain rfl : k = n := by omega
      have HPi := HP1'.out.keep (HB.out.block w1.heap.size (by omega))
      have i0 := HPi.c0
      have i1 := HPi.c1
      have hBB := Bx.mk (HBW.out.trans (HB.out.mono HBW.out.size))
      by_cases hqq : q < q'
      · have hqi : (q : Int) < (q' : Int) := by omega
        go_wp2_with fail
        refine bodyPost_ret_by (v := .tuple #[.int .i64 0, .int .i64 0]) (by simp [results, Try.results40, go_sem]) rfl ?_
        exact ⟨⟨q, O, p, q', O', p', HH1.out, HH2.out, .inr ⟨HM.out, by rw [if_pos hqq]⟩⟩, hBB.out⟩
      · have hqi : ¬ (q : Int) < (q' : Int) := by omega
        obtain ⟨x0, x1, x2⟩ := HH1.out.pv VA.out
        obtain ⟨y0, y1, y2⟩ := HH2.out.pv VB'.out
        have HQ1 : Bx (∀ w', Below W0.heap.size W0 w' → Calls Try.prog 90 #[.agg #[.slice fo q fc, .slice co q cc]] w' fun e w'' => e = .returned (.int .i64 (pv O p q)) ∧ Below w'.heap.size w' w'') := ⟨fun w' hb => product_at fo co fc cc q O p w' (HSI.out.keep hb) x2⟩
        have HQ2 : Bx (∀ w', Below W0.heap.size W0 w' → Calls Try.prog 90 #[.agg #[.slice fo' q' fc', .slice co' q' cc']] w' fun e w'' => e = .returned (.int .i64 (pv O' p' q')) ∧ Below w'.heap.size w' w'') := ⟨fun w' hb => product_at fo' co' fc' cc' q' O' p' w' (HSO.out.keep hb) y2⟩
        clear x2 y2
        have HF : Bx (∀ Z, Z = pv O p q / pv O' p' q' → IndexOut A B k m (.returned (.tuple #[.int .i64 Z, .int .i64 0]))) := ⟨fun Z hZ => ⟨q, O, p, q', O', p', HH1.out, HH2.out, .inr ⟨HM.out, by rw [if_neg hqq, hZ]⟩⟩⟩
        obtain ⟨X, hX⟩ : ∃ X, pv O p q = X := ⟨_, rfl⟩
        obtain ⟨Y, hY⟩ : ∃ Y, pv O' p' q' = Y := ⟨_, rfl⟩
        rw [hX] at x0 x1 HQ1 HF
        rw [hY] at y0 y1 HQ2 HF
        have hdz : Int.tdiv X Y = X / Y := Int.tdiv_eq_ediv_of_nonneg (by omega)
        have hd0 : 0 ≤ X / Y ∧ X / Y ≤ X := ⟨Int.ediv_nonneg (by omega) (by omega), Int.ediv_le_self _ (by omega)⟩
        obtain ⟨Z, hZ⟩ : ∃ Z, X / Y = Z := ⟨_, rfl⟩
        rw [hZ] at hdz hd0
        have HFZ := Bx.mk (HF.out Z hZ.symm)
        have hwz : wrap64 Z = Z := by unfold wrap64; omega
        have hwi : IntKind.i64.wrap Z = Z := by rw [IntWalk.i64_in] <;> omega
        have hwq : IntKind.i64.wrap (Int.tdiv X Y) = Z := by rw [hdz]; exact hwi
        have hwq2 : wrap64 (Int.tdiv X Y) = Z := by rw [hdz]; exact hwz
        have hyz : ¬ Y = 0 := by omega
        have hyb : (Y == 0) = false := by simp; omega
        clear hX hY hZ HF HM HPr HPi
        have l1 : w1.heap.size < W0.heap.size := by omega
        have l2 : w2.heap.size < W0.heap.size := by omega
        have N1 : True := trivial
        go_upto_region 16 with fail
        go_region_with (first
          | (clear N1; go_at_call 90; refine (HQ1.out _ (below_drew HB.out)).mono ?_; rintro e w5 ⟨rfl, hb5⟩
             have HB5 := Bx.mk ((below_drew HB.out).trans (hb5.mono hsr))
             have P1 := HP1'.out.keep (HB5.out.block w1.heap.size l1)
             have P2 := HP2.out.keep (HB5.out.block w2.heap.size l2)
             have p10 := P1.c0
             have p11 := P1.c1
             have p20 := P2.c0
             have p21 := P2.c1
             clear P1 P2)
          | (go_at_call 90; refine (HQ2.out _ HB5.out).mono ?_; rintro e w6 ⟨rfl, hb6⟩
             have HB6 := Bx.mk (HBW.out.trans ((HB5.out.trans (hb6.mono HB5.out.size)).mono HBW.out.size))))
        all_goals go_wp2_with fail
        all_goals refine bodyPost_ret_by (v := .tuple #[.int .i64 Z, .int .i64 0]) (by simp [results, Try.results40, go_sem]) rfl ?_
        all_goals exact ⟨HFZ.out, (by first | exact HB6.out | exact below_drew HB6.out)⟩
end Go.Proofs.Ytnbamjoadankmaa
/- The program's lattice: the step that multiplies, for an order. -/
namespace Go.Proofs.Ytnbamjoadankmaa
open Go.RowKit D
/-- The state of the step: the basis, and the product of the multipliers. -/
def MJ (bx nb : Nat) (X Y : Value) (nv : Nat → Int) (t : Nat) (S : Nat → Prop) (W : World) : Prop :=
  PB W bx X Y ∧ Boxed W nb 3 (.int .i64 (nv t)) ∧ ∀ b, S b ↔ (b = bx ∨ b = nb)
theorem MJ.sst {w0 : World} {bx nb : Nat} {X Y : Value} {nv : Nat → Int} (h1 : w0.heap.size ≤ bx) (h2 : w0.heap.size ≤ nb) : Sst w0 (MJ bx nb X Y nv) where
  lt t S W b h hb := by
    obtain ⟨c1, c2, c3⟩ := h
    rcases (c3 b).1 hb with rfl | rfl
    · exact ⟨h1, c1.lt⟩
    · exact ⟨h2, c2.lt⟩
  keep t S W W' h hs hk := by
    obtain ⟨c1, c2, c3⟩ := h
    exact ⟨c1.keep (hk bx ((c3 bx).2 (.inl rfl))), (hk nb ((c3 nb).2 (.inr rfl))).trans c2, c3⟩
theorem MJ.same {w : World} {bx nb : Nat} {X Y : Value} {nv : Nat → Int} {t t' : Nat} {S : Nat → Prop} (h : MJ bx nb X Y nv t S w) (e : nv t = nv t') : MJ bx nb X Y nv t' S w := ⟨h.1, by rw [← e]; exact h.2.1, h.2.2⟩
set_option maxRecDepth 100000 in
set_option maxHeartbeats 16000000 in
theorem mult_at (w0 : World) (fo co : Option Addr) (fc cc q : Nat) (O : Nat → Nat → Int) (p : Nat → Nat) (bx nb i t t' : Nat) (nv : Nat → Int) (m : Int) (v v' : Nat → Int) (S : Nat → Prop) (W : World) (hS : BS w0 fo fc co cc q O p) (hi : i < q) (h4 : w0.heap.size ≤ nb)
    (hJ : MJ bx nb (.slice fo q fc) (.slice co q cc) nv t S W) (hB : Below w0.heap.size w0 W) (hv : Vv v) (hm : O i (p i) / (Int.gcd (O i (p i)) (v (p i)) : Nat) = m) (hn : nv t * m = nv t') (hb : 0 ≤ nv t' ∧ nv t' ≤ 1000000000) (hm1 : 0 ≤ m ∧ m ≤ 1000000000) (hv' : (fun j => m * v j) = v') :
    Calls Try.prog 92 #[.int .i64 i, PV v, .pointer (some ⟨bx, 0, none⟩), .pointer (some ⟨nb, 0, none⟩)] W fun e W' => e = .returned (PV v') ∧ Stp (MJ bx nb (.slice fo q fc) (.slice co q cc) nv) t' S W W' := by
  obtain ⟨c1, c2, c3⟩ := hJ
  have HPM := Bx.mk (fun w' (hb : Below w0.heap.size w0 w') => multiplier_at fo co fc cc q O p i v w' (hS.keep hb) hi hv)
  rw [hm] at HPM
  have HPP : Bx (∀ w', Calls Try.prog 94 #[PV (fun _ => 0), PV v, .int .i64 m] w' fun e w'' => e = .returned (PV v') ∧ Below w'.heap.size w' w'') := ⟨fun w' => by
    have h := plus_any (fun _ => 0) v m w' (fun j _ => by omega) (fun j hj => by
      have hvj := hv j hj
      have h : (m * v j).natAbs ≤ 1000000000 * 1000000000 := by rw [Int.natAbs_mul]; exact Nat.mul_le_mul (by omega) (by omega)
      omega)
    simp only [Int.zero_add] at h
    rw [hv'] at h
    exact h⟩
  obtain ⟨hV0, hP0, hB0, hs0⟩ := two_vecs W v
  obtain ⟨W1, hW1⟩ : ∃ W1, ((W.alloc (.cells #[.int .i64 (v 0), .int .i64 (v 1), .int .i64 (v 2), .int .i64 (v 3), .int .i64 (v 4), .int .i64 (v 5)] 36)).alloc (.cells #[.int .i64 0, .int .i64 0, .int .i64 0, .int .i64 0, .int .i64 0, .int .i64 0] 36)) = W1 := ⟨_, rfl⟩
  rw [hW1] at hV0 hP0 hB0 hs0
  have w0s := hB.size
  have l1 := c1.lt
  have l2 := c2.lt
  have hn1 : bx ≠ nb := fun e => by
    have a := c1; have b := c2; rw [e] at a
    have a' : W.heap[nb]? = _ := a
    have b' : W.heap[nb]? = _ := b
    rw [a'] at b'; cases b'
  have e1 : PB W1 bx _ _ := c1.keep (hB0.block bx l1)
  have e2 : Boxed W1 nb _ _ := (hB0.block nb l2).trans c2
  obtain ⟨a, ha⟩ : ∃ a, nv t = a := ⟨_, rfl⟩
  obtain ⟨c, hc⟩ : ∃ c, nv t' = c := ⟨_, rfl⟩
  rw [ha] at e2 hn
  rw [hc] at hn hb
  have hw1 : wrap64 (a * m) = c := by rw [hn]; unfold wrap64; omega
  have hw2 : IntKind.i64.wrap (a * m) = c := by rw [hn, IntWalk.i64_in] <;> omega
  have HE1 := Bx.mk e1
  have HE2 := Bx.mk e2
  have HV1 := Bx.mk hV0
  have HZ1 := Bx.mk hP0
  have HBW := Bx.mk hB0
  have HB1 := Bx.mk (hB.trans (hB0.mono w0s))
  have HC3 := Bx.mk c3
  have HC := Bx.mk hc
  have p0 := e1.c0
  have p1 := e1.c1
  have b0 := hV0.c0
  have b1 := hV0.c1
  have b2 := hV0.c2
  have b3 := hV0.c3
  have b4 := hV0.c4
  have b5 := hV0.c5
  unfold PV at HPM HPP ⊢
  clear hV0 hP0 hB0 e1 e2 c1 c2 c3 hB hS ha hc hm hn hv' hv
  go_enter Try.func92, Try.ntmps92
  go_wp2_with (first
    | (go_at_call 93; refine (HPM.out _ HB1.out).mono ?_; clear HPM; rintro e w2 ⟨rfl, hb2⟩
       have s2 := hb2.size
       have E2 : Boxed w2 nb _ _ := (hb2.block nb (by omega)).trans HE2.out
       have d2 := E2.cell
       have f2 := E2.frozen
       have HE3 := Bx.mk (E2.set (.int .i64 c))
       have HP3 := Bx.mk ((HE1.out.keep (hb2.block bx (by omega))).keep (setCell_heap_ne (W := w2) (b := nb) (k := 0) (z := .int .i64 c) hn1))
       have V3 := (HV1.out.keep (hb2.block W.heap.size (by omega))).keep (setCell_heap_ne (W := w2) (b := nb) (k := 0) (z := .int .i64 c) (by omega))
       have HZ3 := Bx.mk ((HZ1.out.keep (hb2.block (W.heap.size + 1) (by omega))).keep (setCell_heap_ne (W := w2) (b := nb) (k := 0) (z := .int .i64 c) (by omega)))
       have q0 := V3.c0
       have q1 := V3.c1
       have q2 := V3.c2
       have q3 := V3.c3
       have q4 := V3.c4
       have q5 := V3.c5
       have HX3 : Bx (Exc S W (w2.setCell ⟨nb, 0, none⟩ (.int .i64 c))) := ⟨(Exc.of_below (HBW.out.trans (hb2.mono (by omega)))).but (But.set w2 0 _) (.inr ((HC3.out nb).2 (.inr rfl)))⟩
       have HW3 := Bx.mk (Below.setCell (p := ⟨nb, 0, none⟩) (HB1.out.trans (hb2.mono (by omega))) h4 (.int .i64 c))
       have hs3 : (w2.setCell ⟨nb, 0, none⟩ (.int .i64 c)).heap.size = w2.heap.size := by simp [World.setCell]
       obtain ⟨w3, hw3⟩ : ∃ w3, w2.setCell ⟨nb, 0, none⟩ (.int .i64 c) = w3 := ⟨_, rfl⟩
       rw [hw3] at HE3 HP3 HZ3 q0 q1 q2 q3 q4 q5 HX3 HW3 hs3
       clear V3 E2 hb2)
    | (go_at_call 94; refine (HPP.out _).mono ?_; clear HPP; rintro e wa ⟨rfl, hba⟩
       have ZA := HZ3.out.keep (hba.block (W.heap.size + 1) (by omega))
       have HZA := Bx.mk ZA
       have HBA := Bx.mk hba
       have g0 := ZA.c0
       have g1 := ZA.c1
       have g2 := ZA.c2
       have g3 := ZA.c3
       have g4 := ZA.c4
       have g5 := ZA.c5
       have z0 := ZA.f 0
       have z1 := ZA.f 1
       have z2 := ZA.f 2
       have z3 := ZA.f 3
       have z4 := ZA.f 4
       have z5 := ZA.f 5
       clear ZA hba))
  have V6 := HZA.out.lit v'
  have hb6 := but_lit (W.heap.size + 1) wa v'
  have y0 := V6.c0
  have y1 := V6.c1
  have y2 := V6.c2
  have y3 := V6.c3
  have y4 := V6.c4
  have y5 := V6.c5
  obtain ⟨wz, hwz⟩ : ∃ wz, ((((((wa.setCell ⟨W.heap.size + 1, 0, none⟩ (.int .i64 (v' 0))).setCell ⟨W.heap.size + 1, 1, none⟩ (.int .i64 (v' 1))).setCell ⟨W.heap.size + 1, 2, none⟩ (.int .i64 (v' 2))).setCell ⟨W.heap.size + 1, 3, none⟩ (.int .i64 (v' 3))).setCell ⟨W.heap.size + 1, 4, none⟩ (.int .i64 (v' 4))).setCell ⟨W.heap.size + 1, 5, none⟩ (.int .i64 (v' 5))) = wz := ⟨_, rfl⟩
  rw [hwz] at V6 hb6 y0 y1 y2 y3 y4 y5 ⊢
  clear hwz
  have HX := Bx.mk ((HX3.out.below HBA.out).but hb6 (.inl (by omega)))
  have key := fun k hk (hne : k ≠ W.heap.size + 1) => (hb6.block k (Nat.lt_of_lt_of_le hk HBA.out.size) hne).trans (HBA.out.block k hk)
  refine bodyPost_ret_by (v := .agg #[.int .i64 (v' 0), .int .i64 (v' 1), .int .i64 (v' 2), .int .i64 (v' 3), .int .i64 (v' 4), .int .i64 (v' 5)]) (by simp [results, Try.results92, go_sem, y0, y1, y2, y3, y4, y5]) rfl ?_
  refine ⟨rfl, S, ⟨HP3.out.keep (key bx HP3.out.lt (by omega)), ?_, HC3.out⟩, HX.out, fun k _ h => h⟩
  rw [HC.out]
  exact (key nb HE3.out.lt (by omega)).trans HE3.out
/-- The multiplier of a row. -/
def mul (O : Nat → Nat → Int) (p : Nat → Nat) (x : Nat → Int) (i : Nat) : Int := O i (p i) / (Int.gcd (O i (p i)) (x (p i)) : Nat)
/-- The vectors of an order, one after another: multiplied, and then the remainder. -/
def ox (O : Nat → Nat → Int) (p : Nat → Nat) (v : Nat → Int) : Nat → Nat → Int
  | 0 => v
  | t + 1 => if t % 2 = 0 then fun j => mul O p (ox O p v t) (t / 2) * ox O p v t j else fun j => ox O p v t j + -(ox O p v t (p (t / 2)) / O (t / 2) (p (t / 2))) * O (t / 2) j
/-- The product of the multipliers. -/
def on (O : Nat → Nat → Int) (p : Nat → Nat) (v : Nat → Int) : Nat → Int
  | 0 => 1
  | t + 1 => if t % 2 = 0 then on O p v t * mul O p (ox O p v t) (t / 2) else on O p v t
theorem ox_mul (O : Nat → Nat → Int) (p : Nat → Nat) (v : Nat → Int) (i : Nat) : ox O p v (2 * i + 1) = fun j => mul O p (ox O p v (2 * i)) i * ox O p v (2 * i) j := by
  show (if 2 * i % 2 = 0 then _ else _) = _
  rw [if_pos (by omega), show 2 * i / 2 = i by omega]
theorem ox_rem (O : Nat → Nat → Int) (p : Nat → Nat) (v : Nat → Int) (i : Nat) : ox O p v (2 * i + 1 + 1) = fun j => ox O p v (2 * i + 1) j + -(ox O p v (2 * i + 1) (p i) / O i (p i)) * O i j := by
  show (if (2 * i + 1) % 2 = 0 then _ else _) = _
  rw [if_neg (by omega), show (2 * i + 1) / 2 = i by omega]
theorem on_mul (O : Nat → Nat → Int) (p : Nat → Nat) (v : Nat → Int) (i : Nat) : on O p v (2 * i + 1) = on O p v (2 * i) * mul O p (ox O p v (2 * i)) i := by
  show (if 2 * i % 2 = 0 then _ else _) = _
  rw [if_pos (by omega), show 2 * i / 2 = i by omega]
theorem on_rem (O : Nat → Nat → Int) (p : Nat → Nat) (v : Nat → Int) (i : Nat) : on O p v (2 * i + 1 + 1) = on O p v (2 * i + 1) := by
  show (if (2 * i + 1) % 2 = 0 then _ else _) = _
  rw [if_neg (by omega)]
theorem mul_pos {O : Nat → Nat → Int} {p : Nat → Nat} {x : Nat → Int} {i : Nat} (h : 0 < O i (p i)) : 0 < mul O p x i ∧ mul O p x i ≤ O i (p i) := by
  have hg1 : 0 < Int.gcd (O i (p i)) (x (p i)) := Nat.pos_of_ne_zero (fun e => by have := Int.gcd_eq_zero_iff.1 e; omega)
  have hd : ((Int.gcd (O i (p i)) (x (p i)) : Nat) : Int) ∣ O i (p i) := Int.gcd_dvd_left ..
  refine ⟨?_, Int.ediv_le_self _ (by omega)⟩
  unfold mul
  exact Int.ediv_pos_of_pos_of_dvd h (by omega) hd
theorem on_bound {O : Nat → Nat → Int} {p : Nat → Nat} {v : Nat → Int} {q : Nat} (h : ∀ k, k < q → 0 < O k (p k)) : ∀ i, i ≤ q → 0 < on O p v (2 * i) ∧ on O p v (2 * i) ≤ pr (fun k => O k (p k)) i := by
  intro i
  induction i with
  | zero => intro _; exact ⟨by show (0 : Int) < 1; omega, Int.le_refl _⟩
  | succ i ih =>
    intro hi
    obtain ⟨h1, h2⟩ := ih (by omega)
    obtain ⟨m1, m2⟩ := mul_pos (O := O) (p := p) (x := ox O p v (2 * i)) (h i (by omega))
    have e : on O p v (2 * (i + 1)) = on O p v (2 * i) * mul O p (ox O p v (2 * i)) i := (on_rem O p v i).trans (on_mul O p v i)
    rw [e]
    refine ⟨Int.mul_pos h1 m1, ?_⟩
    show _ ≤ pr (fun k => O k (p k)) i * O i (p i)
    exact Int.mul_le_mul h2 m2 (by omega) (by omega)
end Go.Proofs.Ytnbamjoadankmaa
/- The program's lattice: Order. -/
namespace Go.Proofs.Ytnbamjoadankmaa
open Go.RowKit D
/-- What Order answers for valid rows and vector. -/
def OrdOut (M : Nat → Nat → Int) (n : Nat) (v : Nat → Int) (e : Ending) : Prop :=
  ∃ (q : Nat) (O : Nat → Nat → Int) (p : Nat → Nat), HfS M n O q p ∧
    (((∀ t, t ≤ 2 * q → Vv (ox O p v t)) ∧ (((∀ j, j < 6 → ox O p v (2 * q) j = 0) ∧ e = .returned (.tuple #[.int .i64 (on O p v (2 * q)), .int .i64 0])) ∨ ((¬ ∀ j, j < 6 → ox O p v (2 * q) j = 0) ∧ e = .returned (.tuple #[.int .i64 0, .int .i64 0])))) ∨
     ((∃ t, t ≤ 2 * q ∧ ¬ Vv (ox O p v t)) ∧ e = .returned (.tuple #[.int .i64 0, .int .i64 3])))
theorem order_boxes (w2 : World) (x y f g : Value) (W : World) (hW : ((w2.alloc (.cells #[x, y] 100)).alloc (.cells #[.int .i64 1] 3)).alloc (.cells #[f, g] 162) = W) :
    PB W w2.heap.size x y ∧ Boxed W (w2.heap.size + 1) 3 (.int .i64 1) ∧ W.cell? ⟨w2.heap.size + 1 + 1, 0, none⟩ = some f ∧ W.cell? ⟨w2.heap.size + 1 + 1, 1, none⟩ = some g ∧ Below w2.heap.size w2 W ∧ W.heap.size = w2.heap.size + 3 := by
  subst hW
  have h1 := PB.new w2 x y
  have h2 := Boxed.new (w2.alloc (.cells #[x, y] 100)) 3 (.int .i64 1)
  have h3 := pair_new ((w2.alloc (.cells #[x, y] 100)).alloc (.cells #[.int .i64 1] 3)) f g 162
  simp only [World.size_alloc] at h2 h3
  refine ⟨h1.keep ((((Below.refl _ (w2.alloc (.cells #[x, y] 100))).alloc (Nat.le_refl _) _).alloc (by simp) _).block _ (by simp)), (((Below.refl _ ((w2.alloc (.cells #[x, y] 100)).alloc (.cells #[.int .i64 1] 3))).alloc (Nat.le_refl _) _).block _ (by simp)).trans h2, h3.1, h3.2, (((Below.refl _ w2).alloc (Nat.le_refl _) _).alloc (by simp) _).alloc (by simp <;> omega) _, by simp⟩
theorem order_split {O : Nat → Nat → Int} {p : Nat → Nat} {v : Nat → Int} {q bx nb : Nat} {X Y : Value} {e : Ending} {w4 : World}
    (hr : (e = .returned (.tuple #[PV (ox O p v (2 * q)), .int .i64 0]) ∧ (∀ k, k ≤ 2 * q → Vv (ox O p v k)) ∧ ∃ S, MJ bx nb X Y (on O p v) (2 * q) S w4) ∨ (e = .returned (.tuple #[PV fun _ => 0, .int .i64 3]) ∧ ∃ k, k ≤ 2 * q ∧ ¬ Vv (ox O p v k))) :
    (e = .returned (.tuple #[(.agg #[.int .i64 (ox O p v (2 * q) 0), .int .i64 (ox O p v (2 * q) 1), .int .i64 (ox O p v (2 * q) 2), .int .i64 (ox O p v (2 * q) 3), .int .i64 (ox O p v (2 * q) 4), .int .i64 (ox O p v (2 * q) 5)]), .int .i64 0]) ∧ Bx (∀ k, k ≤ 2 * q → Vv (ox O p v k)) ∧ Bx (∀ j, j < 6 → ox O p v (2 * q) j = 0) ∧ (∀ w, (Op.equalIn 10000 36 (.agg #[.int .i64 (ox O p v (2 * q) 0), .int .i64 (ox O p v (2 * q) 1), .int .i64 (ox O p v (2 * q) 2), .int .i64 (ox O p v (2 * q) 3), .int .i64 (ox O p v (2 * q) 4), .int .i64 (ox O p v (2 * q) 5)]) (.agg #[.int .i64 0, .int .i64 0, .int .i64 0, .int .i64 0, .int .i64 0, .int .i64 0])).run Try.prog w = .ok true w) ∧ ∀ o : Obj, (w4.alloc o).cell? ⟨nb, 0, none⟩ = some (.int .i64 (on O p v (2 * q)))) ∨
    (e = .returned (.tuple #[(.agg #[.int .i64 (ox O p v (2 * q) 0), .int .i64 (ox O p v (2 * q) 1), .int .i64 (ox O p v (2 * q) 2), .int .i64 (ox O p v (2 * q) 3), .int .i64 (ox O p v (2 * q) 4), .int .i64 (ox O p v (2 * q) 5)]), .int .i64 0]) ∧ Bx (∀ k, k ≤ 2 * q → Vv (ox O p v k)) ∧ Bx (¬ ∀ j, j < 6 → ox O p v (2 * q) j = 0) ∧ (∀ w, (Op.equalIn 10000 36 (.agg #[.int .i64 (ox O p v (2 * q) 0), .int .i64 (ox O p v (2 * q) 1), .int .i64 (ox O p v (2 * q) 2), .int .i64 (ox O p v (2 * q) 3), .int .i64 (ox O p v (2 * q) 4), .int .i64 (ox O p v (2 * q) 5)]) (.agg #[.int .i64 0, .int .i64 0, .int .i64 0, .int .i64 0, .int .i64 0, .int .i64 0])).run Try.prog w = .ok false w)) ∨
    (e = .returned (.tuple #[(.agg #[.int .i64 0, .int .i64 0, .int .i64 0, .int .i64 0, .int .i64 0, .int .i64 0]), .int .i64 3]) ∧ Bx (∃ k, k ≤ 2 * q ∧ ¬ Vv (ox O p v k))) := by
  rcases hr with ⟨rfl, hk, S, j1, j2, j3⟩ | ⟨rfl, hk⟩
  · by_cases hz : ∀ j, j < 6 → ox O p v (2 * q) j = 0
    · exact .inl ⟨rfl, ⟨hk⟩, ⟨hz⟩, eq6_is 36 Try.underlying36 (ox O p v (2 * q)) (fun _ => 0) true ⟨fun _ => hz, fun _ => rfl⟩, fun o => (cell_same ((above_new w4 o).block _ j2.lt)).trans j2.cell⟩
    · exact .inr (.inl ⟨rfl, ⟨hk⟩, ⟨hz⟩, eq6_is 36 Try.underlying36 (ox O p v (2 * q)) (fun _ => 0) false ⟨fun h => Bool.noConfusion h, fun h => absurd h hz⟩⟩)
  · exact .inr (.inr ⟨rfl, ⟨hk⟩⟩)
theorem rem_stp {w0 : World} {fo co : Option Addr} {fc cc q : Nat} {O : Nat → Nat → Int} {p : Nat → Nat} {bx nb i : Nat} {X Y : Value} {v : Nat → Int} {S : Nat → Prop} {W : World} (hSS : Sst w0 (MJ bx nb X Y (on O p v))) (hS : BS w0 fo fc co cc q O p) (hi : i < q)
    (hJ : MJ bx nb X Y (on O p v) (2 * i + 1) S W) (hB : Below w0.heap.size w0 W) (hv : Vv (ox O p v (2 * i + 1))) :
    Calls Try.prog 86 #[.agg #[.slice fo q fc, .slice co q cc], .int .i64 (i : Nat), PV (ox O p v (2 * i + 1))] W fun e W' => e = .returned (PV (ox O p v (2 * i + 1 + 1))) ∧ Stp (MJ bx nb X Y (on O p v)) (2 * i + 1 + 1) S W W' :=
  (remainder_at fo co fc cc q O p i (ox O p v (2 * i + 1)) W (hS.keep hB) hi hv).mono fun e W' h => by
    refine ⟨h.1.trans (by rw [ox_rem]), S, (hSS.keep _ _ W _ hJ h.2.size (fun b hb => h.2.block b (hSS.lt _ _ _ b hJ hb).2)).same (on_rem O p v i).symm, Exc.of_below h.2, fun k _ h => h⟩
theorem order_last (fo co : Option Addr) (fc cc q : Nat) (O : Nat → Nat → Int) (p : Nat → Nat) (v : Nat → Int) (w2 : World) (hS : BS w2 fo fc co cc q O p) (hv : Vv v) (hp : pv O p q ≤ 1000000000) :
    Calls Try.prog 85 #[.agg #[.slice fo q fc, .slice co q cc], PV v, .slice (some ⟨w2.heap.size + 1 + 1, 0, none⟩) 2 2] (((w2.alloc (.cells #[.slice fo q fc, .slice co q cc] 100)).alloc (.cells #[.int .i64 1] 3)).alloc (.cells #[.func (.func 92) #[] #[.pointer (some ⟨w2.heap.size, 0, none⟩), .pointer (some ⟨w2.heap.size + 1, 0, none⟩)], .func (.func 86) #[.agg #[.slice fo q fc, .slice co q cc]] #[]] 162)) fun e w' =>
      ((e = .returned (.tuple #[PV (ox O p v (2 * q)), .int .i64 0]) ∧ (∀ k, k ≤ 2 * q → Vv (ox O p v k)) ∧ ∃ S, MJ w2.heap.size (w2.heap.size + 1) (.slice fo q fc) (.slice co q cc) (on O p v) (2 * q) S w') ∨ (e = .returned (.tuple #[PV fun _ => 0, .int .i64 3]) ∧ ∃ k, k ≤ 2 * q ∧ ¬ Vv (ox O p v k))) ∧ Below w2.heap.size w2 w' := by
  obtain ⟨h1, h2, h3, h4, h5, h6⟩ := order_boxes w2 (.slice fo q fc) (.slice co q cc) (.func (.func 92) #[] #[.pointer (some ⟨w2.heap.size, 0, none⟩), .pointer (some ⟨w2.heap.size + 1, 0, none⟩)]) (.func (.func 86) #[.agg #[.slice fo q fc, .slice co q cc]] #[]) _ rfl
  have hSS : Sst w2 (MJ w2.heap.size (w2.heap.size + 1) (.slice fo q fc) (.slice co q cc) (on O p v)) := MJ.sst (Nat.le_refl _) (by omega)
  have hJ0 : MJ w2.heap.size (w2.heap.size + 1) (.slice fo q fc) (.slice co q cc) (on O p v) 0 (fun b => b = w2.heap.size ∨ b = w2.heap.size + 1) (((w2.alloc (.cells #[.slice fo q fc, .slice co q cc] 100)).alloc (.cells #[.int .i64 1] 3)).alloc (.cells #[.func (.func 92) #[] #[.pointer (some ⟨w2.heap.size, 0, none⟩), .pointer (some ⟨w2.heap.size + 1, 0, none⟩)], .func (.func 86) #[.agg #[.slice fo q fc, .slice co q cc]] #[]] 162)) := ⟨h1, h2, fun b => Iff.rfl⟩
  refine last_mult w2 fo co fc cc q w2.heap.size (w2.heap.size + 1) (ox O p v) _ _ (w2.heap.size + 1 + 1) 0 2 (((w2.alloc (.cells #[.slice fo q fc, .slice co q cc] 100)).alloc (.cells #[.int .i64 1] 3)).alloc (.cells #[.func (.func 92) #[] #[.pointer (some ⟨w2.heap.size, 0, none⟩), .pointer (some ⟨w2.heap.size + 1, 0, none⟩)], .func (.func 86) #[.agg #[.slice fo q fc, .slice co q cc]] #[]] 162)) hSS hS.six hS.lf h5 h3 h4 (by omega) (fun h => by rcases h with h | h <;> omega) (fun k h => (hSS.lt _ _ _ k hJ0 h).1) hJ0 hv ?_ ?_
  · intro i S W hi hJ hB hx
    obtain ⟨k1, k2⟩ := on_bound (v := v) hS.pos i (by omega)
    obtain ⟨k3, k4⟩ := on_bound (v := v) hS.pos (i + 1) (by omega)
    obtain ⟨m1, m2⟩ := mul_pos (O := O) (p := p) (x := ox O p v (2 * i)) (hS.pos i hi)
    have e1 : on O p v (2 * (i + 1)) = on O p v (2 * i + 1) := on_rem O p v i
    rw [e1] at k3 k4
    have h8 := prod_le (s := fun k => O k (p k)) (k := i + 1) (r := q) (by omega) hS.pos
    have h9 : pr (fun k => O k (p k)) q ≤ 1000000000 := hp
    have h10 := hS.piv i hi
    exact mult_at w2 fo co fc cc q O p _ _ i (2 * i) (2 * i + 1) (on O p v) (mul O p (ox O p v (2 * i)) i) (ox O p v (2 * i)) (ox O p v (2 * i + 1)) S W hS hi (by omega) hJ hB hx rfl (on_mul O p v i).symm (by omega) (by omega) (ox_mul O p v i).symm
  · intro i S W hi hJ hB hx
    exact rem_stp hSS hS hi hJ hB hx
set_option maxRecDepth 100000 in
set_option maxHeartbeats 16000000 in
theorem lorder_ok (ao : Option Addr) (n c1 : Nat) (M : Nat → Nat → Int) (v : Nat → Int) (w : World) (hc1 : n ≤ c1) (hc2 : c1 ≤ maxLen) (hR : CV w ao n M) (hm : VM M n) (hv : VV v) :
    Calls Try.prog 42 #[.slice ao n c1, PV v] w fun e w' => OrdOut M n v e ∧ Below w.heap.size w w' := by
  have HBF := Bx.mk (fun w' (hb : Below w.heap.size w w') => basisFor_any ao n c1 M v w' hc1 hc2 (hR.keep hb) hm hv)
  obtain ⟨hV0, hB0⟩ := vec_new w v
  have HV0 := Bx.mk hV0
  have HB0 := Bx.mk hB0
  have HVV := Bx.mk hv
  have HVM := Bx.mk hm
  have v0 := hV0.c0
  have v1 := hV0.c1
  have v2 := hV0.c2
  have v3 := hV0.c3
  have v4 := hV0.c4
  have v5 := hV0.c5
  unfold PV at HBF ⊢
  clear hV0 hB0 hv hm
  go_enter Try.func42, Try.ntmps42
  go_wp2_with (first
    | (go_at_call 82; refine (HBF.out _ HB0.out).mono ?_; clear HBF; rintro e w2 ⟨fo, fc, co, cc, q, O, p, rfl, HS2, HH2, hfc, B2w⟩
       have HHS : Bx (HfS M n O q p) := ⟨⟨HH2.out.1, HH2.out.2.1, HH2.out.2.2, HS2.out.six⟩⟩
       have hs2 := B2w.out.size
       have hs2a : w.heap.size < w2.heap.size := Nat.lt_of_lt_of_le HV0.out.lt hs2
       have hbx := order_boxes w2 (.slice fo q fc) (.slice co q cc) (.func (.func 92) #[] #[.pointer (some ⟨w2.heap.size, 0, none⟩), .pointer (some ⟨w2.heap.size + 1, 0, none⟩)]) (.func (.func 86) #[.agg #[.slice fo q fc, .slice co q cc]] #[]) _ rfl
       have V2 := HV0.out.keep (B2w.out.block w.heap.size HV0.out.lt)
       have HLA := Bx.mk (order_last fo co fc cc q O p v w2 HS2.out HVV.out (HHS.out.pv HVM.out).2.1)
       have HBB := Bx.mk (HB0.out.trans (B2w.out.mono (Nat.le_of_lt HV0.out.lt)))
       unfold PV at HLA
       have d0 := V2.c0
       have d1 := V2.c1
       have d2 := V2.c2
       have d3 := V2.c3
       have d4 := V2.c4
       have d5 := V2.c5
       have V3 := V2.keep ((above_new w2 (.cells #[.slice fo q fc, .slice co q cc] 100)).block w.heap.size hs2a)
       have hs3 : (w2.alloc (.cells #[.slice fo q fc, .slice co q cc] 100)).heap.size = w2.heap.size + 1 := by simp
       have V4 := V3.keep ((above_new (w2.alloc (.cells #[.slice fo q fc, .slice co q cc] 100)) (.cells #[.int .i64 1] 3)).block w.heap.size (by omega))
       have x0 := V4.c0
       have x1 := V4.c1
       have x2 := V4.c2
       have x3 := V4.c3
       have x4 := V4.c4
       have x5 := V4.c5
       have ne1 : w.heap.size ≠ w2.heap.size := by omega
       have ne2 : w2.heap.size ≠ w.heap.size := by omega
       clear B2w V2 V3 V4 hbx HS2)
    | (go_at_call 85; refine HLA.out.mono ?_; clear HLA; rintro e w4 ⟨hr, B4⟩
       have s4 := B4.size
       have HB4 := Bx.mk (HBB.out.trans (B4.mono (Nat.le_of_lt hs2a)))
       have hz := VB.new w4 (fun _ => 0)
       have z0 := hz.c0
       have z1 := hz.c1
       have z2 := hz.c2
       have z3 := hz.c3
       have z4 := hz.c4
       have z5 := hz.c5
       have f0 := hz.f 0
       have f1 := hz.f 1
       have f2 := hz.f 2
       have f3 := hz.f 3
       have f4 := hz.f 4
       have f5 := hz.f 5
       clear hz B4
       have HBZ := Bx.mk (above_new w4)
       rcases order_split hr with ⟨rfl, hkb, hzb, E6, jca⟩ | ⟨rfl, hkb, hzb, E6⟩ | ⟨rfl, hk⟩))
  · refine bodyPost_ret_by (v := .tuple #[.int .i64 (on O p v (2 * q)), .int .i64 0]) (by simp [results, Try.results42, go_sem]) rfl ?_
    exact ⟨⟨q, O, p, HHS.out, .inl ⟨hkb.out, .inl ⟨hzb.out, rfl⟩⟩⟩, HB4.out.trans ((HBZ.out _).mono HB4.out.size)⟩
  · refine bodyPost_ret_by (v := .tuple #[.int .i64 0, .int .i64 0]) (by simp [results, Try.results42, go_sem]) rfl ?_
    exact ⟨⟨q, O, p, HHS.out, .inl ⟨hkb.out, .inr ⟨hzb.out, rfl⟩⟩⟩, HB4.out.trans ((HBZ.out _).mono HB4.out.size)⟩
  · refine bodyPost_ret_by (v := .tuple #[.int .i64 0, .int .i64 3]) (by simp [results, Try.results42, go_sem]) rfl ?_
    exact ⟨⟨q, O, p, HHS.out, .inr ⟨hk.out, rfl⟩⟩, HB4.out.trans ((HBZ.out _).mono HB4.out.size)⟩
end Go.Proofs.Ytnbamjoadankmaa
/- The program's lattice: Order and Index where an argument is not valid. -/
namespace Go.Proofs.Ytnbamjoadankmaa
open Go.RowKit D
set_option maxRecDepth 100000 in
set_option maxHeartbeats 8000000 in
theorem lorder_bad (ao : Option Addr) (n c1 : Nat) (M : Nat → Nat → Int) (v : Nat → Int) (w : World) (hc1 : n ≤ c1) (hc2 : c1 ≤ maxLen) (hR : CV w ao n M) (h : ¬ (VM M n ∧ VV v)) :
    Calls Try.prog 42 #[.slice ao n c1, PV v] w fun e w' => e = .returned (.tuple #[.int .i64 0, .int .i64 1]) ∧ Below w.heap.size w w' := by
  have HBF : Bx (∀ w', Below w.heap.size w w' → Calls Try.prog 82 #[.slice ao n c1, PV v] w' fun e w'' => e = .returned (.tuple #[.agg #[.slice none 0 0, .slice none 0 0], .int .i64 1]) ∧ Below w'.heap.size w' w'') := ⟨fun w' hb => by
    by_cases hv : VV v
    · exact basisFor_bad ao n c1 M v w' hc1 hc2 (hR.keep hb) (fun hm => h ⟨hm, hv⟩) hv
    · exact basisFor_vec ao n c1 v w' hv⟩
  obtain ⟨hV0, hB0⟩ := vec_new w v
  have HB0 := Bx.mk hB0
  have hlt := hV0.lt
  have v0 := hV0.c0
  have v1 := hV0.c1
  have v2 := hV0.c2
  have v3 := hV0.c3
  have v4 := hV0.c4
  have v5 := hV0.c5
  unfold PV at HBF ⊢
  clear hV0 hB0
  go_enter Try.func42, Try.ntmps42
  go_wp2_with (first
    | (go_at_call 82; refine (HBF.out _ HB0.out).mono ?_; clear HBF; rintro e w2 ⟨rfl, B2w⟩
       have HB4 := Bx.mk ((HB0.out.trans (B2w.mono (Nat.le_of_lt hlt))).trans ((above_new w2 (.cells #[.slice none 0 0, .slice none 0 0] 100)).mono (by have := B2w.size; omega)))
       clear B2w))
  refine bodyPost_ret_by (v := .tuple #[.int .i64 0, .int .i64 1]) (by simp [results, Try.results42, go_sem]) rfl ?_
  exact ⟨rfl, HB4.out⟩
/-- Whatever the rows are. -/
theorem basis_some (ao : Option Addr) (n c1 : Nat) (M : Nat → Nat → Int) (w : World) (hc1 : n ≤ c1) (hc2 : c1 ≤ maxLen) (hR : CV w ao n M) :
    Calls Try.prog 89 #[.slice ao n c1] w fun e w' => ∃ (fo co : Option Addr) (fn fc cn cc : Nat) (c : Int), e = .returned (.tuple #[.agg #[.slice fo fn fc, .slice co cn cc], .int .i64 c]) ∧ Bx (Below w.heap.size w w') := by
  by_cases hv : VM M n
  · exact (basisOf_any ao n c1 M w hc1 hc2 hR hv).mono fun e w' h => by
      obtain ⟨fo, fc, co, cc, q, O, p, he, _, _, _, hb⟩ := h
      exact ⟨fo, co, q, fc, q, cc, 0, he, hb⟩
  · exact (basisOf_bad ao n c1 M w hc1 hc2 hR hv).mono fun e w' h => ⟨none, none, 0, 0, 0, 0, 1, h.1, ⟨h.2⟩⟩
set_option maxRecDepth 100000 in
set_option maxHeartbeats 8000000 in
theorem lindex_bad (ao bo : Option Addr) (n m c1 c2 : Nat) (A B : Nat → Nat → Int) (w : World) (hc1 : n ≤ c1) (hc1m : c1 ≤ maxLen) (hc2 : m ≤ c2) (hc2m : c2 ≤ maxLen) (hA : CV w ao n A) (hB : CV w bo m B) (h : ¬ (VM A n ∧ VM B m)) :
    Calls Try.prog 40 #[.slice ao n c1, .slice bo m c2] w fun e w' => e = .returned (.tuple #[.int .i64 0, .int .i64 1]) ∧ Below w.heap.size w w' := by
  have M1 : True := trivial
  by_cases va : VM A n
  · have H1 := Bx.mk (basis_ok ao n c1 A w hc1 hc1m hA va)
    have H2 := Bx.mk (fun w' (hb : Below w.heap.size w w') => basisOf_bad bo m c2 B w' hc2 hc2m (hB.keep hb) (fun vb => h ⟨va, vb⟩))
    clear hA hB h
    go_enter Try.func40, Try.ntmps40
    go_wp2_with (first
      | (clear M1; go_at_call 89; refine H1.out.mono ?_; clear H1; rintro e w1 ⟨fo, fc, co, cc, q, O, p, rfl, HS1, HH1, hq6, HB1⟩
         have HBa := Bx.mk (HB1.out.trans ((above_new w1 (.cells #[.slice fo q fc, .slice co q cc] 100)).mono HB1.out.size)))
      | (go_at_call 89; refine (H2.out _ HBa.out).mono ?_; clear H2; rintro e w2 ⟨rfl, hb2⟩
         have HB4 := Bx.mk ((HBa.out.trans (hb2.mono HBa.out.size)).trans ((above_new w2 (.cells #[.slice none 0 0, .slice none 0 0] 100)).mono (Nat.le_trans HBa.out.size hb2.size)))
         clear hb2))
    refine bodyPost_ret_by (v := .tuple #[.int .i64 0, .int .i64 1]) (by simp [results, Try.results40, go_sem]) rfl ?_
    exact ⟨rfl, HB4.out⟩
  · have H1 := Bx.mk (basisOf_bad ao n c1 A w hc1 hc1m hA va)
    have H2 := Bx.mk (fun w' (hb : Below w.heap.size w w') => basis_some bo m c2 B w' hc2 hc2m (hB.keep hb))
    clear hA hB h
    go_enter Try.func40, Try.ntmps40
    go_wp2_with (first
      | (clear M1; go_at_call 89; refine H1.out.mono ?_; clear H1; rintro e w1 ⟨rfl, hb1⟩
         have HBa := Bx.mk (hb1.trans ((above_new w1 (.cells #[.slice none 0 0, .slice none 0 0] 100)).mono hb1.size))
         clear hb1)
      | (go_at_call 89; refine (H2.out _ HBa.out).mono ?_; clear H2; rintro e w2 ⟨fo, co, fn, fc, cn, cc, c, rfl, hb2⟩
         have HB4 := Bx.mk ((HBa.out.trans (hb2.out.mono HBa.out.size)).trans ((above_new w2 (.cells #[.slice fo fn fc, .slice co cn cc] 100)).mono (Nat.le_trans HBa.out.size hb2.out.size)))
         clear hb2))
    refine bodyPost_ret_by (v := .tuple #[.int .i64 0, .int .i64 1]) (by simp [results, Try.results40, go_sem]) rfl ?_
    exact ⟨rfl, HB4.out⟩
end Go.Proofs.Ytnbamjoadankmaa

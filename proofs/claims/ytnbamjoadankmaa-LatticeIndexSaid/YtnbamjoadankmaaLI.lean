/- The law: LatticeIndex. -/
import Derived.Test.YtnbamjoadankmaaLX
namespace Go.Proofs.Ytnbamjoadankmaa
open Go.RowKit D
/-- What Index answers. -/
def Idx (A B : Nat → Nat → Int) (n m : Nat) (x c : Int) : Prop :=
  (c = 0 ∧ VM A n ∧ VM B m ∧ ∃ (q : Nat) (O : Nat → Nat → Int) (p : Nat → Nat) (q' : Nat) (O' : Nat → Nat → Int) (p' : Nat → Nat), HfS A n O q p ∧ HfS B m O' q' p' ∧ (∀ t, t < n → Sp B m 6 (A t)) ∧ x = if q < q' then 0 else pv O p q / pv O' p' q') ∨
  (c = 1 ∧ ¬ (VM A n ∧ VM B m)) ∨ c = 3 ∨ (c = 4 ∧ ∃ t, t < n ∧ ¬ Sp B m 6 (A t))
theorem lindex_any (ao bo : Option Addr) (n m c1 c2 : Nat) (A B : Nat → Nat → Int) (w : World) (hc1 : n ≤ c1) (hc1m : c1 ≤ maxLen) (hc2 : m ≤ c2) (hc2m : c2 ≤ maxLen) (hA : CV w ao n A) (hB : CV w bo m B) :
    Calls Try.prog 40 #[.slice ao n c1, .slice bo m c2] w fun e w' => ∃ x c, e = .returned (.tuple #[.int .i64 x, .int .i64 c]) ∧ Bx (Idx A B n m x c) ∧ Bx (Below w.heap.size w w') := by
  by_cases h : VM A n ∧ VM B m
  · refine (lindex_ok ao bo n m c1 c2 A B w hc1 hc1m hc2 hc2m hA hB h.1 h.2).mono fun e w' ⟨hI, hb⟩ => ?_
    obtain ⟨q, O, p, q', O', p', h1, h2, hI⟩ := hI
    rcases hI with ⟨k, hk, _, ⟨_, he⟩ | ⟨hk2, he⟩⟩ | ⟨hm, he⟩
    · exact ⟨_, _, he, ⟨.inr (.inr (.inl rfl))⟩, ⟨hb⟩⟩
    · exact ⟨_, _, he, ⟨.inr (.inr (.inr ⟨rfl, k, hk, fun hs => (hk2.sp h2.hf) ((h2.sp _).1 hs)⟩))⟩, ⟨hb⟩⟩
    · exact ⟨_, _, he, ⟨.inl ⟨rfl, h.1, h.2, q, O, p, q', O', p', h1, h2, fun t ht => (h2.sp _).2 ((hm t ht).sp h2.hf), rfl⟩⟩, ⟨hb⟩⟩
  · exact (lindex_bad ao bo n m c1 c2 A B w hc1 hc1m hc2 hc2m hA hB h).mono fun e w' ⟨he, hb⟩ => ⟨_, _, he, ⟨.inr (.inl ⟨rfl, h⟩)⟩, ⟨hb⟩⟩
theorem Idx.split {A B : Nat → Nat → Int} {n m : Nat} {x c : Int} (h : Idx A B n m x c) : (c = 0 ∧ Bx (Idx A B n m x 0)) ∨ ¬ c = 0 := by
  by_cases e : c = 0
  · exact .inl ⟨e, ⟨by rw [e] at h; exact h⟩⟩
  · exact .inr e
theorem Idx.good {A B : Nat → Nat → Int} {n m : Nat} {x : Int} (h : Idx A B n m x 0) : VM A n ∧ VM B m ∧ ∃ (q : Nat) (O : Nat → Nat → Int) (p : Nat → Nat) (q' : Nat) (O' : Nat → Nat → Int) (p' : Nat → Nat), HfS A n O q p ∧ HfS B m O' q' p' ∧ (∀ t, t < n → Sp B m 6 (A t)) ∧ x = if q < q' then 0 else pv O p q / pv O' p' q' := by
  rcases h with ⟨_, h⟩ | ⟨h, _⟩ | h | ⟨h, _⟩
  · exact h
  · omega
  · omega
  · omega
/-- The index of a lattice in another one. -/
theorem index_val {A B : Nat → Nat → Int} {n m q q' : Nat} {O O' : Nat → Nat → Int} {p p' : Nat → Nat} (hA : VM A n) (h1 : HfS A n O q p) (h2 : HfS B m O' q' p') (hs : ∀ t, t < n → Sp B m 6 (A t)) :
    q ≤ q' ∧ 0 ≤ (if q < q' then 0 else pv O p q / pv O' p' q' : Int) ∧ (if q < q' then 0 else pv O p q / pv O' p' q' : Int) ≤ 1000000000 ∧ (q = q' → pv O' p' q' ∣ pv O p q ∧ 0 < pv O' p' q') ∧ ((if q < q' then 0 else pv O p q / pv O' p' q' : Int) = 1 ↔ q = q' ∧ pv O p q = pv O' p' q') := by
  have hso : ∀ i, i < q → Sp O' q' 6 (O i) := fun i hi => ((h1.sub i hi).trans hs).trans h2.rows
  have hr := sub_rank h1.hf h2.hf hso
  have hp := h1.pv hA
  have hp' : 0 < pv O' p' q' := prod_pos h2.hf.pos
  refine ⟨hr, ?_, ?_, ?_, ?_⟩
  · by_cases e : q < q'
    · rw [if_pos e]; omega
    · rw [if_neg e]; exact Int.ediv_nonneg (by omega) (by omega)
  · by_cases e : q < q'
    · rw [if_pos e]; omega
    · rw [if_neg e]
      have := Int.ediv_le_self (pv O' p' q') (show 0 ≤ pv O p q by omega)
      omega
  · rintro rfl
    exact ⟨sub_pv h1.hf h2.hf hso, hp'⟩
  · by_cases e : q < q'
    · rw [if_pos e]
      exact ⟨fun h => by omega, fun h => by omega⟩
    · rw [if_neg e]
      obtain rfl : q = q' := by omega
      have hd := sub_pv h1.hf h2.hf hso
      obtain ⟨c, hc⟩ := hd
      rw [hc, Int.mul_ediv_cancel_left _ (by omega)]
      refine ⟨fun h => ⟨rfl, by rw [h]; omega⟩, fun h => ?_⟩
      have h3 : pv O' p' q * c = pv O' p' q * 1 := by rw [h.2]; omega
      exact Int.eq_of_mul_eq_mul_left (by omega) h3
theorem beq_dec (a b : Int) : (a == b) = decide (a = b) := by by_cases h : a = b <;> simp [h]
theorem same_idx {A B : Nat → Nat → Int} {n m : Nat} {x : Int} (hi : Idx A B n m x 0) {b : Bool} {q q' : Nat} {O O' : Nat → Nat → Int} {p p' : Nat → Nat} (hb : b = true ↔ q = q' ∧ ∀ i j, i < q → j < 6 → O i j = O' i j) (h1 : HfS A n O q p) (h2 : HfS B m O' q' p') : 0 ≤ x ∧ x ≤ 1000000000 ∧ (b == (x == 1)) = true := by
  obtain ⟨va, vb, r, H, s, r', H', s', k1, k2, hs, rfl⟩ := hi.good
  obtain ⟨i1, i2, i3, i4, i5⟩ := index_val va k1 k2 hs
  refine ⟨i2, i3, (fun (h : decide ((if r < r' then 0 else pv H s r / pv H' s' r' : Int) = 1) = b) => by rw [← h, beq_dec]; simp) ?_⟩
  have e1 := k1.can O q p h1
  have e2 := k2.can O' q' p' h2
  have key : (r = r' ∧ pv H s r = pv H' s' r') ↔ b = true := by
    rw [hb]
    constructor
    · rintro ⟨rfl, e⟩
      have hso : ∀ i, i < r → Sp H' r 6 (H i) := fun i hi => ((k1.sub i hi).trans hs).trans k2.rows
      have hos := sub_same k1.hf k2.hf hso e
      have h := k1.hf.one k2.hf hos hso
      refine ⟨e1.1.trans e2.1.symm, fun i j hi hj => ?_⟩
      rw [e1.2.2.2 i j hi hj, e2.2.2.2 i j (by have := e1.1; have := e2.1; omega) hj]
      exact h.2.2 i j (by have := e1.1; omega) hj
    · rintro ⟨rfl, e⟩
      have hr : r = r' := e1.1.symm.trans e2.1
      subst hr
      refine ⟨rfl, pr_congr r fun k hk => ?_⟩
      have hq := e1.1
      have a1 := e1.2.2.2
      have a2 := e2.2.2.2
      have hH : ∀ i j, i < r → j < 6 → H i j = H' i j := fun i j hi hj => by rw [← a1 i j (by omega) hj, ← a2 i j (by omega) hj]; exact e i j (by omega) hj
      have hp : s k = s' k := (k1.hf.one k2.hf (fun i hi => (Sp.unit (M := H) (n := r) (m := 6) hi).congr fun j hj => (hH i j hi hj).symm) (fun i hi => (Sp.unit (M := H') (n := r) (m := 6) hi).congr fun j hj => hH i j hi hj)).2.1 k hk
      rw [hp]
      exact hH k (s' k) hk (k2.hf.lt k hk)
  by_cases hx : (if r < r' then 0 else pv H s r / pv H' s' r' : Int) = 1
  · rw [decide_eq_true hx]; exact (key.1 (i5.1 hx)).symm
  · rw [decide_eq_false hx]
    cases b with
    | false => rfl
    | true => exact absurd (i5.2 (key.2 rfl)) hx
theorem third_idx {A B C : Nat → Nat → Int} {n m l : Nat} {x y z c : Int} (h1 : Idx A B n m x 0) (h2 : Idx B C m l y 0) (h3 : Idx A C n l z c) : (c = 0 ∧ z = x * y) ∨ c = 3 := by
  obtain ⟨va, vb, q, O, p, q', O', p', a1, a2, sa, rfl⟩ := h1.good
  obtain ⟨_, vc, r, H, s, r', H', s', b1, b2, sb, rfl⟩ := h2.good
  have sc : ∀ t, t < n → Sp C l 6 (A t) := fun t ht => (sa t ht).trans sb
  rcases h3 with ⟨rfl, _, _, u, K, o, u', K', o', c1, c2, _, rfl⟩ | ⟨_, h⟩ | h | ⟨_, t, ht, h⟩
  · refine .inl ⟨rfl, ?_⟩
    have e1 := a1.can K u o c1
    have e2 := b2.can K' u' o' c2
    have e3 := a2.can H r s b1
    rw [pv_at a1.can c1, pv_at b2.can c2, pv_at a2.can b1, e1.1, e2.1, e3.1]
    obtain ⟨i1, _, _, i4, _⟩ := index_val va a1 a2 sa
    obtain ⟨j1, _, _, j4, _⟩ := index_val vb a2 b2 sb
    by_cases hx : q < q'
    · rw [if_pos hx, if_pos (by omega)]; omega
    · simp only [if_neg hx]
      obtain rfl : q = q' := by omega
      by_cases hy : q < r'
      · simp only [if_pos hy, Int.mul_zero]
      · obtain rfl : q = r' := by omega
        simp only [if_neg hy]
        obtain ⟨d1, d2⟩ := i4 rfl
        obtain ⟨d3, d4⟩ := j4 rfl
        obtain ⟨f, hf⟩ := d1
        obtain ⟨g, hg⟩ := d3
        rw [hf, Int.mul_ediv_cancel_left _ (by omega), hg, Int.mul_ediv_cancel_left _ (by omega), Int.mul_assoc, Int.mul_ediv_cancel_left _ (by omega), Int.mul_comm]
  · exact absurd ⟨va, vc⟩ h
  · exact .inr h
  · exact absurd (sc t ht) h
theorem index_y {A B : Nat → Nat → Int} {n m : Nat} {x : Int} (h : Idx A B n m x 0) : 0 ≤ x ∧ x ≤ 1000000000 := by
  obtain ⟨va, vb, q, O, p, q', O', p', a1, a2, sa, rfl⟩ := h.good
  obtain ⟨_, i2, i3, _⟩ := index_val va a1 a2 sa
  exact ⟨i2, i3⟩
theorem wrap_xy {x y : Int} (h0 : 0 ≤ x) (h1 : x ≤ 1000000000) (hy : 0 ≤ y ∧ y ≤ 1000000000) : wrap64 (x * y) = x * y := by
  have a := Int.mul_nonneg h0 hy.1
  have b : x * y ≤ 1000000000 * 1000000000 := Int.mul_le_mul h1 hy.2 hy.1 (by omega)
  unfold wrap64; omega
theorem wrap_xy2 {x y : Int} (h0 : 0 ≤ x) (h1 : x ≤ 1000000000) (hy : 0 ≤ y ∧ y ≤ 1000000000) : IntKind.i64.wrap (x * y) = x * y := by
  have a := Int.mul_nonneg h0 hy.1
  have b : x * y ≤ 1000000000 * 1000000000 := Int.mul_le_mul h1 hy.2 hy.1 (by omega)
  rw [IntWalk.i64_in] <;> omega
set_option maxRecDepth 100000 in
set_option maxHeartbeats 16000000 in
theorem index_law (ao bo co : Option Addr) (n m l c1 c2 c3 : Nat) (A B C : Nat → Nat → Int) (w : World) (hc1 : n ≤ c1) (hc1m : c1 ≤ maxLen) (hc2 : m ≤ c2) (hc2m : c2 ≤ maxLen) (hc3 : l ≤ c3) (hc3m : c3 ≤ maxLen) (hA : CV w ao n A) (hB : CV w bo m B) (hC : CV w co l C) :
    Calls Try.prog 9 #[.slice ao n c1, .slice bo m c2, .slice co l c3] w fun e w' => e = .returned (.bool true) ∧ Below w.heap.size w w' := by
  have M1 : Bx True := ⟨trivial⟩
  have M2 : Bx True := ⟨trivial⟩
  have H1 := Bx.mk (fun w' (hb : Below w.heap.size w w') => lindex_any ao bo n m c1 c2 A B w' hc1 hc1m hc2 hc2m (hA.keep hb) (hB.keep hb))
  have H2 := Bx.mk (fun w' (hb : Below w.heap.size w w') => lindex_any bo co m l c2 c3 B C w' hc2 hc2m hc3 hc3m (hB.keep hb) (hC.keep hb))
  have H3 := Bx.mk (fun w' (hb : Below w.heap.size w w') => lindex_any ao co n l c1 c3 A C w' hc1 hc1m hc3 hc3m (hA.keep hb) (hC.keep hb))
  have HS := Bx.mk (fun w' (hb : Below w.heap.size w w') => lsame_ok ao bo n m c1 c2 A B w' hc1 hc1m hc2 hc2m (hA.keep hb) (hB.keep hb))
  clear hA hB hC
  go_enter Try.func9, Try.ntmps9
  go_wp2_with (first
    | (go_at_call 31; refine (lhead_any w).mono ?_; rintro e w1 ⟨rfl, b1⟩; have B1 := Bx.mk b1; clear b1)
    | (clear M1; go_at_call 40; refine (H1.out _ B1.out).mono ?_; clear H1; rintro e w2 ⟨x, c, rfl, I1, b2⟩; have B2 := Bx.mk (B1.out.trans (b2.out.mono B1.out.size)); clear b2)
    | (clear M2; go_at_call 40; refine (H2.out _ B2.out).mono ?_; clear H2; rintro e w3 ⟨y, d, rfl, I2, b3⟩
       have B3 := Bx.mk (B2.out.trans (b3.out.mono B2.out.size))
       clear b3
       rcases I1.out.split with ⟨rfl, G1⟩ | hc0)
    | (go_at_call 36; refine (HS.out _ B3.out G1.out.good.1 G1.out.good.2.1).mono ?_; clear HS; rintro e w4 ⟨b, q, q', O, O', p, p', rfl, hb, hs1, hs2, b4⟩
       have B4 := Bx.mk (B3.out.trans (b4.out.mono B3.out.size))
       have hxx := same_idx G1.out hb.out hs1.out hs2.out
       have hx0 := hxx.1
       have hx1 := hxx.2.1
       have hx2 := hxx.2.2
       clear b4 hxx hb hs1 hs2
       rcases I2.out.split with ⟨rfl, G2⟩ | hd0)
    | (go_at_call 40; refine (H3.out _ B4.out).mono ?_; clear H3; rintro e w5 ⟨z, f, rfl, I3, b5⟩
       have B5 := Bx.mk (B4.out.trans (b5.out.mono B4.out.size))
       have hyy := index_y G2.out
       have hw1 : wrap64 (x * y) = x * y := wrap_xy hx0 hx1 hyy
       have hw2 : IntKind.i64.wrap (x * y) = x * y := wrap_xy2 hx0 hx1 hyy
       rcases third_idx G1.out G2.out I3.out with ⟨rfl, rfl⟩ | rfl))
  all_goals go_ret
  all_goals first | exact ⟨rfl, B5.out⟩ | exact ⟨rfl, B4.out⟩ | exact ⟨rfl, B3.out⟩
end Go.Proofs.Ytnbamjoadankmaa

/- The chapter's examples: their numbers. -/
import Derived.Test.YtnbamjoadankmaaKZ
import Derived.Test.YtnbamjoadankmaaR6
namespace Go.Proofs.Ytnbamjoadankmaa
open Go.RowKit D
/-- A matrix from a list of its elements. -/
def lm (l : List Int) : Nat → Nat → Int := fun i j => l.getD (i * 6 + j) 0
theorem cv_lit (w : World) (l : List Int) (n : Nat) (t : TypeId) (h : l.length = n * 6) : CV (w.alloc (.cells (l.map (Value.int .i64)).toArray t)) (some ⟨w.heap.size, 0, none⟩) n (lm l) := fun _ => by
  refine ⟨w.heap.size, 0, rfl, by simp, fun i j hi hj => ?_⟩
  have hk : i * 6 + j < l.length := by omega
  have hb := World.alloc_heap_new w (.cells (l.map (Value.int .i64)).toArray t)
  simp only [World.cell?, hb, lm]
  rw [show 0 + i * 6 + j = i * 6 + j by omega]
  simp [List.getElem?_eq_getElem hk, List.getD_eq_getElem?_getD]
theorem ci_lit (w : World) (l : List Int) (t : TypeId) : CI (w.alloc (.cells (l.map (Value.int .i64)).toArray t)) (some ⟨w.heap.size, 0, none⟩) l := fun _ => by
  refine ⟨w.heap.size, 0, rfl, by simp, fun i hi => ?_⟩
  have hb := World.alloc_heap_new w (.cells (l.map (Value.int .i64)).toArray t)
  simp only [World.cell?, hb]
  rw [show 0 + i = i by omega]
  simp [List.getElem?_eq_getElem hi, List.getD_eq_getElem?_getD]
theorem hf_dec {E : Nat → Nat → Int} {r : Nat} {p : Nat → Nat} (h : (∀ k, k < r → p k < 6) ∧ (∀ k, k < r → ∀ i, i < k → p i < p k) ∧ (∀ k, k < r → 0 < E k (p k)) ∧ (∀ k, k < r → ∀ j, j < p k → E k j = 0) ∧ (∀ k, k < r → ∀ i, i < k → 0 ≤ E i (p k) ∧ E i (p k) < E k (p k))) : Hf E r 6 p :=
  ⟨h.1, fun i k hik hk => h.2.1 k hk i hik, h.2.2.1, fun k j hk hj => h.2.2.2.1 k hk j hj, fun i k hik hk => h.2.2.2.2 k hk i hik⟩
theorem sp_dec {E : Nat → Nat → Int} {r : Nat} {v : Nat → Int} (c : List Int) (h : ∀ j, j < 6 → v j = sm r (fun t => c.getD t 0 * E t j)) : Sp E r 6 v := ⟨fun t => c.getD t 0, h⟩
def exM : List Int := [12, 19, 28, 0, 0, 0, 19, 30, 44, 0, 0, 0]
def exH : List Int := [1, 0, -4, 0, 0, 0, 0, 1, 4, 0, 0, 0]
def exK : List Int := [4, -4, 1, 0, 0, 0, 0, 0, 0, 1, 0, 0, 0, 0, 0, 0, 1, 0, 0, 0, 0, 0, 0, 1]
def exD : List Int := [2, 0, 0, 0, 0, 0, 0, 6, 0, 0, 0, 0]
def exT : List Int := [4, 0, 0, 0, 0, 0, 6, 0, 0, 0, 0, 0]
def exU : List Int := [2, 0, 0, 0, 0, 0]
def exR : List Int := [-4, 4, -1, 0, 0, 0, 8, -8, 2, 0, 0, 0]
def exB : List Int := [1000000000, 1, 0, 0, 0, 0]
theorem vm_dec {l : List Int} {n : Nat} (h : n ≤ 8 ∧ (∀ i, i < n → ∀ j, j < 6 → -1000000000 ≤ lm l i j ∧ lm l i j ≤ 1000000000) ∧ vol (lm l) 6 n ≤ 1000000000) : VM (lm l) n := ⟨h.1, fun i j hi hj => h.2.1 i hi j hj, h.2.2⟩
theorem vmM : VM (lm exM) 2 := vm_dec (by decide +kernel)
theorem vmD : VM (lm exD) 2 := vm_dec (by decide +kernel)
theorem vmT : VM (lm exT) 2 := vm_dec (by decide +kernel)
theorem vmR : VM (lm exR) 2 := vm_dec (by decide +kernel)
theorem vmB : ¬ VM (lm exB) 1 := fun h => absurd h.2.2 (by decide +kernel)
theorem two_rows {P : Nat → Prop} (h0 : P 0) (h1 : P 1) : ∀ t, t < 2 → P t := fun t ht => by
  rcases (show t = 0 ∨ t = 1 by omega) with rfl | rfl <;> assumption
theorem herm_M {O : Nat → Nat → Int} {q : Nat} {p : Nat → Nat} (h : Hf O q 6 p) (h1 : ∀ t, t < 2 → Sp O q 6 (lm exM t)) (h2 : ∀ i, i < q → Sp (lm exM) 2 6 (O i)) : q = 2 ∧ ∀ i j, i < q → j < 6 → O i j = lm exH i j := by
  have k : Hf (lm exH) 2 6 id := hf_dec (by decide +kernel)
  have k1 : ∀ t, t < 2 → Sp (lm exM) 2 6 (lm exH t) := two_rows (sp_dec [-30, 19] (by decide +kernel)) (sp_dec [19, -12] (by decide +kernel))
  have k2 : ∀ t, t < 2 → Sp (lm exH) 2 6 (lm exM t) := two_rows (sp_dec [12, 19] (by decide +kernel)) (sp_dec [19, 30] (by decide +kernel))
  have e := h.one k (fun i hi => (k1 i hi).trans h1) (fun i hi => (h2 i hi).trans k2)
  exact ⟨e.1, e.2.2⟩
theorem herm_T {O : Nat → Nat → Int} {q : Nat} {p : Nat → Nat} (h : Hf O q 6 p) (h1 : ∀ t, t < 2 → Sp O q 6 (lm exT t)) (h2 : ∀ i, i < q → Sp (lm exT) 2 6 (O i)) : q = 1 ∧ ∀ i j, i < q → j < 6 → O i j = lm exU i j := by
  have k : Hf (lm exU) 1 6 id := hf_dec (by decide +kernel)
  have k1 : ∀ t, t < 1 → Sp (lm exT) 2 6 (lm exU t) := fun t ht => by
    obtain rfl : t = 0 := by omega
    exact sp_dec [-1, 1] (by decide +kernel)
  have k2 : ∀ t, t < 2 → Sp (lm exU) 1 6 (lm exT t) := two_rows (sp_dec [2] (by decide +kernel)) (sp_dec [3] (by decide +kernel))
  have e := h.one k (fun i hi => (k1 i hi).trans h1) (fun i hi => (h2 i hi).trans k2)
  exact ⟨e.1, e.2.2⟩
theorem ker_M {O : Nat → Nat → Int} {u : Nat} {p : Nat → Nat} (h : Hf O u 6 p) (h1 : ∀ i k, i < u → k < 2 → dot 6 (lm exM k) (O i) = 0) (h2 : ∀ y, (∀ k, k < 2 → dot 6 (lm exM k) y = 0) → Sp O u 6 y) : u = 4 ∧ ∀ i j, i < u → j < 6 → O i j = lm exK i j := by
  have k : Hf (lm exK) 4 6 (fun k => if k = 0 then 0 else k + 2) := hf_dec (by decide +kernel)
  have k1 : ∀ i, i < 4 → ∀ k, k < 2 → dot 6 (lm exM k) (lm exK i) = 0 := by decide +kernel
  have k2 : ∀ y : Nat → Int, (∀ k, k < 2 → dot 6 (lm exM k) y = 0) → Sp (lm exK) 4 6 y := by
    intro y hy
    have a := hy 0 (by omega)
    have b := hy 1 (by omega)
    simp [dot, sm, lm, exM] at a b
    refine sp_dec [y 2, y 3, y 4, y 5] fun j hj => ?_
    rcases six_cases hj with rfl | rfl | rfl | rfl | rfl | rfl <;> simp [sm, lm, exK] <;> omega
  have e := h.one k (fun i hi => h2 _ (k1 i hi)) (fun i hi => k2 _ fun t ht => h1 i t hi ht)
  exact ⟨e.1, e.2.2⟩
/-- What divides the minors of two rows. -/
theorem dv_two1 {l : List Int} {d : Int} (h : ∀ i, i < 2 → ∀ j, j < 6 → d ∣ lm l i j) : Dv (lm l) 2 6 1 d := Dv.rising fun is js hi hj _ _ hn hm => by
  match is, js, hi, hj with
  | [i], [j], _, _ =>
    have := h i (hn i (by simp)) j (hm j (by simp))
    simpa [mn, alt] using this
theorem dv_two2 {l : List Int} {d : Int} (h : ∀ j, j < 6 → ∀ k, k < 6 → d ∣ lm l 0 j * lm l 1 k - lm l 0 k * lm l 1 j) : Dv (lm l) 2 6 2 d := Dv.rising fun is js hi hj hpi _ hn hm => by
  match is, js, hi, hj with
  | [a, b], [j, k], _, _ =>
    have h1 : a < b := by simpa using hpi
    have h2 := hn a (by simp)
    have h3 := hn b (by simp)
    obtain rfl : a = 0 := by omega
    obtain rfl : b = 1 := by omega
    have := h j (hm j (by simp)) k (hm k (by simp))
    simpa [mn, alt] using this
theorem div_D {g : Nat → Nat} {r : Nat} (h : ∀ k d, Dv (lm exD) 2 6 k d ↔ d ∣ (g k : Int)) (hp : ∀ k, k < r → 0 < g (k + 1) ∧ g (k + 1) ≤ 1000000000) (h0 : g (r + 1) = 0) : r = 2 ∧ g 1 = 2 ∧ g 2 = 12 := by
  have e1 : g 1 = 2 := by
    have a := (h 1 2).1 (dv_two1 (by decide +kernel))
    have b := (h 1 (g 1)).2 (Int.dvd_refl _) [0] [0] rfl rfl (by simp) (by simp)
    have b' : (g 1 : Int) ∣ 2 := b
    have a' : 2 ∣ g 1 := by exact_mod_cast a
    have b'' : g 1 ∣ 2 := by exact_mod_cast b'
    exact Nat.dvd_antisymm b'' a'
  have e2 : g 2 = 12 := by
    have a := (h 2 12).1 (dv_two2 (by decide +kernel))
    have b := (h 2 (g 2)).2 (Int.dvd_refl _) [0, 1] [0, 1] rfl rfl (by simp) (by simp)
    have b' : (g 2 : Int) ∣ 12 := b
    have a' : 12 ∣ g 2 := by exact_mod_cast a
    have b'' : g 2 ∣ 12 := by exact_mod_cast b'
    exact Nat.dvd_antisymm b'' a'
  have e3 : g 3 = 0 := by
    have := (h 3 0).1 (Dv.many (by omega) 0)
    have := Int.zero_dvd.1 this; omega
  refine ⟨?_, e1, e2⟩
  have n0 : r ≠ 0 := fun e => by subst e; have : g 1 = 0 := h0; omega
  have n1 : r ≠ 1 := fun e => by subst e; have : g 2 = 0 := h0; omega
  have n2 : ¬ 2 < r := fun e => by have : 0 < g 3 := (hp 2 e).1; omega
  omega
theorem rank_R {q : Nat} (h : ∀ k, Dv (lm exR) 2 6 k 0 ↔ q < k) : q = 1 := by
  have a := (h 2).1 (dv_two2 (by decide +kernel))
  have b : ¬ q < 1 := fun e => by
    have c := (h 1).2 e [0] [0] rfl rfl (by simp) (by simp)
    exact absurd (Int.zero_dvd.1 c) (by decide +kernel)
  omega
end Go.Proofs.Ytnbamjoadankmaa
/- The chapter's examples: head of the laws. -/
namespace Go.Proofs.Ytnbamjoadankmaa
open Go.RowKit D
theorem CV.congr {w : World} {ao : Option Addr} {n : Nat} {A B : Nat → Nat → Int} (h : CV w ao n A) (e : ∀ i j, i < n → j < 6 → A i j = B i j) : CV w ao n B := fun hn => by
  obtain ⟨b, o, ha, hl, hc⟩ := h hn
  exact ⟨b, o, ha, hl, fun i j hi hj => by rw [hc i j hi hj, e i j hi hj]⟩
theorem hermM_any (ao : Option Addr) (w : World) (hR : CV w ao 2 (lm exM)) : Calls Try.prog 21 #[.slice ao 2 2] w fun e w' => ∃ (ho : Option Addr) (hc : Nat), e = .returned (.tuple #[.slice ho 2 hc, .int .i64 0]) ∧ Bx (CV w' ho 2 (lm exH) ∧ 2 ≤ hc ∧ hc ≤ maxLen) ∧ Bx (Below w.heap.size w w') :=
  (hermite_pub ao 2 2 (lm exM) w (Nat.le_refl _) (by decide) hR).mono fun e w' ⟨h, hb⟩ => by
    rcases h with ⟨h, _⟩ | ⟨_, ho, hc, q, O, p, he, hcv, h1, h2, _, hO, k1, k2⟩
    · exact absurd vmM h
    · obtain ⟨rfl, e2⟩ := herm_M hO k1 k2
      exact ⟨ho, hc, he, ⟨CV.congr hcv fun i j hi hj => e2 i j hi hj, h1, h2⟩, ⟨hb⟩⟩
theorem hermT_any (ao : Option Addr) (w : World) (hR : CV w ao 2 (lm exT)) : Calls Try.prog 21 #[.slice ao 2 2] w fun e w' => ∃ (ho : Option Addr) (hc : Nat), e = .returned (.tuple #[.slice ho 1 hc, .int .i64 0]) ∧ Bx (CV w' ho 1 (lm exU) ∧ 1 ≤ hc ∧ hc ≤ maxLen) ∧ Bx (Below w.heap.size w w') :=
  (hermite_pub ao 2 2 (lm exT) w (Nat.le_refl _) (by decide) hR).mono fun e w' ⟨h, hb⟩ => by
    rcases h with ⟨h, _⟩ | ⟨_, ho, hc, q, O, p, he, hcv, h1, h2, _, hO, k1, k2⟩
    · exact absurd vmT h
    · obtain ⟨rfl, e2⟩ := herm_T hO k1 k2
      exact ⟨ho, hc, he, ⟨CV.congr hcv fun i j hi hj => e2 i j hi hj, h1, h2⟩, ⟨hb⟩⟩
theorem kerM_any (ao : Option Addr) (w : World) (hR : CV w ao 2 (lm exM)) : Calls Try.prog 24 #[.slice ao 2 2] w fun e w' => ∃ (ho : Option Addr) (hc : Nat), e = .returned (.tuple #[.slice ho 4 hc, .int .i64 0]) ∧ Bx (CV w' ho 4 (lm exK) ∧ 4 ≤ hc ∧ hc ≤ maxLen) ∧ Bx (Below w.heap.size w w') :=
  (kernel_pub ao 2 2 (lm exM) w (Nat.le_refl _) (by decide) hR).mono fun e w' ⟨h, hb⟩ => by
    rcases h with ⟨h, _⟩ | ⟨_, ho, hc, q, O, p, he, hcv, h1, h2, _, hO, k1, k2⟩
    · exact absurd vmM h
    · obtain ⟨rfl, e2⟩ := ker_M hO k1 k2
      exact ⟨ho, hc, he, ⟨CV.congr hcv fun i j hi hj => e2 i j hi hj, h1, h2⟩, ⟨hb⟩⟩
theorem divD_any (ao : Option Addr) (w : World) (hR : CV w ao 2 (lm exD)) : Calls Try.prog 26 #[.slice ao 2 2] w fun e w' => ∃ (ho : Option Addr) (hc : Nat), e = .returned (.tuple #[.slice ho 2 hc, .int .i64 0]) ∧ Bx (CI w' ho [2, 12] ∧ 2 ≤ hc ∧ hc ≤ maxLen) ∧ Bx (Below w.heap.size w w') :=
  (divisors_pub ao 2 2 (lm exD) w (Nat.le_refl _) (by decide) hR).mono fun e w' ⟨h, hb⟩ => by
    rcases h with ⟨h, _⟩ | ⟨_, g, ho, hc, r, he, hcn, h1, h2, _, k1, k2, k3⟩
    · exact absurd vmD h
    · obtain ⟨rfl, e1, e2⟩ := div_D k1 k2 k3
      refine ⟨ho, hc, he, ⟨fun _ => ?_, h1, h2⟩, ⟨hb⟩⟩
      obtain ⟨b, o, ha, hl, hx⟩ := hcn (by simp)
      refine ⟨b, o, ha, hl, fun i hi => ?_⟩
      have hi2 : i < 2 := by simpa using hi
      rw [hx i (by simpa using hi2)]
      rcases (show i = 0 ∨ i = 1 by omega) with rfl | rfl <;> simp [e1, e2]
theorem rankR_any (ao : Option Addr) (w : World) (hR : CV w ao 2 (lm exR)) : Calls Try.prog 29 #[.slice ao 2 2] w fun e w' => e = .returned (.tuple #[.int .i64 1, .int .i64 0]) ∧ Bx (Below w.heap.size w w') :=
  (rank_pub ao 2 2 (lm exR) w (Nat.le_refl _) (by decide) hR).mono fun e w' ⟨h, hb⟩ => by
    rcases h with ⟨h, _⟩ | ⟨_, q, he, _, hq⟩
    · exact absurd vmR h
    · obtain rfl := rank_R hq
      exact ⟨he, ⟨hb⟩⟩
theorem rankB_any (ao : Option Addr) (w : World) (hR : CV w ao 1 (lm exB)) : Calls Try.prog 29 #[.slice ao 1 1] w fun e w' => e = .returned (.tuple #[.int .i64 0, .int .i64 1]) ∧ Bx (Below w.heap.size w w') :=
  (rank_pub ao 1 1 (lm exB) w (Nat.le_refl _) (by decide) hR).mono fun e w' ⟨h, hb⟩ => by
    rcases h with ⟨_, h⟩ | ⟨h, _⟩
    · exact ⟨h, ⟨hb⟩⟩
    · exact absurd h vmB
theorem below_new {w w' : World} {o : Obj} (h : Below (w.alloc o).heap.size (w.alloc o) w') : Below w.heap.size w w' := ((Below.refl _ w).alloc (Nat.le_refl _) o).trans (h.mono (by simp))
end Go.Proofs.Ytnbamjoadankmaa
/- The chapter's examples: head of the laws. -/
namespace Go.Proofs.Ytnbamjoadankmaa
open Go.RowKit D
set_option maxRecDepth 100000 in
set_option maxHeartbeats 16000000 in
theorem head_any (w : World) : Calls Try.prog 18 #[] w fun e w' => e = .returned (.bool true) ∧ Below w.heap.size w w' := by
  have M1 : Bx True := ⟨trivial⟩
  have M2 : Bx True := ⟨trivial⟩
  have M3 : Bx True := ⟨trivial⟩
  have M4 : Bx True := ⟨trivial⟩
  have M5 : Bx True := ⟨trivial⟩
  have M6 : Bx True := ⟨trivial⟩
  have M7 : Bx True := ⟨trivial⟩
  have M8 : Bx True := ⟨trivial⟩
  have M9 : Bx True := ⟨trivial⟩
  have M10 : Bx True := ⟨trivial⟩
  go_enter Try.func18, Try.ntmps18
  go_wp2_with (first
    | (clear M1; go_at_call 21; refine (hermM_any _ _ (cv_lit w exM 2 36 rfl)).mono ?_; rintro e w1 ⟨h1, c1, rfl, H1, B1⟩
       have HM1 := (cv_lit w exM 2 36 rfl).keep B1.out
       have K1 := below_new B1.out)
    | (clear M2; go_at_call 24; refine (kerM_any _ _ HM1).mono ?_; rintro e w2 ⟨h2, c2, rfl, H2, B2⟩
       have H12 := H1.out.1.keep B2.out)
    | (clear M3; go_at_call 26; refine (divD_any _ _ (cv_lit w2 exD 2 36 rfl)).mono ?_; rintro e w3 ⟨h3, c3, rfl, H3, B3⟩
       have K3 := below_new B3.out
       have H13 := H12.keep K3
       have H23 := H2.out.1.keep K3)
    | (clear M4; go_at_call 21; refine (hermT_any _ _ (cv_lit w3 exT 2 36 rfl)).mono ?_; rintro e w4 ⟨h4, c4, rfl, H4, B4⟩
       have K4 := below_new B4.out
       have H14 := H13.keep K4
       have H24 := H23.keep K4
       have H34 := H3.out.1.keep K4)
    | (clear M5; go_at_call 29; refine (rankR_any _ _ (cv_lit w4 exR 2 36 rfl)).mono ?_; rintro e w5 ⟨rfl, B5⟩
       have K5 := below_new B5.out
       have H15 := H14.keep K5
       have H25 := H24.keep K5
       have H35 := H34.keep K5
       have H45 := H4.out.1.keep K5)
    | (clear M6; go_at_call 29; refine (rankB_any _ _ (cv_lit w5 exB 1 36 rfl)).mono ?_; rintro e w6 ⟨rfl, B6⟩
       have K6 := below_new B6.out
       have H16 := H15.keep K6
       have H26 := H25.keep K6
       have H36 := H35.keep K6
       have H46 := H45.keep K6)
    | (clear M7; go_at_call 23; refine (same_any _ _ _ _ 2 2 (lm exH) (lm exH) _ H1.out.2.1 H1.out.2.2 (Nat.le_refl _) (by decide) (H16.keep ((Below.refl _ w6).alloc (Nat.le_refl _) _)) (cv_lit w6 exH 2 36 rfl) true (by simp)).mono ?_; rintro e w7 ⟨rfl, B7⟩
       have K7 := below_new B7
       have H27 := H26.keep K7
       have H37 := H36.keep K7
       have H47 := H46.keep K7)
    | (clear M8; go_at_call 23; refine (same_any _ _ _ _ 4 4 (lm exK) (lm exK) _ H2.out.2.1 H2.out.2.2 (Nat.le_refl _) (by decide) (H27.keep ((Below.refl _ w7).alloc (Nat.le_refl _) _)) (cv_lit w7 exK 4 36 rfl) true (by simp)).mono ?_; rintro e w8 ⟨rfl, B8⟩
       have K8 := below_new B8
       have H38 := H37.keep K8
       have H48 := H47.keep K8)
    | (clear M9; go_at_call 28; refine (ints_any _ _ _ _ 2 2 [2, 12] [2, 12] _ rfl rfl H3.out.2.1 H3.out.2.2 (Nat.le_refl _) (by decide) (H38.keep ((Below.refl _ w8).alloc (Nat.le_refl _) _)) (ci_lit w8 [2, 12] 3) true (by simp)).mono ?_; rintro e w9 ⟨rfl, B9⟩
       have K9 := below_new B9
       have H49 := H48.keep K9)
    | (clear M10; go_at_call 23; refine (same_any _ _ _ _ 1 1 (lm exU) (lm exU) _ H4.out.2.1 H4.out.2.2 (Nat.le_refl _) (by decide) (H49.keep ((Below.refl _ w9).alloc (Nat.le_refl _) _)) (cv_lit w9 exU 1 36 rfl) true (by simp)).mono ?_; rintro e w10 ⟨rfl, B10⟩
       have K10 := below_new B10))
  go_ret
  refine ⟨rfl, ?_⟩
  have B2' := B2.out
  have J2 := K1.trans (B2'.mono K1.size)
  have J3 := J2.trans (K3.mono J2.size)
  have J4 := J3.trans (K4.mono J3.size)
  have J5 := J4.trans (K5.mono J4.size)
  have J6 := J5.trans (K6.mono J5.size)
  have J7 := J6.trans (K7.mono J6.size)
  have J8 := J7.trans (K8.mono J7.size)
  have J9 := J8.trans (K9.mono J8.size)
  exact J9.trans (K10.mono J9.size)
end Go.Proofs.Ytnbamjoadankmaa

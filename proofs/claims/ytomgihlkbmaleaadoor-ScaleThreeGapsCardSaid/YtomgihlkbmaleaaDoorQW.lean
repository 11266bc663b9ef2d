/- The program's scale: the numbers of the chapter's examples. -/
import Derived.Test.YtomgihlkbmaleaaDoorQV
namespace Go.Proofs.YtomgihlkbmaleaaDoor
open Go.RowKit M
theorem above_new (W : World) (o : Obj) : Below W.heap.size W (W.alloc o) := (Below.refl _ _).alloc (Nat.le_refl _) o
theorem below_new {W W' : World} {o : Obj} (hb : Below (W.alloc o).heap.size (W.alloc o) W') : Below W.heap.size W W' := (above_new W o).trans (hb.mono (above_new W o).size)
/-- A matrix from a list of its elements. -/
def lm (l : List Int) : Nat → Nat → Int := fun i j => l.getD (i * 6 + j) 0
theorem cv_lit (w : World) (l : List Int) (n : Nat) (h : l.length = n * 6) : CV (w.alloc (.cells (l.map (Value.int .i64)).toArray 23)) (some ⟨w.heap.size, 0, none⟩) n (lm l) := fun _ => by
  refine ⟨w.heap.size, 0, rfl, by simp, fun i j hi hj => ?_⟩
  have hk : i * 6 + j < l.length := by omega
  have hb := World.alloc_heap_new w (.cells (l.map (Value.int .i64)).toArray 23)
  simp only [World.cell?, hb, lm]
  rw [show 0 + i * 6 + j = i * 6 + j by omega]
  simp [List.getElem?_eq_getElem hk, List.getD_eq_getElem?_getD]
theorem pvt_congr {f g : Nat → Int} (h : ∀ j, j < 6 → f j = g j) : PV f = PV g := by
  unfold PV
  rw [h 0 (by omega), h 1 (by omega), h 2 (by omega), h 3 (by omega), h 4 (by omega), h 5 (by omega)]
/-- A pitch from its first exponents. -/
def pv (l : List Int) : Nat → Int := fun i => l.getD i 0
theorem oct_is {p q : Nat → Int} {o : Int} (hp : bdB p 576 = true) (h : Oct p q o) : ∀ w, Sm w → Calls Tryd.prog 10 #[PV p] w fun e w' => e = .returned (.tuple #[PV q, .int .i64 o, .int .i64 0]) ∧ Below w.heap.size w w' := by
  obtain ⟨r, e, hc⟩ := oct_ok hp h
  rw [pvt_congr e]; exact hc
theorem oct_dec {p q : Nat → Int} {o : Int} (h : bdB q 576 = true ∧ (0 ≤ sg q ∧ sg (subV q (oc 1)) < 0) ∧ ∀ i, i < 6 → q i = p i + oc (-o) i) : Oct p q o := ⟨h.1, ⟨h.2.1.1, h.2.1.2⟩, h.2.2⟩
theorem o_a : Oct (pv [0, 12]) (pv [-12, 12]) 1 := oct_dec (by decide +kernel)
theorem o_b : Oct (pv [0, -12]) (pv [24, -12]) (-2) := oct_dec (by decide +kernel)
theorem o_c : Oct (pv [0, -12, 12]) (pv [0, -12, 12]) 0 := oct_dec (by decide +kernel)
theorem o_d : Oct (pv [-36, 12, 12]) (pv [-36, 12, 12]) 0 := oct_dec (by decide +kernel)
theorem o_e : Oct (pv [-12, 24]) (pv [-36, 24]) 2 := oct_dec (by decide +kernel)
theorem o_f : Oct (pv [1]) (pv [1]) 0 := oct_dec (by decide +kernel)
def qs3 : Nat → Nat → Int := fun i => if i = 0 then (pv [0]) else if i = 1 then (pv [-12, 12]) else (pv [-36, 24])
def hs3 : Nat → Nat → Int := fun i => if i = 0 then (pv [0]) else if i = 1 then (pv [-36, 24]) else (pv [-12, 12])
theorem three {P : Nat → Prop} (h0 : P 0) (h1 : P 1) (h2 : P 2) : ∀ i, i < 3 → P i := fun i hi => by
  rcases (by omega : i = 0 ∨ i = 1 ∨ i = 2) with rfl | rfl | rfl <;> assumption
theorem in3 : ∀ i, i < 3 → InCh (pv [-12, 12]) qs3 i :=
  three ⟨by decide +kernel, 0, oct_dec (by decide +kernel)⟩ ⟨by decide +kernel, 0, oct_dec (by decide +kernel)⟩ ⟨by decide +kernel, 1, oct_dec (by decide +kernel)⟩
theorem df3 : ∀ i j, i < j → j < 3 → Df (qs3 i) (qs3 j) := fun i j hij hj => by
  have h : ∀ j, j < 3 → ∀ i, i < j → Df (qs3 i) (qs3 j) := by unfold Df; decide +kernel
  exact h j hj i hij
theorem up3 : (lsM hs3 3).Pairwise fun a b => sg (subV a b) < 0 := by
  show ([(pv [0]), (pv [-36, 24]), (pv [-12, 12])] : List (Nat → Int)).Pairwise _
  refine .cons (fun x hx => ?_) (.cons (fun x hx => ?_) (.cons (fun x hx => ?_) .nil))
  · simp only [List.mem_cons, List.not_mem_nil, or_false] at hx
    rcases hx with rfl | rfl <;> decide +kernel
  · simp only [List.mem_cons, List.not_mem_nil, or_false] at hx
    rcases hx with rfl; decide +kernel
  · cases hx
theorem sg_asym {a b : Nat → Int} (h : sg (subV a b) < 0) (k : sg (subV b a) < 0) : False := by
  rw [show sg (subV b a) = -sg (subV a b) from sg_anti fun i _ => by simp only [subV]; omega] at k
  omega
theorem sorted_one {M N : Nat → Nat → Int} {n : Nat} (p : (lsM M n).Perm (lsM N n)) (hM : ∀ i j, i < j → j < n → sg (subV (M i) (M j)) < 0) (hN : (lsM N n).Pairwise fun a b => sg (subV a b) < 0) : ∀ i, i < n → M i = N i := by
  have hM' : (lsM M n).Pairwise fun a b => sg (subV a b) < 0 := by
    unfold lsM
    rw [List.pairwise_map, List.pairwise_iff_getElem]
    simp only [List.length_range, List.getElem_range]
    exact fun i j _ hj hij => hM i j hij hj
  have e := p.eq_of_pairwise (fun a b _ _ h k => (sg_asym h k).elim) hM' hN
  intro i hi
  have h := congrArg (fun l => l[i]?) e
  simpa [lsM, List.getElem?_range, hi] using h
theorem chain3 (w : World) (hs : Sm w) : Calls Tryd.prog 13 #[(.agg #[.int .i64 (-12), .int .i64 12, .int .i64 0, .int .i64 0, .int .i64 0, .int .i64 0]), .int .i64 3] w fun e w' => ∃ g cap, e = .returned (.tuple #[.slice (some ⟨g, 0, none⟩) 3 cap, .int .i64 0]) ∧ 3 ≤ cap ∧ cap ≤ maxLen ∧ Bx (CV w' (some ⟨g, 0, none⟩) 3 hs3) ∧ Bx (Below w.heap.size w w') :=
  (chain_ok (pv [-12, 12]) 3 qs3 w hs (by decide +kernel) (by decide) (by decide) in3 df3).mono fun e w' ⟨g, cap, M, h1, h2, h3, h4, h5, h6, h7⟩ => by
    have p : (lsM M 3).Perm (lsM hs3 3) := h5.trans (by
      show ([(pv [0]), (pv [-12, 12]), (pv [-36, 24])] : List (Nat → Int)).Perm [(pv [0]), (pv [-36, 24]), (pv [-12, 12])]
      exact (List.Perm.swap _ _ _).cons _)
    have e := sorted_one p h6 up3
    exact ⟨g, cap, h1, h2, h3, ⟨h4.congr fun i j hi _ => by rw [e i hi]⟩, ⟨h7⟩⟩
theorem chain12 (w : World) (hs : Sm w) : Calls Tryd.prog 13 #[(.agg #[.int .i64 12, .int .i64 0, .int .i64 0, .int .i64 0, .int .i64 0, .int .i64 0]), .int .i64 2] w (NilR w 5) :=
  chain_twice (pv [12]) 2 (fun _ => (pv [0])) w hs (by decide +kernel) (by decide) (by decide) (fun i hi => by
    rcases (by omega : i = 0 ∨ i = 1) with rfl | rfl
    · exact ⟨by decide +kernel, 0, oct_dec (by decide +kernel)⟩
    · exact ⟨by decide +kernel, 1, oct_dec (by decide +kernel)⟩) fun h => h 0 1 (by omega) (by omega) fun _ _ => rfl
theorem sv3 : SV hs3 3 := ⟨by decide, by decide, by decide +kernel, three (by decide +kernel) (by decide +kernel) (by decide +kernel)⟩
theorem steps3 (ao : Option Addr) (c : Nat) (w : World) (h3 : 3 ≤ c) (hS : CV w ao 3 hs3) (hs : Sm w) : Calls Tryd.prog 14 #[.slice ao 3 c] w fun e w' => ∃ g cap, e = .returned (.tuple #[.slice (some ⟨g, 0, none⟩) 3 cap, .int .i64 0]) ∧ 3 ≤ cap ∧ Bx (CV w' (some ⟨g, 0, none⟩) 3 (stp hs3 3)) ∧ Bx (Below w.heap.size w w') :=
  (steps_ok ao 3 c hs3 w h3 hS hs sv3 (three (by decide +kernel) (by decide +kernel) (by decide +kernel))).mono fun e w' ⟨g, cap, h1, h2, h3, h4⟩ => ⟨g, cap, h1, h2.1, ⟨h3⟩, ⟨h4⟩⟩
theorem mode3 (ao : Option Addr) (c : Nat) (w : World) (h3 : 3 ≤ c) (hcm : c ≤ maxLen) (hS : CV w ao 3 hs3) (hs : Sm w) : Calls Tryd.prog 17 #[.slice ao 3 c, .int .i64 1] w fun e w' => ∃ g cap, e = .returned (.tuple #[.slice (some ⟨g, 0, none⟩) 3 cap, .int .i64 0]) ∧ 3 ≤ cap ∧ Bx (CV w' (some ⟨g, 0, none⟩) 3 (md hs3 1 2)) ∧ Bx (Below w.heap.size w w') :=
  (mode_ok ao 3 1 2 c hs3 w rfl (by decide) h3 hcm hS hs sv3 (three (by decide +kernel) (by decide +kernel) (by decide +kernel))).mono fun e w' ⟨g, cap, h1, h2, h3, h4⟩ => ⟨g, cap, h1, h2.1, ⟨h3⟩, ⟨h4⟩⟩
theorem octA (w : World) (hs : Sm w) : Calls Tryd.prog 10 #[(.agg #[.int .i64 0, .int .i64 12, .int .i64 0, .int .i64 0, .int .i64 0, .int .i64 0])] w fun e w' => e = .returned (.tuple #[(.agg #[.int .i64 (-12), .int .i64 12, .int .i64 0, .int .i64 0, .int .i64 0, .int .i64 0]), .int .i64 1, .int .i64 0]) ∧ Bx (Below w.heap.size w w') := (oct_is (by decide +kernel) o_a w hs).mono fun _ _ h => ⟨h.1, ⟨h.2⟩⟩
theorem octB (w : World) (hs : Sm w) : Calls Tryd.prog 10 #[(.agg #[.int .i64 0, .int .i64 (-12), .int .i64 0, .int .i64 0, .int .i64 0, .int .i64 0])] w fun e w' => e = .returned (.tuple #[(.agg #[.int .i64 24, .int .i64 (-12), .int .i64 0, .int .i64 0, .int .i64 0, .int .i64 0]), .int .i64 (-2), .int .i64 0]) ∧ Bx (Below w.heap.size w w') := (oct_is (by decide +kernel) o_b w hs).mono fun _ _ h => ⟨h.1, ⟨h.2⟩⟩
theorem valid3 (ao : Option Addr) (c : Nat) (w : World) (h3 : 3 ≤ c) (hS : CV w ao 3 hs3) (hs : Sm w) : Calls Tryd.prog 19 #[.slice ao 3 c] w fun e w' => e = .returned (.bool true) ∧ Bx (Below w.heap.size w w') := (svalid_any ao 3 c hs3 (by decide) h3 true ⟨fun _ => sv3, fun _ => rfl⟩ w hS hs).mono fun _ _ h => ⟨h.1, ⟨h.2⟩⟩
theorem valid0 (w : World) : Calls Tryd.prog 19 #[.slice none 0 0] w fun e w' => e = .returned (.bool false) ∧ Bx (Below w.heap.size w w') := (valid_none none 0 0 w rfl).mono fun _ _ h => ⟨h.1, ⟨h.2⟩⟩
def xO : List Int := [0, 0, 0, 0, 0, 0, 12, 0, 0, 0, 0, 0]
theorem svO : ¬ SV (lm xO) 2 := fun h => absurd (h.up 1 (by omega)) (by decide +kernel)
theorem validO (ao : Option Addr) (w : World) (hS : CV w ao 2 (lm xO)) (hs : Sm w) : Calls Tryd.prog 19 #[.slice ao 2 2] w fun e w' => e = .returned (.bool false) ∧ Bx (Below w.heap.size w w') := (svalid_any ao 2 2 (lm xO) (by decide) (by decide) false ⟨fun h => absurd h (by simp), fun h => absurd h svO⟩ w hS hs).mono fun _ _ h => ⟨h.1, ⟨h.2⟩⟩
def xA : List Int := [0, 0, 0, 0, 0, 0, -36, 24, 0, 0, 0, 0, -12, 12, 0, 0, 0, 0]
def xB : List Int := [-36, 24, 0, 0, 0, 0, 24, -12, 0, 0, 0, 0, 24, -12, 0, 0, 0, 0]
def xC : List Int := [0, 0, 0, 0, 0, 0, 24, -12, 0, 0, 0, 0, 48, -24, 0, 0, 0, 0]
theorem eA : ∀ i, i < 3 → ∀ j, j < 6 → hs3 i j = lm xA i j := by decide +kernel
theorem eB : ∀ i, i < 3 → ∀ j, j < 6 → stp hs3 3 i j = lm xB i j := by decide +kernel
theorem eC : ∀ i, i < 3 → ∀ j, j < 6 → md hs3 1 2 i j = lm xC i j := by decide +kernel
theorem same3 (ao bo : Option Addr) (c : Nat) (A B : Nat → Nat → Int) (e : ∀ i, i < 3 → ∀ j, j < 6 → A i j = B i j) (w : World) (h3 : 3 ≤ c) (hA : CV w ao 3 A) (hB : CV w bo 3 B) : Calls Tryd.prog 18 #[.slice ao 3 c, .slice bo 3 3] w fun e w' => e = .returned (.bool true) ∧ Bx (Below w.heap.size w w') := (rsame_any ao bo 3 3 c 3 A B (by decide) h3 (by decide) true ⟨fun _ => ⟨rfl, e⟩, fun _ => rfl⟩ w hA hB).mono fun _ _ h => ⟨h.1, ⟨h.2⟩⟩
theorem near1 (ao : Option Addr) (c : Nat) (w : World) (h3 : 3 ≤ c) (hS : CV w ao 3 hs3) (hs : Sm w) : Calls Tryd.prog 21 #[.slice ao 3 c, (.agg #[.int .i64 0, .int .i64 (-12), .int .i64 12, .int .i64 0, .int .i64 0, .int .i64 0])] w fun e w' => e = .returned (.tuple #[.int .i64 2, .int .i64 0, .int .i64 0]) ∧ Bx (Below w.heap.size w w') :=
  (nearest_low ao 3 c hs3 (pv [0, -12, 12]) (pv [0, -12, 12]) (pv [12, -24, 12]) (pv [12, 12, -12]) 0 2 w h3 hS hs sv3 (by decide +kernel) (by decide +kernel) (by decide) ⟨oct_is (by decide +kernel) o_c⟩ (by decide +kernel) (by decide +kernel) (by decide +kernel) (by decide +kernel)).mono fun _ _ h => ⟨h.1, ⟨h.2⟩⟩
theorem near2 (ao : Option Addr) (c : Nat) (w : World) (h3 : 3 ≤ c) (hS : CV w ao 3 hs3) (hs : Sm w) : Calls Tryd.prog 21 #[.slice ao 3 c, (.agg #[.int .i64 (-36), .int .i64 12, .int .i64 12, .int .i64 0, .int .i64 0, .int .i64 0])] w fun e w' => e = .returned (.tuple #[.int .i64 0, .int .i64 1, .int .i64 0]) ∧ Bx (Below w.heap.size w w') :=
  (nearest_oct ao 3 c hs3 (pv [-36, 12, 12]) (pv [-36, 12, 12]) (pv [-24, 0, 12]) (pv [48, -12, -12]) 0 2 w h3 hS hs sv3 (by decide +kernel) (by decide +kernel) (by decide) ⟨oct_is (by decide +kernel) o_d⟩ (by decide +kernel) (by decide +kernel) (by decide +kernel) (by decide +kernel) rfl (by decide)).mono fun _ _ h => ⟨h.1, ⟨h.2⟩⟩
theorem degr1 (ao : Option Addr) (c : Nat) (w : World) (h3 : 3 ≤ c) (hS : CV w ao 3 hs3) (hs : Sm w) : Calls Tryd.prog 20 #[.slice ao 3 c, (.agg #[.int .i64 (-12), .int .i64 24, .int .i64 0, .int .i64 0, .int .i64 0, .int .i64 0])] w fun e w' => e = .returned (.tuple #[.int .i64 1, .int .i64 2, .int .i64 0]) ∧ Bx (Below w.heap.size w w') :=
  (degree_hit ao 3 c hs3 (pv [-12, 24]) w (by decide) h3 hS hs sv3 (pv [-36, 24]) 2 1 (by decide) (by decide +kernel) (by decide +kernel) ⟨oct_is (by decide +kernel) o_e⟩).mono fun _ _ h => ⟨h.1, ⟨h.2⟩⟩
theorem degr2 (ao : Option Addr) (c : Nat) (w : World) (h3 : 3 ≤ c) (hS : CV w ao 3 hs3) (hs : Sm w) : Calls Tryd.prog 20 #[.slice ao 3 c, (.agg #[.int .i64 1, .int .i64 0, .int .i64 0, .int .i64 0, .int .i64 0, .int .i64 0])] w fun e w' => e = .returned (.tuple #[.int .i64 0, .int .i64 0, .int .i64 4]) ∧ Bx (Below w.heap.size w w') :=
  (degree_none ao 3 c hs3 (pv [1]) w (by decide) h3 hS hs sv3 (pv [1]) 0 (by decide +kernel) ⟨oct_is (by decide +kernel) o_f⟩).mono fun _ _ h => ⟨h.1, ⟨h.2⟩⟩
end Go.Proofs.YtomgihlkbmaleaaDoor

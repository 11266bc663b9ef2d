/- Representatives: what Reduce answers. -/
import Derived.Test.YtnbamjoadankmaaLP
namespace Go.Proofs.Ytnbamjoadankmaa
open Go.RowKit D
theorem rmd_fix {O : Nat → Nat → Int} {p : Nat → Nat} {q : Nat} {u : Nat → Int} (hl : ∀ k, k < q → p k < 6) (h : Rdu O p q u) : ∀ k, k ≤ q → ∀ j, j < 6 → rmd O p u k j = u j := by
  intro k
  induction k with
  | zero => intro _ j _; rfl
  | succ k ih =>
    intro hk j hj
    show rmd O p u k j + -(rmd O p u k (p k) / O k (p k)) * O k j = u j
    have a := h k (by omega)
    rw [ih (by omega) j hj, ih (by omega) (p k) (hl k (by omega)), Int.ediv_eq_zero_of_lt a.1 a.2]
    omega
/-- What Reduce answers. -/
def Red (A : Nat → Nat → Int) (n : Nat) (v u : Nat → Int) (c : Int) : Prop :=
  ∃ (q : Nat) (O : Nat → Nat → Int) (p : Nat → Nat), HfS A n O q p ∧ ((c = 0 ∧ Vv u ∧ Rdu O p q u ∧ Sp O q 6 (fun j => v j - u j)) ∨ (c = 3 ∧ ∃ k, k ≤ q ∧ ¬ Vv (rmd O p v k)))
theorem lreduce_any (ao : Option Addr) (n c1 : Nat) (M : Nat → Nat → Int) (v : Nat → Int) (w : World) (hc1 : n ≤ c1) (hc2 : c1 ≤ maxLen) (hR : CV w ao n M) (hm : VM M n) (hv : Vv v) :
    Calls Try.prog 34 #[.slice ao n c1, PV v] w fun e w' => ∃ u c, e = .returned (.tuple #[PV u, .int .i64 c]) ∧ Bx (Red M n v u c) ∧ Bx (Below w.heap.size w w') :=
  (reduce_at ao n c1 M v w hc1 hc2 hR hm hv).mono fun e w' ⟨q, O, p, hS, h, hb⟩ => by
    have hs : HfS M n O q p := ⟨hS.1, hS.2.1, hS.2.2, hf_six hS.1⟩
    rcases h with ⟨he, hk⟩ | ⟨he, hk⟩
    · exact ⟨_, _, he, ⟨q, O, p, hs, .inl ⟨rfl, hk q (Nat.le_refl _), rdu_of hs.hf v, rmd_sub O p v q (Nat.le_refl _)⟩⟩, ⟨hb⟩⟩
    · exact ⟨_, _, he, ⟨q, O, p, hs, .inr ⟨rfl, hk⟩⟩, ⟨hb⟩⟩
theorem Red.split {A : Nat → Nat → Int} {n : Nat} {v u : Nat → Int} {c : Int} (h : Red A n v u c) : (c = 0 ∧ Bx (Red A n v u 0)) ∨ c = 3 := by
  obtain ⟨q, O, p, hs, ⟨rfl, h⟩ | ⟨h, _⟩⟩ := h
  · exact .inl ⟨rfl, ⟨q, O, p, hs, .inl ⟨rfl, h⟩⟩⟩
  · exact .inr h
theorem Red.good {A : Nat → Nat → Int} {n : Nat} {v u : Nat → Int} (h : Red A n v u 0) : ∃ (q : Nat) (O : Nat → Nat → Int) (p : Nat → Nat), HfS A n O q p ∧ Vv u ∧ Rdu O p q u ∧ Sp O q 6 (fun j => v j - u j) := by
  obtain ⟨q, O, p, hs, ⟨_, h⟩ | ⟨h, _⟩⟩ := h
  · exact ⟨q, O, p, hs, h⟩
  · omega
theorem Rdu.can {A O H : Nat → Nat → Int} {n q r : Nat} {p s : Nat → Nat} {u : Nat → Int} (h1 : HfS A n O q p) (h2 : HfS A n H r s) (h : Rdu O p q u) : Rdu H s r u := by
  obtain ⟨rfl, hp, hl, hO⟩ := h2.can O q p h1
  intro k hk
  have a := h k hk
  rw [hO k (p k) hk (hl k hk), hp k hk] at a
  exact a
/-- Vectors that differ by a member have the same representative. -/
theorem Red.one {A : Nat → Nat → Int} {n : Nat} {v v' u u' : Nat → Int} (h : Red A n v u 0) (h' : Red A n v' u' 0) (hd : Sp A n 6 (fun j => v' j - v j)) : ∀ j, j < 6 → u' j = u j := by
  obtain ⟨q, O, p, hs, _, h1, h2⟩ := h.good
  obtain ⟨q', O', p', hs', _, h1', h2'⟩ := h'.good
  have a := (hs.sp _).2 h2
  have b := (hs'.sp _).2 h2'
  have c : Sp A n 6 (fun j => u' j - u j) := ((hd.add a).add (b.mul (-1))).congr fun j _ => by
    show u' j - u j = v' j - v j + (v j - u j) + -1 * (v' j - u' j)
    omega
  exact (h1'.can hs' hs).one hs.hf h1 ((hs.sp _).1 c)
/-- A representative is its own. -/
theorem Red.again {A : Nat → Nat → Int} {n : Nat} {v u u' : Nat → Int} {c : Int} (h : Red A n v u 0) (h' : Red A n u u' c) : c = 0 ∧ ∀ j, j < 6 → u' j = u j := by
  obtain ⟨q, O, p, hs, hv, h1, h2⟩ := h.good
  have h'' := h'
  obtain ⟨q', O', p', hs', ⟨rfl, _⟩ | ⟨rfl, k, hk, hn⟩⟩ := h'
  · exact ⟨rfl, h.one h'' (((hs.sp _).2 h2).mul (-1) |>.congr fun j _ => by show u j - v j = -1 * (v j - u j); omega)⟩
  · have e := rmd_fix hs'.hf.lt (h1.can hs hs') k hk
    exact absurd ((Vv.congr e).2 hv) hn
theorem Red.off {A : Nat → Nat → Int} {n : Nat} {v u : Nat → Int} (h : Red A n v u 0) : Sp A n 6 (fun j => v j - u j) := by
  obtain ⟨q, O, p, hs, _, _, h2⟩ := h.good
  exact (hs.sp _).2 h2
end Go.Proofs.Ytnbamjoadankmaa

/- the reference's swapped. -/
import Derived.Test.YtmknbgiihhimfaaR5
namespace Go.Proofs.Ytmknbgiihhimfaa
open Go.RowKit D
theorem own_form {w : World} {base : Nat} {e : TypeId} {size : Nat} {v : Value} {n : Nat} {xs : List Value} (h : w.ownsRow base e size v n xs) (hn : 0 < n) :
    ∃ g cap, v = .slice (some ⟨g, 0, none⟩) n cap ∧ base ≤ g ∧ g < w.heap.size := by
  rcases h.2 with ⟨_, h0⟩ | ⟨g, cap, cur, hv, hb, hg, _⟩
  · omega
  · exact ⟨g, cap, hv, hb, (Array.getElem?_eq_some_iff.1 hg).1⟩
theorem swapped_any (ao : Option Addr) (c1 n k x : Nat) (l : List Nat) (w : World) (hl : l.length = n) (hk : k < n) (hn : n ≤ 1000) (hc1 : n ≤ c1) (hA : CN w ao l) :
    Calls Try.prog 37 #[.slice ao n c1, .int .i64 k, .int .i64 x] w fun e w' => ∃ v, e = .returned v ∧ w'.ownsRow w.heap.size 3 1 v n ((l.set k x).map fun (j : Nat) => Value.int .i64 (j : Int)) ∧ Below w.heap.size w w' := by
  obtain ⟨ti, hti, hti2⟩ := Option.map_eq_some_iff.1 info_int
  simp only [Prod.mk.injEq] at hti2
  obtain ⟨hz0, hz1, hz2⟩ := hti2
  obtain ⟨b, o, rfl, hb, hc⟩ := hA (by intro e; subst e; simp at hl; omega)
  have HL := Bx.mk hl
  have HC := Bx.mk hc
  clear hA hc hl
  go_enter Try.func37, Try.ntmps37
  go_wp2_with (at_builtin; refine wpList_append_any rfl (.tmp 8) (.tmp 9) 29 rfl w.heap.size 3 ti (.int .i64 0) 1 8 Try.underlying29 hti hz0 hz1 hz2 rfl (by decide) _ 0 [] rfl (owns_empty (by first | omega | (simp; omega)) (by show (Array.push w.heap _)[w.heap.size]? = _; simp)) _ n _ (l.map fun (j : Nat) => Value.int .i64 (j : Int)) rfl ?c1 ?c2 ?c3 int_cells ?c4 ?c5 ?c6 ?_)
  case c1 => have := HL.out; simpa using this
  case c2 => intro h; cases h
  case c3 =>
    intro ad had j u hu
    have := take_cells (W := w.alloc (.cells #[] 3)) (t := n) (l := l) (by repeat (first | with_reducible exact Below.refl _ _ | (with_reducible refine Below.setCell ?_ ?side _; case side => (first | omega | (simp <;> omega))) | (with_reducible refine Below.alloc ?_ ?side _; case side => (first | omega | (simp <;> omega))) | with_reducible apply below_drewN | with_reducible apply below_drew)) hb HC.out ad had j u
    rw [List.take_of_length_le (by have := HL.out; omega)] at this
    exact this hu
  case c4 => unfold maxLen; omega
  case c5 => omega
  case c6 => first | omega | (simp; done) | (simp; omega)
  intro v1 w1 ho1 hg1
  have HB1 : Bx (Below w.heap.size w w1) := ⟨Below.grown (by repeat (first | with_reducible exact Below.refl _ _ | (with_reducible refine Below.setCell ?_ ?side _; case side => (first | omega | (simp <;> omega))) | (with_reducible refine Below.alloc ?_ ?side _; case side => (first | omega | (simp <;> omega))) | with_reducible apply below_drewN | with_reducible apply below_drew)) hg1 (by first | omega | (simp; done) | (simp; omega)) (by intro k hk; have hk' : some w.heap.size = some k := hk; simp at hk'; omega)⟩
  obtain ⟨g, cap, rfl, hg0, hgs⟩ := own_form ho1 (by omega)
  have hcell := World.ownsRow.cellAt ho1 k (by omega)
  have hfr := World.ownsRow.frozenAt ho1 k
  have hst := (World.ownsRow.stored ho1 k (.int .i64 x)).1
  obtain ⟨y, hy⟩ : ∃ y, (l.map fun (j : Nat) => Value.int .i64 (j : Int))[k]? = some y := ⟨_, List.getElem?_eq_getElem (by have := HL.out; simp; omega)⟩
  rw [hy] at hcell
  have HST := Bx.mk hst
  clear hst ho1 hy hg1
  go_wp2_with fail
  go_ret
  exact ⟨_, rfl, by have := HST.out; rwa [← List.map_set] at this, (by repeat (first | with_reducible exact Below.refl _ _ | with_reducible exact HB1.out | (with_reducible refine Below.setCell ?_ ?side _; case side => (first | omega | (simp <;> omega))) | (with_reducible refine Below.alloc ?_ ?side _; case side => (first | omega | (simp <;> omega))) | with_reducible apply below_drewN | with_reducible apply below_drew))⟩
end Go.Proofs.Ytmknbgiihhimfaa

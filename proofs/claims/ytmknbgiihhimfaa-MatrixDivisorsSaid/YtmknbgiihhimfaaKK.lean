/- Rows that are owned: kept, and with a row behind them. -/
import Derived.Test.YtmknbgiihhimfaaKJ
namespace Go.Proofs.Ytmknbgiihhimfaa
open Go.RowKit D
theorem own_keep {w w' : World} {base : Nat} {e : TypeId} {size : Nat} {v : Value} {n : Nat} {xs : List Value} (h : w.ownsRow base e size v n xs) (hk : ∀ k, v.ownBlock = some k → k < w.heap.size → w'.heap[k]? = w.heap[k]?) : w'.ownsRow base e size v n xs := by
  obtain ⟨h0, h⟩ := h
  refine ⟨h0, h.imp id ?_⟩
  rintro ⟨g, cap, cur, rfl, hb, hg, h2⟩
  exact ⟨g, cap, cur, rfl, hb, (hk g rfl (Array.getElem?_eq_some_iff.1 hg).1).trans hg, h2⟩
/-- Six cells as a list. -/
def sixL (v : Nat → Int) : List Value := [.int .i64 (v 0), .int .i64 (v 1), .int .i64 (v 2), .int .i64 (v 3), .int .i64 (v 4), .int .i64 (v 5)]
theorem sixL_get {v : Nat → Int} {j : Nat} (hj : j < 6) : (sixL v)[j]? = some (.int .i64 (v j)) := by
  rcases six_cases' hj with rfl | rfl | rfl | rfl | rfl | rfl <;> rfl
theorem RB.of_snoc {w : World} {base g n cap : Nat} {R : Nat → Nat → Int} {v : Nat → Int} (h : w.ownsRow base 37 6 (.slice (some ⟨g, 0, none⟩) (n + 1) cap) (n + 1) (rowsL R n ++ sixL v)) : RB w g (n + 1) cap (snR R n v) ∧ cap ≤ maxLen ∧ base ≤ g := by
  refine ⟨RB.of_own h fun i j hi hj => ?_, ?_⟩
  · by_cases e : i = n
    · subst e
      rw [List.getElem?_append_right (by rw [rowsL_length]; omega), rowsL_length, show i * 6 + j - i * 6 = j by omega, sixL_get hj, snR_eq]
    · rw [List.getElem?_append_left (by rw [rowsL_length]; omega), rowsL_get (by omega) hj, snR_lt (by omega)]
  · rcases h.2 with ⟨e, _⟩ | ⟨g', cap', cur, e, hb, _, _, hm, _⟩
    · cases e
    · cases e; exact ⟨hm, hb⟩
theorem rowsL_snoc (R : Nat → Nat → Int) (n : Nat) (v : Nat → Int) : rowsL R n ++ sixL v = rowsL (snR R n v) (n + 1) := by
  apply List.ext_getElem?
  intro t
  by_cases ht : t < (n + 1) * 6
  · have e := rowsL_get (M := snR R n v) (k := n + 1) (i := t / 6) (j := t % 6) (by omega) (by omega)
    rw [show t / 6 * 6 + t % 6 = t by omega] at e
    rw [e]
    by_cases h : t / 6 = n
    · rw [List.getElem?_append_right (by rw [rowsL_length]; omega), rowsL_length, h, snR_eq, show t - n * 6 = t % 6 by omega]
      exact sixL_get (by omega)
    · rw [List.getElem?_append_left (by rw [rowsL_length]; omega), snR_lt (by omega)]
      have e := rowsL_get (M := R) (k := n) (i := t / 6) (j := t % 6) (by omega) (by omega)
      rwa [show t / 6 * 6 + t % 6 = t by omega] at e
  · rw [List.getElem?_eq_none (by simp [rowsL_length, sixL]; omega), List.getElem?_eq_none (by rw [rowsL_length]; omega)]
theorem six_new (w : World) (v : Nat → Int) (t : TypeId) : ∀ j u, (sixL v)[j]? = some u → (w.alloc (.cells #[.int .i64 (v 0), .int .i64 (v 1), .int .i64 (v 2), .int .i64 (v 3), .int .i64 (v 4), .int .i64 (v 5)] t)).cell? ((⟨w.heap.size, 0, none⟩ : Addr).add j) = some u := by
  intro j u hj
  have hl : j < 6 := by have := (List.getElem?_eq_some_iff.1 hj).1; simpa [sixL] using this
  rw [sixL_get hl] at hj
  cases hj
  rw [Addr.add_lit, Nat.zero_add]
  exact box_cell w v t j hl
theorem six_one (v : Nat → Int) : ∀ u ∈ sixL v, u.oneCell' = true := by
  intro u hu; simp only [sixL, List.mem_cons, List.not_mem_nil, or_false] at hu
  rcases hu with rfl | rfl | rfl | rfl | rfl | rfl <;> rfl
theorem delete_at (b n c1 i : Nat) (x : Int) (M : Nat → Nat → Int) (w : World) (hn : n ≤ 1000) (hi : i < n) (hx : x = (i : Int) + 1) (hc2 : c1 ≤ maxLen) (hR : RB w b n c1 M) :
    Calls Try.prog 57 #[.slice (some ⟨b, 0, none⟩) n c1, .int .i64 i, .int .i64 x] w fun e w' => e = .returned (.slice (some ⟨b, 0, none⟩) (n - 1) c1) ∧ RB w' b (n - 1) c1 (delR M i) ∧ But b w w' := by
  obtain rfl : x = ((i + 1 : Nat) : Int) := by omega
  exact delete_any b n c1 i M w hn hi hc2 hR
/-- The cells of a row of one element that is not 0. -/
theorem unit_cells (wr : World) (c : Nat) (d : Int) (hc : c < 6) : ∀ t, t < 6 → ((wr.alloc (.cells #[.int .i64 0, .int .i64 0, .int .i64 0, .int .i64 0, .int .i64 0, .int .i64 0] 37)).setCell ⟨wr.heap.size, c, none⟩ (.int .i64 d)).cell? ⟨wr.heap.size, t, none⟩ = some (.int .i64 (unitV d c t)) := fun t ht =>
  (cells_set (f := fun _ => 0) (h := unitV d c) (fun t ht => ⟨box_cell wr (fun _ => 0) 37 t ht, by simp [go_sem]⟩) hc (by simp [unitV]) (fun t _ hne => by simp [unitV, hne]) t ht).1
theorem unit_set (c : Nat) (d : Int) (hc : c < 6) : [Value.int .i64 0, .int .i64 0, .int .i64 0, .int .i64 0, .int .i64 0, .int .i64 0].set c (.int .i64 d) = sixL (unitV d c) := by
  rcases six_cases' hc with rfl | rfl | rfl | rfl | rfl | rfl <;> simp [unitV, sixL]
end Go.Proofs.Ytmknbgiihhimfaa

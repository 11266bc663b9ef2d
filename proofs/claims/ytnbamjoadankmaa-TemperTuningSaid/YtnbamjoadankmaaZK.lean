/- Lists of pitches that a call makes. -/
import Derived.Test.YtnbamjoadankmaaZF
namespace Go.Proofs.Ytnbamjoadankmaa
open Go.RowKit D
theorem info_pitch2 : (Try.prog.info? 65).map (fun i => (i.zero, i.size, i.bytes)) = some (some (.agg #[.int .i64 0, .int .i64 0, .int .i64 0, .int .i64 0, .int .i64 0, .int .i64 0]), 6, 48) := by kernel_rfl
theorem own_pitch_cv {w : World} {base q : Nat} {v : Value} {G : Nat → Nat → Int} (h : w.ownsRow base 65 6 v q (rowsL G q)) : ∃ ao c, v = .slice ao q c ∧ q ≤ c ∧ c ≤ maxLen ∧ CV w ao q G := by
  rcases h.2 with ⟨h', h0⟩ | ⟨g, cap, cur, h', hb, hg, hnc, hm, hs, ht⟩
  · subst h'
    exact ⟨none, 0, by rw [h0], by omega, by unfold maxLen; omega, fun hn => by omega⟩
  · subst h'
    refine ⟨_, cap, rfl, hnc, hm, fun hq => ⟨g, 0, rfl, (Array.getElem?_eq_some_iff.1 hg).1, fun i j hi hj => ?_⟩⟩
    have e1 : (cur.toList.take (q * 6))[i * 6 + j]? = (rowsL G q)[i * 6 + j]? := by rw [ht]
    rw [rowsL_get hi hj, List.getElem?_take_of_lt (by omega), Array.getElem?_toList] at e1
    simp only [World.cell?, hg]
    rw [show 0 + i * 6 + j = i * 6 + j by omega]
    exact e1
theorem rowsL_more {G : Nat → Nat → Int} {z : Nat → Int} {i : Nat} (e : ∀ j, j < 6 → G i j = z j) : rowsL G i ++ rowsL (fun _ => z) 1 = rowsL G (i + 1) := by
  apply List.ext_getElem?
  intro t
  by_cases h1 : t < i * 6
  · rw [List.getElem?_append_left (by rw [rowsL_length]; omega)]
    have a := rowsL_get (M := G) (k := i) (i := t / 6) (j := t % 6) (by omega) (by omega)
    have b := rowsL_get (M := G) (k := i + 1) (i := t / 6) (j := t % 6) (by omega) (by omega)
    rw [show t / 6 * 6 + t % 6 = t by omega] at a b
    rw [a, b]
  · rw [List.getElem?_append_right (by rw [rowsL_length]; omega), rowsL_length]
    by_cases h2 : t < i * 6 + 6
    · have a := rowsL_get (M := fun _ => z) (k := 1) (i := 0) (j := t - i * 6) (by omega) (by omega)
      have b := rowsL_get (M := G) (k := i + 1) (i := i) (j := t - i * 6) (by omega) (by omega)
      rw [show 0 * 6 + (t - i * 6) = t - i * 6 by omega] at a
      rw [show i * 6 + (t - i * 6) = t by omega] at b
      rw [a, b, e _ (by omega)]
    · rw [List.getElem?_eq_none (by rw [rowsL_length]; omega), List.getElem?_eq_none (by rw [rowsL_length]; omega)]
theorem cv_one (w : World) (z : Nat → Int) : CV (w.alloc (.cells #[.int .i64 (z 0), .int .i64 (z 1), .int .i64 (z 2), .int .i64 (z 3), .int .i64 (z 4), .int .i64 (z 5)] 65)) (some ⟨w.heap.size, 0, none⟩) 1 (fun _ => z) := fun _ =>
  ⟨w.heap.size, 0, rfl, by simp, fun i j hi hj => by
    obtain rfl : i = 0 := by omega
    rw [show 0 + 0 * 6 + j = j by omega]
    exact (VT.new w 65 z).cellk hj⟩
theorem own_start {w : World} {base : Nat} {G : Nat → Nat → Int} (h : base = w.heap.size) : (w.alloc (.cells #[] 65)).ownsRow base 65 6 (.slice (some ⟨w.heap.size, 0, none⟩) 0 0) 0 (rowsL G 0) := by
  subst h
  exact ⟨rfl, .inr ⟨w.heap.size, 0, #[], rfl, Nat.le_refl _, World.alloc_heap_new w _, Nat.le_refl _, Nat.zero_le _, rfl, rfl⟩⟩
end Go.Proofs.Ytnbamjoadankmaa

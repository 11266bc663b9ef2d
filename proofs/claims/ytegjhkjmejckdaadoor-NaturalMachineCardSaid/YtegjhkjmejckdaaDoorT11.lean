/- slices that come in: numbers or not; the laws' ways over what is no number. -/
import Derived.Test.YtegjhkjmejckdaaDoorT10
namespace Go.Proofs.YtegjhkjmejckdaaDoor
open Go.RowKit M
theorem row_rd {w : World} {a : Option Addr} {len cap : Nat} {zs : List Int}
    (h : (a = none ∧ len = 0 ∧ cap = 0 ∧ zs = []) ∨ ∃ x, a = some x ∧ len ≤ cap ∧ cap ≤ maxLen ∧ zs.length = cap ∧ (∀ i, i < zs.length → w.cell? (x.add i) = some (.int .u32 (zs.getD i 0))) ∧ ∀ n ∈ zs, (Lit.int .u32 n).wf = true) :
    ∃ l, Rd w (.slice a len cap) l ∧ l.length = len ∧ CellsK .u32 w a l := by
  rcases h with ⟨rfl, rfl, rfl, rfl⟩ | ⟨x, rfl, hl, hm, hz, hc, hw⟩
  · exact ⟨[], Rd.nil w, rfl, CellsK.nil⟩
  · have hlen : (zs.take len).length = len := by rw [List.length_take]; omega
    have hcells : CellsK .u32 w (some x) (zs.take len) := by
      intro hne
      have hpos : 0 < (zs.take len).length := List.length_pos_iff.2 hne
      have h0 := hc 0 (by omega)
      refine ⟨x, rfl, ?_, fun i hi => ?_⟩
      · rw [add_zero_addr] at h0
        cases hh : w.heap[x.block]? with
        | none => simp only [World.cell?, hh] at h0; cases h0
        | some o => exact (Array.getElem?_eq_some_iff.1 hh).1
      · rw [hc i (by omega)]
        simp [List.getD, List.getElem?_take, show i < len from by omega]
    have hok : Ok (zs.take len) := fun y hy => by
      have := hw y (List.mem_of_mem_take hy)
      simp [Lit.wf, IntKind.min, IntKind.max, IntKind.signed, IntKind.bits] at this
      omega
    exact ⟨zs.take len, ⟨hok, some x, cap, by rw [hlen], by omega, hm, hcells⟩, hlen, hcells⟩
/-- A slice that came in is a number, or it is none. -/
theorem row_cases {w : World} {a : Option Addr} {len cap : Nat} {zs : List Int}
    (h : (a = none ∧ len = 0 ∧ cap = 0 ∧ zs = []) ∨ ∃ x, a = some x ∧ len ≤ cap ∧ cap ≤ maxLen ∧ zs.length = cap ∧ (∀ i, i < zs.length → w.cell? (x.add i) = some (.int .u32 (zs.getD i 0))) ∧ ∀ n ∈ zs, (Lit.int .u32 n).wf = true) :
    (∃ n, Nm w (.slice a len cap) n) ∨ ∀ w', Below w.heap.size w w' → Calls Tryd.prog 13 #[.slice a len cap] w' fun e w2 => e = .returned (.bool false) ∧ w' = w2 := by
  obtain ⟨l, hr, hl, hc⟩ := row_rd h
  by_cases hn : isNat l = true
  · obtain ⟨n, hlt, rfl⟩ := (isNat_iff hr.ok).1 hn
    exact Or.inl ⟨n, ⟨hlt⟩, hr⟩
  · refine Or.inr fun w' hb => ?_
    have := valid_any a l len cap w' hl (hc.keep hb)
    rwa [show isNat l = false by simpa using hn] at this
theorem three_not (va vb vc : Value) (w : World) (b1 b2 b3 : Bool) (h1 : Calls Tryd.prog 13 #[va] w fun e w2 => e = .returned (.bool b1) ∧ w = w2)
    (h2 : Calls Tryd.prog 13 #[vb] w fun e w2 => e = .returned (.bool b2) ∧ w = w2) (h3 : Calls Tryd.prog 13 #[vc] w fun e w2 => e = .returned (.bool b3) ∧ w = w2) (hb : (b1 && b2 && b3) = false) :
    Calls Tryd.prog 34 #[va, vb, vc] w fun e w' => e = .returned (.bool false) ∧ w = w' := by
  have H1 := Bx.mk h1
  have H2 := Bx.mk h2
  have H3 := Bx.mk h3
  clear h1 h2 h3
  cases b1
  · go_enter Tryd.func34, Tryd.ntmps34
    go_wp2_with fail
    refine H1.out.mono ?_
    rintro e w1 ⟨rfl, rfl⟩
    go_wp2
    go_ret
    exact ⟨rfl, rfl⟩
  · cases b2
    · go_enter Tryd.func34, Tryd.ntmps34
      go_wp2_with fail
      refine H1.out.mono ?_
      rintro e w1 ⟨rfl, rfl⟩
      go_wp2_with fail
      refine H2.out.mono ?_
      rintro e w1 ⟨rfl, rfl⟩
      go_wp2
      go_ret
      exact ⟨rfl, rfl⟩
    · cases b3
      · go_enter Tryd.func34, Tryd.ntmps34
        go_wp2_with fail
        refine H1.out.mono ?_
        rintro e w1 ⟨rfl, rfl⟩
        go_wp2_with fail
        refine H2.out.mono ?_
        rintro e w1 ⟨rfl, rfl⟩
        go_wp2_with fail
        refine H3.out.mono ?_
        rintro e w1 ⟨rfl, rfl⟩
        go_wp2
        go_ret
        exact ⟨rfl, rfl⟩
      · cases hb
/-- Three slices: all are numbers, or 'three' says no. -/
theorem rows3 {w : World} {va vb vc : Value} (h0 : (∃ n, Nm w va n) ∨ ∀ w', Below w.heap.size w w' → Calls Tryd.prog 13 #[va] w' fun e w2 => e = .returned (.bool false) ∧ w' = w2)
    (h1 : (∃ n, Nm w vb n) ∨ ∀ w', Below w.heap.size w w' → Calls Tryd.prog 13 #[vb] w' fun e w2 => e = .returned (.bool false) ∧ w' = w2)
    (h2 : (∃ n, Nm w vc n) ∨ ∀ w', Below w.heap.size w w' → Calls Tryd.prog 13 #[vc] w' fun e w2 => e = .returned (.bool false) ∧ w' = w2) :
    (∃ a b c, Live w [(va, a), (vb, b), (vc, c)]) ∨ ∀ w', Below w.heap.size w w' → Calls Tryd.prog 34 #[va, vb, vc] w' fun e w2 => e = .returned (.bool false) ∧ w' = w2 := by
  have ok : ∀ {v n}, Nm w v n → ∀ w', Below w.heap.size w w' → Calls Tryd.prog 13 #[v] w' fun e w2 => e = .returned (.bool true) ∧ w' = w2 := fun {v n} h w' hb =>
    valid_ok (L := [(v, n)]) (fun p hp => by simp at hp; subst hp; exact h.keep hb) (List.mem_cons_self ..)
  rcases h0 with ⟨a, ha⟩ | h0
  · rcases h1 with ⟨b, hb⟩ | h1
    · rcases h2 with ⟨c, hc⟩ | h2
      · exact Or.inl ⟨a, b, c, fun p hp => by simp at hp; rcases hp with rfl | rfl | rfl <;> assumption⟩
      · exact Or.inr fun w' k => three_not va vb vc w' true true false (ok ha w' k) (ok hb w' k) (h2 w' k) rfl
    · rcases h2 with ⟨c, hc⟩ | h2
      · exact Or.inr fun w' k => three_not va vb vc w' true false true (ok ha w' k) (h1 w' k) (ok hc w' k) rfl
      · exact Or.inr fun w' k => three_not va vb vc w' true false false (ok ha w' k) (h1 w' k) (h2 w' k) rfl
  · have t : ∀ {v} (_ : (∃ n, Nm w v n) ∨ ∀ w', Below w.heap.size w w' → Calls Tryd.prog 13 #[v] w' fun e w2 => e = .returned (.bool false) ∧ w' = w2), ∃ b : Bool, ∀ w', Below w.heap.size w w' → Calls Tryd.prog 13 #[v] w' fun e w2 => e = .returned (.bool b) ∧ w' = w2 := fun h => by
      rcases h with ⟨n, h⟩ | h
      · exact ⟨true, ok h⟩
      · exact ⟨false, h⟩
    obtain ⟨b2, k1⟩ := t h1
    obtain ⟨b3, k2⟩ := t h2
    exact Or.inr fun w' k => three_not va vb vc w' false b2 b3 (h0 w' k) (k1 w' k) (k2 w' k) rfl
end Go.Proofs.YtegjhkjmejckdaaDoor

/- natural: what the exported functions return. -/
import Derived.Test.YthfpkjeobdajiaaDoorNB
import Derived.BigQuiet
namespace Go.Proofs.YthfpkjeobdajiaaDoor
open Go.RowKit M
/-- What a closure has captured: a variable that holds a slice of limbs. -/
structure Cap (w : World) (b : Nat) (ao : Option Addr) (A : List Int) (n ca : Nat) : Prop where
  lt : b < w.heap.size
  cell : w.cell? ⟨b, 0, none⟩ = some (.slice ao n ca)
  len : A.length = n
  cells : CellsK .u32 w ao A
theorem Cap.alloc {w : World} {b : Nat} {ao : Option Addr} {A : List Int} {n ca : Nat} (h : Cap w b ao A n ca) (o : Obj) : Cap (w.alloc o) b ao A n ca :=
  ⟨by simp; have := h.lt; omega, by rw [World.cell?_alloc_past (hn := h.lt)]; exact h.cell, h.len, h.cells.keep ((Below.refl _ _).alloc (Nat.le_refl _) _)⟩
/-- What comes back is a value or a panic. -/
def Plain (R : Ending → World → Prop) : Prop := ∀ e w', R e w' → (∃ v, e = .returned v) ∨ ∃ p, e = .panicked p
theorem closAdd_any (b1 b2 : Nat) (ao bo : Option Addr) (A B : List Int) (n m ca cb : Nat) (w : World) (h1 : Cap w b1 ao A n ca) (h2 : Cap w b2 bo B m cb) (hA : isNat A = true) (hB : isNat B = true)
    (R : Ending → World → Prop) (hR : Plain R) (hS : Calls Tryd.prog 31 #[.slice ao n ca, .slice bo m cb] (w.alloc (.cells #[.slice ao n ca, .slice bo m cb] 23)) R) :
    Calls Tryd.prog 29 #[.pointer (some ⟨b1, 0, none⟩), .pointer (some ⟨b2, 0, none⟩)] w R := by
  have h1' := h1.alloc (.cells #[.slice ao n ca, .slice bo m cb] 23)
  have h2' := h2.alloc (.cells #[.slice ao n ca, .slice bo m cb] 23)
  have hreq := require2_ok w.heap.size ao bo A B n m ca cb (w.alloc (.cells #[.slice ao n ca, .slice bo m cb] 23)) h1.len h2.len h1'.cells h2'.cells hA hB (by simp [go_sem]) (by simp [go_sem])
  have hc1 := h1.cell
  have hc2 := h2.cell
  have hl1 := h1.lt
  have hl2 := h2.lt
  have HR := Bx.mk hreq
  have HS := Bx.mk hS
  clear hreq hS h1 h2 h1' h2' hA hB
  go_enter Tryd.func29, Tryd.ntmps29
  go_wp2_with fail
  refine HR.out.mono ?_
  rintro e w2 ⟨rfl, rfl⟩
  go_wp2_with fail
  refine HS.out.mono ?_
  intro e w3 h
  rcases hR e w3 h with ⟨v, rfl⟩ | ⟨p, rfl⟩
  · go_wp2
    all_goals exact h
  · exact ⟨rfl, h⟩
theorem closSub_any (b1 b2 : Nat) (ao bo : Option Addr) (A B : List Int) (n m ca cb : Nat) (w : World) (h1 : Cap w b1 ao A n ca) (h2 : Cap w b2 bo B m cb) (hA : isNat A = true) (hB : isNat B = true)
    (R : Ending → World → Prop) (hR : Plain R) (hS : Calls Tryd.prog 36 #[.slice ao n ca, .slice bo m cb] (w.alloc (.cells #[.slice ao n ca, .slice bo m cb] 23)) R) :
    Calls Tryd.prog 35 #[.pointer (some ⟨b1, 0, none⟩), .pointer (some ⟨b2, 0, none⟩)] w R := by
  have h1' := h1.alloc (.cells #[.slice ao n ca, .slice bo m cb] 23)
  have h2' := h2.alloc (.cells #[.slice ao n ca, .slice bo m cb] 23)
  have hreq := require2_ok w.heap.size ao bo A B n m ca cb (w.alloc (.cells #[.slice ao n ca, .slice bo m cb] 23)) h1.len h2.len h1'.cells h2'.cells hA hB (by simp [go_sem]) (by simp [go_sem])
  have hc1 := h1.cell
  have hc2 := h2.cell
  have hl1 := h1.lt
  have hl2 := h2.lt
  have HR := Bx.mk hreq
  have HS := Bx.mk hS
  clear hreq hS h1 h2 h1' h2' hA hB
  go_enter Tryd.func35, Tryd.ntmps35
  go_wp2_with fail
  refine HR.out.mono ?_
  rintro e w2 ⟨rfl, rfl⟩
  go_wp2_with fail
  refine HS.out.mono ?_
  intro e w3 h
  rcases hR e w3 h with ⟨v, rfl⟩ | ⟨p, rfl⟩
  · go_wp2
    all_goals exact h
  · exact ⟨rfl, h⟩
theorem closMul_any (b1 b2 : Nat) (ao bo : Option Addr) (A B : List Int) (n m ca cb : Nat) (w : World) (h1 : Cap w b1 ao A n ca) (h2 : Cap w b2 bo B m cb) (hA : isNat A = true) (hB : isNat B = true)
    (R : Ending → World → Prop) (hR : Plain R) (hS : Calls Tryd.prog 40 #[.slice ao n ca, .slice bo m cb] (w.alloc (.cells #[.slice ao n ca, .slice bo m cb] 23)) R) :
    Calls Tryd.prog 39 #[.pointer (some ⟨b1, 0, none⟩), .pointer (some ⟨b2, 0, none⟩)] w R := by
  have h1' := h1.alloc (.cells #[.slice ao n ca, .slice bo m cb] 23)
  have h2' := h2.alloc (.cells #[.slice ao n ca, .slice bo m cb] 23)
  have hreq := require2_ok w.heap.size ao bo A B n m ca cb (w.alloc (.cells #[.slice ao n ca, .slice bo m cb] 23)) h1.len h2.len h1'.cells h2'.cells hA hB (by simp [go_sem]) (by simp [go_sem])
  have hc1 := h1.cell
  have hc2 := h2.cell
  have hl1 := h1.lt
  have hl2 := h2.lt
  have HR := Bx.mk hreq
  have HS := Bx.mk hS
  clear hreq hS h1 h2 h1' h2' hA hB
  go_enter Tryd.func39, Tryd.ntmps39
  go_wp2_with fail
  refine HR.out.mono ?_
  rintro e w2 ⟨rfl, rfl⟩
  go_wp2_with fail
  refine HS.out.mono ?_
  intro e w3 h
  rcases hR e w3 h with ⟨v, rfl⟩ | ⟨p, rfl⟩
  · go_wp2
    all_goals exact h
  · exact ⟨rfl, h⟩
theorem closCmp_any (b1 b2 : Nat) (ao bo : Option Addr) (A B : List Int) (n m ca cb : Nat) (w : World) (h1 : Cap w b1 ao A n ca) (h2 : Cap w b2 bo B m cb) (hA : isNat A = true) (hB : isNat B = true)
    (R : Ending → World → Prop) (hR : Plain R) (hS : Calls Tryd.prog 49 #[.slice ao n ca, .slice bo m cb] (w.alloc (.cells #[.slice ao n ca, .slice bo m cb] 23)) R) :
    Calls Tryd.prog 48 #[.pointer (some ⟨b1, 0, none⟩), .pointer (some ⟨b2, 0, none⟩)] w R := by
  have h1' := h1.alloc (.cells #[.slice ao n ca, .slice bo m cb] 23)
  have h2' := h2.alloc (.cells #[.slice ao n ca, .slice bo m cb] 23)
  have hreq := require2_ok w.heap.size ao bo A B n m ca cb (w.alloc (.cells #[.slice ao n ca, .slice bo m cb] 23)) h1.len h2.len h1'.cells h2'.cells hA hB (by simp [go_sem]) (by simp [go_sem])
  have hc1 := h1.cell
  have hc2 := h2.cell
  have hl1 := h1.lt
  have hl2 := h2.lt
  have HR := Bx.mk hreq
  have HS := Bx.mk hS
  clear hreq hS h1 h2 h1' h2' hA hB
  go_enter Tryd.func48, Tryd.ntmps48
  go_wp2_with fail
  refine HR.out.mono ?_
  rintro e w2 ⟨rfl, rfl⟩
  go_wp2_with fail
  refine HS.out.mono ?_
  intro e w3 h
  rcases hR e w3 h with ⟨v, rfl⟩ | ⟨p, rfl⟩
  · go_wp2
    all_goals exact h
  · exact ⟨rfl, h⟩
theorem closPow_any (b1 b2 : Nat) (ao : Option Addr) (A : List Int) (n ca : Nat) (x : Int) (w : World) (h1 : Cap w b1 ao A n ca) (hl2 : b2 < w.heap.size) (hc2 : w.cell? ⟨b2, 0, none⟩ = some (.int .i64 x)) (hA : isNat A = true)
    (R : Ending → World → Prop) (hR : Plain R) (hS : Calls Tryd.prog 46 #[.slice ao n ca, .int .i64 x] (w.alloc (.cells #[.slice ao n ca] 23)) R) :
    Calls Tryd.prog 45 #[.pointer (some ⟨b1, 0, none⟩), .pointer (some ⟨b2, 0, none⟩)] w R := by
  have h1' := h1.alloc (.cells #[.slice ao n ca] 23)
  have hreq := require1_ok w.heap.size ao A n ca (w.alloc (.cells #[.slice ao n ca] 23)) h1.len h1'.cells hA (by simp [go_sem])
  have hc1 := h1.cell
  have hl1 := h1.lt
  have HR := Bx.mk hreq
  have HS := Bx.mk hS
  clear hreq hS h1 h1' hA
  go_enter Tryd.func45, Tryd.ntmps45
  go_wp2_with fail
  refine HR.out.mono ?_
  rintro e w2 ⟨rfl, rfl⟩
  go_wp2_with fail
  refine HS.out.mono ?_
  intro e w3 h
  rcases hR e w3 h with ⟨v, rfl⟩ | ⟨p, rfl⟩
  · go_wp2
    all_goals exact h
  · exact ⟨rfl, h⟩
theorem closText_any (b1 : Nat) (ao : Option Addr) (A : List Int) (n ca : Nat) (w : World) (h1 : Cap w b1 ao A n ca) (hA : isNat A = true)
    (R : Ending → World → Prop) (hR : Plain R) (hS : Calls Tryd.prog 52 #[.slice ao n ca] (w.alloc (.cells #[.slice ao n ca] 23)) R) :
    Calls Tryd.prog 51 #[.pointer (some ⟨b1, 0, none⟩)] w R := by
  have h1' := h1.alloc (.cells #[.slice ao n ca] 23)
  have hreq := require1_ok w.heap.size ao A n ca (w.alloc (.cells #[.slice ao n ca] 23)) h1.len h1'.cells hA (by simp [go_sem])
  have hc1 := h1.cell
  have hl1 := h1.lt
  have HR := Bx.mk hreq
  have HS := Bx.mk hS
  clear hreq hS h1 h1' hA
  go_enter Tryd.func51, Tryd.ntmps51
  go_wp2_with fail
  refine HR.out.mono ?_
  rintro e w2 ⟨rfl, rfl⟩
  go_wp2_with fail
  refine HS.out.mono ?_
  intro e w3 h
  rcases hR e w3 h with ⟨v, rfl⟩ | ⟨p, rfl⟩
  · go_wp2
    all_goals exact h
  · exact ⟨rfl, h⟩
end Go.Proofs.YthfpkjeobdajiaaDoor
namespace Go.Proofs.YthfpkjeobdajiaaDoor
open Go.RowKit M
/-- A block holds no number. -/
def NoInt (w : World) (g : Nat) : Prop := ∀ i k x, w.cell? ⟨g, i, none⟩ ≠ some (.int k x)
theorem NoInt.setCell {w : World} {g o : Nat} {ao : Option Addr} {n c : Nat} (h : NoInt w g) : NoInt (w.setCell ⟨g, o, none⟩ (.slice ao n c)) g := by
  intro i k x e
  by_cases hio : i = o
  · subst hio
    have hz : (w.cell? ⟨g, i, none⟩).isSome = true ∨ w.cell? ⟨g, i, none⟩ = none := by cases w.cell? ⟨g, i, none⟩ <;> simp
    rcases hz with hz | hz
    · rw [World.cell?_setCell_same' _ _ _ hz] at e; cases e
    · have : (w.setCell ⟨g, i, none⟩ (.slice ao n c)).cell? ⟨g, i, none⟩ = none := by
        simp only [World.cell?, World.setCell, Array.getElem?_modify] at hz ⊢
        cases hh : w.heap[g]? with
        | none => simp
        | some ob => cases ob <;> simp_all
      rw [this] at e; cases e
  · rw [World.cell?_setCell_other _ _ _ _ (by intro e'; injection e' with _ e2; exact hio (by omega))] at e
    exact h i k x e
theorem Rd.setCell {w : World} {v u : Value} {l : List Int} {g o : Nat} (h : Rd w v l) (hg : NoInt w g) : Rd (w.setCell ⟨g, o, none⟩ u) v l := by
  obtain ⟨hok, ao, cap, e, h1, h2, h3⟩ := h
  refine ⟨hok, ao, cap, e, h1, h2, fun hne => ?_⟩
  obtain ⟨a, rfl, ha, hc⟩ := h3 hne
  have hpos : 0 < l.length := List.length_pos_iff.2 hne
  have h0 := hc 0 hpos
  rw [add_zero_addr] at h0
  have hsp : a.spot = none := by
    cases hs : a.spot with
    | none => rfl
    | some s => simp only [World.cell?, hs] at h0; split at h0 <;> simp at h0
  have hb : a.block ≠ g := by
    intro e'
    apply hg a.off .u32 (l.getD 0 0)
    rw [← h0]; cases a; simp_all
  refine ⟨a, rfl, by simpa [World.setCell] using ha, fun i hi => ?_⟩
  have hblk : (a.add i).block = a.block := by unfold Addr.add; split <;> rfl
  rw [World.cell?_setCell_other _ _ _ _ (by intro e'; rw [← e'] at hblk; exact hb hblk.symm)]
  exact hc i hi
theorem closParse_bad (b1 : Nat) (s : ByteArray) (w : World) (hl1 : b1 < w.heap.size) (hc1 : w.cell? ⟨b1, 0, none⟩ = some (.string s)) (hs : s.size ≤ maxLen) (hd : isDec (letters s) = false) :
    Calls Tryd.prog 53 #[.pointer (some ⟨b1, 0, none⟩)] w (Raised w 8) := by
  have HD := Bx.mk (isDecimal_any s w hs)
  rw [hd] at HD
  clear hd hs
  go_enter Tryd.func53, Tryd.ntmps53
  go_wp2_with fail
  refine HD.out.mono ?_
  rintro e w2 ⟨rfl, rfl⟩
  go_wp2
  exact ⟨rfl, rfl, Below.refl _ _⟩
theorem closParse_any (b1 : Nat) (s : ByteArray) (w : World) (hl1 : b1 < w.heap.size) (hc1 : w.cell? ⟨b1, 0, none⟩ = some (.string s)) (hs : s.size ≤ maxLen) (hd : isDec (letters s) = true)
    (R : Ending → World → Prop) (hR : Plain R) (hS : Calls Tryd.prog 55 #[.string s] w R) :
    Calls Tryd.prog 53 #[.pointer (some ⟨b1, 0, none⟩)] w R := by
  have HD := Bx.mk (isDecimal_any s w hs)
  rw [hd] at HD
  have HS := Bx.mk hS
  clear hd hs hS
  go_enter Tryd.func53, Tryd.ntmps53
  go_wp2_with fail
  refine HD.out.mono ?_
  rintro e w2 ⟨rfl, rfl⟩
  go_wp2_with fail
  refine HS.out.mono ?_
  intro e w3 h
  rcases hR e w3 h with ⟨v, rfl⟩ | ⟨p, rfl⟩
  · go_wp2
    all_goals exact h
  · exact ⟨rfl, h⟩
theorem closDiv_zero (b1 b2 : Nat) (ao bo : Option Addr) (A : List Int) (n ca cb : Nat) (w : World) (h1 : Cap w b1 ao A n ca) (h2 : Cap w b2 bo [] 0 cb) (hA : isNat A = true) :
    Calls Tryd.prog 43 #[.pointer (some ⟨b1, 0, none⟩), .pointer (some ⟨b2, 0, none⟩)] w (Raised w 7) := by
  have h1' := (h1.alloc (.cells #[.slice none 0 0, .slice none 0 0] 51)).alloc (.cells #[.slice ao n ca, .slice bo 0 cb] 23)
  have h2' := (h2.alloc (.cells #[.slice none 0 0, .slice none 0 0] 51)).alloc (.cells #[.slice ao n ca, .slice bo 0 cb] 23)
  have hreq := require2_ok (w.heap.size + 1) ao bo A [] n 0 ca cb ((w.alloc (.cells #[.slice none 0 0, .slice none 0 0] 51)).alloc (.cells #[.slice ao n ca, .slice bo 0 cb] 23)) h1.len h2.len h1'.cells h2'.cells hA rfl (by simp [go_sem]) (by simp [go_sem])
  have hc1 := h1.cell
  have hc2 := h2.cell
  have hl1 := h1.lt
  have hl2 := h2.lt
  have hq := quotient_zero ao bo n ca cb ((w.alloc (.cells #[.slice none 0 0, .slice none 0 0] 51)).alloc (.cells #[.slice ao n ca, .slice bo 0 cb] 23))
  have hbel : Below w.heap.size w ((w.alloc (.cells #[.slice none 0 0, .slice none 0 0] 51)).alloc (.cells #[.slice ao n ca, .slice bo 0 cb] 23)) := ((Below.refl _ _).alloc (Nat.le_refl _) _).alloc (by simp) _
  have HB := Bx.mk hbel
  have HR := Bx.mk hreq
  have HQ := Bx.mk hq
  clear hreq hq h1 h2 h1' h2' hA hbel
  go_enter Tryd.func43, Tryd.ntmps43
  go_wp2_with fail
  refine HR.out.mono ?_
  rintro e w2 ⟨rfl, rfl⟩
  go_wp2_with fail
  refine HQ.out.mono ?_
  rintro e w3 h
  have h' := Raised.after HB.out h
  obtain ⟨rfl, hb⟩ := h
  exact ⟨rfl, h'⟩
/-- Two numbers, in an array. -/
def RetArr (w : World) (q r : Nat) (e : Ending) (w' : World) : Prop := ∃ v1 v2, e = .returned (.agg #[v1, v2]) ∧ Rd w' v1 (limbs q) ∧ Rd w' v2 (limbs r) ∧ Below w.heap.size w w'
theorem closDiv_ok (b1 b2 : Nat) (ao bo : Option Addr) (A B : List Int) (n m ca cb q r : Nat) (w : World) (h1 : Cap w b1 ao A n ca) (h2 : Cap w b2 bo B m cb) (hA : isNat A = true) (hB : isNat B = true)
    (hS : ∀ w1, Below w.heap.size w w1 → Calls Tryd.prog 44 #[.slice ao n ca, .slice bo m cb] w1 (RetPair w1 q r)) :
    Calls Tryd.prog 43 #[.pointer (some ⟨b1, 0, none⟩), .pointer (some ⟨b2, 0, none⟩)] w (RetArr w q r) := by
  have h1' := (h1.alloc (.cells #[.slice none 0 0, .slice none 0 0] 51)).alloc (.cells #[.slice ao n ca, .slice bo m cb] 23)
  have h2' := (h2.alloc (.cells #[.slice none 0 0, .slice none 0 0] 51)).alloc (.cells #[.slice ao n ca, .slice bo m cb] 23)
  have hreq := require2_ok (w.heap.size + 1) ao bo A B n m ca cb ((w.alloc (.cells #[.slice none 0 0, .slice none 0 0] 51)).alloc (.cells #[.slice ao n ca, .slice bo m cb] 23)) h1.len h2.len h1'.cells h2'.cells hA hB (by simp [go_sem]) (by simp [go_sem])
  have hc1 := h1.cell
  have hc2 := h2.cell
  have hl1 := h1.lt
  have hl2 := h2.lt
  have hbel : Below w.heap.size w ((w.alloc (.cells #[.slice none 0 0, .slice none 0 0] 51)).alloc (.cells #[.slice ao n ca, .slice bo m cb] 23)) := ((Below.refl _ _).alloc (Nat.le_refl _) _).alloc (by simp) _
  have hq := hS _ hbel
  have HB := Bx.mk hbel
  have HR := Bx.mk hreq
  have HQ := Bx.mk hq
  clear hreq hq h1 h2 h1' h2' hA hB hbel hS
  go_enter Tryd.func43, Tryd.ntmps43
  go_wp2_with fail
  refine HR.out.mono ?_
  rintro e w2 ⟨rfl, rfl⟩
  go_wp2_with fail
  refine HQ.out.mono ?_
  rintro e w3 ⟨v1, v2, rfl, hr1, hr2, hb⟩
  have hblk : w3.heap[w.heap.size]? = some (.cells #[.slice none 0 0, .slice none 0 0] 51 (0, 0)) := by
    rw [hb.block _ (by simp [go_sem])]
    show (((w.heap.push _).push _) : Array Obj)[w.heap.size]? = _
    simp [Array.getElem?_push]
  have hc0 : ∀ i, w3.cell? ⟨w.heap.size, i, none⟩ = (#[Value.slice none 0 0, Value.slice none 0 0])[i]? := fun i => by
    simp [World.cell?, hblk]
  have hz0 : ∀ i, w3.frozen? ⟨w.heap.size, i, none⟩ = false := fun i => by
    simp [World.frozen?, hblk]
  have hni : NoInt w3 w.heap.size := fun i k x e => by
    rw [hc0] at e
    rcases i with _ | _ | i <;> simp at e
  have hsz3 : w.heap.size < w3.heap.size := by have := hb.size; simp at this; omega
  obtain ⟨a1, n1, rfl, _, _, _⟩ := hr1.shape
  obtain ⟨a2, n2, rfl, _, _, _⟩ := hr2.shape
  have H3 := HB.out.trans (hb.mono HB.out.size)
  have hr1' := (hr1.setCell (g := w.heap.size) (o := 0) (u := .slice a1 (limbs q).length n1) hni).setCell (g := w.heap.size) (o := 1) (u := .slice a2 (limbs r).length n2) hni.setCell
  have hr2' := (hr2.setCell (g := w.heap.size) (o := 0) (u := .slice a1 (limbs q).length n1) hni).setCell (g := w.heap.size) (o := 1) (u := .slice a2 (limbs r).length n2) hni.setCell
  have H5 := (H3.setCell (p := ⟨w.heap.size, 0, none⟩) (Nat.le_refl _) (.slice a1 (limbs q).length n1)).setCell (p := ⟨w.heap.size, 1, none⟩) (Nat.le_refl _) (.slice a2 (limbs r).length n2)
  have G1 := Bx.mk hr1'
  have G2 := Bx.mk hr2'
  have G5 := Bx.mk H5
  have hc00 := hc0 0
  have hc01 := hc0 1
  have hz00 := hz0 0
  have hz01 := hz0 1
  simp at hc00 hc01
  have hd1 : ((w3.setCell ⟨w.heap.size, 0, none⟩ (.slice a1 (limbs q).length n1)).setCell ⟨w.heap.size, 1, none⟩ (.slice a2 (limbs r).length n2)).cell? ⟨w.heap.size, 1, none⟩ = some (.slice a2 (limbs r).length n2) :=
    World.cell?_setCell_same' _ _ _ (by rw [World.cell?_setCell_other _ _ _ _ (by simp), hc01]; rfl)
  have hd0 : ((w3.setCell ⟨w.heap.size, 0, none⟩ (.slice a1 (limbs q).length n1)).setCell ⟨w.heap.size, 1, none⟩ (.slice a2 (limbs r).length n2)).cell? ⟨w.heap.size, 0, none⟩ = some (.slice a1 (limbs q).length n1) := by
    rw [World.cell?_setCell_other _ _ _ _ (by simp)]; exact World.cell?_setCell_same' _ _ _ (by rw [hc00]; rfl)
  clear hr1 hr2 hb hc0 hz0 hr1' hr2' H3 H5 hni HB
  go_wp2
  refine ⟨rfl, _, by simp [results, Tryd.results43, go_sem, hd0, hd1]; rfl, ?_⟩
  exact ⟨_, _, rfl, G1.out, G2.out, G5.out⟩
end Go.Proofs.YthfpkjeobdajiaaDoor
namespace Go.Proofs.YthfpkjeobdajiaaDoor
open Go.RowKit M
theorem attemptDiv_raised (a1 a2 : Addr) (n : Int) (w : World) (h : Calls Tryd.prog 43 #[.pointer (some a1), .pointer (some a2)] ((w.alloc (.cells #[.slice none 0 0, .slice none 0 0] 51)).alloc (.cells #[.int .i64 0] 29)) (Raised ((w.alloc (.cells #[.slice none 0 0, .slice none 0 0] 51)).alloc (.cells #[.int .i64 0] 29)) n)) :
    Calls Tryd.prog 42 #[.func (Fn.func 43) #[] #[.pointer (some a1), .pointer (some a2)]] w fun e w' => e = .returned (.tuple #[.agg #[.slice none 0 0, .slice none 0 0], .int .i64 n]) ∧ Below w.heap.size w w' := by
  have hmf : ∀ (fn : Fn) (first cap : Array Value) (w : World), (Instr.makeFunc fn first cap).run Tryd.prog w = .ok (.func fn first cap) w := fun _ _ _ _ => rfl
  have hb0 : Below w.heap.size w ((w.alloc (.cells #[.slice none 0 0, .slice none 0 0] 51)).alloc (.cells #[.int .i64 0] 29)) := ((Below.refl _ _).alloc (Nat.le_refl _) _).alloc (by simp) _
  have H := Bx.mk h
  clear h
  go_enter_defers Tryd.func42, Tryd.ntmps42
  go_wp2_with fail
  refine H.out.mono ?_
  rintro e w2 ⟨rfl, hb⟩
  have hblk : w2.heap[w.heap.size]? = some (.cells #[.slice none 0 0, .slice none 0 0] 51 (0, 0)) := by
    rw [hb.block _ (by simp [go_sem])]
    show (((w.heap.push _).push _) : Array Obj)[w.heap.size]? = _
    simp [Array.getElem?_push, Array.size_push]
  have hblk1 : w2.heap[w.heap.size + 1]? = some (.cells #[.int .i64 0] 29 (0, 0)) := by
    rw [hb.block _ (by simp [go_sem])]
    exact (show ∀ (a : Array Obj) (x y : Obj), ((a.push x).push y)[a.size + 1]? = some y from fun a x y => by rw [show a.size + 1 = (a.push x).size by simp, Array.getElem?_push_size]) _ _ _
  have hc0 : w2.cell? ⟨w.heap.size + 1, 0, none⟩ = some (.int .i64 0) := by simp [World.cell?, hblk1]
  have hz0 : w2.frozen? ⟨w.heap.size + 1, 0, none⟩ = false := by simp [World.frozen?, hblk1]
  have HBB := Bx.mk (hb0.trans (hb.mono hb0.size))
  have HB2 := Bx.mk (HBB.out.setCell (p := ⟨w.heap.size + 1, 0, none⟩) (by simp) (.int .i64 n))
  have hd0 : (w2.setCell ⟨w.heap.size + 1, 0, none⟩ (.int .i64 n)).cell? ⟨w.heap.size, 0, none⟩ = some (.slice none 0 0) := by
    rw [World.cell?_setCell_other _ _ _ _ (by simp)]; simp [World.cell?, hblk]
  have hd1 : (w2.setCell ⟨w.heap.size + 1, 0, none⟩ (.int .i64 n)).cell? ⟨w.heap.size, 1, none⟩ = some (.slice none 0 0) := by
    rw [World.cell?_setCell_other _ _ _ _ (by simp)]; simp [World.cell?, hblk]
  have hcs : (w2.setCell ⟨w.heap.size + 1, 0, none⟩ (.int .i64 n)).cell? ⟨w.heap.size + 1, 0, none⟩ = some (.int .i64 n) := World.cell?_setCell_same' _ _ _ (by rw [hc0]; rfl)
  clear hb hb0 H hblk hblk1
  refine leaves_cons (f := 63) (args := #[.pointer (some ⟨w.heap.size + 1, 0, none⟩)]) (by simp) (by simp [go_sem]) ?_
  refine (catch_raised72 ⟨w.heap.size + 1, 0, none⟩ 0 n [] _ hc0 hz0).mono ?_
  rintro e u' w'' ⟨rfl, rfl, rfl⟩
  refine ⟨_, by simp [results, Tryd.results42, go_sem, hcs, hd0, hd1]; rfl, ?_⟩
  exact ⟨rfl, HB2.out⟩
theorem attemptDiv_ok (a1 a2 : Addr) (q r : Nat) (w : World) (h : Calls Tryd.prog 43 #[.pointer (some a1), .pointer (some a2)] ((w.alloc (.cells #[.slice none 0 0, .slice none 0 0] 51)).alloc (.cells #[.int .i64 0] 29)) (RetArr ((w.alloc (.cells #[.slice none 0 0, .slice none 0 0] 51)).alloc (.cells #[.int .i64 0] 29)) q r)) :
    Calls Tryd.prog 42 #[.func (Fn.func 43) #[] #[.pointer (some a1), .pointer (some a2)]] w fun e w' => ∃ v1 v2, e = .returned (.tuple #[.agg #[v1, v2], .int .i64 0]) ∧ Rd w' v1 (limbs q) ∧ Rd w' v2 (limbs r) ∧ Below w.heap.size w w' := by
  have hmf : ∀ (fn : Fn) (first cap : Array Value) (w : World), (Instr.makeFunc fn first cap).run Tryd.prog w = .ok (.func fn first cap) w := fun _ _ _ _ => rfl
  have hb0 : Below w.heap.size w ((w.alloc (.cells #[.slice none 0 0, .slice none 0 0] 51)).alloc (.cells #[.int .i64 0] 29)) := ((Below.refl _ _).alloc (Nat.le_refl _) _).alloc (by simp) _
  have H := Bx.mk h
  clear h
  go_enter_defers Tryd.func42, Tryd.ntmps42
  go_wp2_with fail
  refine H.out.mono ?_
  rintro e w2 ⟨v1, v2, rfl, hr1, hr2, hb⟩
  have hblk : w2.heap[w.heap.size]? = some (.cells #[.slice none 0 0, .slice none 0 0] 51 (0, 0)) := by
    rw [hb.block _ (by simp [go_sem])]
    show (((w.heap.push _).push _) : Array Obj)[w.heap.size]? = _
    simp [Array.getElem?_push, Array.size_push]
  have hblk1 : w2.heap[w.heap.size + 1]? = some (.cells #[.int .i64 0] 29 (0, 0)) := by
    rw [hb.block _ (by simp [go_sem])]
    exact (show ∀ (a : Array Obj) (x y : Obj), ((a.push x).push y)[a.size + 1]? = some y from fun a x y => by rw [show a.size + 1 = (a.push x).size by simp, Array.getElem?_push_size]) _ _ _
  have hni : NoInt w2 w.heap.size := fun i k x e => by
    have : w2.cell? ⟨w.heap.size, i, none⟩ = (#[Value.slice none 0 0, Value.slice none 0 0])[i]? := by simp [World.cell?, hblk]
    rw [this] at e
    rcases i with _ | _ | i <;> simp at e
  obtain ⟨s1, n1, rfl, _, _, _⟩ := hr1.shape
  obtain ⟨s2, n2, rfl, _, _, _⟩ := hr2.shape
  have hni1 : NoInt (w2.setCell ⟨w.heap.size, 0, none⟩ (.slice s1 (limbs q).length n1)) w.heap.size := hni.setCell
  have hr1' := (hr1.setCell (g := w.heap.size) (o := 0) (u := (.slice s1 (limbs q).length n1)) hni).setCell (g := w.heap.size) (o := 1) (u := (.slice s2 (limbs r).length n2)) hni1
  have hr2' := (hr2.setCell (g := w.heap.size) (o := 0) (u := (.slice s1 (limbs q).length n1)) hni).setCell (g := w.heap.size) (o := 1) (u := (.slice s2 (limbs r).length n2)) hni1
  have hc00 : w2.cell? ⟨w.heap.size, 0, none⟩ = some (.slice none 0 0) := by simp [World.cell?, hblk]
  have hc01 : w2.cell? ⟨w.heap.size, 1, none⟩ = some (.slice none 0 0) := by simp [World.cell?, hblk]
  have hz00 : w2.frozen? ⟨w.heap.size, 0, none⟩ = false := by simp [World.frozen?, hblk]
  have hz01 : w2.frozen? ⟨w.heap.size, 1, none⟩ = false := by simp [World.frozen?, hblk]
  have hc0 : w2.cell? ⟨w.heap.size + 1, 0, none⟩ = some (.int .i64 0) := by simp [World.cell?, hblk1]
  have hz0 : w2.frozen? ⟨w.heap.size + 1, 0, none⟩ = false := by simp [World.frozen?, hblk1]
  have hd1 : ((w2.setCell ⟨w.heap.size, 0, none⟩ (.slice s1 (limbs q).length n1)).setCell ⟨w.heap.size, 1, none⟩ (.slice s2 (limbs r).length n2)).cell? ⟨w.heap.size, 1, none⟩ = some (.slice s2 (limbs r).length n2) :=
    World.cell?_setCell_same' _ _ _ (by rw [World.cell?_setCell_other _ _ _ _ (by simp), hc01]; rfl)
  have hd0 : ((w2.setCell ⟨w.heap.size, 0, none⟩ (.slice s1 (limbs q).length n1)).setCell ⟨w.heap.size, 1, none⟩ (.slice s2 (limbs r).length n2)).cell? ⟨w.heap.size, 0, none⟩ = some (.slice s1 (limbs q).length n1) := by
    rw [World.cell?_setCell_other _ _ _ _ (by simp)]; exact World.cell?_setCell_same' _ _ _ (by rw [hc00]; rfl)
  have hde : ((w2.setCell ⟨w.heap.size, 0, none⟩ (.slice s1 (limbs q).length n1)).setCell ⟨w.heap.size, 1, none⟩ (.slice s2 (limbs r).length n2)).cell? ⟨w.heap.size + 1, 0, none⟩ = some (.int .i64 0) := by
    rw [World.cell?_setCell_other _ _ _ _ (by simp), World.cell?_setCell_other _ _ _ _ (by simp)]; exact hc0
  have hself := setCell_self ((w2.setCell ⟨w.heap.size, 0, none⟩ (.slice s1 (limbs q).length n1)).setCell ⟨w.heap.size, 1, none⟩ (.slice s2 (limbs r).length n2)) (w.heap.size + 1) _ hde
  have G1 := Bx.mk hr1'
  have G2 := Bx.mk hr2'
  have G5 := Bx.mk (((hb0.trans (hb.mono hb0.size)).setCell (p := ⟨w.heap.size, 0, none⟩) (Nat.le_refl _) (.slice s1 (limbs q).length n1)).setCell (p := ⟨w.heap.size, 1, none⟩) (Nat.le_refl _) (.slice s2 (limbs r).length n2))
  have hsz3 : w.heap.size + 1 < w2.heap.size := by have := hb.size; simp at this; omega
  clear hb hb0 H hblk hblk1 hr1 hr2 hr1' hr2' hni hni1
  go_wp2
  refine leaves_cons (f := 63) (args := #[.pointer (some ⟨w.heap.size + 1, 0, none⟩)]) (by simp) (by simp [go_sem]) ?_
  refine (catch_idle72 ⟨w.heap.size + 1, 0, none⟩ _).mono ?_
  rintro e u' w'' ⟨rfl, rfl, rfl⟩
  simp only [hself]
  refine ⟨_, by simp [results, Tryd.results42, go_sem, hde, hd0, hd1]; rfl, ?_⟩
  exact ⟨_, _, rfl, G1.out, G2.out, G5.out⟩
end Go.Proofs.YthfpkjeobdajiaaDoor
namespace Go.Proofs.YthfpkjeobdajiaaDoor
open Go.RowKit M
/-- A number and an error code. -/
def OutN (w : World) (s : Nat) (c : Int) (e : Ending) (w' : World) : Prop := ∃ v, e = .returned (.tuple #[v, .int .i64 c]) ∧ Rd w' v (limbs s) ∧ Below w.heap.size w w'
theorem plain_ret (w : World) (s : Nat) : Plain (RetNat w s) := fun _ _ h => let ⟨v, he, _⟩ := h; Or.inl ⟨v, he⟩
theorem plain_raised (w : World) (n : Int) : Plain (Raised w n) := fun _ _ h => Or.inr ⟨_, h.1⟩
theorem quiet_below {w w' : World} (h : Quiet w w') (B : Nat) : Below B w w' := by
  obtain ⟨d, rfl⟩ := h
  exact ⟨rfl, rfl, rfl, Nat.le_refl _, fun _ _ => rfl⟩
theorem add_gen (ao bo : Option Addr) (A B : List Int) (n m ca cb : Nat) (w : World) (hn : A.length = n) (hm : B.length = m) (hca : CellsK .u32 w ao A) (hcb : CellsK .u32 w bo B) (hA : isNat A = true) (hB : isNat B = true) (s : Nat)
    (hS : ∀ w3, Below w.heap.size w w3 → Calls Tryd.prog 31 #[.slice ao n ca, .slice bo m cb] w3 (RetNat w3 s)) : Calls Tryd.prog 10 #[.slice ao n ca, .slice bo m cb] w (OutN w s 0) := by
  have hmf : ∀ (fn : Fn) (first cap : Array Value) (w : World), (Instr.makeFunc fn first cap).run Tryd.prog w = .ok (.func fn first cap) w := fun _ _ _ _ => rfl
  have hb2 : Below w.heap.size w ((w.alloc (.cells #[.slice ao n ca] 23)).alloc (.cells #[.slice bo m cb] 23)) := ((Below.refl _ _).alloc (Nat.le_refl _) _).alloc (by simp) _
  have hb3 : Below w.heap.size w (((w.alloc (.cells #[.slice ao n ca] 23)).alloc (.cells #[.slice bo m cb] 23)).alloc (.cells #[.int .i64 0] 29)) := hb2.alloc (by simp; omega) _
  have hb4 : Below w.heap.size w ((((w.alloc (.cells #[.slice ao n ca] 23)).alloc (.cells #[.slice bo m cb] 23)).alloc (.cells #[.int .i64 0] 29)).alloc (.cells #[.slice ao n ca, .slice bo m cb] 23)) := hb3.alloc (by simp; omega) _
  have c1 : Cap ((w.alloc (.cells #[.slice ao n ca] 23)).alloc (.cells #[.slice bo m cb] 23)) w.heap.size ao A n ca := ⟨by simp; omega, by simp [go_sem], hn, hca.keep hb2⟩
  have c2 : Cap ((w.alloc (.cells #[.slice ao n ca] 23)).alloc (.cells #[.slice bo m cb] 23)) (w.heap.size + 1) bo B m cb := ⟨by simp, by simp [go_sem], hm, hcb.keep hb2⟩
  have hat := attemptAdd_ok ⟨w.heap.size, 0, none⟩ ⟨w.heap.size + 1, 0, none⟩ s ((w.alloc (.cells #[.slice ao n ca] 23)).alloc (.cells #[.slice bo m cb] 23)) (closAdd_any w.heap.size (w.heap.size + 1) ao bo A B n m ca cb _ (c1.alloc _) (c2.alloc _) hA hB _ (plain_ret _ _) ((hS _ hb4).mono fun _ _ h => RetNat.after ((Below.refl _ _).alloc (Nat.le_refl _) _) h))
  have H := Bx.mk hat
  clear hat hS hca hcb hA hB hn hm c1 c2 hb3 hb4
  have HB := Bx.mk hb2
  clear hb2
  go_enter Tryd.func10, Tryd.ntmps10
  go_wp2_with fail
  refine H.out.mono ?_
  rintro e w3 ⟨v, rfl, hr, hb⟩
  go_wp2
  go_ret2
  exact ⟨v, rfl, hr, HB.out.trans (hb.mono HB.out.size)⟩
theorem add_gen_raised (ao bo : Option Addr) (A B : List Int) (n m ca cb : Nat) (w : World) (hn : A.length = n) (hm : B.length = m) (hca : CellsK .u32 w ao A) (hcb : CellsK .u32 w bo B) (hA : isNat A = true) (hB : isNat B = true) (c : Int)
    (hS : ∀ w3, Below w.heap.size w w3 → Calls Tryd.prog 31 #[.slice ao n ca, .slice bo m cb] w3 (Raised w3 c)) : Calls Tryd.prog 10 #[.slice ao n ca, .slice bo m cb] w (OutN w 0 c) := by
  have hmf : ∀ (fn : Fn) (first cap : Array Value) (w : World), (Instr.makeFunc fn first cap).run Tryd.prog w = .ok (.func fn first cap) w := fun _ _ _ _ => rfl
  have hb2 : Below w.heap.size w ((w.alloc (.cells #[.slice ao n ca] 23)).alloc (.cells #[.slice bo m cb] 23)) := ((Below.refl _ _).alloc (Nat.le_refl _) _).alloc (by simp) _
  have hb3 : Below w.heap.size w (((w.alloc (.cells #[.slice ao n ca] 23)).alloc (.cells #[.slice bo m cb] 23)).alloc (.cells #[.int .i64 0] 29)) := hb2.alloc (by simp; omega) _
  have hb4 : Below w.heap.size w ((((w.alloc (.cells #[.slice ao n ca] 23)).alloc (.cells #[.slice bo m cb] 23)).alloc (.cells #[.int .i64 0] 29)).alloc (.cells #[.slice ao n ca, .slice bo m cb] 23)) := hb3.alloc (by simp; omega) _
  have c1 : Cap ((w.alloc (.cells #[.slice ao n ca] 23)).alloc (.cells #[.slice bo m cb] 23)) w.heap.size ao A n ca := ⟨by simp; omega, by simp [go_sem], hn, hca.keep hb2⟩
  have c2 : Cap ((w.alloc (.cells #[.slice ao n ca] 23)).alloc (.cells #[.slice bo m cb] 23)) (w.heap.size + 1) bo B m cb := ⟨by simp, by simp [go_sem], hm, hcb.keep hb2⟩
  have hat := attemptAdd_raised ⟨w.heap.size, 0, none⟩ ⟨w.heap.size + 1, 0, none⟩ c ((w.alloc (.cells #[.slice ao n ca] 23)).alloc (.cells #[.slice bo m cb] 23)) (closAdd_any w.heap.size (w.heap.size + 1) ao bo A B n m ca cb _ (c1.alloc _) (c2.alloc _) hA hB _ (plain_raised _ _) ((hS _ hb4).mono fun _ _ h => Raised.after ((Below.refl _ _).alloc (Nat.le_refl _) _) h))
  have H := Bx.mk hat
  clear hat hS hca hcb hA hB hn hm c1 c2 hb3 hb4
  have HB := Bx.mk hb2
  clear hb2
  go_enter Tryd.func10, Tryd.ntmps10
  go_wp2_with fail
  refine H.out.mono ?_
  rintro e w3 ⟨rfl, hb⟩
  go_wp2
  go_ret2
  exact ⟨_, rfl, by rw [limbs_zero]; exact Rd.nil _, HB.out.trans (hb.mono HB.out.size)⟩
theorem sub_gen (ao bo : Option Addr) (A B : List Int) (n m ca cb : Nat) (w : World) (hn : A.length = n) (hm : B.length = m) (hca : CellsK .u32 w ao A) (hcb : CellsK .u32 w bo B) (hA : isNat A = true) (hB : isNat B = true) (s : Nat)
    (hS : ∀ w3, Below w.heap.size w w3 → Calls Tryd.prog 36 #[.slice ao n ca, .slice bo m cb] w3 (RetNat w3 s)) : Calls Tryd.prog 12 #[.slice ao n ca, .slice bo m cb] w (OutN w s 0) := by
  have hmf : ∀ (fn : Fn) (first cap : Array Value) (w : World), (Instr.makeFunc fn first cap).run Tryd.prog w = .ok (.func fn first cap) w := fun _ _ _ _ => rfl
  have hb2 : Below w.heap.size w ((w.alloc (.cells #[.slice ao n ca] 23)).alloc (.cells #[.slice bo m cb] 23)) := ((Below.refl _ _).alloc (Nat.le_refl _) _).alloc (by simp) _
  have hb3 : Below w.heap.size w (((w.alloc (.cells #[.slice ao n ca] 23)).alloc (.cells #[.slice bo m cb] 23)).alloc (.cells #[.int .i64 0] 29)) := hb2.alloc (by simp; omega) _
  have hb4 : Below w.heap.size w ((((w.alloc (.cells #[.slice ao n ca] 23)).alloc (.cells #[.slice bo m cb] 23)).alloc (.cells #[.int .i64 0] 29)).alloc (.cells #[.slice ao n ca, .slice bo m cb] 23)) := hb3.alloc (by simp; omega) _
  have c1 : Cap ((w.alloc (.cells #[.slice ao n ca] 23)).alloc (.cells #[.slice bo m cb] 23)) w.heap.size ao A n ca := ⟨by simp; omega, by simp [go_sem], hn, hca.keep hb2⟩
  have c2 : Cap ((w.alloc (.cells #[.slice ao n ca] 23)).alloc (.cells #[.slice bo m cb] 23)) (w.heap.size + 1) bo B m cb := ⟨by simp, by simp [go_sem], hm, hcb.keep hb2⟩
  have hat := attemptSub_ok ⟨w.heap.size, 0, none⟩ ⟨w.heap.size + 1, 0, none⟩ s ((w.alloc (.cells #[.slice ao n ca] 23)).alloc (.cells #[.slice bo m cb] 23)) (closSub_any w.heap.size (w.heap.size + 1) ao bo A B n m ca cb _ (c1.alloc _) (c2.alloc _) hA hB _ (plain_ret _ _) ((hS _ hb4).mono fun _ _ h => RetNat.after ((Below.refl _ _).alloc (Nat.le_refl _) _) h))
  have H := Bx.mk hat
  clear hat hS hca hcb hA hB hn hm c1 c2 hb3 hb4
  have HB := Bx.mk hb2
  clear hb2
  go_enter Tryd.func12, Tryd.ntmps12
  go_wp2_with fail
  refine H.out.mono ?_
  rintro e w3 ⟨v, rfl, hr, hb⟩
  go_wp2
  go_ret2
  exact ⟨v, rfl, hr, HB.out.trans (hb.mono HB.out.size)⟩
theorem sub_gen_raised (ao bo : Option Addr) (A B : List Int) (n m ca cb : Nat) (w : World) (hn : A.length = n) (hm : B.length = m) (hca : CellsK .u32 w ao A) (hcb : CellsK .u32 w bo B) (hA : isNat A = true) (hB : isNat B = true) (c : Int)
    (hS : ∀ w3, Below w.heap.size w w3 → Calls Tryd.prog 36 #[.slice ao n ca, .slice bo m cb] w3 (Raised w3 c)) : Calls Tryd.prog 12 #[.slice ao n ca, .slice bo m cb] w (OutN w 0 c) := by
  have hmf : ∀ (fn : Fn) (first cap : Array Value) (w : World), (Instr.makeFunc fn first cap).run Tryd.prog w = .ok (.func fn first cap) w := fun _ _ _ _ => rfl
  have hb2 : Below w.heap.size w ((w.alloc (.cells #[.slice ao n ca] 23)).alloc (.cells #[.slice bo m cb] 23)) := ((Below.refl _ _).alloc (Nat.le_refl _) _).alloc (by simp) _
  have hb3 : Below w.heap.size w (((w.alloc (.cells #[.slice ao n ca] 23)).alloc (.cells #[.slice bo m cb] 23)).alloc (.cells #[.int .i64 0] 29)) := hb2.alloc (by simp; omega) _
  have hb4 : Below w.heap.size w ((((w.alloc (.cells #[.slice ao n ca] 23)).alloc (.cells #[.slice bo m cb] 23)).alloc (.cells #[.int .i64 0] 29)).alloc (.cells #[.slice ao n ca, .slice bo m cb] 23)) := hb3.alloc (by simp; omega) _
  have c1 : Cap ((w.alloc (.cells #[.slice ao n ca] 23)).alloc (.cells #[.slice bo m cb] 23)) w.heap.size ao A n ca := ⟨by simp; omega, by simp [go_sem], hn, hca.keep hb2⟩
  have c2 : Cap ((w.alloc (.cells #[.slice ao n ca] 23)).alloc (.cells #[.slice bo m cb] 23)) (w.heap.size + 1) bo B m cb := ⟨by simp, by simp [go_sem], hm, hcb.keep hb2⟩
  have hat := attemptSub_raised ⟨w.heap.size, 0, none⟩ ⟨w.heap.size + 1, 0, none⟩ c ((w.alloc (.cells #[.slice ao n ca] 23)).alloc (.cells #[.slice bo m cb] 23)) (closSub_any w.heap.size (w.heap.size + 1) ao bo A B n m ca cb _ (c1.alloc _) (c2.alloc _) hA hB _ (plain_raised _ _) ((hS _ hb4).mono fun _ _ h => Raised.after ((Below.refl _ _).alloc (Nat.le_refl _) _) h))
  have H := Bx.mk hat
  clear hat hS hca hcb hA hB hn hm c1 c2 hb3 hb4
  have HB := Bx.mk hb2
  clear hb2
  go_enter Tryd.func12, Tryd.ntmps12
  go_wp2_with fail
  refine H.out.mono ?_
  rintro e w3 ⟨rfl, hb⟩
  go_wp2
  go_ret2
  exact ⟨_, rfl, by rw [limbs_zero]; exact Rd.nil _, HB.out.trans (hb.mono HB.out.size)⟩
theorem mul_gen (ao bo : Option Addr) (A B : List Int) (n m ca cb : Nat) (w : World) (hn : A.length = n) (hm : B.length = m) (hca : CellsK .u32 w ao A) (hcb : CellsK .u32 w bo B) (hA : isNat A = true) (hB : isNat B = true) (s : Nat)
    (hS : ∀ w3, Below w.heap.size w w3 → Calls Tryd.prog 40 #[.slice ao n ca, .slice bo m cb] w3 (RetNat w3 s)) : Calls Tryd.prog 14 #[.slice ao n ca, .slice bo m cb] w (OutN w s 0) := by
  have hmf : ∀ (fn : Fn) (first cap : Array Value) (w : World), (Instr.makeFunc fn first cap).run Tryd.prog w = .ok (.func fn first cap) w := fun _ _ _ _ => rfl
  have hb2 : Below w.heap.size w ((w.alloc (.cells #[.slice ao n ca] 23)).alloc (.cells #[.slice bo m cb] 23)) := ((Below.refl _ _).alloc (Nat.le_refl _) _).alloc (by simp) _
  have hb3 : Below w.heap.size w (((w.alloc (.cells #[.slice ao n ca] 23)).alloc (.cells #[.slice bo m cb] 23)).alloc (.cells #[.int .i64 0] 29)) := hb2.alloc (by simp; omega) _
  have hb4 : Below w.heap.size w ((((w.alloc (.cells #[.slice ao n ca] 23)).alloc (.cells #[.slice bo m cb] 23)).alloc (.cells #[.int .i64 0] 29)).alloc (.cells #[.slice ao n ca, .slice bo m cb] 23)) := hb3.alloc (by simp; omega) _
  have c1 : Cap ((w.alloc (.cells #[.slice ao n ca] 23)).alloc (.cells #[.slice bo m cb] 23)) w.heap.size ao A n ca := ⟨by simp; omega, by simp [go_sem], hn, hca.keep hb2⟩
  have c2 : Cap ((w.alloc (.cells #[.slice ao n ca] 23)).alloc (.cells #[.slice bo m cb] 23)) (w.heap.size + 1) bo B m cb := ⟨by simp, by simp [go_sem], hm, hcb.keep hb2⟩
  have hat := attemptMul_ok ⟨w.heap.size, 0, none⟩ ⟨w.heap.size + 1, 0, none⟩ s ((w.alloc (.cells #[.slice ao n ca] 23)).alloc (.cells #[.slice bo m cb] 23)) (closMul_any w.heap.size (w.heap.size + 1) ao bo A B n m ca cb _ (c1.alloc _) (c2.alloc _) hA hB _ (plain_ret _ _) ((hS _ hb4).mono fun _ _ h => RetNat.after ((Below.refl _ _).alloc (Nat.le_refl _) _) h))
  have H := Bx.mk hat
  clear hat hS hca hcb hA hB hn hm c1 c2 hb3 hb4
  have HB := Bx.mk hb2
  clear hb2
  go_enter Tryd.func14, Tryd.ntmps14
  go_wp2_with fail
  refine H.out.mono ?_
  rintro e w3 ⟨v, rfl, hr, hb⟩
  go_wp2
  go_ret2
  exact ⟨v, rfl, hr, HB.out.trans (hb.mono HB.out.size)⟩
theorem mul_gen_raised (ao bo : Option Addr) (A B : List Int) (n m ca cb : Nat) (w : World) (hn : A.length = n) (hm : B.length = m) (hca : CellsK .u32 w ao A) (hcb : CellsK .u32 w bo B) (hA : isNat A = true) (hB : isNat B = true) (c : Int)
    (hS : ∀ w3, Below w.heap.size w w3 → Calls Tryd.prog 40 #[.slice ao n ca, .slice bo m cb] w3 (Raised w3 c)) : Calls Tryd.prog 14 #[.slice ao n ca, .slice bo m cb] w (OutN w 0 c) := by
  have hmf : ∀ (fn : Fn) (first cap : Array Value) (w : World), (Instr.makeFunc fn first cap).run Tryd.prog w = .ok (.func fn first cap) w := fun _ _ _ _ => rfl
  have hb2 : Below w.heap.size w ((w.alloc (.cells #[.slice ao n ca] 23)).alloc (.cells #[.slice bo m cb] 23)) := ((Below.refl _ _).alloc (Nat.le_refl _) _).alloc (by simp) _
  have hb3 : Below w.heap.size w (((w.alloc (.cells #[.slice ao n ca] 23)).alloc (.cells #[.slice bo m cb] 23)).alloc (.cells #[.int .i64 0] 29)) := hb2.alloc (by simp; omega) _
  have hb4 : Below w.heap.size w ((((w.alloc (.cells #[.slice ao n ca] 23)).alloc (.cells #[.slice bo m cb] 23)).alloc (.cells #[.int .i64 0] 29)).alloc (.cells #[.slice ao n ca, .slice bo m cb] 23)) := hb3.alloc (by simp; omega) _
  have c1 : Cap ((w.alloc (.cells #[.slice ao n ca] 23)).alloc (.cells #[.slice bo m cb] 23)) w.heap.size ao A n ca := ⟨by simp; omega, by simp [go_sem], hn, hca.keep hb2⟩
  have c2 : Cap ((w.alloc (.cells #[.slice ao n ca] 23)).alloc (.cells #[.slice bo m cb] 23)) (w.heap.size + 1) bo B m cb := ⟨by simp, by simp [go_sem], hm, hcb.keep hb2⟩
  have hat := attemptMul_raised ⟨w.heap.size, 0, none⟩ ⟨w.heap.size + 1, 0, none⟩ c ((w.alloc (.cells #[.slice ao n ca] 23)).alloc (.cells #[.slice bo m cb] 23)) (closMul_any w.heap.size (w.heap.size + 1) ao bo A B n m ca cb _ (c1.alloc _) (c2.alloc _) hA hB _ (plain_raised _ _) ((hS _ hb4).mono fun _ _ h => Raised.after ((Below.refl _ _).alloc (Nat.le_refl _) _) h))
  have H := Bx.mk hat
  clear hat hS hca hcb hA hB hn hm c1 c2 hb3 hb4
  have HB := Bx.mk hb2
  clear hb2
  go_enter Tryd.func14, Tryd.ntmps14
  go_wp2_with fail
  refine H.out.mono ?_
  rintro e w3 ⟨rfl, hb⟩
  go_wp2
  go_ret2
  exact ⟨_, rfl, by rw [limbs_zero]; exact Rd.nil _, HB.out.trans (hb.mono HB.out.size)⟩
theorem cmp_gen (ao bo : Option Addr) (A B : List Int) (n m ca cb : Nat) (w : World) (hn : A.length = n) (hm : B.length = m) (hca : CellsK .u32 w ao A) (hcb : CellsK .u32 w bo B) (hA : isNat A = true) (hB : isNat B = true) (s : Int)
    (hS : ∀ w3, Below w.heap.size w w3 → Calls Tryd.prog 49 #[.slice ao n ca, .slice bo m cb] w3 fun e w' => e = .returned (.int .i64 s) ∧ Quiet w3 w') : Calls Tryd.prog 20 #[.slice ao n ca, .slice bo m cb] w fun e w' => e = .returned (.tuple #[.int .i64 s, .int .i64 0]) ∧ Below w.heap.size w w' := by
  have hmf : ∀ (fn : Fn) (first cap : Array Value) (w : World), (Instr.makeFunc fn first cap).run Tryd.prog w = .ok (.func fn first cap) w := fun _ _ _ _ => rfl
  have hb2 : Below w.heap.size w ((w.alloc (.cells #[.slice ao n ca] 23)).alloc (.cells #[.slice bo m cb] 23)) := ((Below.refl _ _).alloc (Nat.le_refl _) _).alloc (by simp) _
  have hb3 : Below w.heap.size w (((w.alloc (.cells #[.slice ao n ca] 23)).alloc (.cells #[.slice bo m cb] 23)).alloc (.cells #[.int .i64 0] 29)) := hb2.alloc (by simp; omega) _
  have hb4 : Below w.heap.size w ((((w.alloc (.cells #[.slice ao n ca] 23)).alloc (.cells #[.slice bo m cb] 23)).alloc (.cells #[.int .i64 0] 29)).alloc (.cells #[.slice ao n ca, .slice bo m cb] 23)) := hb3.alloc (by simp; omega) _
  have c1 : Cap ((w.alloc (.cells #[.slice ao n ca] 23)).alloc (.cells #[.slice bo m cb] 23)) w.heap.size ao A n ca := ⟨by simp; omega, by simp [go_sem], hn, hca.keep hb2⟩
  have c2 : Cap ((w.alloc (.cells #[.slice ao n ca] 23)).alloc (.cells #[.slice bo m cb] 23)) (w.heap.size + 1) bo B m cb := ⟨by simp, by simp [go_sem], hm, hcb.keep hb2⟩
  have hat := attemptCmp_ok ⟨w.heap.size, 0, none⟩ ⟨w.heap.size + 1, 0, none⟩ s ((w.alloc (.cells #[.slice ao n ca] 23)).alloc (.cells #[.slice bo m cb] 23)) (closCmp_any w.heap.size (w.heap.size + 1) ao bo A B n m ca cb _ (c1.alloc _) (c2.alloc _) hA hB _ (fun _ _ h => Or.inl ⟨_, h.1⟩) ((hS _ hb4).mono fun _ w' h => ⟨h.1, ((Below.refl _ _).alloc (by simp) _).trans (quiet_below h.2 _)⟩))
  have H := Bx.mk hat
  clear hat hS hca hcb hA hB hn hm c1 c2 hb3 hb4
  have HB := Bx.mk hb2
  clear hb2
  go_enter Tryd.func20, Tryd.ntmps20
  go_wp2_with fail
  refine H.out.mono ?_
  rintro e w3 ⟨rfl, hb⟩
  go_wp2
  go_ret2
  exact ⟨rfl, HB.out.trans (hb.mono HB.out.size)⟩
end Go.Proofs.YthfpkjeobdajiaaDoor
namespace Go.Proofs.YthfpkjeobdajiaaDoor
open Go.RowKit M
theorem pow_gen (ao : Option Addr) (A : List Int) (n ca : Nat) (x : Int) (w : World) (hn : A.length = n) (hca : CellsK .u32 w ao A) (hA : isNat A = true) (s : Nat) (hS : ∀ w3, Below w.heap.size w w3 → Calls Tryd.prog 46 #[.slice ao n ca, .int .i64 x] w3 (RetNat w3 s)) : Calls Tryd.prog 18 #[.slice ao n ca, .int .i64 x] w (OutN w s 0) := by
  have hmf : ∀ (fn : Fn) (first cap : Array Value) (w : World), (Instr.makeFunc fn first cap).run Tryd.prog w = .ok (.func fn first cap) w := fun _ _ _ _ => rfl
  have hb2 : Below w.heap.size w ((w.alloc (.cells #[.slice ao n ca] 23)).alloc (.cells #[.int .i64 x] 3)) := ((Below.refl _ _).alloc (Nat.le_refl _) _).alloc (by simp) _
  have hb3 : Below w.heap.size w (((w.alloc (.cells #[.slice ao n ca] 23)).alloc (.cells #[.int .i64 x] 3)).alloc (.cells #[.int .i64 0] 29)) := hb2.alloc (by simp; omega) _
  have hb4 : Below w.heap.size w ((((w.alloc (.cells #[.slice ao n ca] 23)).alloc (.cells #[.int .i64 x] 3)).alloc (.cells #[.int .i64 0] 29)).alloc (.cells #[.slice ao n ca] 23)) := hb3.alloc (by simp; omega) _
  have c1 : Cap ((w.alloc (.cells #[.slice ao n ca] 23)).alloc (.cells #[.int .i64 x] 3)) w.heap.size ao A n ca := ⟨by simp; omega, by simp [go_sem], hn, hca.keep hb2⟩
  have hat := attemptPow_ok ⟨w.heap.size, 0, none⟩ ⟨w.heap.size + 1, 0, none⟩ s ((w.alloc (.cells #[.slice ao n ca] 23)).alloc (.cells #[.int .i64 x] 3)) (closPow_any w.heap.size (w.heap.size + 1) ao A n ca x _ (c1.alloc _) (by simp) (by simp [go_sem]) hA _ (plain_ret _ _) ((hS _ hb4).mono fun _ _ h => RetNat.after ((Below.refl _ _).alloc (Nat.le_refl _) _) h))
  have H := Bx.mk hat
  clear hat hS hca hA hn c1 hb3 hb4
  have HB := Bx.mk hb2
  clear hb2
  go_enter Tryd.func18, Tryd.ntmps18
  go_wp2_with fail
  refine H.out.mono ?_
  rintro e w3 ⟨v, rfl, hr, hb⟩
  go_wp2
  go_ret2
  exact ⟨v, rfl, hr, HB.out.trans (hb.mono HB.out.size)⟩
theorem pow_gen_raised (ao : Option Addr) (A : List Int) (n ca : Nat) (x : Int) (w : World) (hn : A.length = n) (hca : CellsK .u32 w ao A) (hA : isNat A = true) (c : Int) (hS : ∀ w3, Below w.heap.size w w3 → Calls Tryd.prog 46 #[.slice ao n ca, .int .i64 x] w3 (Raised w3 c)) : Calls Tryd.prog 18 #[.slice ao n ca, .int .i64 x] w (OutN w 0 c) := by
  have hmf : ∀ (fn : Fn) (first cap : Array Value) (w : World), (Instr.makeFunc fn first cap).run Tryd.prog w = .ok (.func fn first cap) w := fun _ _ _ _ => rfl
  have hb2 : Below w.heap.size w ((w.alloc (.cells #[.slice ao n ca] 23)).alloc (.cells #[.int .i64 x] 3)) := ((Below.refl _ _).alloc (Nat.le_refl _) _).alloc (by simp) _
  have hb3 : Below w.heap.size w (((w.alloc (.cells #[.slice ao n ca] 23)).alloc (.cells #[.int .i64 x] 3)).alloc (.cells #[.int .i64 0] 29)) := hb2.alloc (by simp; omega) _
  have hb4 : Below w.heap.size w ((((w.alloc (.cells #[.slice ao n ca] 23)).alloc (.cells #[.int .i64 x] 3)).alloc (.cells #[.int .i64 0] 29)).alloc (.cells #[.slice ao n ca] 23)) := hb3.alloc (by simp; omega) _
  have c1 : Cap ((w.alloc (.cells #[.slice ao n ca] 23)).alloc (.cells #[.int .i64 x] 3)) w.heap.size ao A n ca := ⟨by simp; omega, by simp [go_sem], hn, hca.keep hb2⟩
  have hat := attemptPow_raised ⟨w.heap.size, 0, none⟩ ⟨w.heap.size + 1, 0, none⟩ c ((w.alloc (.cells #[.slice ao n ca] 23)).alloc (.cells #[.int .i64 x] 3)) (closPow_any w.heap.size (w.heap.size + 1) ao A n ca x _ (c1.alloc _) (by simp) (by simp [go_sem]) hA _ (plain_raised _ _) ((hS _ hb4).mono fun _ _ h => Raised.after ((Below.refl _ _).alloc (Nat.le_refl _) _) h))
  have H := Bx.mk hat
  clear hat hS hca hA hn c1 hb3 hb4
  have HB := Bx.mk hb2
  clear hb2
  go_enter Tryd.func18, Tryd.ntmps18
  go_wp2_with fail
  refine H.out.mono ?_
  rintro e w3 ⟨rfl, hb⟩
  go_wp2
  go_ret2
  exact ⟨_, rfl, by rw [limbs_zero]; exact Rd.nil _, HB.out.trans (hb.mono HB.out.size)⟩
theorem text_gen (ao : Option Addr) (A : List Int) (n ca : Nat) (w : World) (hn : A.length = n) (hca : CellsK .u32 w ao A) (hA : isNat A = true) (s : ByteArray) (hS : ∀ w3, Below w.heap.size w w3 → Calls Tryd.prog 52 #[.slice ao n ca] w3 fun e w' => e = .returned (.string s) ∧ Below w3.heap.size w3 w') : Calls Tryd.prog 22 #[.slice ao n ca] w fun e w' => e = .returned (.tuple #[.string s, .int .i64 0]) ∧ Below w.heap.size w w' := by
  have hmf : ∀ (fn : Fn) (first cap : Array Value) (w : World), (Instr.makeFunc fn first cap).run Tryd.prog w = .ok (.func fn first cap) w := fun _ _ _ _ => rfl
  have hb2 : Below w.heap.size w (w.alloc (.cells #[.slice ao n ca] 23)) := (Below.refl _ _).alloc (Nat.le_refl _) _
  have hb3 : Below w.heap.size w ((w.alloc (.cells #[.slice ao n ca] 23)).alloc (.cells #[.int .i64 0] 29)) := hb2.alloc (by simp) _
  have hb4 : Below w.heap.size w (((w.alloc (.cells #[.slice ao n ca] 23)).alloc (.cells #[.int .i64 0] 29)).alloc (.cells #[.slice ao n ca] 23)) := hb3.alloc (by simp; omega) _
  have c1 : Cap (w.alloc (.cells #[.slice ao n ca] 23)) w.heap.size ao A n ca := ⟨by simp, by simp [go_sem], hn, hca.keep hb2⟩
  have hat := attemptText_ok ⟨w.heap.size, 0, none⟩ s (w.alloc (.cells #[.slice ao n ca] 23)) (closText_any w.heap.size ao A n ca _ (c1.alloc _) hA _ (fun _ _ h => Or.inl ⟨_, h.1⟩) ((hS _ hb4).mono fun _ w' h => ⟨h.1, ((Below.refl _ _).alloc (by simp) _).trans (h.2.mono (by simp))⟩))
  have H := Bx.mk hat
  clear hat hS hca hA hn c1 hb3 hb4
  have HB := Bx.mk hb2
  clear hb2
  go_enter Tryd.func22, Tryd.ntmps22
  go_wp2_with fail
  refine H.out.mono ?_
  rintro e w3 ⟨rfl, hb⟩
  go_wp2
  go_ret2
  exact ⟨rfl, HB.out.trans (hb.mono HB.out.size)⟩
theorem parse_bad (s : ByteArray) (w : World) (hs : s.size ≤ maxLen) (hd : isDec (letters s) = false) : Calls Tryd.prog 24 #[.string s] w (OutN w 0 8) := by
  have hmf : ∀ (fn : Fn) (first cap : Array Value) (w : World), (Instr.makeFunc fn first cap).run Tryd.prog w = .ok (.func fn first cap) w := fun _ _ _ _ => rfl
  have hb2 : Below w.heap.size w (w.alloc (.cells #[.string s] 9)) := (Below.refl _ _).alloc (Nat.le_refl _) _
  have hb3 : Below w.heap.size w ((w.alloc (.cells #[.string s] 9)).alloc (.cells #[.int .i64 0] 29)) := hb2.alloc (by simp) _
  have hcc : ((w.alloc (.cells #[.string s] 9)).alloc (.cells #[.int .i64 0] 29)).cell? ⟨w.heap.size, 0, none⟩ = some (.string s) := by simp [go_sem]
  have hat := attemptParse_raised ⟨w.heap.size, 0, none⟩ 8 (w.alloc (.cells #[.string s] 9)) (closParse_bad w.heap.size s _ (by simp; omega) hcc hs hd)
  have H := Bx.mk hat
  clear hat hs hd hb3
  have HB := Bx.mk hb2
  clear hb2
  go_enter Tryd.func24, Tryd.ntmps24
  go_wp2_with fail
  refine H.out.mono ?_
  rintro e w3 ⟨rfl, hb⟩
  go_wp2
  go_ret2
  exact ⟨_, rfl, by rw [limbs_zero]; exact Rd.nil _, HB.out.trans (hb.mono HB.out.size)⟩
theorem parse_gen (s : ByteArray) (w : World) (hs : s.size ≤ maxLen) (hd : isDec (letters s) = true) (x : Nat) (hS : ∀ w3, Calls Tryd.prog 55 #[.string s] w3 (RetNat w3 x)) : Calls Tryd.prog 24 #[.string s] w (OutN w x 0) := by
  have hmf : ∀ (fn : Fn) (first cap : Array Value) (w : World), (Instr.makeFunc fn first cap).run Tryd.prog w = .ok (.func fn first cap) w := fun _ _ _ _ => rfl
  have hb2 : Below w.heap.size w (w.alloc (.cells #[.string s] 9)) := (Below.refl _ _).alloc (Nat.le_refl _) _
  have hb3 : Below w.heap.size w ((w.alloc (.cells #[.string s] 9)).alloc (.cells #[.int .i64 0] 29)) := hb2.alloc (by simp) _
  have hcc : ((w.alloc (.cells #[.string s] 9)).alloc (.cells #[.int .i64 0] 29)).cell? ⟨w.heap.size, 0, none⟩ = some (.string s) := by simp [go_sem]
  have hat := attemptParse_ok ⟨w.heap.size, 0, none⟩ x (w.alloc (.cells #[.string s] 9)) (closParse_any w.heap.size s _ (by simp; omega) hcc hs hd _ (plain_ret _ _) (hS _))
  have H := Bx.mk hat
  clear hat hS hs hd hb3
  have HB := Bx.mk hb2
  clear hb2
  go_enter Tryd.func24, Tryd.ntmps24
  go_wp2_with fail
  refine H.out.mono ?_
  rintro e w3 ⟨v, rfl, hr, hb⟩
  go_wp2
  go_ret2
  exact ⟨v, rfl, hr, HB.out.trans (hb.mono HB.out.size)⟩
theorem parse_gen_raised (s : ByteArray) (w : World) (hs : s.size ≤ maxLen) (hd : isDec (letters s) = true) (c : Int) (hS : ∀ w3, Calls Tryd.prog 55 #[.string s] w3 (Raised w3 c)) : Calls Tryd.prog 24 #[.string s] w (OutN w 0 c) := by
  have hmf : ∀ (fn : Fn) (first cap : Array Value) (w : World), (Instr.makeFunc fn first cap).run Tryd.prog w = .ok (.func fn first cap) w := fun _ _ _ _ => rfl
  have hb2 : Below w.heap.size w (w.alloc (.cells #[.string s] 9)) := (Below.refl _ _).alloc (Nat.le_refl _) _
  have hb3 : Below w.heap.size w ((w.alloc (.cells #[.string s] 9)).alloc (.cells #[.int .i64 0] 29)) := hb2.alloc (by simp) _
  have hcc : ((w.alloc (.cells #[.string s] 9)).alloc (.cells #[.int .i64 0] 29)).cell? ⟨w.heap.size, 0, none⟩ = some (.string s) := by simp [go_sem]
  have hat := attemptParse_raised ⟨w.heap.size, 0, none⟩ c (w.alloc (.cells #[.string s] 9)) (closParse_any w.heap.size s _ (by simp; omega) hcc hs hd _ (plain_raised _ _) (hS _))
  have H := Bx.mk hat
  clear hat hS hs hd hb3
  have HB := Bx.mk hb2
  clear hb2
  go_enter Tryd.func24, Tryd.ntmps24
  go_wp2_with fail
  refine H.out.mono ?_
  rintro e w3 ⟨rfl, hb⟩
  go_wp2
  go_ret2
  exact ⟨_, rfl, by rw [limbs_zero]; exact Rd.nil _, HB.out.trans (hb.mono HB.out.size)⟩
end Go.Proofs.YthfpkjeobdajiaaDoor
namespace Go.Proofs.YthfpkjeobdajiaaDoor
open Go.RowKit M
/-- Two numbers and an error code. -/
def OutD (w : World) (q r : Nat) (c : Int) (e : Ending) (w' : World) : Prop := ∃ v1 v2, e = .returned (.tuple #[v1, v2, .int .i64 c]) ∧ Rd w' v1 (limbs q) ∧ Rd w' v2 (limbs r) ∧ Below w.heap.size w w'
theorem div_gen (ao bo : Option Addr) (A B : List Int) (n m ca cb : Nat) (w : World) (hn : A.length = n) (hm : B.length = m) (hca : CellsK .u32 w ao A) (hcb : CellsK .u32 w bo B) (hA : isNat A = true) (hB : isNat B = true) (q r : Nat)
    (hS : ∀ w3, Below w.heap.size w w3 → Calls Tryd.prog 44 #[.slice ao n ca, .slice bo m cb] w3 (RetPair w3 q r)) : Calls Tryd.prog 16 #[.slice ao n ca, .slice bo m cb] w (OutD w q r 0) := by
  have hmf : ∀ (fn : Fn) (first cap : Array Value) (w : World), (Instr.makeFunc fn first cap).run Tryd.prog w = .ok (.func fn first cap) w := fun _ _ _ _ => rfl
  have hb2 : Below w.heap.size w ((w.alloc (.cells #[.slice ao n ca] 23)).alloc (.cells #[.slice bo m cb] 23)) := ((Below.refl _ _).alloc (Nat.le_refl _) _).alloc (by simp) _
  have hb4 : Below w.heap.size w (((((w.alloc (.cells #[.slice ao n ca] 23)).alloc (.cells #[.slice bo m cb] 23)).alloc (.cells #[.slice none 0 0, .slice none 0 0] 51)).alloc (.cells #[.int .i64 0] 29))) := (hb2.alloc (by simp; omega) _).alloc (by simp; omega) _
  have c1 : Cap ((w.alloc (.cells #[.slice ao n ca] 23)).alloc (.cells #[.slice bo m cb] 23)) w.heap.size ao A n ca := ⟨by simp; omega, by simp [go_sem], hn, hca.keep hb2⟩
  have c2 : Cap ((w.alloc (.cells #[.slice ao n ca] 23)).alloc (.cells #[.slice bo m cb] 23)) (w.heap.size + 1) bo B m cb := ⟨by simp, by simp [go_sem], hm, hcb.keep hb2⟩
  have hat := attemptDiv_ok ⟨w.heap.size, 0, none⟩ ⟨w.heap.size + 1, 0, none⟩ q r _ (closDiv_ok w.heap.size (w.heap.size + 1) ao bo A B n m ca cb q r _ ((c1.alloc _).alloc _) ((c2.alloc _).alloc _) hA hB (fun w1 h => hS w1 (hb4.trans (h.mono hb4.size))))
  have H := Bx.mk hat
  clear hat hS hca hcb hA hB hn hm c1 c2 hb4
  have HB := Bx.mk hb2
  clear hb2
  go_enter Tryd.func16, Tryd.ntmps16
  go_wp2_with fail
  refine H.out.mono ?_
  rintro e w3 ⟨v1, v2, rfl, hr1, hr2, hb⟩
  obtain ⟨s1, n1, rfl, _, _, _⟩ := hr1.shape
  obtain ⟨s2, n2, rfl, _, _, _⟩ := hr2.shape
  have G := fun nq => below_drewN ((Below.refl w3.heap.size w3).alloc (Nat.le_refl _) (.cells #[.slice s1 (limbs q).length n1, .slice s2 (limbs r).length n2] 51)) nq
  have G1 := Bx.mk fun nq => hr1.keep (G nq)
  have G2 := Bx.mk fun nq => hr2.keep (G nq)
  have G5 := Bx.mk fun nq => (HB.out.trans (hb.mono HB.out.size)).trans ((G nq).mono (by have := hb.size; have := HB.out.size; omega))
  clear G hr1 hr2 HB H hb
  go_wp2_with fail
  go_quiet (fail)
  go_wp2
  go_ret3
  exact ⟨_, _, rfl, G1.out _, G2.out _, G5.out _⟩
theorem div_gen_zero (ao bo : Option Addr) (A : List Int) (n ca cb : Nat) (w : World) (hn : A.length = n) (hca : CellsK .u32 w ao A) (hA : isNat A = true) :
    Calls Tryd.prog 16 #[.slice ao n ca, .slice bo 0 cb] w (OutD w 0 0 7) := by
  have hmf : ∀ (fn : Fn) (first cap : Array Value) (w : World), (Instr.makeFunc fn first cap).run Tryd.prog w = .ok (.func fn first cap) w := fun _ _ _ _ => rfl
  have hb2 : Below w.heap.size w ((w.alloc (.cells #[.slice ao n ca] 23)).alloc (.cells #[.slice bo 0 cb] 23)) := ((Below.refl _ _).alloc (Nat.le_refl _) _).alloc (by simp) _
  have c1 : Cap ((w.alloc (.cells #[.slice ao n ca] 23)).alloc (.cells #[.slice bo 0 cb] 23)) w.heap.size ao A n ca := ⟨by simp; omega, by simp [go_sem], hn, hca.keep hb2⟩
  have c2 : Cap ((w.alloc (.cells #[.slice ao n ca] 23)).alloc (.cells #[.slice bo 0 cb] 23)) (w.heap.size + 1) bo [] 0 cb := ⟨by simp, by simp [go_sem], rfl, CellsK.nil⟩
  have hat := attemptDiv_raised ⟨w.heap.size, 0, none⟩ ⟨w.heap.size + 1, 0, none⟩ 7 _ (closDiv_zero w.heap.size (w.heap.size + 1) ao bo A n ca cb _ ((c1.alloc _).alloc _) ((c2.alloc _).alloc _) hA)
  have H := Bx.mk hat
  clear hat hca hA hn c1 c2
  have HB := Bx.mk hb2
  clear hb2
  go_enter Tryd.func16, Tryd.ntmps16
  go_wp2_with fail
  refine H.out.mono ?_
  rintro e w3 ⟨rfl, hb⟩
  have G := fun nq => below_drewN ((Below.refl w3.heap.size w3).alloc (Nat.le_refl _) (.cells #[.slice none 0 0, .slice none 0 0] 51)) nq
  have G5 := Bx.mk fun nq => (HB.out.trans (hb.mono HB.out.size)).trans ((G nq).mono (by have := hb.size; have := HB.out.size; omega))
  clear G HB H hb
  go_wp2_with fail
  go_quiet (fail)
  go_wp2
  go_ret3
  exact ⟨_, _, rfl, by rw [limbs_zero]; exact Rd.nil _, by rw [limbs_zero]; exact Rd.nil _, G5.out _⟩
end Go.Proofs.YthfpkjeobdajiaaDoor
namespace Go.Proofs.YthfpkjeobdajiaaDoor
open Go.RowKit M
/-- A number is in bounds. -/
structure Fits (a : Nat) : Prop where
  lt : (a : Int) < pw 640
structure Over (a : Nat) : Prop where
  le : pw 640 ≤ (a : Int)
theorem fits_or (a : Nat) : Fits a ∨ Over a := by
  by_cases h : (a : Int) < pw 640
  · exact Or.inl ⟨h⟩
  · exact Or.inr ⟨by omega⟩
theorem Fits.mono {a b : Nat} (h : Fits b) (hab : a ≤ b) : Fits a := ⟨by have := h.lt; omega⟩
theorem Over.mono {a b : Nat} (h : Over a) (hab : a ≤ b) : Over b := ⟨by have := h.le; omega⟩
theorem Fits.not {a : Nat} (h : Fits a) (k : Over a) : False := by have := h.lt; have := k.le; omega
/-- A value that reads as a number. -/
structure Nm (w : World) (v : Value) (a : Nat) : Prop where
  fits : Fits a
  rd : Rd w v (limbs a)
theorem Nm.keep {w w' : World} {v : Value} {a : Nat} (h : Nm w v a) (hb : Below w.heap.size w w') : Nm w' v a := ⟨h.fits, h.rd.keep hb⟩
theorem Nm.nil (w : World) : Nm w (.slice none 0 0) 0 := ⟨⟨by have := pw_pos 640; simpa using this⟩, by rw [limbs_zero]; exact Rd.nil w⟩
theorem Nm.shape {w : World} {v : Value} {a : Nat} (h : Nm w v a) : ∃ ao cap, v = .slice ao (limbs a).length cap ∧ CellsK .u32 w ao (limbs a) :=
  let ⟨ao, cap, e, _, _, h3⟩ := h.rd.shape; ⟨ao, cap, e, h3⟩
/-- All these values read as numbers. -/
def Live (w : World) (L : List (Value × Nat)) : Prop := ∀ p ∈ L, Nm w p.1 p.2
theorem Live.keep {w w' : World} {L : List (Value × Nat)} (h : Live w L) (hb : Below w.heap.size w w') : Live w' L := fun p hp => (h p hp).keep hb
theorem Live.cons {w : World} {v : Value} {a : Nat} {L : List (Value × Nat)} (h : Nm w v a) (hL : Live w L) : Live w ((v, a) :: L) := fun p hp => by
  rcases List.mem_cons.1 hp with e | e
  · subst e; exact h
  · exact hL p e
/-- What a call with a number and a code as its results leaves. -/
def Step (w : World) (L : List (Value × Nat)) (s : Nat) (c : Int) (e : Ending) (w' : World) : Prop := ∃ v, e = .returned (.tuple #[v, .int .i64 c]) ∧ Live w' ((v, s) :: L) ∧ Below w.heap.size w w'
theorem Step.of {w : World} {L : List (Value × Nat)} {s : Nat} {c : Int} {e : Ending} {w' : World} (hL : Live w L) (hs : Fits s) (h : OutN w s c e w') : Step w L s c e w' :=
  let ⟨v, he, hr, hb⟩ := h; ⟨v, he, (hL.keep hb).cons ⟨hs, hr⟩, hb⟩
theorem fits_zero : Fits 0 := (Nm.nil default).fits
section
variable {w : World} {L : List (Value × Nat)} {va vb : Value} {a b : Nat}
theorem add_ok (hL : Live w L) (ha : (va, a) ∈ L) (hb : (vb, b) ∈ L) (hs : Fits (a + b)) : Calls Tryd.prog 10 #[va, vb] w (Step w L (a + b) 0) := by
  have na : Nm w va a := hL _ ha
  have nb : Nm w vb b := hL _ hb
  obtain ⟨ao, ca, e1, hca⟩ := na.shape
  obtain ⟨bo, cb, e2, hcb⟩ := nb.shape
  subst e1 e2
  refine (add_gen ao bo _ _ _ _ ca cb w rfl rfl hca hcb (isNat_limbs na.fits.lt) (isNat_limbs nb.fits.lt) (a + b) fun w3 h => ?_).mono fun _ _ h => Step.of hL hs h
  have e : val (limbs a) + val (limbs b) = ((a + b : Nat) : Int) := by rw [val_limbs, val_limbs]; push_cast; rfl
  refine sum_any ao bo _ _ _ _ ca cb w3 _ rfl rfl (by have := limbs_length_le.2 na.fits.lt; omega) (by have := limbs_length_le.2 nb.fits.lt; omega) rfl (ok_limbs a) (ok_limbs b) (hca.keep h) (hcb.keep h) _ (fun _ _ _ h => by rw [e, Int.toNat_natCast] at h; exact h) (fun h => by rw [e] at h; exact absurd ⟨h⟩ (fun k => hs.not k))
theorem add_over (hL : Live w L) (ha : (va, a) ∈ L) (hb : (vb, b) ∈ L) (hs : Over (a + b)) : Calls Tryd.prog 10 #[va, vb] w (Step w L 0 2) := by
  have na : Nm w va a := hL _ ha
  have nb : Nm w vb b := hL _ hb
  obtain ⟨ao, ca, e1, hca⟩ := na.shape
  obtain ⟨bo, cb, e2, hcb⟩ := nb.shape
  subst e1 e2
  refine (add_gen_raised ao bo _ _ _ _ ca cb w rfl rfl hca hcb (isNat_limbs na.fits.lt) (isNat_limbs nb.fits.lt) 2 fun w3 h => ?_).mono fun _ _ h => Step.of hL fits_zero h
  have e : val (limbs a) + val (limbs b) = ((a + b : Nat) : Int) := by rw [val_limbs, val_limbs]; push_cast; rfl
  refine sum_any ao bo _ _ _ _ ca cb w3 _ rfl rfl (by have := limbs_length_le.2 na.fits.lt; omega) (by have := limbs_length_le.2 nb.fits.lt; omega) rfl (ok_limbs a) (ok_limbs b) (hca.keep h) (hcb.keep h) _ (fun h => by rw [e] at h; have := hs.le; omega) (fun _ _ _ h => h)
theorem sub_ok (hL : Live w L) (ha : (va, a) ∈ L) (hb : (vb, b) ∈ L) (hs : b ≤ a) : Calls Tryd.prog 12 #[va, vb] w (Step w L (a - b) 0) := by
  have na : Nm w va a := hL _ ha
  have nb : Nm w vb b := hL _ hb
  obtain ⟨ao, ca, e1, hca⟩ := na.shape
  obtain ⟨bo, cb, e2, hcb⟩ := nb.shape
  subst e1 e2
  refine (sub_gen ao bo _ _ _ _ ca cb w rfl rfl hca hcb (isNat_limbs na.fits.lt) (isNat_limbs nb.fits.lt) (a - b) fun w3 h => ?_).mono fun _ _ h => Step.of hL (na.fits.mono (Nat.sub_le _ _)) h
  have e : (val (limbs a) - val (limbs b)).toNat = a - b := by rw [val_limbs, val_limbs]; omega
  rw [← e]
  exact difference_ge ao bo _ _ _ _ ca cb w3 rfl rfl (by have := limbs_length_le.2 na.fits.lt; omega) (by have := limbs_length_le.2 nb.fits.lt; omega) (ok_limbs a) (ok_limbs b) (limbs_last a) (limbs_last b) (hca.keep h) (hcb.keep h) (by rw [val_limbs, val_limbs]; omega)
theorem sub_under (hL : Live w L) (ha : (va, a) ∈ L) (hb : (vb, b) ∈ L) (hs : a < b) : Calls Tryd.prog 12 #[va, vb] w (Step w L 0 3) := by
  have na : Nm w va a := hL _ ha
  have nb : Nm w vb b := hL _ hb
  obtain ⟨ao, ca, e1, hca⟩ := na.shape
  obtain ⟨bo, cb, e2, hcb⟩ := nb.shape
  subst e1 e2
  refine (sub_gen_raised ao bo _ _ _ _ ca cb w rfl rfl hca hcb (isNat_limbs na.fits.lt) (isNat_limbs nb.fits.lt) 3 fun w3 h => ?_).mono fun _ _ h => Step.of hL fits_zero h
  exact difference_lt ao bo _ _ _ _ ca cb w3 rfl rfl (by have := limbs_length_le.2 na.fits.lt; omega) (by have := limbs_length_le.2 nb.fits.lt; omega) (ok_limbs a) (ok_limbs b) (limbs_last a) (limbs_last b) (hca.keep h) (hcb.keep h) (by rw [val_limbs, val_limbs]; omega)
theorem mul_ok (hL : Live w L) (ha : (va, a) ∈ L) (hb : (vb, b) ∈ L) (hs : Fits (a * b)) : Calls Tryd.prog 14 #[va, vb] w (Step w L (a * b) 0) := by
  have na : Nm w va a := hL _ ha
  have nb : Nm w vb b := hL _ hb
  obtain ⟨ao, ca, e1, hca⟩ := na.shape
  obtain ⟨bo, cb, e2, hcb⟩ := nb.shape
  subst e1 e2
  exact (mul_gen ao bo _ _ _ _ ca cb w rfl rfl hca hcb (isNat_limbs na.fits.lt) (isNat_limbs nb.fits.lt) (a * b) fun w3 h => product_ok ao bo a b _ _ ca cb w3 rfl rfl na.fits.lt nb.fits.lt (hca.keep h) (hcb.keep h) hs.lt).mono fun _ _ h => Step.of hL hs h
theorem mul_big (hL : Live w L) (ha : (va, a) ∈ L) (hb : (vb, b) ∈ L) (hs : Over (a * b)) : Calls Tryd.prog 14 #[va, vb] w (Step w L 0 2) := by
  have na : Nm w va a := hL _ ha
  have nb : Nm w vb b := hL _ hb
  obtain ⟨ao, ca, e1, hca⟩ := na.shape
  obtain ⟨bo, cb, e2, hcb⟩ := nb.shape
  subst e1 e2
  exact (mul_gen_raised ao bo _ _ _ _ ca cb w rfl rfl hca hcb (isNat_limbs na.fits.lt) (isNat_limbs nb.fits.lt) 2 fun w3 h => product_over ao bo a b _ _ ca cb w3 rfl rfl na.fits.lt nb.fits.lt (hca.keep h) (hcb.keep h) hs.le).mono fun _ _ h => Step.of hL fits_zero h
theorem cmp_ok (hL : Live w L) (ha : (va, a) ∈ L) (hb : (vb, b) ∈ L) : Calls Tryd.prog 20 #[va, vb] w fun e w' => e = .returned (.tuple #[.int .i64 (cmpI a b), .int .i64 0]) ∧ Live w' L ∧ Below w.heap.size w w' := by
  have na : Nm w va a := hL _ ha
  have nb : Nm w vb b := hL _ hb
  obtain ⟨ao, ca, e1, hca⟩ := na.shape
  obtain ⟨bo, cb, e2, hcb⟩ := nb.shape
  subst e1 e2
  refine (cmp_gen ao bo _ _ _ _ ca cb w rfl rfl hca hcb (isNat_limbs na.fits.lt) (isNat_limbs nb.fits.lt) (cmpI a b) fun w3 h => ?_).mono fun _ _ h => ⟨h.1, hL.keep h.2, h.2⟩
  have := compare_any ao bo _ _ _ _ ca cb w3 rfl rfl (by have := limbs_length_le.2 na.fits.lt; omega) (by have := limbs_length_le.2 nb.fits.lt; omega) (ok_limbs a) (ok_limbs b) (limbs_last a) (limbs_last b) (hca.keep h) (hcb.keep h)
  rw [val_limbs, val_limbs] at this
  exact this
/-- What Div leaves. -/
def StepD (w : World) (L : List (Value × Nat)) (q r : Nat) (c : Int) (e : Ending) (w' : World) : Prop := ∃ v1 v2, e = .returned (.tuple #[v1, v2, .int .i64 c]) ∧ Live w' ((v1, q) :: (v2, r) :: L) ∧ Below w.heap.size w w'
theorem StepD.of {q r : Nat} {c : Int} {e : Ending} {w' : World} (hL : Live w L) (hq : Fits q) (hr : Fits r) (h : OutD w q r c e w') : StepD w L q r c e w' :=
  let ⟨v1, v2, he, h1, h2, hb⟩ := h; ⟨v1, v2, he, ((hL.keep hb).cons ⟨hr, h2⟩).cons ⟨hq, h1⟩, hb⟩
theorem div_ok (hL : Live w L) (ha : (va, a) ∈ L) (hb : (vb, b) ∈ L) (h0 : b ≠ 0) : Calls Tryd.prog 16 #[va, vb] w (StepD w L (a / b) (a % b) 0) := by
  have na : Nm w va a := hL _ ha
  have nb : Nm w vb b := hL _ hb
  obtain ⟨ao, ca, e1, hca⟩ := na.shape
  obtain ⟨bo, cb, e2, hcb⟩ := nb.shape
  subst e1 e2
  exact (div_gen ao bo _ _ _ _ ca cb w rfl rfl hca hcb (isNat_limbs na.fits.lt) (isNat_limbs nb.fits.lt) (a / b) (a % b) fun w3 h => quotient_any ao bo a b _ _ ca cb w3 rfl rfl na.fits.lt nb.fits.lt h0 (hca.keep h) (hcb.keep h)).mono fun _ _ h => StepD.of hL (na.fits.mono (Nat.div_le_self _ _)) (na.fits.mono (Nat.mod_le _ _)) h
theorem div_zero (hL : Live w L) (ha : (va, a) ∈ L) (hb : (vb, 0) ∈ L) : Calls Tryd.prog 16 #[va, vb] w (StepD w L 0 0 7) := by
  have na : Nm w va a := hL _ ha
  have nb : Nm w vb 0 := hL _ hb
  obtain ⟨ao, ca, e1, hca⟩ := na.shape
  obtain ⟨bo, cb, e2, hcb⟩ := nb.shape
  rw [limbs_zero] at e2
  subst e1 e2
  exact (div_gen_zero ao bo _ _ ca cb w rfl hca (isNat_limbs na.fits.lt)).mono fun _ _ h => StepD.of hL fits_zero fits_zero h
theorem pow_ok (x : Nat) (hL : Live w L) (ha : (va, a) ∈ L) (hx : x < 2 ^ 63) (hs : Fits (a ^ x)) : Calls Tryd.prog 18 #[va, .int .i64 x] w (Step w L (a ^ x) 0) := by
  have na : Nm w va a := hL _ ha
  obtain ⟨ao, ca, e1, hca⟩ := na.shape
  subst e1
  refine (pow_gen ao _ _ ca x w rfl hca (isNat_limbs na.fits.lt) (a ^ x) fun w3 h => ?_).mono fun _ _ h => Step.of hL hs h
  exact power_any ao a x _ ca w3 na.fits.lt rfl hx (hca.keep h) _ (fun _ _ _ h => h) (fun h => absurd ⟨h⟩ (fun k => hs.not k))
theorem pow_over (x : Nat) (hL : Live w L) (ha : (va, a) ∈ L) (hx : x < 2 ^ 63) (hs : Over (a ^ x)) : Calls Tryd.prog 18 #[va, .int .i64 x] w (Step w L 0 2) := by
  have na : Nm w va a := hL _ ha
  obtain ⟨ao, ca, e1, hca⟩ := na.shape
  subst e1
  refine (pow_gen_raised ao _ _ ca x w rfl hca (isNat_limbs na.fits.lt) 2 fun w3 h => ?_).mono fun _ _ h => Step.of hL fits_zero h
  exact power_any ao a x _ ca w3 na.fits.lt rfl hx (hca.keep h) _ (fun h => absurd hs (fun k => Fits.not ⟨h⟩ k)) (fun _ _ _ h => h)
/-- The text of a number. -/
def tx (a : Nat) : ByteArray := strOfNums (text a)
theorem text_ok (hL : Live w L) (ha : (va, a) ∈ L) : Calls Tryd.prog 22 #[va] w fun e w' => e = .returned (.tuple #[.string (tx a), .int .i64 0]) ∧ Live w' L ∧ Below w.heap.size w w' := by
  have na : Nm w va a := hL _ ha
  obtain ⟨ao, ca, e1, hca⟩ := na.shape
  subst e1
  refine (text_gen ao _ _ ca w rfl hca (isNat_limbs na.fits.lt) (tx a) fun w3 h => ?_).mono fun _ _ h => ⟨h.1, hL.keep h.2, h.2⟩
  by_cases h0 : a = 0
  · subst h0
    have e : (limbs 0).length = 0 := by rw [limbs_zero]; rfl
    rw [e]
    refine (decimal_zero ao ca w3).mono fun _ _ h => ⟨by rw [h.1]; rfl, by rw [h.2]; exact Below.refl _ _⟩
  · have et : tx a = strOfNums (dig a).reverse := by simp [tx, text, h0]
    rw [et]
    exact decimal_pos ao a _ ca w3 h0 rfl na.fits.lt (hca.keep h)
theorem parse_ok (s : ByteArray) (hL : Live w L) (hsz : s.size ≤ maxLen) (hd : isDec (letters s) = true) (hs : Fits (dval (letters s))) : Calls Tryd.prog 24 #[.string s] w (Step w L (dval (letters s)) 0) := by
  have hr : ∀ x ∈ letters s, 48 ≤ x ∧ x ≤ 57 := by
    simp only [isDec, Bool.and_eq_true, List.all_eq_true, decide_eq_true_eq] at hd
    exact fun x hx => hd.1.2 x hx
  exact (parse_gen s w hsz hd _ fun w3 => number_any s w3 hsz hr _ (fun _ _ _ h => h) (fun h => absurd ⟨h⟩ (fun k => hs.not k))).mono fun _ _ h => Step.of hL hs h
theorem parse_over (s : ByteArray) (hL : Live w L) (hsz : s.size ≤ maxLen) (hd : isDec (letters s) = true) (hs : Over (dval (letters s))) : Calls Tryd.prog 24 #[.string s] w (Step w L 0 2) := by
  have hr : ∀ x ∈ letters s, 48 ≤ x ∧ x ≤ 57 := by
    simp only [isDec, Bool.and_eq_true, List.all_eq_true, decide_eq_true_eq] at hd
    exact fun x hx => hd.1.2 x hx
  exact (parse_gen_raised s w hsz hd 2 fun w3 => number_any s w3 hsz hr _ (fun h => absurd hs (fun k => Fits.not ⟨h⟩ k)) (fun _ _ _ h => h)).mono fun _ _ h => Step.of hL fits_zero h
theorem parse_not (s : ByteArray) (hL : Live w L) (hsz : s.size ≤ maxLen) (hd : isDec (letters s) = false) : Calls Tryd.prog 24 #[.string s] w (Step w L 0 8) :=
  (parse_bad s w hsz hd).mono fun _ _ h => Step.of hL fits_zero h
theorem fits_u64 {x : Nat} (hx : x < 18446744073709551616) : Fits x := by
  refine ⟨?_⟩
  have h2 : pw 2 = 18446744073709551616 := by simp [pw]
  have := pw_le (show 2 ≤ 640 by omega)
  omega
theorem make_ok (x : Nat) (hL : Live w L) (hx : x < 18446744073709551616) : Calls Tryd.prog 8 #[.int .u64 x] w fun e w' => ∃ v, e = .returned v ∧ Live w' ((v, x) :: L) ∧ Below w.heap.size w w' :=
  (make_any x w hx).mono fun _ _ ⟨v, he, hr, hb⟩ => ⟨v, he, (hL.keep hb).cons ⟨fits_u64 hx, hr⟩, hb⟩
theorem valid_ok (hL : Live w L) (ha : (va, a) ∈ L) : Calls Tryd.prog 5 #[va] w fun e w' => e = .returned (.bool true) ∧ w = w' := by
  have na : Nm w va a := hL _ ha
  obtain ⟨ao, ca, e1, hca⟩ := na.shape
  subst e1
  refine (valid_any ao _ _ ca w rfl hca).mono fun _ _ h => ⟨by rw [h.1, isNat_limbs na.fits.lt], h.2⟩
end
end Go.Proofs.YthfpkjeobdajiaaDoor
namespace Go.Proofs.YthfpkjeobdajiaaDoor
open Go.RowKit M
theorem drop_eq_step {A B : List Int} {k : Nat} (h : A.take k = B.take k) (hA : k < A.length) (hB : k < B.length) (e : A.getD k 0 = B.getD k 0) : A.take (k + 1) = B.take (k + 1) := by
  rw [take_snoc A k hA, take_snoc B k hB, h, e]
theorem same_core (ao bo : Option Addr) (A B : List Int) (n ca cb : Nat) (w : World) (hn : A.length = n) (hm : B.length = n) (hn6 : n ≤ 700) (hca : CellsK .u32 w ao A) (hcb : CellsK .u32 w bo B) :
    Calls Tryd.prog 7 #[.slice ao n ca, .slice bo n cb] w fun e w' => e = .returned (.bool (decide (A = B))) ∧ Quiet w w' := by
  go_enter Tryd.func7, Tryd.ntmps7
  go_wp2
  go_loopw [5] (fun v wr => ∃ k : Nat, k ≤ n ∧ v = .int .i64 (k : Int) ∧ Hid (A.take k = B.take k) ∧ Quiet w wr) (fun v _ => (n - (intOf v).toNat))
  case atStart => exact ⟨0, Nat.zero_le _, by go_num, by show _ = _; simp, Quiet.refl w⟩
  case round =>
    obtain ⟨k, hk, rfl, HD, hq⟩ := hrel
    by_cases h0 : k = n
    · subst h0
      have e : A = B := by have := HD.out; rwa [List.take_of_length_le (by omega), List.take_of_length_le (by omega)] at this
      have HE := Bx.mk e
      clear e HD
      go_wp2
      go_ret
      exact ⟨by simp [HE.out], hq⟩
    · obtain ⟨a, rfl, _, hac⟩ := hca.keep (hq.below _) (by intro e; subst e; simp at hn; omega)
      obtain ⟨b, rfl, _, hbc⟩ := hcb.keep (hq.below _) (by intro e; subst e; simp at hm; omega)
      have hca1 := hac k (by omega)
      have hcb1 := hbc k (by omega)
      clear hac hbc
      obtain ⟨x, hx⟩ : ∃ x, x = A.getD k 0 := ⟨_, rfl⟩
      obtain ⟨y, hy⟩ : ∃ y, y = B.getD k 0 := ⟨_, rfl⟩
      rw [← hx] at hca1
      rw [← hy] at hcb1
      have HX := Bx.mk hx
      have HY := Bx.mk hy
      clear hx hy
      have hb2 : (k : Int) < (n : Int) := by omega
      by_cases hxy : x = y
      · have ht : (x != y) = false := by simp [hxy]
        have HXY := Bx.mk hxy
        clear hxy
        go_wp2_with fail
        go_quiet (fail)
        go_wp2
        refine ⟨⟨k + 1, by omega, by go_num, ?_, hq.drewN _⟩, by simp [intOf]; omega⟩
        show _ = _
        exact drop_eq_step HD.out (by omega) (by omega) (by rw [← HX.out, ← HY.out]; exact HXY.out)
      · have ht : (x != y) = true := by simp [hxy]
        have HXY := Bx.mk hxy
        clear hxy
        go_wp2_with fail
        go_quiet (fail)
        go_wp2
        go_ret
        refine ⟨?_, hq.drewN _⟩
        have hne : A ≠ B := fun e => HXY.out (by rw [HX.out, HY.out, e])
        simp [hne]
theorem same_any (ao bo : Option Addr) (A B : List Int) (n m ca cb : Nat) (w : World) (hn : A.length = n) (hm : B.length = m) (hn6 : n ≤ 700) (hm6 : m ≤ 700) (hca : CellsK .u32 w ao A) (hcb : CellsK .u32 w bo B) :
    Calls Tryd.prog 7 #[.slice ao n ca, .slice bo m cb] w fun e w' => e = .returned (.bool (decide (A = B))) ∧ Quiet w w' := by
  by_cases h : n = m
  · subst h; exact same_core ao bo A B n ca cb w hn hm hn6 hca hcb
  · have hne : A ≠ B := fun e => h (by rw [← hn, ← hm, e])
    have HNE := Bx.mk hne
    have hz : ((n : Int) == (m : Int)) = false := beq_eq_false_iff_ne.2 (by omega)
    have hz' : ((n : Int) != (m : Int)) = true := by simp; omega
    clear hne h hn hm hca hcb
    go_enter Tryd.func7, Tryd.ntmps7
    go_wp2
    go_ret
    exact ⟨by simp [HNE.out], Quiet.refl _⟩
theorem same_ok {w : World} {L : List (Value × Nat)} {va vb : Value} {a b : Nat} (hL : Live w L) (ha : (va, a) ∈ L) (hb : (vb, b) ∈ L) :
    Calls Tryd.prog 7 #[va, vb] w fun e w' => e = .returned (.bool (decide (a = b))) ∧ Live w' L ∧ Below w.heap.size w w' := by
  have na : Nm w va a := hL _ ha
  have nb : Nm w vb b := hL _ hb
  obtain ⟨ao, ca, e1, hca⟩ := na.shape
  obtain ⟨bo, cb, e2, hcb⟩ := nb.shape
  subst e1 e2
  refine (same_any ao bo _ _ _ _ ca cb w rfl rfl (by have := limbs_length_le.2 na.fits.lt; omega) (by have := limbs_length_le.2 nb.fits.lt; omega) hca hcb).mono fun _ _ h => ⟨?_, hL.keep (h.2.below _), h.2.below _⟩
  rw [h.1]
  congr 2
  exact decide_eq_decide.2 ⟨limbs_inj, fun e => by rw [e]⟩
end Go.Proofs.YthfpkjeobdajiaaDoor
namespace Go.Proofs.YthfpkjeobdajiaaDoor
open Go.RowKit M
/-- Where a law stands: what it has kept since its start, and the numbers that it holds. -/
structure St (w0 w : World) (L : List (Value × Nat)) : Prop where
  below : Below w0.heap.size w0 w
  live : Live w L
theorem St.next {w0 w w' : World} {L L' : List (Value × Nat)} (S : St w0 w L) (hl : Live w' L') (hb : Below w.heap.size w w') : St w0 w' L' :=
  ⟨S.below.trans (hb.mono S.below.size), hl⟩
theorem St.on {w0 w w' : World} {L : List (Value × Nat)} (S : St w0 w L) (hb : Below w.heap.size w w') : St w0 w' L := S.next (S.live.keep hb) hb
theorem nm_lit (w : World) (xs : List Int) (a : Nat) (ho : Ok xs) (hl : xs.getLast? ≠ some 0) (he : val xs = a) (hlen : xs.length ≤ 640) :
    Nm (w.alloc (.cells (xs.map (Value.int .u32)).toArray 41)) (.slice (some ⟨w.heap.size, 0, none⟩) xs.length xs.length) a := by
  have e : limbs a = xs := by have := limbs_val ho hl; rwa [he, Int.toNat_natCast] at this
  refine ⟨⟨limbs_length_le.1 (by rw [e]; exact hlen)⟩, ⟨ok_limbs a, ?_⟩⟩
  rw [e]
  refine ⟨some ⟨w.heap.size, 0, none⟩, xs.length, rfl, Nat.le_refl _, by unfold maxLen; omega, fun _ => ⟨_, rfl, by simp, fun i hi => ?_⟩⟩
  have hadd : (⟨w.heap.size, 0, none⟩ : Addr).add i = ⟨w.heap.size, i, none⟩ := by unfold Addr.add; split <;> simp_all
  rw [hadd]
  have hg : (w.alloc (.cells (xs.map (Value.int .u32)).toArray 41)).heap[w.heap.size]? = some (.cells (xs.map (Value.int .u32)).toArray 41 (0, 0)) := Array.getElem?_push_size
  simp only [World.cell?, hg]
  simp [List.getD, hi]
theorem St.lit {w0 w : World} {L : List (Value × Nat)} (S : St w0 w L) (xs : List Int) (a : Nat) (ho : Ok xs) (hl : xs.getLast? ≠ some 0) (he : val xs = a) (hlen : xs.length ≤ 640) :
    St w0 (w.alloc (.cells (xs.map (Value.int .u32)).toArray 41)) ((.slice (some ⟨w.heap.size, 0, none⟩) xs.length xs.length, a) :: L) :=
  ⟨S.below.alloc S.below.size _, (S.live.keep ((Below.refl _ _).alloc (Nat.le_refl _) _)).cons (nm_lit w xs a ho hl he hlen)⟩
theorem tx_lit {n : Nat} (l : List Int) (h : isDec l = true) (e : dval l = n) : tx n = strOfNums l := by unfold tx; rw [← e, text_dval h]
section
variable {w0 w : World} {L : List (Value × Nat)} {va vb : Value} {a b : Nat}
theorem same_yes (hL : Live w L) (ha : (va, a) ∈ L) (hb : (vb, b) ∈ L) (h : a = b) : Calls Tryd.prog 7 #[va, vb] w fun e w' => e = .returned (.bool true) ∧ Live w' L ∧ Below w.heap.size w w' := by
  have := same_ok hL ha hb
  rwa [decide_eq_true h] at this
theorem same_no (hL : Live w L) (ha : (va, a) ∈ L) (hb : (vb, b) ∈ L) (h : a ≠ b) : Calls Tryd.prog 7 #[va, vb] w fun e w' => e = .returned (.bool false) ∧ Live w' L ∧ Below w.heap.size w w' := by
  have := same_ok hL ha hb
  rwa [decide_eq_false h] at this
theorem cmp_lt (hL : Live w L) (ha : (va, a) ∈ L) (hb : (vb, b) ∈ L) (h : a < b) : Calls Tryd.prog 20 #[va, vb] w fun e w' => e = .returned (.tuple #[.int .i64 (-1), .int .i64 0]) ∧ Live w' L ∧ Below w.heap.size w w' := by
  have := cmp_ok hL ha hb
  rwa [cmpI_lt (by omega)] at this
theorem cmp_gt (hL : Live w L) (ha : (va, a) ∈ L) (hb : (vb, b) ∈ L) (h : b < a) : Calls Tryd.prog 20 #[va, vb] w fun e w' => e = .returned (.tuple #[.int .i64 1, .int .i64 0]) ∧ Live w' L ∧ Below w.heap.size w w' := by
  have := cmp_ok hL ha hb
  rwa [cmpI_gt (by omega)] at this
theorem cmp_eq (hL : Live w L) (ha : (va, a) ∈ L) (hb : (vb, b) ∈ L) (h : a = b) : Calls Tryd.prog 20 #[va, vb] w fun e w' => e = .returned (.tuple #[.int .i64 0, .int .i64 0]) ∧ Live w' L ∧ Below w.heap.size w w' := by
  have := cmp_ok hL ha hb
  subst h
  rwa [cmpI_eq] at this
end
theorem fits_small {a : Nat} (h : a < 340282366920938463463374607431768211456) : Fits a := by
  refine ⟨?_⟩
  have h2 : pw 4 = 340282366920938463463374607431768211456 := by simp [pw]
  have := pw_le (show 4 ≤ 640 by omega)
  omega
theorem text_is {w : World} {L : List (Value × Nat)} {va : Value} {a : Nat} {s : ByteArray} (h : tx a = s) (hL : Live w L) (ha : (va, a) ∈ L) : Calls Tryd.prog 22 #[va] w fun e w' => e = .returned (.tuple #[.string s, .int .i64 0]) ∧ Live w' L ∧ Below w.heap.size w w' := by
  have := text_ok hL ha
  rwa [h] at this
theorem parse_lit {w : World} {L : List (Value × Nat)} {s : ByteArray} {n : Nat} (h : dval (letters s) = n) (hL : Live w L) (hsz : s.size ≤ maxLen) (hd : isDec (letters s) = true) (hs : Fits n) : Calls Tryd.prog 24 #[.string s] w (Step w L n 0) := by
  subst h; exact parse_ok s hL hsz hd hs
theorem valid_two (w : World) : Calls Tryd.prog 5 #[.slice (some ⟨w.heap.size, 0, none⟩) 2 2] (w.alloc (.cells #[.int .u32 1, .int .u32 0] 41)) fun e w' => e = .returned (.bool false) ∧ w.alloc (.cells #[.int .u32 1, .int .u32 0] 41) = w' := by
  refine valid_any (some ⟨w.heap.size, 0, none⟩) [1, 0] 2 2 _ rfl fun _ => ⟨_, rfl, by simp, fun i hi => ?_⟩
  have hadd : (⟨w.heap.size, 0, none⟩ : Addr).add i = ⟨w.heap.size, i, none⟩ := by unfold Addr.add; split <;> simp_all
  rw [hadd]
  have hg : (w.alloc (.cells #[.int .u32 1, .int .u32 0] 41)).heap[w.heap.size]? = some (.cells #[.int .u32 1, .int .u32 0] 41 (0, 0)) := Array.getElem?_push_size
  simp only [World.cell?, hg]
  rcases i with _ | _ | i
  · rfl
  · rfl
  · simp at hi; omega
set_option maxHeartbeats 4000000 in
set_option maxRecDepth 10000 in
theorem head_any (w0 : World) : Calls Tryd.prog 4 #[] w0 fun e w' => e = .returned (.bool true) ∧ Below w0.heap.size w0 w' := by
  have S : St w0 w0 [] := ⟨Below.refl _ _, fun p hp => by cases hp⟩
  have ht1 : tx 18446744065119617025 = ⟨#[49, 56, 52, 52, 54, 55, 52, 52, 48, 54, 53, 49, 49, 57, 54, 49, 55, 48, 50, 53]⟩ := (tx_lit [49, 56, 52, 52, 54, 55, 52, 52, 48, 54, 53, 49, 49, 57, 54, 49, 55, 48, 50, 53] (by decide) (by decide)).trans rfl
  have ht2 : tx 100000000000000000000 = ⟨#[49, 48, 48, 48, 48, 48, 48, 48, 48, 48, 48, 48, 48, 48, 48, 48, 48, 48, 48, 48, 48]⟩ := (tx_lit [49, 48, 48, 48, 48, 48, 48, 48, 48, 48, 48, 48, 48, 48, 48, 48, 48, 48, 48, 48, 48] (by decide) (by decide)).trans rfl
  have hp1 : dval (letters ⟨#[49, 56, 52, 52, 54, 55, 52, 52, 48, 54, 53, 49, 49, 57, 54, 49, 55, 48, 50, 53]⟩) = 18446744065119617025 := by decide
  go_enter Tryd.func4, Tryd.ntmps4
  go_wp2_with fail
  refine Calls.mono (make_ok 4294967296 S.live (by decide)) ?_
  rintro e w1 ⟨vw, rfl, hl, hb⟩
  replace S := S.next hl hb
  clear hl hb
  go_wp2_with fail
  replace S := S.lit [4294967295] 4294967295 (by intro x hx; simp at hx; omega) (by simp) (by simp [val]) (by simp)
  refine Calls.mono (mul_ok (a := 4294967295) (b := 4294967295) S.live (by simp) (by simp) (fits_small (by decide))) ?_
  rintro e w1 ⟨va, rfl, hl, hb⟩
  replace S : St w0 w1 ((va, 18446744065119617025) :: _) := S.next hl hb
  clear hl hb
  go_wp2_with fail
  refine Calls.mono (text_is ht1 S.live (by simp)) ?_
  rintro e w1 ⟨rfl, hl, hb⟩
  replace S := S.next hl hb
  clear hl hb
  go_wp2_with fail
  replace S := S.lit [1] 1 (by intro x hx; simp at hx; omega) (by simp) (by simp [val]) (by simp)
  refine Calls.mono (sub_ok (a := 4294967296) (b := 1) S.live (by simp) (by simp) (by decide)) ?_
  rintro e w1 ⟨vc, rfl, hl, hb⟩
  replace S : St w0 w1 ((vc, 4294967295) :: _) := S.next hl hb
  clear hl hb
  go_wp2_with fail
  replace S := S.lit [0, 0, 0, 1] 79228162514264337593543950336 (by intro x hx; simp at hx; omega) (by simp) (by simp [val]) (by simp)
  replace S := S.lit [1, 1] 4294967297 (by intro x hx; simp at hx; omega) (by simp) (by simp [val]) (by simp)
  refine Calls.mono (div_ok (a := 79228162514264337593543950336) (b := 4294967297) S.live (by simp) (by simp) (by decide)) ?_
  rintro e w1 ⟨vq, vr, rfl, hl, hb⟩
  replace S : St w0 w1 ((vq, 18446744069414584320) :: (vr, 4294967296) :: _) := S.next hl hb
  clear hl hb
  go_wp2_with fail
  replace S := S.lit [10] 10 (by intro x hx; simp at hx; omega) (by simp) (by simp [val]) (by simp)
  refine Calls.mono (pow_ok (a := 10) 20 S.live (by simp) (by decide) (fits_small (by decide))) ?_
  rintro e w1 ⟨vp, rfl, hl, hb⟩
  replace S : St w0 w1 ((vp, 100000000000000000000) :: _) := S.next hl hb
  clear hl hb
  go_wp2_with fail
  refine Calls.mono (text_is ht2 S.live (by simp)) ?_
  rintro e w1 ⟨rfl, hl, hb⟩
  replace S := S.next hl hb
  clear hl hb
  go_wp2_with fail
  replace S := S.lit [1] 1 (by intro x hx; simp at hx; omega) (by simp) (by simp [val]) (by simp)
  replace S := S.lit [2] 2 (by intro x hx; simp at hx; omega) (by simp) (by simp [val]) (by simp)
  refine Calls.mono (sub_under (a := 1) (b := 2) S.live (by simp) (by simp) (by decide)) ?_
  rintro e w1 ⟨vx, rfl, hl, hb⟩
  replace S := S.next hl hb
  clear hl hb
  go_wp2_with fail
  refine Calls.mono (parse_not ⟨#[48, 49]⟩ S.live (by decide) (by decide)) ?_
  rintro e w1 ⟨vy, rfl, hl, hb⟩
  replace S := S.next hl hb
  clear hl hb
  go_wp2_with fail
  refine Calls.mono (parse_lit hp1 S.live (by decide) (by decide) (fits_small (by decide))) ?_
  rintro e w1 ⟨vn, rfl, hl, hb⟩
  replace S := S.next hl hb
  clear hl hb
  go_wp2_with fail
  replace S := S.lit [0, 1] 4294967296 (by intro x hx; simp at hx; omega) (by simp) (by simp [val]) (by simp)
  refine Calls.mono (same_yes (a := 4294967296) (b := 4294967296) S.live (by simp) (by simp) rfl) ?_
  rintro e w1 ⟨rfl, hl, hb⟩
  replace S := S.next hl hb
  clear hl hb
  go_wp2_with fail
  replace S := S.lit [1, 4294967294] 18446744065119617025 (by intro x hx; simp at hx; omega) (by simp) (by simp [val]) (by simp)
  refine Calls.mono (same_yes (a := 18446744065119617025) (b := 18446744065119617025) S.live (by simp) (by simp) rfl) ?_
  rintro e w1 ⟨rfl, hl, hb⟩
  replace S := S.next hl hb
  clear hl hb
  go_wp2_with fail
  refine Calls.mono (same_yes (a := 18446744065119617025) (b := 18446744065119617025) S.live (by simp) (by simp) rfl) ?_
  rintro e w1 ⟨rfl, hl, hb⟩
  replace S := S.next hl hb
  clear hl hb
  go_wp2_with fail
  refine Calls.mono (same_yes (a := 4294967295) (b := 4294967295) S.live (by simp) (by simp) rfl) ?_
  rintro e w1 ⟨rfl, hl, hb⟩
  replace S := S.next hl hb
  clear hl hb
  go_wp2_with fail
  replace S := S.lit [0, 4294967295] 18446744069414584320 (by intro x hx; simp at hx; omega) (by simp) (by simp [val]) (by simp)
  refine Calls.mono (same_yes (a := 18446744069414584320) (b := 18446744069414584320) S.live (by simp) (by simp) rfl) ?_
  rintro e w1 ⟨rfl, hl, hb⟩
  replace S := S.next hl hb
  clear hl hb
  go_wp2_with fail
  refine Calls.mono (same_yes (a := 4294967296) (b := 4294967296) S.live (by simp) (by simp) rfl) ?_
  rintro e w1 ⟨rfl, hl, hb⟩
  replace S := S.next hl hb
  clear hl hb
  go_wp2_with fail
  refine Calls.mono (valid_ok (S.live.keep (Below.refl _ _) |>.cons (Nm.nil _)) (List.mem_cons_self ..)) ?_
  rintro e w1 ⟨rfl, rfl⟩
  go_wp2_with fail
  refine Calls.mono (valid_two _) ?_
  rintro e w2 ⟨rfl, rfl⟩
  replace S := S.on ((Below.refl _ _).alloc (Nat.le_refl _) (.cells #[.int .u32 1, .int .u32 0] 41))
  go_wp2
  go_ret
  exact ⟨rfl, S.below⟩
end Go.Proofs.YthfpkjeobdajiaaDoor

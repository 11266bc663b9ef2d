/- the closures of Parse and Div; natural.attempt over that of Div. -/
import Derived.Test.YtegjhkjmejckdaaDoorT1
import Derived.Test.YtegjhkjmejckdaaDoorN20
import Derived.Test.YtegjhkjmejckdaaDoorN18
import Derived.Test.YtegjhkjmejckdaaDoorN16
namespace Go.Proofs.YtegjhkjmejckdaaDoor
open Go.RowKit M
/-- A block holds no number. -/
def NoInt (w : World) (g : Nat) : Prop := ∀ i k x, w.cell? ⟨g, i, none⟩ ≠ some (.int k x)
theorem NoInt.setCell {w : World} {g o : Nat} {ao : Option Addr} {n c : Nat} (h : NoInt w g) : NoInt (w.setCell ⟨g, o, none⟩ (.slice ao n c)) g := by
  intro i k x e
  by_cases hio : i = o
  · subst hio
    have hz : (w.cell? ⟨g, i, none⟩).isSome = true ∨ w.cell? ⟨g, i, none⟩ = none := by cases w.cell? ⟨g, i, none⟩ <;> simp
    rcases hz with hz | hz
    · rw [World.cell?_setCell_same' _ _ _ hz] at e; cases e
    · have : (w.setCell ⟨g, i, none⟩ (.slice ao n c)).cell? ⟨g, i, none⟩ = none := by
        simp only [World.cell?, World.setCell, Array.getElem?_modify] at hz ⊢
        cases hh : w.heap[g]? with
        | none => simp
        | some ob => cases ob <;> simp_all
      rw [this] at e; cases e
  · rw [World.cell?_setCell_other _ _ _ _ (by intro e'; injection e' with _ e2; exact hio (by omega))] at e
    exact h i k x e
theorem Rd.setCell {w : World} {v u : Value} {l : List Int} {g o : Nat} (h : Rd w v l) (hg : NoInt w g) : Rd (w.setCell ⟨g, o, none⟩ u) v l := by
  obtain ⟨hok, ao, cap, e, h1, h2, h3⟩ := h
  refine ⟨hok, ao, cap, e, h1, h2, fun hne => ?_⟩
  obtain ⟨a, rfl, ha, hc⟩ := h3 hne
  have hpos : 0 < l.length := List.length_pos_iff.2 hne
  have h0 := hc 0 hpos
  rw [add_zero_addr] at h0
  have hsp : a.spot = none := by
    cases hs : a.spot with
    | none => rfl
    | some s => simp only [World.cell?, hs] at h0; split at h0 <;> simp at h0
  have hb : a.block ≠ g := by
    intro e'
    apply hg a.off .u32 (l.getD 0 0)
    rw [← h0]; cases a; simp_all
  refine ⟨a, rfl, by simpa [World.setCell] using ha, fun i hi => ?_⟩
  have hblk : (a.add i).block = a.block := by unfold Addr.add; split <;> rfl
  rw [World.cell?_setCell_other _ _ _ _ (by intro e'; rw [← e'] at hblk; exact hb hblk.symm)]
  exact hc i hi
theorem closParse_bad (b1 : Nat) (s : ByteArray) (w : World) (hl1 : b1 < w.heap.size) (hc1 : w.cell? ⟨b1, 0, none⟩ = some (.string s)) (hs : s.size ≤ maxLen) (hd : isDec (letters s) = false) :
    Calls Tryd.prog 62 #[.pointer (some ⟨b1, 0, none⟩)] w (Raised w 8) := by
  have HD := Bx.mk (isDecimal_any s w hs)
  rw [hd] at HD
  clear hd hs
  go_enter Tryd.func62, Tryd.ntmps62
  go_wp2_with fail
  refine HD.out.mono ?_
  rintro e w2 ⟨rfl, rfl⟩
  go_wp2
  exact ⟨rfl, rfl, Below.refl _ _⟩
theorem closParse_any (b1 : Nat) (s : ByteArray) (w : World) (hl1 : b1 < w.heap.size) (hc1 : w.cell? ⟨b1, 0, none⟩ = some (.string s)) (hs : s.size ≤ maxLen) (hd : isDec (letters s) = true)
    (R : Ending → World → Prop) (hR : Plain R) (hS : Calls Tryd.prog 64 #[.string s] w R) :
    Calls Tryd.prog 62 #[.pointer (some ⟨b1, 0, none⟩)] w R := by
  have HD := Bx.mk (isDecimal_any s w hs)
  rw [hd] at HD
  have HS := Bx.mk hS
  clear hd hs hS
  go_enter Tryd.func62, Tryd.ntmps62
  go_wp2_with fail
  refine HD.out.mono ?_
  rintro e w2 ⟨rfl, rfl⟩
  go_wp2_with fail
  refine HS.out.mono ?_
  intro e w3 h
  rcases hR e w3 h with ⟨v, rfl⟩ | ⟨p, rfl⟩
  · go_wp2
    all_goals exact h
  · exact ⟨rfl, h⟩
theorem closDiv_zero (b1 b2 : Nat) (ao bo : Option Addr) (A : List Int) (n ca cb : Nat) (w : World) (h1 : Cap w b1 ao A n ca) (h2 : Cap w b2 bo [] 0 cb) (hA : isNat A = true) :
    Calls Tryd.prog 52 #[.pointer (some ⟨b1, 0, none⟩), .pointer (some ⟨b2, 0, none⟩)] w (Raised w 7) := by
  have h1' := (h1.alloc (.cells #[.slice none 0 0, .slice none 0 0] 57)).alloc (.cells #[.slice ao n ca, .slice bo 0 cb] 23)
  have h2' := (h2.alloc (.cells #[.slice none 0 0, .slice none 0 0] 57)).alloc (.cells #[.slice ao n ca, .slice bo 0 cb] 23)
  have hreq := require2_ok (w.heap.size + 1) ao bo A [] n 0 ca cb ((w.alloc (.cells #[.slice none 0 0, .slice none 0 0] 57)).alloc (.cells #[.slice ao n ca, .slice bo 0 cb] 23)) h1.len h2.len h1'.cells h2'.cells hA rfl (by simp [go_sem]) (by simp [go_sem])
  have hc1 := h1.cell
  have hc2 := h2.cell
  have hl1 := h1.lt
  have hl2 := h2.lt
  have hq := quotient_zero ao bo n ca cb ((w.alloc (.cells #[.slice none 0 0, .slice none 0 0] 57)).alloc (.cells #[.slice ao n ca, .slice bo 0 cb] 23))
  have hbel : Below w.heap.size w ((w.alloc (.cells #[.slice none 0 0, .slice none 0 0] 57)).alloc (.cells #[.slice ao n ca, .slice bo 0 cb] 23)) := ((Below.refl _ _).alloc (Nat.le_refl _) _).alloc (by simp) _
  have HB := Bx.mk hbel
  have HR := Bx.mk hreq
  have HQ := Bx.mk hq
  clear hreq hq h1 h2 h1' h2' hA hbel
  go_enter Tryd.func52, Tryd.ntmps52
  go_wp2_with fail
  refine HR.out.mono ?_
  rintro e w2 ⟨rfl, rfl⟩
  go_wp2_with fail
  refine HQ.out.mono ?_
  rintro e w3 h
  have h' := Raised.after HB.out h
  obtain ⟨rfl, hb⟩ := h
  exact ⟨rfl, h'⟩
/-- Two numbers, in an array. -/
def RetArr (w : World) (q r : Nat) (e : Ending) (w' : World) : Prop := ∃ v1 v2, e = .returned (.agg #[v1, v2]) ∧ Rd w' v1 (limbs q) ∧ Rd w' v2 (limbs r) ∧ Below w.heap.size w w'
theorem closDiv_ok (b1 b2 : Nat) (ao bo : Option Addr) (A B : List Int) (n m ca cb q r : Nat) (w : World) (h1 : Cap w b1 ao A n ca) (h2 : Cap w b2 bo B m cb) (hA : isNat A = true) (hB : isNat B = true)
    (hS : ∀ w1, Below w.heap.size w w1 → Calls Tryd.prog 53 #[.slice ao n ca, .slice bo m cb] w1 (RetPair w1 q r)) :
    Calls Tryd.prog 52 #[.pointer (some ⟨b1, 0, none⟩), .pointer (some ⟨b2, 0, none⟩)] w (RetArr w q r) := by
  have h1' := (h1.alloc (.cells #[.slice none 0 0, .slice none 0 0] 57)).alloc (.cells #[.slice ao n ca, .slice bo m cb] 23)
  have h2' := (h2.alloc (.cells #[.slice none 0 0, .slice none 0 0] 57)).alloc (.cells #[.slice ao n ca, .slice bo m cb] 23)
  have hreq := require2_ok (w.heap.size + 1) ao bo A B n m ca cb ((w.alloc (.cells #[.slice none 0 0, .slice none 0 0] 57)).alloc (.cells #[.slice ao n ca, .slice bo m cb] 23)) h1.len h2.len h1'.cells h2'.cells hA hB (by simp [go_sem]) (by simp [go_sem])
  have hc1 := h1.cell
  have hc2 := h2.cell
  have hl1 := h1.lt
  have hl2 := h2.lt
  have hbel : Below w.heap.size w ((w.alloc (.cells #[.slice none 0 0, .slice none 0 0] 57)).alloc (.cells #[.slice ao n ca, .slice bo m cb] 23)) := ((Below.refl _ _).alloc (Nat.le_refl _) _).alloc (by simp) _
  have hq := hS _ hbel
  have HB := Bx.mk hbel
  have HR := Bx.mk hreq
  have HQ := Bx.mk hq
  clear hreq hq h1 h2 h1' h2' hA hB hbel hS
  go_enter Tryd.func52, Tryd.ntmps52
  go_wp2_with fail
  refine HR.out.mono ?_
  rintro e w2 ⟨rfl, rfl⟩
  go_wp2_with fail
  refine HQ.out.mono ?_
  rintro e w3 ⟨v1, v2, rfl, hr1, hr2, hb⟩
  have hblk : w3.heap[w.heap.size]? = some (.cells #[.slice none 0 0, .slice none 0 0] 57 (0, 0)) := by
    rw [hb.block _ (by simp [go_sem])]
    show (((w.heap.push _).push _) : Array Obj)[w.heap.size]? = _
    simp [Array.getElem?_push]
  have hc0 : ∀ i, w3.cell? ⟨w.heap.size, i, none⟩ = (#[Value.slice none 0 0, Value.slice none 0 0])[i]? := fun i => by
    simp [World.cell?, hblk]
  have hz0 : ∀ i, w3.frozen? ⟨w.heap.size, i, none⟩ = false := fun i => by
    simp [World.frozen?, hblk]
  have hni : NoInt w3 w.heap.size := fun i k x e => by
    rw [hc0] at e
    rcases i with _ | _ | i <;> simp at e
  have hsz3 : w.heap.size < w3.heap.size := by have := hb.size; simp at this; omega
  obtain ⟨a1, n1, rfl, _, _, _⟩ := hr1.shape
  obtain ⟨a2, n2, rfl, _, _, _⟩ := hr2.shape
  have H3 := HB.out.trans (hb.mono HB.out.size)
  have hr1' := (hr1.setCell (g := w.heap.size) (o := 0) (u := .slice a1 (limbs q).length n1) hni).setCell (g := w.heap.size) (o := 1) (u := .slice a2 (limbs r).length n2) hni.setCell
  have hr2' := (hr2.setCell (g := w.heap.size) (o := 0) (u := .slice a1 (limbs q).length n1) hni).setCell (g := w.heap.size) (o := 1) (u := .slice a2 (limbs r).length n2) hni.setCell
  have H5 := (H3.setCell (p := ⟨w.heap.size, 0, none⟩) (Nat.le_refl _) (.slice a1 (limbs q).length n1)).setCell (p := ⟨w.heap.size, 1, none⟩) (Nat.le_refl _) (.slice a2 (limbs r).length n2)
  have G1 := Bx.mk hr1'
  have G2 := Bx.mk hr2'
  have G5 := Bx.mk H5
  have hc00 := hc0 0
  have hc01 := hc0 1
  have hz00 := hz0 0
  have hz01 := hz0 1
  simp at hc00 hc01
  have hd1 : ((w3.setCell ⟨w.heap.size, 0, none⟩ (.slice a1 (limbs q).length n1)).setCell ⟨w.heap.size, 1, none⟩ (.slice a2 (limbs r).length n2)).cell? ⟨w.heap.size, 1, none⟩ = some (.slice a2 (limbs r).length n2) :=
    World.cell?_setCell_same' _ _ _ (by rw [World.cell?_setCell_other _ _ _ _ (by simp), hc01]; rfl)
  have hd0 : ((w3.setCell ⟨w.heap.size, 0, none⟩ (.slice a1 (limbs q).length n1)).setCell ⟨w.heap.size, 1, none⟩ (.slice a2 (limbs r).length n2)).cell? ⟨w.heap.size, 0, none⟩ = some (.slice a1 (limbs q).length n1) := by
    rw [World.cell?_setCell_other _ _ _ _ (by simp)]; exact World.cell?_setCell_same' _ _ _ (by rw [hc00]; rfl)
  clear hr1 hr2 hb hc0 hz0 hr1' hr2' H3 H5 hni HB
  go_wp2
  refine ⟨rfl, _, by simp [results, Tryd.results52, go_sem, hd0, hd1]; rfl, ?_⟩
  exact ⟨_, _, rfl, G1.out, G2.out, G5.out⟩
end Go.Proofs.YtegjhkjmejckdaaDoor

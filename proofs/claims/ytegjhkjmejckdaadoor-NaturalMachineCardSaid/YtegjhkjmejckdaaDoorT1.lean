/- the closures of natural's exported functions, over valid numbers. -/
import Derived.Test.YtegjhkjmejckdaaDoorN19
namespace Go.Proofs.YtegjhkjmejckdaaDoor
open Go.RowKit M
/-- What a closure has captured: a variable that holds a slice of limbs. -/
structure Cap (w : World) (b : Nat) (ao : Option Addr) (A : List Int) (n ca : Nat) : Prop where
  lt : b < w.heap.size
  cell : w.cell? ⟨b, 0, none⟩ = some (.slice ao n ca)
  len : A.length = n
  cells : CellsK .u32 w ao A
theorem Cap.alloc {w : World} {b : Nat} {ao : Option Addr} {A : List Int} {n ca : Nat} (h : Cap w b ao A n ca) (o : Obj) : Cap (w.alloc o) b ao A n ca :=
  ⟨by simp; have := h.lt; omega, by rw [World.cell?_alloc_past (hn := h.lt)]; exact h.cell, h.len, h.cells.keep ((Below.refl _ _).alloc (Nat.le_refl _) _)⟩
/-- What comes back is a value or a panic. -/
def Plain (R : Ending → World → Prop) : Prop := ∀ e w', R e w' → (∃ v, e = .returned v) ∨ ∃ p, e = .panicked p
theorem closAdd_any (b1 b2 : Nat) (ao bo : Option Addr) (A B : List Int) (n m ca cb : Nat) (w : World) (h1 : Cap w b1 ao A n ca) (h2 : Cap w b2 bo B m cb) (hA : isNat A = true) (hB : isNat B = true)
    (R : Ending → World → Prop) (hR : Plain R) (hS : Calls Tryd.prog 40 #[.slice ao n ca, .slice bo m cb] (w.alloc (.cells #[.slice ao n ca, .slice bo m cb] 23)) R) :
    Calls Tryd.prog 38 #[.pointer (some ⟨b1, 0, none⟩), .pointer (some ⟨b2, 0, none⟩)] w R := by
  have h1' := h1.alloc (.cells #[.slice ao n ca, .slice bo m cb] 23)
  have h2' := h2.alloc (.cells #[.slice ao n ca, .slice bo m cb] 23)
  have hreq := require2_ok w.heap.size ao bo A B n m ca cb (w.alloc (.cells #[.slice ao n ca, .slice bo m cb] 23)) h1.len h2.len h1'.cells h2'.cells hA hB (by simp [go_sem]) (by simp [go_sem])
  have hc1 := h1.cell
  have hc2 := h2.cell
  have hl1 := h1.lt
  have hl2 := h2.lt
  have HR := Bx.mk hreq
  have HS := Bx.mk hS
  clear hreq hS h1 h2 h1' h2' hA hB
  go_enter Tryd.func38, Tryd.ntmps38
  go_wp2_with fail
  refine HR.out.mono ?_
  rintro e w2 ⟨rfl, rfl⟩
  go_wp2_with fail
  refine HS.out.mono ?_
  intro e w3 h
  rcases hR e w3 h with ⟨v, rfl⟩ | ⟨p, rfl⟩
  · go_wp2
    all_goals exact h
  · exact ⟨rfl, h⟩
theorem closSub_any (b1 b2 : Nat) (ao bo : Option Addr) (A B : List Int) (n m ca cb : Nat) (w : World) (h1 : Cap w b1 ao A n ca) (h2 : Cap w b2 bo B m cb) (hA : isNat A = true) (hB : isNat B = true)
    (R : Ending → World → Prop) (hR : Plain R) (hS : Calls Tryd.prog 45 #[.slice ao n ca, .slice bo m cb] (w.alloc (.cells #[.slice ao n ca, .slice bo m cb] 23)) R) :
    Calls Tryd.prog 44 #[.pointer (some ⟨b1, 0, none⟩), .pointer (some ⟨b2, 0, none⟩)] w R := by
  have h1' := h1.alloc (.cells #[.slice ao n ca, .slice bo m cb] 23)
  have h2' := h2.alloc (.cells #[.slice ao n ca, .slice bo m cb] 23)
  have hreq := require2_ok w.heap.size ao bo A B n m ca cb (w.alloc (.cells #[.slice ao n ca, .slice bo m cb] 23)) h1.len h2.len h1'.cells h2'.cells hA hB (by simp [go_sem]) (by simp [go_sem])
  have hc1 := h1.cell
  have hc2 := h2.cell
  have hl1 := h1.lt
  have hl2 := h2.lt
  have HR := Bx.mk hreq
  have HS := Bx.mk hS
  clear hreq hS h1 h2 h1' h2' hA hB
  go_enter Tryd.func44, Tryd.ntmps44
  go_wp2_with fail
  refine HR.out.mono ?_
  rintro e w2 ⟨rfl, rfl⟩
  go_wp2_with fail
  refine HS.out.mono ?_
  intro e w3 h
  rcases hR e w3 h with ⟨v, rfl⟩ | ⟨p, rfl⟩
  · go_wp2
    all_goals exact h
  · exact ⟨rfl, h⟩
theorem closMul_any (b1 b2 : Nat) (ao bo : Option Addr) (A B : List Int) (n m ca cb : Nat) (w : World) (h1 : Cap w b1 ao A n ca) (h2 : Cap w b2 bo B m cb) (hA : isNat A = true) (hB : isNat B = true)
    (R : Ending → World → Prop) (hR : Plain R) (hS : Calls Tryd.prog 49 #[.slice ao n ca, .slice bo m cb] (w.alloc (.cells #[.slice ao n ca, .slice bo m cb] 23)) R) :
    Calls Tryd.prog 48 #[.pointer (some ⟨b1, 0, none⟩), .pointer (some ⟨b2, 0, none⟩)] w R := by
  have h1' := h1.alloc (.cells #[.slice ao n ca, .slice bo m cb] 23)
  have h2' := h2.alloc (.cells #[.slice ao n ca, .slice bo m cb] 23)
  have hreq := require2_ok w.heap.size ao bo A B n m ca cb (w.alloc (.cells #[.slice ao n ca, .slice bo m cb] 23)) h1.len h2.len h1'.cells h2'.cells hA hB (by simp [go_sem]) (by simp [go_sem])
  have hc1 := h1.cell
  have hc2 := h2.cell
  have hl1 := h1.lt
  have hl2 := h2.lt
  have HR := Bx.mk hreq
  have HS := Bx.mk hS
  clear hreq hS h1 h2 h1' h2' hA hB
  go_enter Tryd.func48, Tryd.ntmps48
  go_wp2_with fail
  refine HR.out.mono ?_
  rintro e w2 ⟨rfl, rfl⟩
  go_wp2_with fail
  refine HS.out.mono ?_
  intro e w3 h
  rcases hR e w3 h with ⟨v, rfl⟩ | ⟨p, rfl⟩
  · go_wp2
    all_goals exact h
  · exact ⟨rfl, h⟩
theorem closCmp_any (b1 b2 : Nat) (ao bo : Option Addr) (A B : List Int) (n m ca cb : Nat) (w : World) (h1 : Cap w b1 ao A n ca) (h2 : Cap w b2 bo B m cb) (hA : isNat A = true) (hB : isNat B = true)
    (R : Ending → World → Prop) (hR : Plain R) (hS : Calls Tryd.prog 58 #[.slice ao n ca, .slice bo m cb] (w.alloc (.cells #[.slice ao n ca, .slice bo m cb] 23)) R) :
    Calls Tryd.prog 57 #[.pointer (some ⟨b1, 0, none⟩), .pointer (some ⟨b2, 0, none⟩)] w R := by
  have h1' := h1.alloc (.cells #[.slice ao n ca, .slice bo m cb] 23)
  have h2' := h2.alloc (.cells #[.slice ao n ca, .slice bo m cb] 23)
  have hreq := require2_ok w.heap.size ao bo A B n m ca cb (w.alloc (.cells #[.slice ao n ca, .slice bo m cb] 23)) h1.len h2.len h1'.cells h2'.cells hA hB (by simp [go_sem]) (by simp [go_sem])
  have hc1 := h1.cell
  have hc2 := h2.cell
  have hl1 := h1.lt
  have hl2 := h2.lt
  have HR := Bx.mk hreq
  have HS := Bx.mk hS
  clear hreq hS h1 h2 h1' h2' hA hB
  go_enter Tryd.func57, Tryd.ntmps57
  go_wp2_with fail
  refine HR.out.mono ?_
  rintro e w2 ⟨rfl, rfl⟩
  go_wp2_with fail
  refine HS.out.mono ?_
  intro e w3 h
  rcases hR e w3 h with ⟨v, rfl⟩ | ⟨p, rfl⟩
  · go_wp2
    all_goals exact h
  · exact ⟨rfl, h⟩
theorem closPow_any (b1 b2 : Nat) (ao : Option Addr) (A : List Int) (n ca : Nat) (x : Int) (w : World) (h1 : Cap w b1 ao A n ca) (hl2 : b2 < w.heap.size) (hc2 : w.cell? ⟨b2, 0, none⟩ = some (.int .i64 x)) (hA : isNat A = true)
    (R : Ending → World → Prop) (hR : Plain R) (hS : Calls Tryd.prog 55 #[.slice ao n ca, .int .i64 x] (w.alloc (.cells #[.slice ao n ca] 23)) R) :
    Calls Tryd.prog 54 #[.pointer (some ⟨b1, 0, none⟩), .pointer (some ⟨b2, 0, none⟩)] w R := by
  have h1' := h1.alloc (.cells #[.slice ao n ca] 23)
  have hreq := require1_ok w.heap.size ao A n ca (w.alloc (.cells #[.slice ao n ca] 23)) h1.len h1'.cells hA (by simp [go_sem])
  have hc1 := h1.cell
  have hl1 := h1.lt
  have HR := Bx.mk hreq
  have HS := Bx.mk hS
  clear hreq hS h1 h1' hA
  go_enter Tryd.func54, Tryd.ntmps54
  go_wp2_with fail
  refine HR.out.mono ?_
  rintro e w2 ⟨rfl, rfl⟩
  go_wp2_with fail
  refine HS.out.mono ?_
  intro e w3 h
  rcases hR e w3 h with ⟨v, rfl⟩ | ⟨p, rfl⟩
  · go_wp2
    all_goals exact h
  · exact ⟨rfl, h⟩
theorem closText_any (b1 : Nat) (ao : Option Addr) (A : List Int) (n ca : Nat) (w : World) (h1 : Cap w b1 ao A n ca) (hA : isNat A = true)
    (R : Ending → World → Prop) (hR : Plain R) (hS : Calls Tryd.prog 61 #[.slice ao n ca] (w.alloc (.cells #[.slice ao n ca] 23)) R) :
    Calls Tryd.prog 60 #[.pointer (some ⟨b1, 0, none⟩)] w R := by
  have h1' := h1.alloc (.cells #[.slice ao n ca] 23)
  have hreq := require1_ok w.heap.size ao A n ca (w.alloc (.cells #[.slice ao n ca] 23)) h1.len h1'.cells hA (by simp [go_sem])
  have hc1 := h1.cell
  have hl1 := h1.lt
  have HR := Bx.mk hreq
  have HS := Bx.mk hS
  clear hreq hS h1 h1' hA
  go_enter Tryd.func60, Tryd.ntmps60
  go_wp2_with fail
  refine HR.out.mono ?_
  rintro e w2 ⟨rfl, rfl⟩
  go_wp2_with fail
  refine HS.out.mono ?_
  intro e w3 h
  rcases hR e w3 h with ⟨v, rfl⟩ | ⟨p, rfl⟩
  · go_wp2
    all_goals exact h
  · exact ⟨rfl, h⟩
end Go.Proofs.YtegjhkjmejckdaaDoor

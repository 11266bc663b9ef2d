/- natural: what the exported functions return. -/
import Derived.Test.YtlfngdbpnhaphaaGreatDoorNB
import Derived.BigQuiet
namespace Go.Proofs.YtlfngdbpnhaphaaGreatDoor
open Go.RowKit M
/-- What a closure has captured: a variable that holds a slice of limbs. -/
structure Cap (w : World) (b : Nat) (ao : Option Addr) (A : List Int) (n ca : Nat) : Prop where
  lt : b < w.heap.size
  cell : w.cell? ⟨b, 0, none⟩ = some (.slice ao n ca)
  len : A.length = n
  cells : CellsK .u32 w ao A
theorem Cap.alloc {w : World} {b : Nat} {ao : Option Addr} {A : List Int} {n ca : Nat} (h : Cap w b ao A n ca) (o : Obj) : Cap (w.alloc o) b ao A n ca :=
  ⟨by simp; have := h.lt; omega, by rw [World.cell?_alloc_past (hn := h.lt)]; exact h.cell, h.len, h.cells.keep ((Below.refl _ _).alloc (Nat.le_refl _) _)⟩
/-- What comes back is a value or a panic. -/
def Plain (R : Ending → World → Prop) : Prop := ∀ e w', R e w' → (∃ v, e = .returned v) ∨ ∃ p, e = .panicked p
theorem closMul_any (b1 b2 : Nat) (ao bo : Option Addr) (A B : List Int) (n m ca cb : Nat) (w : World) (h1 : Cap w b1 ao A n ca) (h2 : Cap w b2 bo B m cb) (hA : isNat A = true) (hB : isNat B = true)
    (R : Ending → World → Prop) (hR : Plain R) (hS : Calls Tryz.prog 59 #[.slice ao n ca, .slice bo m cb] (w.alloc (.cells #[.slice ao n ca, .slice bo m cb] 39)) R) :
    Calls Tryz.prog 57 #[.pointer (some ⟨b1, 0, none⟩), .pointer (some ⟨b2, 0, none⟩)] w R := by
  have h1' := h1.alloc (.cells #[.slice ao n ca, .slice bo m cb] 39)
  have h2' := h2.alloc (.cells #[.slice ao n ca, .slice bo m cb] 39)
  have hreq := require2_ok w.heap.size ao bo A B n m ca cb (w.alloc (.cells #[.slice ao n ca, .slice bo m cb] 39)) h1.len h2.len h1'.cells h2'.cells hA hB (by simp [go_sem]) (by simp [go_sem])
  have hc1 := h1.cell
  have hc2 := h2.cell
  have hl1 := h1.lt
  have hl2 := h2.lt
  have HR := Bx.mk hreq
  have HS := Bx.mk hS
  clear hreq hS h1 h2 h1' h2' hA hB
  go_enter Tryz.func57, Tryz.ntmps57
  go_wp2_with fail
  refine HR.out.mono ?_
  rintro e w2 ⟨rfl, rfl⟩
  go_wp2_with fail
  refine HS.out.mono ?_
  intro e w3 h
  rcases hR e w3 h with ⟨v, rfl⟩ | ⟨p, rfl⟩
  · go_wp2
    all_goals exact h
  · exact ⟨rfl, h⟩
theorem closCmp_any (b1 b2 : Nat) (ao bo : Option Addr) (A B : List Int) (n m ca cb : Nat) (w : World) (h1 : Cap w b1 ao A n ca) (h2 : Cap w b2 bo B m cb) (hA : isNat A = true) (hB : isNat B = true)
    (R : Ending → World → Prop) (hR : Plain R) (hS : Calls Tryz.prog 66 #[.slice ao n ca, .slice bo m cb] (w.alloc (.cells #[.slice ao n ca, .slice bo m cb] 39)) R) :
    Calls Tryz.prog 65 #[.pointer (some ⟨b1, 0, none⟩), .pointer (some ⟨b2, 0, none⟩)] w R := by
  have h1' := h1.alloc (.cells #[.slice ao n ca, .slice bo m cb] 39)
  have h2' := h2.alloc (.cells #[.slice ao n ca, .slice bo m cb] 39)
  have hreq := require2_ok w.heap.size ao bo A B n m ca cb (w.alloc (.cells #[.slice ao n ca, .slice bo m cb] 39)) h1.len h2.len h1'.cells h2'.cells hA hB (by simp [go_sem]) (by simp [go_sem])
  have hc1 := h1.cell
  have hc2 := h2.cell
  have hl1 := h1.lt
  have hl2 := h2.lt
  have HR := Bx.mk hreq
  have HS := Bx.mk hS
  clear hreq hS h1 h2 h1' h2' hA hB
  go_enter Tryz.func65, Tryz.ntmps65
  go_wp2_with fail
  refine HR.out.mono ?_
  rintro e w2 ⟨rfl, rfl⟩
  go_wp2_with fail
  refine HS.out.mono ?_
  intro e w3 h
  rcases hR e w3 h with ⟨v, rfl⟩ | ⟨p, rfl⟩
  · go_wp2
    all_goals exact h
  · exact ⟨rfl, h⟩
theorem closPow_any (b1 b2 : Nat) (ao : Option Addr) (A : List Int) (n ca : Nat) (x : Int) (w : World) (h1 : Cap w b1 ao A n ca) (hl2 : b2 < w.heap.size) (hc2 : w.cell? ⟨b2, 0, none⟩ = some (.int .i64 x)) (hA : isNat A = true)
    (R : Ending → World → Prop) (hR : Plain R) (hS : Calls Tryz.prog 114 #[.slice ao n ca, .int .i64 x] (w.alloc (.cells #[.slice ao n ca] 39)) R) :
    Calls Tryz.prog 113 #[.pointer (some ⟨b1, 0, none⟩), .pointer (some ⟨b2, 0, none⟩)] w R := by
  have h1' := h1.alloc (.cells #[.slice ao n ca] 39)
  have hreq := require1_ok w.heap.size ao A n ca (w.alloc (.cells #[.slice ao n ca] 39)) h1.len h1'.cells hA (by simp [go_sem])
  have hc1 := h1.cell
  have hl1 := h1.lt
  have HR := Bx.mk hreq
  have HS := Bx.mk hS
  clear hreq hS h1 h1' hA
  go_enter Tryz.func113, Tryz.ntmps113
  go_wp2_with fail
  refine HR.out.mono ?_
  rintro e w2 ⟨rfl, rfl⟩
  go_wp2_with fail
  refine HS.out.mono ?_
  intro e w3 h
  rcases hR e w3 h with ⟨v, rfl⟩ | ⟨p, rfl⟩
  · go_wp2
    all_goals exact h
  · exact ⟨rfl, h⟩
end Go.Proofs.YtlfngdbpnhaphaaGreatDoor
namespace Go.Proofs.YtlfngdbpnhaphaaGreatDoor
open Go.RowKit M
/-- A block holds no number. -/
def NoInt (w : World) (g : Nat) : Prop := ∀ i k x, w.cell? ⟨g, i, none⟩ ≠ some (.int k x)
theorem NoInt.setCell {w : World} {g o : Nat} {ao : Option Addr} {n c : Nat} (h : NoInt w g) : NoInt (w.setCell ⟨g, o, none⟩ (.slice ao n c)) g := by
  intro i k x e
  by_cases hio : i = o
  · subst hio
    have hz : (w.cell? ⟨g, i, none⟩).isSome = true ∨ w.cell? ⟨g, i, none⟩ = none := by cases w.cell? ⟨g, i, none⟩ <;> simp
    rcases hz with hz | hz
    · rw [World.cell?_setCell_same' _ _ _ hz] at e; cases e
    · have : (w.setCell ⟨g, i, none⟩ (.slice ao n c)).cell? ⟨g, i, none⟩ = none := by
        simp only [World.cell?, World.setCell, Array.getElem?_modify] at hz ⊢
        cases hh : w.heap[g]? with
        | none => simp
        | some ob => cases ob <;> simp_all
      rw [this] at e; cases e
  · rw [World.cell?_setCell_other _ _ _ _ (by intro e'; injection e' with _ e2; exact hio (by omega))] at e
    exact h i k x e
theorem Rd.setCell {w : World} {v u : Value} {l : List Int} {g o : Nat} (h : Rd w v l) (hg : NoInt w g) : Rd (w.setCell ⟨g, o, none⟩ u) v l := by
  obtain ⟨hok, ao, cap, e, h1, h2, h3⟩ := h
  refine ⟨hok, ao, cap, e, h1, h2, fun hne => ?_⟩
  obtain ⟨a, rfl, ha, hc⟩ := h3 hne
  have hpos : 0 < l.length := List.length_pos_iff.2 hne
  have h0 := hc 0 hpos
  rw [add_zero_addr] at h0
  have hsp : a.spot = none := by
    cases hs : a.spot with
    | none => rfl
    | some s => simp only [World.cell?, hs] at h0; split at h0 <;> simp at h0
  have hb : a.block ≠ g := by
    intro e'
    apply hg a.off .u32 (l.getD 0 0)
    rw [← h0]; cases a; simp_all
  refine ⟨a, rfl, by simpa [World.setCell] using ha, fun i hi => ?_⟩
  have hblk : (a.add i).block = a.block := by unfold Addr.add; split <;> rfl
  rw [World.cell?_setCell_other _ _ _ _ (by intro e'; rw [← e'] at hblk; exact hb hblk.symm)]
  exact hc i hi
/-- Two numbers, in an array. -/
def RetArr (w : World) (q r : Nat) (e : Ending) (w' : World) : Prop := ∃ v1 v2, e = .returned (.agg #[v1, v2]) ∧ Rd w' v1 (limbs q) ∧ Rd w' v2 (limbs r) ∧ Below w.heap.size w w'
theorem closDiv_ok (b1 b2 : Nat) (ao bo : Option Addr) (A B : List Int) (n m ca cb q r : Nat) (w : World) (h1 : Cap w b1 ao A n ca) (h2 : Cap w b2 bo B m cb) (hA : isNat A = true) (hB : isNat B = true)
    (hS : ∀ w1, Below w.heap.size w w1 → Calls Tryz.prog 63 #[.slice ao n ca, .slice bo m cb] w1 (RetPair w1 q r)) :
    Calls Tryz.prog 62 #[.pointer (some ⟨b1, 0, none⟩), .pointer (some ⟨b2, 0, none⟩)] w (RetArr w q r) := by
  have h1' := (h1.alloc (.cells #[.slice none 0 0, .slice none 0 0] 84)).alloc (.cells #[.slice ao n ca, .slice bo m cb] 39)
  have h2' := (h2.alloc (.cells #[.slice none 0 0, .slice none 0 0] 84)).alloc (.cells #[.slice ao n ca, .slice bo m cb] 39)
  have hreq := require2_ok (w.heap.size + 1) ao bo A B n m ca cb ((w.alloc (.cells #[.slice none 0 0, .slice none 0 0] 84)).alloc (.cells #[.slice ao n ca, .slice bo m cb] 39)) h1.len h2.len h1'.cells h2'.cells hA hB (by simp [go_sem]) (by simp [go_sem])
  have hc1 := h1.cell
  have hc2 := h2.cell
  have hl1 := h1.lt
  have hl2 := h2.lt
  have hbel : Below w.heap.size w ((w.alloc (.cells #[.slice none 0 0, .slice none 0 0] 84)).alloc (.cells #[.slice ao n ca, .slice bo m cb] 39)) := ((Below.refl _ _).alloc (Nat.le_refl _) _).alloc (by simp) _
  have hq := hS _ hbel
  have HB := Bx.mk hbel
  have HR := Bx.mk hreq
  have HQ := Bx.mk hq
  clear hreq hq h1 h2 h1' h2' hA hB hbel hS
  go_enter Tryz.func62, Tryz.ntmps62
  go_wp2_with fail
  refine HR.out.mono ?_
  rintro e w2 ⟨rfl, rfl⟩
  go_wp2_with fail
  refine HQ.out.mono ?_
  rintro e w3 ⟨v1, v2, rfl, hr1, hr2, hb⟩
  have hblk : w3.heap[w.heap.size]? = some (.cells #[.slice none 0 0, .slice none 0 0] 84 (0, 0)) := by
    rw [hb.block _ (by simp [go_sem])]
    show (((w.heap.push _).push _) : Array Obj)[w.heap.size]? = _
    simp [Array.getElem?_push]
  have hc0 : ∀ i, w3.cell? ⟨w.heap.size, i, none⟩ = (#[Value.slice none 0 0, Value.slice none 0 0])[i]? := fun i => by
    simp [World.cell?, hblk]
  have hz0 : ∀ i, w3.frozen? ⟨w.heap.size, i, none⟩ = false := fun i => by
    simp [World.frozen?, hblk]
  have hni : NoInt w3 w.heap.size := fun i k x e => by
    rw [hc0] at e
    rcases i with _ | _ | i <;> simp at e
  have hsz3 : w.heap.size < w3.heap.size := by have := hb.size; simp at this; omega
  obtain ⟨a1, n1, rfl, _, _, _⟩ := hr1.shape
  obtain ⟨a2, n2, rfl, _, _, _⟩ := hr2.shape
  have H3 := HB.out.trans (hb.mono HB.out.size)
  have hr1' := (hr1.setCell (g := w.heap.size) (o := 0) (u := .slice a1 (limbs q).length n1) hni).setCell (g := w.heap.size) (o := 1) (u := .slice a2 (limbs r).length n2) hni.setCell
  have hr2' := (hr2.setCell (g := w.heap.size) (o := 0) (u := .slice a1 (limbs q).length n1) hni).setCell (g := w.heap.size) (o := 1) (u := .slice a2 (limbs r).length n2) hni.setCell
  have H5 := (H3.setCell (p := ⟨w.heap.size, 0, none⟩) (Nat.le_refl _) (.slice a1 (limbs q).length n1)).setCell (p := ⟨w.heap.size, 1, none⟩) (Nat.le_refl _) (.slice a2 (limbs r).length n2)
  have G1 := Bx.mk hr1'
  have G2 := Bx.mk hr2'
  have G5 := Bx.mk H5
  have hc00 := hc0 0
  have hc01 := hc0 1
  have hz00 := hz0 0
  have hz01 := hz0 1
  simp at hc00 hc01
  have hd1 : ((w3.setCell ⟨w.heap.size, 0, none⟩ (.slice a1 (limbs q).length n1)).setCell ⟨w.heap.size, 1, none⟩ (.slice a2 (limbs r).length n2)).cell? ⟨w.heap.size, 1, none⟩ = some (.slice a2 (limbs r).length n2) :=
    World.cell?_setCell_same' _ _ _ (by rw [World.cell?_setCell_other _ _ _ _ (by simp), hc01]; rfl)
  have hd0 : ((w3.setCell ⟨w.heap.size, 0, none⟩ (.slice a1 (limbs q).length n1)).setCell ⟨w.heap.size, 1, none⟩ (.slice a2 (limbs r).length n2)).cell? ⟨w.heap.size, 0, none⟩ = some (.slice a1 (limbs q).length n1) := by
    rw [World.cell?_setCell_other _ _ _ _ (by simp)]; exact World.cell?_setCell_same' _ _ _ (by rw [hc00]; rfl)
  clear hr1 hr2 hb hc0 hz0 hr1' hr2' H3 H5 hni HB
  go_wp2
  refine ⟨rfl, _, by simp [results, Tryz.results62, go_sem, hd0, hd1]; rfl, ?_⟩
  exact ⟨_, _, rfl, G1.out, G2.out, G5.out⟩
end Go.Proofs.YtlfngdbpnhaphaaGreatDoor
namespace Go.Proofs.YtlfngdbpnhaphaaGreatDoor
open Go.RowKit M
theorem attemptDiv_ok (a1 a2 : Addr) (q r : Nat) (w : World) (h : Calls Tryz.prog 62 #[.pointer (some a1), .pointer (some a2)] ((w.alloc (.cells #[.slice none 0 0, .slice none 0 0] 84)).alloc (.cells #[.int .i64 0] 28)) (RetArr ((w.alloc (.cells #[.slice none 0 0, .slice none 0 0] 84)).alloc (.cells #[.int .i64 0] 28)) q r)) :
    Calls Tryz.prog 61 #[.func (Fn.func 62) #[] #[.pointer (some a1), .pointer (some a2)]] w fun e w' => ∃ v1 v2, e = .returned (.tuple #[.agg #[v1, v2], .int .i64 0]) ∧ Rd w' v1 (limbs q) ∧ Rd w' v2 (limbs r) ∧ Below w.heap.size w w' := by
  have hmf : ∀ (fn : Fn) (first cap : Array Value) (w : World), (Instr.makeFunc fn first cap).run Tryz.prog w = .ok (.func fn first cap) w := fun _ _ _ _ => rfl
  have hb0 : Below w.heap.size w ((w.alloc (.cells #[.slice none 0 0, .slice none 0 0] 84)).alloc (.cells #[.int .i64 0] 28)) := ((Below.refl _ _).alloc (Nat.le_refl _) _).alloc (by simp) _
  have H := Bx.mk h
  clear h
  go_enter_defers Tryz.func61, Tryz.ntmps61
  go_wp2_with fail
  refine H.out.mono ?_
  rintro e w2 ⟨v1, v2, rfl, hr1, hr2, hb⟩
  have hblk : w2.heap[w.heap.size]? = some (.cells #[.slice none 0 0, .slice none 0 0] 84 (0, 0)) := by
    rw [hb.block _ (by simp [go_sem])]
    show (((w.heap.push _).push _) : Array Obj)[w.heap.size]? = _
    simp [Array.getElem?_push, Array.size_push]
  have hblk1 : w2.heap[w.heap.size + 1]? = some (.cells #[.int .i64 0] 28 (0, 0)) := by
    rw [hb.block _ (by simp [go_sem])]
    exact (show ∀ (a : Array Obj) (x y : Obj), ((a.push x).push y)[a.size + 1]? = some y from fun a x y => by rw [show a.size + 1 = (a.push x).size by simp, Array.getElem?_push_size]) _ _ _
  have hni : NoInt w2 w.heap.size := fun i k x e => by
    have : w2.cell? ⟨w.heap.size, i, none⟩ = (#[Value.slice none 0 0, Value.slice none 0 0])[i]? := by simp [World.cell?, hblk]
    rw [this] at e
    rcases i with _ | _ | i <;> simp at e
  obtain ⟨s1, n1, rfl, _, _, _⟩ := hr1.shape
  obtain ⟨s2, n2, rfl, _, _, _⟩ := hr2.shape
  have hni1 : NoInt (w2.setCell ⟨w.heap.size, 0, none⟩ (.slice s1 (limbs q).length n1)) w.heap.size := hni.setCell
  have hr1' := (hr1.setCell (g := w.heap.size) (o := 0) (u := (.slice s1 (limbs q).length n1)) hni).setCell (g := w.heap.size) (o := 1) (u := (.slice s2 (limbs r).length n2)) hni1
  have hr2' := (hr2.setCell (g := w.heap.size) (o := 0) (u := (.slice s1 (limbs q).length n1)) hni).setCell (g := w.heap.size) (o := 1) (u := (.slice s2 (limbs r).length n2)) hni1
  have hc00 : w2.cell? ⟨w.heap.size, 0, none⟩ = some (.slice none 0 0) := by simp [World.cell?, hblk]
  have hc01 : w2.cell? ⟨w.heap.size, 1, none⟩ = some (.slice none 0 0) := by simp [World.cell?, hblk]
  have hz00 : w2.frozen? ⟨w.heap.size, 0, none⟩ = false := by simp [World.frozen?, hblk]
  have hz01 : w2.frozen? ⟨w.heap.size, 1, none⟩ = false := by simp [World.frozen?, hblk]
  have hc0 : w2.cell? ⟨w.heap.size + 1, 0, none⟩ = some (.int .i64 0) := by simp [World.cell?, hblk1]
  have hz0 : w2.frozen? ⟨w.heap.size + 1, 0, none⟩ = false := by simp [World.frozen?, hblk1]
  have hd1 : ((w2.setCell ⟨w.heap.size, 0, none⟩ (.slice s1 (limbs q).length n1)).setCell ⟨w.heap.size, 1, none⟩ (.slice s2 (limbs r).length n2)).cell? ⟨w.heap.size, 1, none⟩ = some (.slice s2 (limbs r).length n2) :=
    World.cell?_setCell_same' _ _ _ (by rw [World.cell?_setCell_other _ _ _ _ (by simp), hc01]; rfl)
  have hd0 : ((w2.setCell ⟨w.heap.size, 0, none⟩ (.slice s1 (limbs q).length n1)).setCell ⟨w.heap.size, 1, none⟩ (.slice s2 (limbs r).length n2)).cell? ⟨w.heap.size, 0, none⟩ = some (.slice s1 (limbs q).length n1) := by
    rw [World.cell?_setCell_other _ _ _ _ (by simp)]; exact World.cell?_setCell_same' _ _ _ (by rw [hc00]; rfl)
  have hde : ((w2.setCell ⟨w.heap.size, 0, none⟩ (.slice s1 (limbs q).length n1)).setCell ⟨w.heap.size, 1, none⟩ (.slice s2 (limbs r).length n2)).cell? ⟨w.heap.size + 1, 0, none⟩ = some (.int .i64 0) := by
    rw [World.cell?_setCell_other _ _ _ _ (by simp), World.cell?_setCell_other _ _ _ _ (by simp)]; exact hc0
  have hself := setCell_self ((w2.setCell ⟨w.heap.size, 0, none⟩ (.slice s1 (limbs q).length n1)).setCell ⟨w.heap.size, 1, none⟩ (.slice s2 (limbs r).length n2)) (w.heap.size + 1) _ hde
  have G1 := Bx.mk hr1'
  have G2 := Bx.mk hr2'
  have G5 := Bx.mk (((hb0.trans (hb.mono hb0.size)).setCell (p := ⟨w.heap.size, 0, none⟩) (Nat.le_refl _) (.slice s1 (limbs q).length n1)).setCell (p := ⟨w.heap.size, 1, none⟩) (Nat.le_refl _) (.slice s2 (limbs r).length n2))
  have hsz3 : w.heap.size + 1 < w2.heap.size := by have := hb.size; simp at this; omega
  clear hb hb0 H hblk hblk1 hr1 hr2 hr1' hr2' hni hni1
  go_wp2
  refine leaves_cons (f := 86) (args := #[.pointer (some ⟨w.heap.size + 1, 0, none⟩)]) (by simp) (by simp [go_sem]) ?_
  refine (catch_idle72 ⟨w.heap.size + 1, 0, none⟩ _).mono ?_
  rintro e u' w'' ⟨rfl, rfl, rfl⟩
  simp only
  refine ⟨_, by simp [results, Tryz.results61, go_sem, hde, hd0, hd1]; rfl, ?_⟩
  exact ⟨_, _, rfl, G1.out, G2.out, G5.out⟩
end Go.Proofs.YtlfngdbpnhaphaaGreatDoor
namespace Go.Proofs.YtlfngdbpnhaphaaGreatDoor
open Go.RowKit M
/-- A number and an error code. -/
def OutN (w : World) (s : Nat) (c : Int) (e : Ending) (w' : World) : Prop := ∃ v, e = .returned (.tuple #[v, .int .i64 c]) ∧ Rd w' v (limbs s) ∧ Below w.heap.size w w'
theorem plain_ret (w : World) (s : Nat) : Plain (RetNat w s) := fun _ _ h => let ⟨v, he, _⟩ := h; Or.inl ⟨v, he⟩
theorem quiet_below {w w' : World} (h : Quiet w w') (B : Nat) : Below B w w' := by
  obtain ⟨d, rfl⟩ := h
  exact ⟨rfl, rfl, rfl, Nat.le_refl _, fun _ _ => rfl⟩
theorem mul_gen (ao bo : Option Addr) (A B : List Int) (n m ca cb : Nat) (w : World) (hn : A.length = n) (hm : B.length = m) (hca : CellsK .u32 w ao A) (hcb : CellsK .u32 w bo B) (hA : isNat A = true) (hB : isNat B = true) (s : Nat)
    (hS : ∀ w3, Below w.heap.size w w3 → Calls Tryz.prog 59 #[.slice ao n ca, .slice bo m cb] w3 (RetNat w3 s)) : Calls Tryz.prog 36 #[.slice ao n ca, .slice bo m cb] w (OutN w s 0) := by
  have hmf : ∀ (fn : Fn) (first cap : Array Value) (w : World), (Instr.makeFunc fn first cap).run Tryz.prog w = .ok (.func fn first cap) w := fun _ _ _ _ => rfl
  have hb2 : Below w.heap.size w ((w.alloc (.cells #[.slice ao n ca] 39)).alloc (.cells #[.slice bo m cb] 39)) := ((Below.refl _ _).alloc (Nat.le_refl _) _).alloc (by simp) _
  have hb3 : Below w.heap.size w (((w.alloc (.cells #[.slice ao n ca] 39)).alloc (.cells #[.slice bo m cb] 39)).alloc (.cells #[.int .i64 0] 28)) := hb2.alloc (by simp; omega) _
  have hb4 : Below w.heap.size w ((((w.alloc (.cells #[.slice ao n ca] 39)).alloc (.cells #[.slice bo m cb] 39)).alloc (.cells #[.int .i64 0] 28)).alloc (.cells #[.slice ao n ca, .slice bo m cb] 39)) := hb3.alloc (by simp; omega) _
  have c1 : Cap ((w.alloc (.cells #[.slice ao n ca] 39)).alloc (.cells #[.slice bo m cb] 39)) w.heap.size ao A n ca := ⟨by simp; omega, by simp [go_sem], hn, hca.keep hb2⟩
  have c2 : Cap ((w.alloc (.cells #[.slice ao n ca] 39)).alloc (.cells #[.slice bo m cb] 39)) (w.heap.size + 1) bo B m cb := ⟨by simp, by simp [go_sem], hm, hcb.keep hb2⟩
  have hat := attemptMul_ok ⟨w.heap.size, 0, none⟩ ⟨w.heap.size + 1, 0, none⟩ s ((w.alloc (.cells #[.slice ao n ca] 39)).alloc (.cells #[.slice bo m cb] 39)) (closMul_any w.heap.size (w.heap.size + 1) ao bo A B n m ca cb _ (c1.alloc _) (c2.alloc _) hA hB _ (plain_ret _ _) ((hS _ hb4).mono fun _ _ h => RetNat.after ((Below.refl _ _).alloc (Nat.le_refl _) _) h))
  have H := Bx.mk hat
  clear hat hS hca hcb hA hB hn hm c1 c2 hb3 hb4
  have HB := Bx.mk hb2
  clear hb2
  go_enter Tryz.func36, Tryz.ntmps36
  go_wp2_with fail
  refine H.out.mono ?_
  rintro e w3 ⟨v, rfl, hr, hb⟩
  go_wp2
  go_ret2
  exact ⟨v, rfl, hr, HB.out.trans (hb.mono HB.out.size)⟩
theorem cmp_gen (ao bo : Option Addr) (A B : List Int) (n m ca cb : Nat) (w : World) (hn : A.length = n) (hm : B.length = m) (hca : CellsK .u32 w ao A) (hcb : CellsK .u32 w bo B) (hA : isNat A = true) (hB : isNat B = true) (s : Int)
    (hS : ∀ w3, Below w.heap.size w w3 → Calls Tryz.prog 66 #[.slice ao n ca, .slice bo m cb] w3 fun e w' => e = .returned (.int .i64 s) ∧ Quiet w3 w') : Calls Tryz.prog 39 #[.slice ao n ca, .slice bo m cb] w fun e w' => e = .returned (.tuple #[.int .i64 s, .int .i64 0]) ∧ Below w.heap.size w w' := by
  have hmf : ∀ (fn : Fn) (first cap : Array Value) (w : World), (Instr.makeFunc fn first cap).run Tryz.prog w = .ok (.func fn first cap) w := fun _ _ _ _ => rfl
  have hb2 : Below w.heap.size w ((w.alloc (.cells #[.slice ao n ca] 39)).alloc (.cells #[.slice bo m cb] 39)) := ((Below.refl _ _).alloc (Nat.le_refl _) _).alloc (by simp) _
  have hb3 : Below w.heap.size w (((w.alloc (.cells #[.slice ao n ca] 39)).alloc (.cells #[.slice bo m cb] 39)).alloc (.cells #[.int .i64 0] 28)) := hb2.alloc (by simp; omega) _
  have hb4 : Below w.heap.size w ((((w.alloc (.cells #[.slice ao n ca] 39)).alloc (.cells #[.slice bo m cb] 39)).alloc (.cells #[.int .i64 0] 28)).alloc (.cells #[.slice ao n ca, .slice bo m cb] 39)) := hb3.alloc (by simp; omega) _
  have c1 : Cap ((w.alloc (.cells #[.slice ao n ca] 39)).alloc (.cells #[.slice bo m cb] 39)) w.heap.size ao A n ca := ⟨by simp; omega, by simp [go_sem], hn, hca.keep hb2⟩
  have c2 : Cap ((w.alloc (.cells #[.slice ao n ca] 39)).alloc (.cells #[.slice bo m cb] 39)) (w.heap.size + 1) bo B m cb := ⟨by simp, by simp [go_sem], hm, hcb.keep hb2⟩
  have hat := attemptCmp_ok ⟨w.heap.size, 0, none⟩ ⟨w.heap.size + 1, 0, none⟩ s ((w.alloc (.cells #[.slice ao n ca] 39)).alloc (.cells #[.slice bo m cb] 39)) (closCmp_any w.heap.size (w.heap.size + 1) ao bo A B n m ca cb _ (c1.alloc _) (c2.alloc _) hA hB _ (fun _ _ h => Or.inl ⟨_, h.1⟩) ((hS _ hb4).mono fun _ w' h => ⟨h.1, ((Below.refl _ _).alloc (by simp) _).trans (quiet_below h.2 _)⟩))
  have H := Bx.mk hat
  clear hat hS hca hcb hA hB hn hm c1 c2 hb3 hb4
  have HB := Bx.mk hb2
  clear hb2
  go_enter Tryz.func39, Tryz.ntmps39
  go_wp2_with fail
  refine H.out.mono ?_
  rintro e w3 ⟨rfl, hb⟩
  go_wp2
  go_ret2
  exact ⟨rfl, HB.out.trans (hb.mono HB.out.size)⟩
end Go.Proofs.YtlfngdbpnhaphaaGreatDoor
namespace Go.Proofs.YtlfngdbpnhaphaaGreatDoor
open Go.RowKit M
theorem pow_gen (ao : Option Addr) (A : List Int) (n ca : Nat) (x : Int) (w : World) (hn : A.length = n) (hca : CellsK .u32 w ao A) (hA : isNat A = true) (s : Nat) (hS : ∀ w3, Below w.heap.size w w3 → Calls Tryz.prog 114 #[.slice ao n ca, .int .i64 x] w3 (RetNat w3 s)) : Calls Tryz.prog 97 #[.slice ao n ca, .int .i64 x] w (OutN w s 0) := by
  have hmf : ∀ (fn : Fn) (first cap : Array Value) (w : World), (Instr.makeFunc fn first cap).run Tryz.prog w = .ok (.func fn first cap) w := fun _ _ _ _ => rfl
  have hb2 : Below w.heap.size w ((w.alloc (.cells #[.slice ao n ca] 39)).alloc (.cells #[.int .i64 x] 3)) := ((Below.refl _ _).alloc (Nat.le_refl _) _).alloc (by simp) _
  have hb3 : Below w.heap.size w (((w.alloc (.cells #[.slice ao n ca] 39)).alloc (.cells #[.int .i64 x] 3)).alloc (.cells #[.int .i64 0] 28)) := hb2.alloc (by simp; omega) _
  have hb4 : Below w.heap.size w ((((w.alloc (.cells #[.slice ao n ca] 39)).alloc (.cells #[.int .i64 x] 3)).alloc (.cells #[.int .i64 0] 28)).alloc (.cells #[.slice ao n ca] 39)) := hb3.alloc (by simp; omega) _
  have c1 : Cap ((w.alloc (.cells #[.slice ao n ca] 39)).alloc (.cells #[.int .i64 x] 3)) w.heap.size ao A n ca := ⟨by simp; omega, by simp [go_sem], hn, hca.keep hb2⟩
  have hat := attemptPow_ok ⟨w.heap.size, 0, none⟩ ⟨w.heap.size + 1, 0, none⟩ s ((w.alloc (.cells #[.slice ao n ca] 39)).alloc (.cells #[.int .i64 x] 3)) (closPow_any w.heap.size (w.heap.size + 1) ao A n ca x _ (c1.alloc _) (by simp) (by simp [go_sem]) hA _ (plain_ret _ _) ((hS _ hb4).mono fun _ _ h => RetNat.after ((Below.refl _ _).alloc (Nat.le_refl _) _) h))
  have H := Bx.mk hat
  clear hat hS hca hA hn c1 hb3 hb4
  have HB := Bx.mk hb2
  clear hb2
  go_enter Tryz.func97, Tryz.ntmps97
  go_wp2_with fail
  refine H.out.mono ?_
  rintro e w3 ⟨v, rfl, hr, hb⟩
  go_wp2
  go_ret2
  exact ⟨v, rfl, hr, HB.out.trans (hb.mono HB.out.size)⟩
end Go.Proofs.YtlfngdbpnhaphaaGreatDoor
namespace Go.Proofs.YtlfngdbpnhaphaaGreatDoor
open Go.RowKit M
/-- Two numbers and an error code. -/
def OutD (w : World) (q r : Nat) (c : Int) (e : Ending) (w' : World) : Prop := ∃ v1 v2, e = .returned (.tuple #[v1, v2, .int .i64 c]) ∧ Rd w' v1 (limbs q) ∧ Rd w' v2 (limbs r) ∧ Below w.heap.size w w'
theorem div_gen (ao bo : Option Addr) (A B : List Int) (n m ca cb : Nat) (w : World) (hn : A.length = n) (hm : B.length = m) (hca : CellsK .u32 w ao A) (hcb : CellsK .u32 w bo B) (hA : isNat A = true) (hB : isNat B = true) (q r : Nat)
    (hS : ∀ w3, Below w.heap.size w w3 → Calls Tryz.prog 63 #[.slice ao n ca, .slice bo m cb] w3 (RetPair w3 q r)) : Calls Tryz.prog 38 #[.slice ao n ca, .slice bo m cb] w (OutD w q r 0) := by
  have hmf : ∀ (fn : Fn) (first cap : Array Value) (w : World), (Instr.makeFunc fn first cap).run Tryz.prog w = .ok (.func fn first cap) w := fun _ _ _ _ => rfl
  have hb2 : Below w.heap.size w ((w.alloc (.cells #[.slice ao n ca] 39)).alloc (.cells #[.slice bo m cb] 39)) := ((Below.refl _ _).alloc (Nat.le_refl _) _).alloc (by simp) _
  have hb4 : Below w.heap.size w (((((w.alloc (.cells #[.slice ao n ca] 39)).alloc (.cells #[.slice bo m cb] 39)).alloc (.cells #[.slice none 0 0, .slice none 0 0] 84)).alloc (.cells #[.int .i64 0] 28))) := (hb2.alloc (by simp; omega) _).alloc (by simp; omega) _
  have c1 : Cap ((w.alloc (.cells #[.slice ao n ca] 39)).alloc (.cells #[.slice bo m cb] 39)) w.heap.size ao A n ca := ⟨by simp; omega, by simp [go_sem], hn, hca.keep hb2⟩
  have c2 : Cap ((w.alloc (.cells #[.slice ao n ca] 39)).alloc (.cells #[.slice bo m cb] 39)) (w.heap.size + 1) bo B m cb := ⟨by simp, by simp [go_sem], hm, hcb.keep hb2⟩
  have hat := attemptDiv_ok ⟨w.heap.size, 0, none⟩ ⟨w.heap.size + 1, 0, none⟩ q r _ (closDiv_ok w.heap.size (w.heap.size + 1) ao bo A B n m ca cb q r _ ((c1.alloc _).alloc _) ((c2.alloc _).alloc _) hA hB (fun w1 h => hS w1 (hb4.trans (h.mono hb4.size))))
  have H := Bx.mk hat
  clear hat hS hca hcb hA hB hn hm c1 c2 hb4
  have HB := Bx.mk hb2
  clear hb2
  go_enter Tryz.func38, Tryz.ntmps38
  go_wp2_with fail
  refine H.out.mono ?_
  rintro e w3 ⟨v1, v2, rfl, hr1, hr2, hb⟩
  obtain ⟨s1, n1, rfl, _, _, _⟩ := hr1.shape
  obtain ⟨s2, n2, rfl, _, _, _⟩ := hr2.shape
  have G := fun nq => below_drewN ((Below.refl w3.heap.size w3).alloc (Nat.le_refl _) (.cells #[.slice s1 (limbs q).length n1, .slice s2 (limbs r).length n2] 84)) nq
  have G1 := Bx.mk fun nq => hr1.keep (G nq)
  have G2 := Bx.mk fun nq => hr2.keep (G nq)
  have G5 := Bx.mk fun nq => (HB.out.trans (hb.mono HB.out.size)).trans ((G nq).mono (by have := hb.size; have := HB.out.size; omega))
  clear G hr1 hr2 HB H hb
  go_wp2_with fail
  go_quiet (fail)
  go_wp2
  go_ret3
  exact ⟨_, _, rfl, G1.out _, G2.out _, G5.out _⟩
end Go.Proofs.YtlfngdbpnhaphaaGreatDoor
namespace Go.Proofs.YtlfngdbpnhaphaaGreatDoor
open Go.RowKit M
/-- A number is in bounds. -/
structure Fits (a : Nat) : Prop where
  lt : (a : Int) < pw 640
structure Over (a : Nat) : Prop where
  le : pw 640 ≤ (a : Int)
theorem fits_or (a : Nat) : Fits a ∨ Over a := by
  by_cases h : (a : Int) < pw 640
  · exact Or.inl ⟨h⟩
  · exact Or.inr ⟨by omega⟩
theorem Fits.mono {a b : Nat} (h : Fits b) (hab : a ≤ b) : Fits a := ⟨by have := h.lt; omega⟩
theorem Over.mono {a b : Nat} (h : Over a) (hab : a ≤ b) : Over b := ⟨by have := h.le; omega⟩
theorem Fits.not {a : Nat} (h : Fits a) (k : Over a) : False := by have := h.lt; have := k.le; omega
/-- A value that reads as a number. -/
structure Nm (w : World) (v : Value) (a : Nat) : Prop where
  fits : Fits a
  rd : Rd w v (limbs a)
theorem Nm.keep {w w' : World} {v : Value} {a : Nat} (h : Nm w v a) (hb : Below w.heap.size w w') : Nm w' v a := ⟨h.fits, h.rd.keep hb⟩
theorem Nm.nil (w : World) : Nm w (.slice none 0 0) 0 := ⟨⟨by have := pw_pos 640; simpa using this⟩, by rw [limbs_zero]; exact Rd.nil w⟩
theorem Nm.shape {w : World} {v : Value} {a : Nat} (h : Nm w v a) : ∃ ao cap, v = .slice ao (limbs a).length cap ∧ CellsK .u32 w ao (limbs a) :=
  let ⟨ao, cap, e, _, _, h3⟩ := h.rd.shape; ⟨ao, cap, e, h3⟩
/-- All these values read as numbers. -/
def Live (w : World) (L : List (Value × Nat)) : Prop := ∀ p ∈ L, Nm w p.1 p.2
theorem Live.keep {w w' : World} {L : List (Value × Nat)} (h : Live w L) (hb : Below w.heap.size w w') : Live w' L := fun p hp => (h p hp).keep hb
theorem Live.cons {w : World} {v : Value} {a : Nat} {L : List (Value × Nat)} (h : Nm w v a) (hL : Live w L) : Live w ((v, a) :: L) := fun p hp => by
  rcases List.mem_cons.1 hp with e | e
  · subst e; exact h
  · exact hL p e
/-- What a call with a number and a code as its results leaves. -/
def Step (w : World) (L : List (Value × Nat)) (s : Nat) (c : Int) (e : Ending) (w' : World) : Prop := ∃ v, e = .returned (.tuple #[v, .int .i64 c]) ∧ Live w' ((v, s) :: L) ∧ Below w.heap.size w w'
theorem Step.of {w : World} {L : List (Value × Nat)} {s : Nat} {c : Int} {e : Ending} {w' : World} (hL : Live w L) (hs : Fits s) (h : OutN w s c e w') : Step w L s c e w' :=
  let ⟨v, he, hr, hb⟩ := h; ⟨v, he, (hL.keep hb).cons ⟨hs, hr⟩, hb⟩
theorem fits_zero : Fits 0 := (Nm.nil default).fits
section
variable {w : World} {L : List (Value × Nat)} {va vb : Value} {a b : Nat}
theorem mul_ok (hL : Live w L) (ha : (va, a) ∈ L) (hb : (vb, b) ∈ L) (hs : Fits (a * b)) : Calls Tryz.prog 36 #[va, vb] w (Step w L (a * b) 0) := by
  have na : Nm w va a := hL _ ha
  have nb : Nm w vb b := hL _ hb
  obtain ⟨ao, ca, e1, hca⟩ := na.shape
  obtain ⟨bo, cb, e2, hcb⟩ := nb.shape
  subst e1 e2
  exact (mul_gen ao bo _ _ _ _ ca cb w rfl rfl hca hcb (isNat_limbs na.fits.lt) (isNat_limbs nb.fits.lt) (a * b) fun w3 h => product_ok ao bo a b _ _ ca cb w3 rfl rfl na.fits.lt nb.fits.lt (hca.keep h) (hcb.keep h) hs.lt).mono fun _ _ h => Step.of hL hs h
theorem cmp_ok (hL : Live w L) (ha : (va, a) ∈ L) (hb : (vb, b) ∈ L) : Calls Tryz.prog 39 #[va, vb] w fun e w' => e = .returned (.tuple #[.int .i64 (cmpI a b), .int .i64 0]) ∧ Live w' L ∧ Below w.heap.size w w' := by
  have na : Nm w va a := hL _ ha
  have nb : Nm w vb b := hL _ hb
  obtain ⟨ao, ca, e1, hca⟩ := na.shape
  obtain ⟨bo, cb, e2, hcb⟩ := nb.shape
  subst e1 e2
  refine (cmp_gen ao bo _ _ _ _ ca cb w rfl rfl hca hcb (isNat_limbs na.fits.lt) (isNat_limbs nb.fits.lt) (cmpI a b) fun w3 h => ?_).mono fun _ _ h => ⟨h.1, hL.keep h.2, h.2⟩
  have := compare_any ao bo _ _ _ _ ca cb w3 rfl rfl (by have := limbs_length_le.2 na.fits.lt; omega) (by have := limbs_length_le.2 nb.fits.lt; omega) (ok_limbs a) (ok_limbs b) (limbs_last a) (limbs_last b) (hca.keep h) (hcb.keep h)
  rw [val_limbs, val_limbs] at this
  exact this
/-- What Div leaves. -/
def StepD (w : World) (L : List (Value × Nat)) (q r : Nat) (c : Int) (e : Ending) (w' : World) : Prop := ∃ v1 v2, e = .returned (.tuple #[v1, v2, .int .i64 c]) ∧ Live w' ((v1, q) :: (v2, r) :: L) ∧ Below w.heap.size w w'
theorem StepD.of {q r : Nat} {c : Int} {e : Ending} {w' : World} (hL : Live w L) (hq : Fits q) (hr : Fits r) (h : OutD w q r c e w') : StepD w L q r c e w' :=
  let ⟨v1, v2, he, h1, h2, hb⟩ := h; ⟨v1, v2, he, ((hL.keep hb).cons ⟨hr, h2⟩).cons ⟨hq, h1⟩, hb⟩
theorem div_ok (hL : Live w L) (ha : (va, a) ∈ L) (hb : (vb, b) ∈ L) (h0 : b ≠ 0) : Calls Tryz.prog 38 #[va, vb] w (StepD w L (a / b) (a % b) 0) := by
  have na : Nm w va a := hL _ ha
  have nb : Nm w vb b := hL _ hb
  obtain ⟨ao, ca, e1, hca⟩ := na.shape
  obtain ⟨bo, cb, e2, hcb⟩ := nb.shape
  subst e1 e2
  exact (div_gen ao bo _ _ _ _ ca cb w rfl rfl hca hcb (isNat_limbs na.fits.lt) (isNat_limbs nb.fits.lt) (a / b) (a % b) fun w3 h => quotient_any ao bo a b _ _ ca cb w3 rfl rfl na.fits.lt nb.fits.lt h0 (hca.keep h) (hcb.keep h)).mono fun _ _ h => StepD.of hL (na.fits.mono (Nat.div_le_self _ _)) (na.fits.mono (Nat.mod_le _ _)) h
theorem pow_ok (x : Nat) (hL : Live w L) (ha : (va, a) ∈ L) (hx : x < 2 ^ 63) (hs : Fits (a ^ x)) : Calls Tryz.prog 97 #[va, .int .i64 x] w (Step w L (a ^ x) 0) := by
  have na : Nm w va a := hL _ ha
  obtain ⟨ao, ca, e1, hca⟩ := na.shape
  subst e1
  refine (pow_gen ao _ _ ca x w rfl hca (isNat_limbs na.fits.lt) (a ^ x) fun w3 h => ?_).mono fun _ _ h => Step.of hL hs h
  exact power_any ao a x _ ca w3 na.fits.lt rfl hx (hca.keep h) _ (fun _ _ _ h => h) (fun h => absurd ⟨h⟩ (fun k => hs.not k))
theorem fits_u64 {x : Nat} (hx : x < 18446744073709551616) : Fits x := by
  refine ⟨?_⟩
  have h2 : pw 2 = 18446744073709551616 := by simp [pw]
  have := pw_le (show 2 ≤ 640 by omega)
  omega
theorem make_ok (x : Nat) (hL : Live w L) (hx : x < 18446744073709551616) : Calls Tryz.prog 37 #[.int .u64 x] w fun e w' => ∃ v, e = .returned v ∧ Live w' ((v, x) :: L) ∧ Below w.heap.size w w' :=
  (make_any x w hx).mono fun _ _ ⟨v, he, hr, hb⟩ => ⟨v, he, (hL.keep hb).cons ⟨fits_u64 hx, hr⟩, hb⟩
end
end Go.Proofs.YtlfngdbpnhaphaaGreatDoor
namespace Go.Proofs.YtlfngdbpnhaphaaGreatDoor
open Go.RowKit M
theorem drop_eq_step {A B : List Int} {k : Nat} (h : A.take k = B.take k) (hA : k < A.length) (hB : k < B.length) (e : A.getD k 0 = B.getD k 0) : A.take (k + 1) = B.take (k + 1) := by
  rw [take_snoc A k hA, take_snoc B k hB, h, e]
theorem same_core (ao bo : Option Addr) (A B : List Int) (n ca cb : Nat) (w : World) (hn : A.length = n) (hm : B.length = n) (hn6 : n ≤ 700) (hca : CellsK .u32 w ao A) (hcb : CellsK .u32 w bo B) :
    Calls Tryz.prog 31 #[.slice ao n ca, .slice bo n cb] w fun e w' => e = .returned (.bool (decide (A = B))) ∧ Quiet w w' := by
  go_enter Tryz.func31, Tryz.ntmps31
  go_wp2
  go_loopw [5] (fun v wr => ∃ k : Nat, k ≤ n ∧ v = .int .i64 (k : Int) ∧ Hid (A.take k = B.take k) ∧ Quiet w wr) (fun v _ => (n - (intOf v).toNat))
  case atStart => exact ⟨0, Nat.zero_le _, by go_num, by show _ = _; simp, Quiet.refl w⟩
  case round =>
    obtain ⟨k, hk, rfl, HD, hq⟩ := hrel
    by_cases h0 : k = n
    · subst h0
      have e : A = B := by have := HD.out; rwa [List.take_of_length_le (by omega), List.take_of_length_le (by omega)] at this
      have HE := Bx.mk e
      clear e HD
      go_wp2
      go_ret
      exact ⟨by simp [HE.out], hq⟩
    · obtain ⟨a, rfl, _, hac⟩ := hca.keep (hq.below _) (by intro e; subst e; simp at hn; omega)
      obtain ⟨b, rfl, _, hbc⟩ := hcb.keep (hq.below _) (by intro e; subst e; simp at hm; omega)
      have hca1 := hac k (by omega)
      have hcb1 := hbc k (by omega)
      clear hac hbc
      obtain ⟨x, hx⟩ : ∃ x, x = A.getD k 0 := ⟨_, rfl⟩
      obtain ⟨y, hy⟩ : ∃ y, y = B.getD k 0 := ⟨_, rfl⟩
      rw [← hx] at hca1
      rw [← hy] at hcb1
      have HX := Bx.mk hx
      have HY := Bx.mk hy
      clear hx hy
      have hb2 : (k : Int) < (n : Int) := by omega
      by_cases hxy : x = y
      · have ht : (x != y) = false := by simp [hxy]
        have HXY := Bx.mk hxy
        clear hxy
        go_wp2_with fail
        go_quiet (fail)
        go_wp2
        refine ⟨⟨k + 1, by omega, by go_num, ?_, hq.drewN _⟩, by simp [intOf]; omega⟩
        show _ = _
        exact drop_eq_step HD.out (by omega) (by omega) (by rw [← HX.out, ← HY.out]; exact HXY.out)
      · have ht : (x != y) = true := by simp [hxy]
        have HXY := Bx.mk hxy
        clear hxy
        go_wp2_with fail
        go_quiet (fail)
        go_wp2
        go_ret
        refine ⟨?_, hq.drewN _⟩
        have hne : A ≠ B := fun e => HXY.out (by rw [HX.out, HY.out, e])
        simp [hne]
theorem same_any (ao bo : Option Addr) (A B : List Int) (n m ca cb : Nat) (w : World) (hn : A.length = n) (hm : B.length = m) (hn6 : n ≤ 700) (hm6 : m ≤ 700) (hca : CellsK .u32 w ao A) (hcb : CellsK .u32 w bo B) :
    Calls Tryz.prog 31 #[.slice ao n ca, .slice bo m cb] w fun e w' => e = .returned (.bool (decide (A = B))) ∧ Quiet w w' := by
  by_cases h : n = m
  · subst h; exact same_core ao bo A B n ca cb w hn hm hn6 hca hcb
  · have hne : A ≠ B := fun e => h (by rw [← hn, ← hm, e])
    have HNE := Bx.mk hne
    have hz : ((n : Int) == (m : Int)) = false := beq_eq_false_iff_ne.2 (by omega)
    have hz' : ((n : Int) != (m : Int)) = true := by simp; omega
    clear hne h hn hm hca hcb
    go_enter Tryz.func31, Tryz.ntmps31
    go_wp2
    go_ret
    exact ⟨by simp [HNE.out], Quiet.refl _⟩
theorem same_ok {w : World} {L : List (Value × Nat)} {va vb : Value} {a b : Nat} (hL : Live w L) (ha : (va, a) ∈ L) (hb : (vb, b) ∈ L) :
    Calls Tryz.prog 31 #[va, vb] w fun e w' => e = .returned (.bool (decide (a = b))) ∧ Live w' L ∧ Below w.heap.size w w' := by
  have na : Nm w va a := hL _ ha
  have nb : Nm w vb b := hL _ hb
  obtain ⟨ao, ca, e1, hca⟩ := na.shape
  obtain ⟨bo, cb, e2, hcb⟩ := nb.shape
  subst e1 e2
  refine (same_any ao bo _ _ _ _ ca cb w rfl rfl (by have := limbs_length_le.2 na.fits.lt; omega) (by have := limbs_length_le.2 nb.fits.lt; omega) hca hcb).mono fun _ _ h => ⟨?_, hL.keep (h.2.below _), h.2.below _⟩
  rw [h.1]
  congr 2
  exact decide_eq_decide.2 ⟨limbs_inj, fun e => by rw [e]⟩
end Go.Proofs.YtlfngdbpnhaphaaGreatDoor
namespace Go.Proofs.YtlfngdbpnhaphaaGreatDoor
open Go.RowKit M
/-- Where a law stands: what it has kept since its start, and the numbers that it holds. -/
structure St (w0 w : World) (L : List (Value × Nat)) : Prop where
  below : Below w0.heap.size w0 w
  live : Live w L
theorem St.next {w0 w w' : World} {L L' : List (Value × Nat)} (S : St w0 w L) (hl : Live w' L') (hb : Below w.heap.size w w') : St w0 w' L' :=
  ⟨S.below.trans (hb.mono S.below.size), hl⟩
theorem St.on {w0 w w' : World} {L : List (Value × Nat)} (S : St w0 w L) (hb : Below w.heap.size w w') : St w0 w' L := S.next (S.live.keep hb) hb
theorem nm_lit (w : World) (xs : List Int) (a : Nat) (ho : Ok xs) (hl : xs.getLast? ≠ some 0) (he : val xs = a) (hlen : xs.length ≤ 640) :
    Nm (w.alloc (.cells (xs.map (Value.int .u32)).toArray 57)) (.slice (some ⟨w.heap.size, 0, none⟩) xs.length xs.length) a := by
  have e : limbs a = xs := by have := limbs_val ho hl; rwa [he, Int.toNat_natCast] at this
  refine ⟨⟨limbs_length_le.1 (by rw [e]; exact hlen)⟩, ⟨ok_limbs a, ?_⟩⟩
  rw [e]
  refine ⟨some ⟨w.heap.size, 0, none⟩, xs.length, rfl, Nat.le_refl _, by unfold maxLen; omega, fun _ => ⟨_, rfl, by simp, fun i hi => ?_⟩⟩
  have hadd : (⟨w.heap.size, 0, none⟩ : Addr).add i = ⟨w.heap.size, i, none⟩ := by unfold Addr.add; split <;> simp_all
  rw [hadd]
  have hg : (w.alloc (.cells (xs.map (Value.int .u32)).toArray 57)).heap[w.heap.size]? = some (.cells (xs.map (Value.int .u32)).toArray 57 (0, 0)) := Array.getElem?_push_size
  simp only [World.cell?, hg]
  simp [List.getD, hi]
theorem St.lit {w0 w : World} {L : List (Value × Nat)} (S : St w0 w L) (xs : List Int) (a : Nat) (ho : Ok xs) (hl : xs.getLast? ≠ some 0) (he : val xs = a) (hlen : xs.length ≤ 640) :
    St w0 (w.alloc (.cells (xs.map (Value.int .u32)).toArray 57)) ((.slice (some ⟨w.heap.size, 0, none⟩) xs.length xs.length, a) :: L) :=
  ⟨S.below.alloc S.below.size _, (S.live.keep ((Below.refl _ _).alloc (Nat.le_refl _) _)).cons (nm_lit w xs a ho hl he hlen)⟩
section
variable {w0 w : World} {L : List (Value × Nat)} {va vb : Value} {a b : Nat}
theorem same_yes (hL : Live w L) (ha : (va, a) ∈ L) (hb : (vb, b) ∈ L) (h : a = b) : Calls Tryz.prog 31 #[va, vb] w fun e w' => e = .returned (.bool true) ∧ Live w' L ∧ Below w.heap.size w w' := by
  have := same_ok hL ha hb
  rwa [decide_eq_true h] at this
theorem same_no (hL : Live w L) (ha : (va, a) ∈ L) (hb : (vb, b) ∈ L) (h : a ≠ b) : Calls Tryz.prog 31 #[va, vb] w fun e w' => e = .returned (.bool false) ∧ Live w' L ∧ Below w.heap.size w w' := by
  have := same_ok hL ha hb
  rwa [decide_eq_false h] at this
theorem cmp_lt (hL : Live w L) (ha : (va, a) ∈ L) (hb : (vb, b) ∈ L) (h : a < b) : Calls Tryz.prog 39 #[va, vb] w fun e w' => e = .returned (.tuple #[.int .i64 (-1), .int .i64 0]) ∧ Live w' L ∧ Below w.heap.size w w' := by
  have := cmp_ok hL ha hb
  rwa [cmpI_lt (by omega)] at this
theorem cmp_gt (hL : Live w L) (ha : (va, a) ∈ L) (hb : (vb, b) ∈ L) (h : b < a) : Calls Tryz.prog 39 #[va, vb] w fun e w' => e = .returned (.tuple #[.int .i64 1, .int .i64 0]) ∧ Live w' L ∧ Below w.heap.size w w' := by
  have := cmp_ok hL ha hb
  rwa [cmpI_gt (by omega)] at this
theorem cmp_eq (hL : Live w L) (ha : (va, a) ∈ L) (hb : (vb, b) ∈ L) (h : a = b) : Calls Tryz.prog 39 #[va, vb] w fun e w' => e = .returned (.tuple #[.int .i64 0, .int .i64 0]) ∧ Live w' L ∧ Below w.heap.size w w' := by
  have := cmp_ok hL ha hb
  subst h
  rwa [cmpI_eq] at this
end
theorem fits_small {a : Nat} (h : a < 340282366920938463463374607431768211456) : Fits a := by
  refine ⟨?_⟩
  have h2 : pw 4 = 340282366920938463463374607431768211456 := by simp [pw]
  have := pw_le (show 4 ≤ 640 by omega)
  omega
end Go.Proofs.YtlfngdbpnhaphaaGreatDoor

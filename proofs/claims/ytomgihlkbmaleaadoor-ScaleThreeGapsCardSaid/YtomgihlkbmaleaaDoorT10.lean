/- natural: what the exported functions return. -/
import Derived.Test.YtomgihlkbmaleaaDoorNB
import Derived.BigQuiet
namespace Go.Proofs.YtomgihlkbmaleaaDoor
open Go.RowKit M
/-- What a closure has captured: a variable that holds a slice of limbs. -/
structure Cap (w : World) (b : Nat) (ao : Option Addr) (A : List Int) (n ca : Nat) : Prop where
  lt : b < w.heap.size
  cell : w.cell? ⟨b, 0, none⟩ = some (.slice ao n ca)
  len : A.length = n
  cells : CellsK .u32 w ao A
theorem Cap.alloc {w : World} {b : Nat} {ao : Option Addr} {A : List Int} {n ca : Nat} (h : Cap w b ao A n ca) (o : Obj) : Cap (w.alloc o) b ao A n ca :=
  ⟨by simp; have := h.lt; omega, by rw [World.cell?_alloc_past (hn := h.lt)]; exact h.cell, h.len, h.cells.keep ((Below.refl _ _).alloc (Nat.le_refl _) _)⟩
/-- What comes back is a value or a panic. -/
def Plain (R : Ending → World → Prop) : Prop := ∀ e w', R e w' → (∃ v, e = .returned v) ∨ ∃ p, e = .panicked p
theorem closMul_any (b1 b2 : Nat) (ao bo : Option Addr) (A B : List Int) (n m ca cb : Nat) (w : World) (h1 : Cap w b1 ao A n ca) (h2 : Cap w b2 bo B m cb) (hA : isNat A = true) (hB : isNat B = true)
    (R : Ending → World → Prop) (hR : Plain R) (hS : Calls Tryd.prog 98 #[.slice ao n ca, .slice bo m cb] (w.alloc (.cells #[.slice ao n ca, .slice bo m cb] 71)) R) :
    Calls Tryd.prog 97 #[.pointer (some ⟨b1, 0, none⟩), .pointer (some ⟨b2, 0, none⟩)] w R := by
  have h1' := h1.alloc (.cells #[.slice ao n ca, .slice bo m cb] 71)
  have h2' := h2.alloc (.cells #[.slice ao n ca, .slice bo m cb] 71)
  have hreq := require2_ok w.heap.size ao bo A B n m ca cb (w.alloc (.cells #[.slice ao n ca, .slice bo m cb] 71)) h1.len h2.len h1'.cells h2'.cells hA hB (by simp [go_sem]) (by simp [go_sem])
  have hc1 := h1.cell
  have hc2 := h2.cell
  have hl1 := h1.lt
  have hl2 := h2.lt
  have HR := Bx.mk hreq
  have HS := Bx.mk hS
  clear hreq hS h1 h2 h1' h2' hA hB
  go_enter Tryd.func97, Tryd.ntmps97
  go_wp2_with fail
  refine HR.out.mono ?_
  rintro e w2 ⟨rfl, rfl⟩
  go_wp2_with fail
  refine HS.out.mono ?_
  intro e w3 h
  rcases hR e w3 h with ⟨v, rfl⟩ | ⟨p, rfl⟩
  · go_wp2
    all_goals exact h
  · exact ⟨rfl, h⟩
theorem closCmp_any (b1 b2 : Nat) (ao bo : Option Addr) (A B : List Int) (n m ca cb : Nat) (w : World) (h1 : Cap w b1 ao A n ca) (h2 : Cap w b2 bo B m cb) (hA : isNat A = true) (hB : isNat B = true)
    (R : Ending → World → Prop) (hR : Plain R) (hS : Calls Tryd.prog 61 #[.slice ao n ca, .slice bo m cb] (w.alloc (.cells #[.slice ao n ca, .slice bo m cb] 71)) R) :
    Calls Tryd.prog 59 #[.pointer (some ⟨b1, 0, none⟩), .pointer (some ⟨b2, 0, none⟩)] w R := by
  have h1' := h1.alloc (.cells #[.slice ao n ca, .slice bo m cb] 71)
  have h2' := h2.alloc (.cells #[.slice ao n ca, .slice bo m cb] 71)
  have hreq := require2_ok w.heap.size ao bo A B n m ca cb (w.alloc (.cells #[.slice ao n ca, .slice bo m cb] 71)) h1.len h2.len h1'.cells h2'.cells hA hB (by simp [go_sem]) (by simp [go_sem])
  have hc1 := h1.cell
  have hc2 := h2.cell
  have hl1 := h1.lt
  have hl2 := h2.lt
  have HR := Bx.mk hreq
  have HS := Bx.mk hS
  clear hreq hS h1 h2 h1' h2' hA hB
  go_enter Tryd.func59, Tryd.ntmps59
  go_wp2_with fail
  refine HR.out.mono ?_
  rintro e w2 ⟨rfl, rfl⟩
  go_wp2_with fail
  refine HS.out.mono ?_
  intro e w3 h
  rcases hR e w3 h with ⟨v, rfl⟩ | ⟨p, rfl⟩
  · go_wp2
    all_goals exact h
  · exact ⟨rfl, h⟩
theorem closPow_any (b1 b2 : Nat) (ao : Option Addr) (A : List Int) (n ca : Nat) (x : Int) (w : World) (h1 : Cap w b1 ao A n ca) (hl2 : b2 < w.heap.size) (hc2 : w.cell? ⟨b2, 0, none⟩ = some (.int .i64 x)) (hA : isNat A = true)
    (R : Ending → World → Prop) (hR : Plain R) (hS : Calls Tryd.prog 96 #[.slice ao n ca, .int .i64 x] (w.alloc (.cells #[.slice ao n ca] 71)) R) :
    Calls Tryd.prog 95 #[.pointer (some ⟨b1, 0, none⟩), .pointer (some ⟨b2, 0, none⟩)] w R := by
  have h1' := h1.alloc (.cells #[.slice ao n ca] 71)
  have hreq := require1_ok w.heap.size ao A n ca (w.alloc (.cells #[.slice ao n ca] 71)) h1.len h1'.cells hA (by simp [go_sem])
  have hc1 := h1.cell
  have hl1 := h1.lt
  have HR := Bx.mk hreq
  have HS := Bx.mk hS
  clear hreq hS h1 h1' hA
  go_enter Tryd.func95, Tryd.ntmps95
  go_wp2_with fail
  refine HR.out.mono ?_
  rintro e w2 ⟨rfl, rfl⟩
  go_wp2_with fail
  refine HS.out.mono ?_
  intro e w3 h
  rcases hR e w3 h with ⟨v, rfl⟩ | ⟨p, rfl⟩
  · go_wp2
    all_goals exact h
  · exact ⟨rfl, h⟩
end Go.Proofs.YtomgihlkbmaleaaDoor
namespace Go.Proofs.YtomgihlkbmaleaaDoor
open Go.RowKit M
/-- A block holds no number. -/
def NoInt (w : World) (g : Nat) : Prop := ∀ i k x, w.cell? ⟨g, i, none⟩ ≠ some (.int k x)
theorem NoInt.setCell {w : World} {g o : Nat} {ao : Option Addr} {n c : Nat} (h : NoInt w g) : NoInt (w.setCell ⟨g, o, none⟩ (.slice ao n c)) g := by
  intro i k x e
  by_cases hio : i = o
  · subst hio
    have hz : (w.cell? ⟨g, i, none⟩).isSome = true ∨ w.cell? ⟨g, i, none⟩ = none := by cases w.cell? ⟨g, i, none⟩ <;> simp
    rcases hz with hz | hz
    · rw [World.cell?_setCell_same' _ _ _ hz] at e; cases e
    · have : (w.setCell ⟨g, i, none⟩ (.slice ao n c)).cell? ⟨g, i, none⟩ = none := by
        simp only [World.cell?, World.setCell, Array.getElem?_modify] at hz ⊢
        cases hh : w.heap[g]? with
        | none => simp
        | some ob => cases ob <;> simp_all
      rw [this] at e; cases e
  · rw [World.cell?_setCell_other _ _ _ _ (by intro e'; injection e' with _ e2; exact hio (by omega))] at e
    exact h i k x e
theorem Rd.setCell {w : World} {v u : Value} {l : List Int} {g o : Nat} (h : Rd w v l) (hg : NoInt w g) : Rd (w.setCell ⟨g, o, none⟩ u) v l := by
  obtain ⟨hok, ao, cap, e, h1, h2, h3⟩ := h
  refine ⟨hok, ao, cap, e, h1, h2, fun hne => ?_⟩
  obtain ⟨a, rfl, ha, hc⟩ := h3 hne
  have hpos : 0 < l.length := List.length_pos_iff.2 hne
  have h0 := hc 0 hpos
  rw [add_zero_addr] at h0
  have hsp : a.spot = none := by
    cases hs : a.spot with
    | none => rfl
    | some s => simp only [World.cell?, hs] at h0; split at h0 <;> simp at h0
  have hb : a.block ≠ g := by
    intro e'
    apply hg a.off .u32 (l.getD 0 0)
    rw [← h0]; cases a; simp_all
  refine ⟨a, rfl, by simpa [World.setCell] using ha, fun i hi => ?_⟩
  have hblk : (a.add i).block = a.block := by unfold Addr.add; split <;> rfl
  rw [World.cell?_setCell_other _ _ _ _ (by intro e'; rw [← e'] at hblk; exact hb hblk.symm)]
  exact hc i hi
end Go.Proofs.YtomgihlkbmaleaaDoor
namespace Go.Proofs.YtomgihlkbmaleaaDoor
open Go.RowKit M
end Go.Proofs.YtomgihlkbmaleaaDoor
namespace Go.Proofs.YtomgihlkbmaleaaDoor
open Go.RowKit M
/-- A number and an error code. -/
def OutN (w : World) (s : Nat) (c : Int) (e : Ending) (w' : World) : Prop := ∃ v, e = .returned (.tuple #[v, .int .i64 c]) ∧ Rd w' v (limbs s) ∧ Below w.heap.size w w'
theorem plain_ret (w : World) (s : Nat) : Plain (RetNat w s) := fun _ _ h => let ⟨v, he, _⟩ := h; Or.inl ⟨v, he⟩
theorem quiet_below {w w' : World} (h : Quiet w w') (B : Nat) : Below B w w' := by
  obtain ⟨d, rfl⟩ := h
  exact ⟨rfl, rfl, rfl, Nat.le_refl _, fun _ _ => rfl⟩
theorem mul_gen (ao bo : Option Addr) (A B : List Int) (n m ca cb : Nat) (w : World) (hn : A.length = n) (hm : B.length = m) (hca : CellsK .u32 w ao A) (hcb : CellsK .u32 w bo B) (hA : isNat A = true) (hB : isNat B = true) (s : Nat)
    (hS : ∀ w3, Below w.heap.size w w3 → Calls Tryd.prog 98 #[.slice ao n ca, .slice bo m cb] w3 (RetNat w3 s)) : Calls Tryd.prog 81 #[.slice ao n ca, .slice bo m cb] w (OutN w s 0) := by
  have hmf : ∀ (fn : Fn) (first cap : Array Value) (w : World), (Instr.makeFunc fn first cap).run Tryd.prog w = .ok (.func fn first cap) w := fun _ _ _ _ => rfl
  have hb2 : Below w.heap.size w ((w.alloc (.cells #[.slice ao n ca] 71)).alloc (.cells #[.slice bo m cb] 71)) := ((Below.refl _ _).alloc (Nat.le_refl _) _).alloc (by simp) _
  have hb3 : Below w.heap.size w (((w.alloc (.cells #[.slice ao n ca] 71)).alloc (.cells #[.slice bo m cb] 71)).alloc (.cells #[.int .i64 0] 25)) := hb2.alloc (by simp; omega) _
  have hb4 : Below w.heap.size w ((((w.alloc (.cells #[.slice ao n ca] 71)).alloc (.cells #[.slice bo m cb] 71)).alloc (.cells #[.int .i64 0] 25)).alloc (.cells #[.slice ao n ca, .slice bo m cb] 71)) := hb3.alloc (by simp; omega) _
  have c1 : Cap ((w.alloc (.cells #[.slice ao n ca] 71)).alloc (.cells #[.slice bo m cb] 71)) w.heap.size ao A n ca := ⟨by simp; omega, by simp [go_sem], hn, hca.keep hb2⟩
  have c2 : Cap ((w.alloc (.cells #[.slice ao n ca] 71)).alloc (.cells #[.slice bo m cb] 71)) (w.heap.size + 1) bo B m cb := ⟨by simp, by simp [go_sem], hm, hcb.keep hb2⟩
  have hat := attemptMul_ok ⟨w.heap.size, 0, none⟩ ⟨w.heap.size + 1, 0, none⟩ s ((w.alloc (.cells #[.slice ao n ca] 71)).alloc (.cells #[.slice bo m cb] 71)) (closMul_any w.heap.size (w.heap.size + 1) ao bo A B n m ca cb _ (c1.alloc _) (c2.alloc _) hA hB _ (plain_ret _ _) ((hS _ hb4).mono fun _ _ h => RetNat.after ((Below.refl _ _).alloc (Nat.le_refl _) _) h))
  have H := Bx.mk hat
  clear hat hS hca hcb hA hB hn hm c1 c2 hb3 hb4
  have HB := Bx.mk hb2
  clear hb2
  go_enter Tryd.func81, Tryd.ntmps81
  go_wp2_with fail
  refine H.out.mono ?_
  rintro e w3 ⟨v, rfl, hr, hb⟩
  go_wp2
  go_ret2
  exact ⟨v, rfl, hr, HB.out.trans (hb.mono HB.out.size)⟩
theorem cmp_gen (ao bo : Option Addr) (A B : List Int) (n m ca cb : Nat) (w : World) (hn : A.length = n) (hm : B.length = m) (hca : CellsK .u32 w ao A) (hcb : CellsK .u32 w bo B) (hA : isNat A = true) (hB : isNat B = true) (s : Int)
    (hS : ∀ w3, Below w.heap.size w w3 → Calls Tryd.prog 61 #[.slice ao n ca, .slice bo m cb] w3 fun e w' => e = .returned (.int .i64 s) ∧ Quiet w3 w') : Calls Tryd.prog 47 #[.slice ao n ca, .slice bo m cb] w fun e w' => e = .returned (.tuple #[.int .i64 s, .int .i64 0]) ∧ Below w.heap.size w w' := by
  have hmf : ∀ (fn : Fn) (first cap : Array Value) (w : World), (Instr.makeFunc fn first cap).run Tryd.prog w = .ok (.func fn first cap) w := fun _ _ _ _ => rfl
  have hb2 : Below w.heap.size w ((w.alloc (.cells #[.slice ao n ca] 71)).alloc (.cells #[.slice bo m cb] 71)) := ((Below.refl _ _).alloc (Nat.le_refl _) _).alloc (by simp) _
  have hb3 : Below w.heap.size w (((w.alloc (.cells #[.slice ao n ca] 71)).alloc (.cells #[.slice bo m cb] 71)).alloc (.cells #[.int .i64 0] 25)) := hb2.alloc (by simp; omega) _
  have hb4 : Below w.heap.size w ((((w.alloc (.cells #[.slice ao n ca] 71)).alloc (.cells #[.slice bo m cb] 71)).alloc (.cells #[.int .i64 0] 25)).alloc (.cells #[.slice ao n ca, .slice bo m cb] 71)) := hb3.alloc (by simp; omega) _
  have c1 : Cap ((w.alloc (.cells #[.slice ao n ca] 71)).alloc (.cells #[.slice bo m cb] 71)) w.heap.size ao A n ca := ⟨by simp; omega, by simp [go_sem], hn, hca.keep hb2⟩
  have c2 : Cap ((w.alloc (.cells #[.slice ao n ca] 71)).alloc (.cells #[.slice bo m cb] 71)) (w.heap.size + 1) bo B m cb := ⟨by simp, by simp [go_sem], hm, hcb.keep hb2⟩
  have hat := attemptCmp_ok ⟨w.heap.size, 0, none⟩ ⟨w.heap.size + 1, 0, none⟩ s ((w.alloc (.cells #[.slice ao n ca] 71)).alloc (.cells #[.slice bo m cb] 71)) (closCmp_any w.heap.size (w.heap.size + 1) ao bo A B n m ca cb _ (c1.alloc _) (c2.alloc _) hA hB _ (fun _ _ h => Or.inl ⟨_, h.1⟩) ((hS _ hb4).mono fun _ w' h => ⟨h.1, ((Below.refl _ _).alloc (by simp) _).trans (quiet_below h.2 _)⟩))
  have H := Bx.mk hat
  clear hat hS hca hcb hA hB hn hm c1 c2 hb3 hb4
  have HB := Bx.mk hb2
  clear hb2
  go_enter Tryd.func47, Tryd.ntmps47
  go_wp2_with fail
  refine H.out.mono ?_
  rintro e w3 ⟨rfl, hb⟩
  go_wp2
  go_ret2
  exact ⟨rfl, HB.out.trans (hb.mono HB.out.size)⟩
end Go.Proofs.YtomgihlkbmaleaaDoor
namespace Go.Proofs.YtomgihlkbmaleaaDoor
open Go.RowKit M
theorem pow_gen (ao : Option Addr) (A : List Int) (n ca : Nat) (x : Int) (w : World) (hn : A.length = n) (hca : CellsK .u32 w ao A) (hA : isNat A = true) (s : Nat) (hS : ∀ w3, Below w.heap.size w w3 → Calls Tryd.prog 96 #[.slice ao n ca, .int .i64 x] w3 (RetNat w3 s)) : Calls Tryd.prog 80 #[.slice ao n ca, .int .i64 x] w (OutN w s 0) := by
  have hmf : ∀ (fn : Fn) (first cap : Array Value) (w : World), (Instr.makeFunc fn first cap).run Tryd.prog w = .ok (.func fn first cap) w := fun _ _ _ _ => rfl
  have hb2 : Below w.heap.size w ((w.alloc (.cells #[.slice ao n ca] 71)).alloc (.cells #[.int .i64 x] 3)) := ((Below.refl _ _).alloc (Nat.le_refl _) _).alloc (by simp) _
  have hb3 : Below w.heap.size w (((w.alloc (.cells #[.slice ao n ca] 71)).alloc (.cells #[.int .i64 x] 3)).alloc (.cells #[.int .i64 0] 25)) := hb2.alloc (by simp; omega) _
  have hb4 : Below w.heap.size w ((((w.alloc (.cells #[.slice ao n ca] 71)).alloc (.cells #[.int .i64 x] 3)).alloc (.cells #[.int .i64 0] 25)).alloc (.cells #[.slice ao n ca] 71)) := hb3.alloc (by simp; omega) _
  have c1 : Cap ((w.alloc (.cells #[.slice ao n ca] 71)).alloc (.cells #[.int .i64 x] 3)) w.heap.size ao A n ca := ⟨by simp; omega, by simp [go_sem], hn, hca.keep hb2⟩
  have hat := attemptPow_ok ⟨w.heap.size, 0, none⟩ ⟨w.heap.size + 1, 0, none⟩ s ((w.alloc (.cells #[.slice ao n ca] 71)).alloc (.cells #[.int .i64 x] 3)) (closPow_any w.heap.size (w.heap.size + 1) ao A n ca x _ (c1.alloc _) (by simp) (by simp [go_sem]) hA _ (plain_ret _ _) ((hS _ hb4).mono fun _ _ h => RetNat.after ((Below.refl _ _).alloc (Nat.le_refl _) _) h))
  have H := Bx.mk hat
  clear hat hS hca hA hn c1 hb3 hb4
  have HB := Bx.mk hb2
  clear hb2
  go_enter Tryd.func80, Tryd.ntmps80
  go_wp2_with fail
  refine H.out.mono ?_
  rintro e w3 ⟨v, rfl, hr, hb⟩
  go_wp2
  go_ret2
  exact ⟨v, rfl, hr, HB.out.trans (hb.mono HB.out.size)⟩
end Go.Proofs.YtomgihlkbmaleaaDoor
namespace Go.Proofs.YtomgihlkbmaleaaDoor
open Go.RowKit M
/-- Two numbers and an error code. -/
def OutD (w : World) (q r : Nat) (c : Int) (e : Ending) (w' : World) : Prop := ∃ v1 v2, e = .returned (.tuple #[v1, v2, .int .i64 c]) ∧ Rd w' v1 (limbs q) ∧ Rd w' v2 (limbs r) ∧ Below w.heap.size w w'
end Go.Proofs.YtomgihlkbmaleaaDoor
namespace Go.Proofs.YtomgihlkbmaleaaDoor
open Go.RowKit M
/-- A number is in bounds. -/
structure Fits (a : Nat) : Prop where
  lt : (a : Int) < pw 640
structure Over (a : Nat) : Prop where
  le : pw 640 ≤ (a : Int)
theorem Fits.mono {a b : Nat} (h : Fits b) (hab : a ≤ b) : Fits a := ⟨by have := h.lt; omega⟩
theorem Over.mono {a b : Nat} (h : Over a) (hab : a ≤ b) : Over b := ⟨by have := h.le; omega⟩
theorem Fits.not {a : Nat} (h : Fits a) (k : Over a) : False := by have := h.lt; have := k.le; omega
/-- A value that reads as a number. -/
structure Nm (w : World) (v : Value) (a : Nat) : Prop where
  fits : Fits a
  rd : Rd w v (limbs a)
theorem Nm.keep {w w' : World} {v : Value} {a : Nat} (h : Nm w v a) (hb : Below w.heap.size w w') : Nm w' v a := ⟨h.fits, h.rd.keep hb⟩
theorem Nm.nil (w : World) : Nm w (.slice none 0 0) 0 := ⟨⟨by have := pw_pos 640; simpa using this⟩, by rw [limbs_zero]; exact Rd.nil w⟩
theorem Nm.shape {w : World} {v : Value} {a : Nat} (h : Nm w v a) : ∃ ao cap, v = .slice ao (limbs a).length cap ∧ CellsK .u32 w ao (limbs a) :=
  let ⟨ao, cap, e, _, _, h3⟩ := h.rd.shape; ⟨ao, cap, e, h3⟩
/-- All these values read as numbers. -/
def Live (w : World) (L : List (Value × Nat)) : Prop := ∀ p ∈ L, Nm w p.1 p.2
theorem Live.keep {w w' : World} {L : List (Value × Nat)} (h : Live w L) (hb : Below w.heap.size w w') : Live w' L := fun p hp => (h p hp).keep hb
theorem Live.cons {w : World} {v : Value} {a : Nat} {L : List (Value × Nat)} (h : Nm w v a) (hL : Live w L) : Live w ((v, a) :: L) := fun p hp => by
  rcases List.mem_cons.1 hp with e | e
  · subst e; exact h
  · exact hL p e
/-- What a call with a number and a code as its results leaves. -/
def Step (w : World) (L : List (Value × Nat)) (s : Nat) (c : Int) (e : Ending) (w' : World) : Prop := ∃ v, e = .returned (.tuple #[v, .int .i64 c]) ∧ Live w' ((v, s) :: L) ∧ Below w.heap.size w w'
theorem Step.of {w : World} {L : List (Value × Nat)} {s : Nat} {c : Int} {e : Ending} {w' : World} (hL : Live w L) (hs : Fits s) (h : OutN w s c e w') : Step w L s c e w' :=
  let ⟨v, he, hr, hb⟩ := h; ⟨v, he, (hL.keep hb).cons ⟨hs, hr⟩, hb⟩
section
variable {w : World} {L : List (Value × Nat)} {va vb : Value} {a b : Nat}
theorem mul_ok (hL : Live w L) (ha : (va, a) ∈ L) (hb : (vb, b) ∈ L) (hs : Fits (a * b)) : Calls Tryd.prog 81 #[va, vb] w (Step w L (a * b) 0) := by
  have na : Nm w va a := hL _ ha
  have nb : Nm w vb b := hL _ hb
  obtain ⟨ao, ca, e1, hca⟩ := na.shape
  obtain ⟨bo, cb, e2, hcb⟩ := nb.shape
  subst e1 e2
  exact (mul_gen ao bo _ _ _ _ ca cb w rfl rfl hca hcb (isNat_limbs na.fits.lt) (isNat_limbs nb.fits.lt) (a * b) fun w3 h => product_ok ao bo a b _ _ ca cb w3 rfl rfl na.fits.lt nb.fits.lt (hca.keep h) (hcb.keep h) hs.lt).mono fun _ _ h => Step.of hL hs h
theorem cmp_ok (hL : Live w L) (ha : (va, a) ∈ L) (hb : (vb, b) ∈ L) : Calls Tryd.prog 47 #[va, vb] w fun e w' => e = .returned (.tuple #[.int .i64 (cmpI a b), .int .i64 0]) ∧ Live w' L ∧ Below w.heap.size w w' := by
  have na : Nm w va a := hL _ ha
  have nb : Nm w vb b := hL _ hb
  obtain ⟨ao, ca, e1, hca⟩ := na.shape
  obtain ⟨bo, cb, e2, hcb⟩ := nb.shape
  subst e1 e2
  refine (cmp_gen ao bo _ _ _ _ ca cb w rfl rfl hca hcb (isNat_limbs na.fits.lt) (isNat_limbs nb.fits.lt) (cmpI a b) fun w3 h => ?_).mono fun _ _ h => ⟨h.1, hL.keep h.2, h.2⟩
  have := compare_any ao bo _ _ _ _ ca cb w3 rfl rfl (by have := limbs_length_le.2 na.fits.lt; omega) (by have := limbs_length_le.2 nb.fits.lt; omega) (ok_limbs a) (ok_limbs b) (limbs_last a) (limbs_last b) (hca.keep h) (hcb.keep h)
  rw [val_limbs, val_limbs] at this
  exact this
/-- What Div leaves. -/
def StepD (w : World) (L : List (Value × Nat)) (q r : Nat) (c : Int) (e : Ending) (w' : World) : Prop := ∃ v1 v2, e = .returned (.tuple #[v1, v2, .int .i64 c]) ∧ Live w' ((v1, q) :: (v2, r) :: L) ∧ Below w.heap.size w w'
theorem StepD.of {q r : Nat} {c : Int} {e : Ending} {w' : World} (hL : Live w L) (hq : Fits q) (hr : Fits r) (h : OutD w q r c e w') : StepD w L q r c e w' :=
  let ⟨v1, v2, he, h1, h2, hb⟩ := h; ⟨v1, v2, he, ((hL.keep hb).cons ⟨hr, h2⟩).cons ⟨hq, h1⟩, hb⟩
theorem pow_ok (x : Nat) (hL : Live w L) (ha : (va, a) ∈ L) (hx : x < 2 ^ 63) (hs : Fits (a ^ x)) : Calls Tryd.prog 80 #[va, .int .i64 x] w (Step w L (a ^ x) 0) := by
  have na : Nm w va a := hL _ ha
  obtain ⟨ao, ca, e1, hca⟩ := na.shape
  subst e1
  refine (pow_gen ao _ _ ca x w rfl hca (isNat_limbs na.fits.lt) (a ^ x) fun w3 h => ?_).mono fun _ _ h => Step.of hL hs h
  exact power_any ao a x _ ca w3 na.fits.lt rfl hx (hca.keep h) _ (fun _ _ _ h => h) (fun h => absurd ⟨h⟩ (fun k => hs.not k))
theorem fits_u64 {x : Nat} (hx : x < 18446744073709551616) : Fits x := by
  refine ⟨?_⟩
  have h2 : pw 2 = 18446744073709551616 := by simp [pw]
  have := pw_le (show 2 ≤ 640 by omega)
  omega
theorem make_ok (x : Nat) (hL : Live w L) (hx : x < 18446744073709551616) : Calls Tryd.prog 79 #[.int .u64 x] w fun e w' => ∃ v, e = .returned v ∧ Live w' ((v, x) :: L) ∧ Below w.heap.size w w' :=
  (make_any x w hx).mono fun _ _ ⟨v, he, hr, hb⟩ => ⟨v, he, (hL.keep hb).cons ⟨fits_u64 hx, hr⟩, hb⟩
end
end Go.Proofs.YtomgihlkbmaleaaDoor
namespace Go.Proofs.YtomgihlkbmaleaaDoor
open Go.RowKit M
end Go.Proofs.YtomgihlkbmaleaaDoor
namespace Go.Proofs.YtomgihlkbmaleaaDoor
open Go.RowKit M
section
variable {w0 w : World} {L : List (Value × Nat)} {va vb : Value} {a b : Nat}
end
end Go.Proofs.YtomgihlkbmaleaaDoor

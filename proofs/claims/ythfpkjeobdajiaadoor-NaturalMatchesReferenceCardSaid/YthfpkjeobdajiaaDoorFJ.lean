/- natural's exported functions over slices that are no natural numbers: ErrArg. -/
import Derived.Test.YthfpkjeobdajiaaDoorFH
namespace Go.Proofs.YthfpkjeobdajiaaDoor
open Go.RowKit M
theorem closAdd_not (b1 b2 : Nat) (ao bo : Option Addr) (A B : List Int) (n m ca cb : Nat) (w : World) (h1 : Cap w b1 ao A n ca) (h2 : Cap w b2 bo B m cb) (hAB : ¬ (isNat A = true ∧ isNat B = true)) :
    Calls Tryd.prog 29 #[.pointer (some ⟨b1, 0, none⟩), .pointer (some ⟨b2, 0, none⟩)] w (Raised w 1) := by
  have h1' := h1.alloc (.cells #[.slice ao n ca, .slice bo m cb] 23)
  have h2' := h2.alloc (.cells #[.slice ao n ca, .slice bo m cb] 23)
  have hreq := require2_bad w.heap.size ao bo A B n m ca cb (w.alloc (.cells #[.slice ao n ca, .slice bo m cb] 23)) h1.len h2.len h1'.cells h2'.cells hAB (by simp [go_sem]) (by simp [go_sem])
  have hc1 := h1.cell
  have hc2 := h2.cell
  have hl1 := h1.lt
  have hl2 := h2.lt
  have hbel : Below w.heap.size w (w.alloc (.cells #[.slice ao n ca, .slice bo m cb] 23)) := (Below.refl _ _).alloc (Nat.le_refl _) _
  have HB := Bx.mk hbel
  have HR := Bx.mk hreq
  clear hreq h1 h2 h1' h2' hAB hbel
  go_enter Tryd.func29, Tryd.ntmps29
  go_wp2_with fail
  refine HR.out.mono ?_
  rintro e w2 ⟨rfl, rfl⟩
  exact ⟨rfl, rfl, HB.out⟩
theorem add_not (ao bo : Option Addr) (A B : List Int) (n m ca cb : Nat) (w : World) (hn : A.length = n) (hm : B.length = m) (hca : CellsK .u32 w ao A) (hcb : CellsK .u32 w bo B) (hAB : ¬ (isNat A = true ∧ isNat B = true)) :
    Calls Tryd.prog 10 #[.slice ao n ca, .slice bo m cb] w (OutN w 0 1) := by
  have hmf : ∀ (fn : Fn) (first cap : Array Value) (w : World), (Instr.makeFunc fn first cap).run Tryd.prog w = .ok (.func fn first cap) w := fun _ _ _ _ => rfl
  have hb2 : Below w.heap.size w ((w.alloc (.cells #[.slice ao n ca] 23)).alloc (.cells #[.slice bo m cb] 23)) := ((Below.refl _ _).alloc (Nat.le_refl _) _).alloc (by simp) _
  have c1 : Cap ((w.alloc (.cells #[.slice ao n ca] 23)).alloc (.cells #[.slice bo m cb] 23)) w.heap.size ao A n ca := ⟨by simp; omega, by simp [go_sem], hn, hca.keep hb2⟩
  have c2 : Cap ((w.alloc (.cells #[.slice ao n ca] 23)).alloc (.cells #[.slice bo m cb] 23)) (w.heap.size + 1) bo B m cb := ⟨by simp, by simp [go_sem], hm, hcb.keep hb2⟩
  have hat := attemptAdd_raised ⟨w.heap.size, 0, none⟩ ⟨w.heap.size + 1, 0, none⟩ 1 ((w.alloc (.cells #[.slice ao n ca] 23)).alloc (.cells #[.slice bo m cb] 23)) (closAdd_not w.heap.size (w.heap.size + 1) ao bo A B n m ca cb _ (c1.alloc _) (c2.alloc _) hAB)
  have H := Bx.mk hat
  clear hat hca hcb hAB hn hm c1 c2
  have HB := Bx.mk hb2
  clear hb2
  go_enter Tryd.func10, Tryd.ntmps10
  go_wp2_with fail
  refine H.out.mono ?_
  rintro e w3 ⟨rfl, hb⟩
  go_wp2
  go_ret2
  exact ⟨_, rfl, by rw [limbs_zero]; exact Rd.nil _, HB.out.trans (hb.mono HB.out.size)⟩
theorem closSub_not (b1 b2 : Nat) (ao bo : Option Addr) (A B : List Int) (n m ca cb : Nat) (w : World) (h1 : Cap w b1 ao A n ca) (h2 : Cap w b2 bo B m cb) (hAB : ¬ (isNat A = true ∧ isNat B = true)) :
    Calls Tryd.prog 35 #[.pointer (some ⟨b1, 0, none⟩), .pointer (some ⟨b2, 0, none⟩)] w (Raised w 1) := by
  have h1' := h1.alloc (.cells #[.slice ao n ca, .slice bo m cb] 23)
  have h2' := h2.alloc (.cells #[.slice ao n ca, .slice bo m cb] 23)
  have hreq := require2_bad w.heap.size ao bo A B n m ca cb (w.alloc (.cells #[.slice ao n ca, .slice bo m cb] 23)) h1.len h2.len h1'.cells h2'.cells hAB (by simp [go_sem]) (by simp [go_sem])
  have hc1 := h1.cell
  have hc2 := h2.cell
  have hl1 := h1.lt
  have hl2 := h2.lt
  have hbel : Below w.heap.size w (w.alloc (.cells #[.slice ao n ca, .slice bo m cb] 23)) := (Below.refl _ _).alloc (Nat.le_refl _) _
  have HB := Bx.mk hbel
  have HR := Bx.mk hreq
  clear hreq h1 h2 h1' h2' hAB hbel
  go_enter Tryd.func35, Tryd.ntmps35
  go_wp2_with fail
  refine HR.out.mono ?_
  rintro e w2 ⟨rfl, rfl⟩
  exact ⟨rfl, rfl, HB.out⟩
theorem sub_not (ao bo : Option Addr) (A B : List Int) (n m ca cb : Nat) (w : World) (hn : A.length = n) (hm : B.length = m) (hca : CellsK .u32 w ao A) (hcb : CellsK .u32 w bo B) (hAB : ¬ (isNat A = true ∧ isNat B = true)) :
    Calls Tryd.prog 12 #[.slice ao n ca, .slice bo m cb] w (OutN w 0 1) := by
  have hmf : ∀ (fn : Fn) (first cap : Array Value) (w : World), (Instr.makeFunc fn first cap).run Tryd.prog w = .ok (.func fn first cap) w := fun _ _ _ _ => rfl
  have hb2 : Below w.heap.size w ((w.alloc (.cells #[.slice ao n ca] 23)).alloc (.cells #[.slice bo m cb] 23)) := ((Below.refl _ _).alloc (Nat.le_refl _) _).alloc (by simp) _
  have c1 : Cap ((w.alloc (.cells #[.slice ao n ca] 23)).alloc (.cells #[.slice bo m cb] 23)) w.heap.size ao A n ca := ⟨by simp; omega, by simp [go_sem], hn, hca.keep hb2⟩
  have c2 : Cap ((w.alloc (.cells #[.slice ao n ca] 23)).alloc (.cells #[.slice bo m cb] 23)) (w.heap.size + 1) bo B m cb := ⟨by simp, by simp [go_sem], hm, hcb.keep hb2⟩
  have hat := attemptSub_raised ⟨w.heap.size, 0, none⟩ ⟨w.heap.size + 1, 0, none⟩ 1 ((w.alloc (.cells #[.slice ao n ca] 23)).alloc (.cells #[.slice bo m cb] 23)) (closSub_not w.heap.size (w.heap.size + 1) ao bo A B n m ca cb _ (c1.alloc _) (c2.alloc _) hAB)
  have H := Bx.mk hat
  clear hat hca hcb hAB hn hm c1 c2
  have HB := Bx.mk hb2
  clear hb2
  go_enter Tryd.func12, Tryd.ntmps12
  go_wp2_with fail
  refine H.out.mono ?_
  rintro e w3 ⟨rfl, hb⟩
  go_wp2
  go_ret2
  exact ⟨_, rfl, by rw [limbs_zero]; exact Rd.nil _, HB.out.trans (hb.mono HB.out.size)⟩
theorem closMul_not (b1 b2 : Nat) (ao bo : Option Addr) (A B : List Int) (n m ca cb : Nat) (w : World) (h1 : Cap w b1 ao A n ca) (h2 : Cap w b2 bo B m cb) (hAB : ¬ (isNat A = true ∧ isNat B = true)) :
    Calls Tryd.prog 39 #[.pointer (some ⟨b1, 0, none⟩), .pointer (some ⟨b2, 0, none⟩)] w (Raised w 1) := by
  have h1' := h1.alloc (.cells #[.slice ao n ca, .slice bo m cb] 23)
  have h2' := h2.alloc (.cells #[.slice ao n ca, .slice bo m cb] 23)
  have hreq := require2_bad w.heap.size ao bo A B n m ca cb (w.alloc (.cells #[.slice ao n ca, .slice bo m cb] 23)) h1.len h2.len h1'.cells h2'.cells hAB (by simp [go_sem]) (by simp [go_sem])
  have hc1 := h1.cell
  have hc2 := h2.cell
  have hl1 := h1.lt
  have hl2 := h2.lt
  have hbel : Below w.heap.size w (w.alloc (.cells #[.slice ao n ca, .slice bo m cb] 23)) := (Below.refl _ _).alloc (Nat.le_refl _) _
  have HB := Bx.mk hbel
  have HR := Bx.mk hreq
  clear hreq h1 h2 h1' h2' hAB hbel
  go_enter Tryd.func39, Tryd.ntmps39
  go_wp2_with fail
  refine HR.out.mono ?_
  rintro e w2 ⟨rfl, rfl⟩
  exact ⟨rfl, rfl, HB.out⟩
theorem mul_not (ao bo : Option Addr) (A B : List Int) (n m ca cb : Nat) (w : World) (hn : A.length = n) (hm : B.length = m) (hca : CellsK .u32 w ao A) (hcb : CellsK .u32 w bo B) (hAB : ¬ (isNat A = true ∧ isNat B = true)) :
    Calls Tryd.prog 14 #[.slice ao n ca, .slice bo m cb] w (OutN w 0 1) := by
  have hmf : ∀ (fn : Fn) (first cap : Array Value) (w : World), (Instr.makeFunc fn first cap).run Tryd.prog w = .ok (.func fn first cap) w := fun _ _ _ _ => rfl
  have hb2 : Below w.heap.size w ((w.alloc (.cells #[.slice ao n ca] 23)).alloc (.cells #[.slice bo m cb] 23)) := ((Below.refl _ _).alloc (Nat.le_refl _) _).alloc (by simp) _
  have c1 : Cap ((w.alloc (.cells #[.slice ao n ca] 23)).alloc (.cells #[.slice bo m cb] 23)) w.heap.size ao A n ca := ⟨by simp; omega, by simp [go_sem], hn, hca.keep hb2⟩
  have c2 : Cap ((w.alloc (.cells #[.slice ao n ca] 23)).alloc (.cells #[.slice bo m cb] 23)) (w.heap.size + 1) bo B m cb := ⟨by simp, by simp [go_sem], hm, hcb.keep hb2⟩
  have hat := attemptMul_raised ⟨w.heap.size, 0, none⟩ ⟨w.heap.size + 1, 0, none⟩ 1 ((w.alloc (.cells #[.slice ao n ca] 23)).alloc (.cells #[.slice bo m cb] 23)) (closMul_not w.heap.size (w.heap.size + 1) ao bo A B n m ca cb _ (c1.alloc _) (c2.alloc _) hAB)
  have H := Bx.mk hat
  clear hat hca hcb hAB hn hm c1 c2
  have HB := Bx.mk hb2
  clear hb2
  go_enter Tryd.func14, Tryd.ntmps14
  go_wp2_with fail
  refine H.out.mono ?_
  rintro e w3 ⟨rfl, hb⟩
  go_wp2
  go_ret2
  exact ⟨_, rfl, by rw [limbs_zero]; exact Rd.nil _, HB.out.trans (hb.mono HB.out.size)⟩
theorem closCmp_not (b1 b2 : Nat) (ao bo : Option Addr) (A B : List Int) (n m ca cb : Nat) (w : World) (h1 : Cap w b1 ao A n ca) (h2 : Cap w b2 bo B m cb) (hAB : ¬ (isNat A = true ∧ isNat B = true)) :
    Calls Tryd.prog 48 #[.pointer (some ⟨b1, 0, none⟩), .pointer (some ⟨b2, 0, none⟩)] w (Raised w 1) := by
  have h1' := h1.alloc (.cells #[.slice ao n ca, .slice bo m cb] 23)
  have h2' := h2.alloc (.cells #[.slice ao n ca, .slice bo m cb] 23)
  have hreq := require2_bad w.heap.size ao bo A B n m ca cb (w.alloc (.cells #[.slice ao n ca, .slice bo m cb] 23)) h1.len h2.len h1'.cells h2'.cells hAB (by simp [go_sem]) (by simp [go_sem])
  have hc1 := h1.cell
  have hc2 := h2.cell
  have hl1 := h1.lt
  have hl2 := h2.lt
  have hbel : Below w.heap.size w (w.alloc (.cells #[.slice ao n ca, .slice bo m cb] 23)) := (Below.refl _ _).alloc (Nat.le_refl _) _
  have HB := Bx.mk hbel
  have HR := Bx.mk hreq
  clear hreq h1 h2 h1' h2' hAB hbel
  go_enter Tryd.func48, Tryd.ntmps48
  go_wp2_with fail
  refine HR.out.mono ?_
  rintro e w2 ⟨rfl, rfl⟩
  exact ⟨rfl, rfl, HB.out⟩
theorem cmp_not (ao bo : Option Addr) (A B : List Int) (n m ca cb : Nat) (w : World) (hn : A.length = n) (hm : B.length = m) (hca : CellsK .u32 w ao A) (hcb : CellsK .u32 w bo B) (hAB : ¬ (isNat A = true ∧ isNat B = true)) :
    Calls Tryd.prog 20 #[.slice ao n ca, .slice bo m cb] w fun e w' => e = .returned (.tuple #[.int .i64 0, .int .i64 1]) ∧ Below w.heap.size w w' := by
  have hmf : ∀ (fn : Fn) (first cap : Array Value) (w : World), (Instr.makeFunc fn first cap).run Tryd.prog w = .ok (.func fn first cap) w := fun _ _ _ _ => rfl
  have hb2 : Below w.heap.size w ((w.alloc (.cells #[.slice ao n ca] 23)).alloc (.cells #[.slice bo m cb] 23)) := ((Below.refl _ _).alloc (Nat.le_refl _) _).alloc (by simp) _
  have c1 : Cap ((w.alloc (.cells #[.slice ao n ca] 23)).alloc (.cells #[.slice bo m cb] 23)) w.heap.size ao A n ca := ⟨by simp; omega, by simp [go_sem], hn, hca.keep hb2⟩
  have c2 : Cap ((w.alloc (.cells #[.slice ao n ca] 23)).alloc (.cells #[.slice bo m cb] 23)) (w.heap.size + 1) bo B m cb := ⟨by simp, by simp [go_sem], hm, hcb.keep hb2⟩
  have hat := attemptCmp_raised ⟨w.heap.size, 0, none⟩ ⟨w.heap.size + 1, 0, none⟩ 1 ((w.alloc (.cells #[.slice ao n ca] 23)).alloc (.cells #[.slice bo m cb] 23)) (closCmp_not w.heap.size (w.heap.size + 1) ao bo A B n m ca cb _ (c1.alloc _) (c2.alloc _) hAB)
  have H := Bx.mk hat
  clear hat hca hcb hAB hn hm c1 c2
  have HB := Bx.mk hb2
  clear hb2
  go_enter Tryd.func20, Tryd.ntmps20
  go_wp2_with fail
  refine H.out.mono ?_
  rintro e w3 ⟨rfl, hb⟩
  go_wp2
  go_ret2
  exact ⟨rfl, HB.out.trans (hb.mono HB.out.size)⟩
theorem closDiv_not (b1 b2 : Nat) (ao bo : Option Addr) (A B : List Int) (n m ca cb : Nat) (w : World) (h1 : Cap w b1 ao A n ca) (h2 : Cap w b2 bo B m cb) (hAB : ¬ (isNat A = true ∧ isNat B = true)) :
    Calls Tryd.prog 43 #[.pointer (some ⟨b1, 0, none⟩), .pointer (some ⟨b2, 0, none⟩)] w (Raised w 1) := by
  have h1' := (h1.alloc (.cells #[.slice none 0 0, .slice none 0 0] 51)).alloc (.cells #[.slice ao n ca, .slice bo m cb] 23)
  have h2' := (h2.alloc (.cells #[.slice none 0 0, .slice none 0 0] 51)).alloc (.cells #[.slice ao n ca, .slice bo m cb] 23)
  have hreq := require2_bad (w.heap.size + 1) ao bo A B n m ca cb ((w.alloc (.cells #[.slice none 0 0, .slice none 0 0] 51)).alloc (.cells #[.slice ao n ca, .slice bo m cb] 23)) h1.len h2.len h1'.cells h2'.cells hAB (by simp [go_sem]) (by simp [go_sem])
  have hc1 := h1.cell
  have hc2 := h2.cell
  have hl1 := h1.lt
  have hl2 := h2.lt
  have hbel : Below w.heap.size w ((w.alloc (.cells #[.slice none 0 0, .slice none 0 0] 51)).alloc (.cells #[.slice ao n ca, .slice bo m cb] 23)) := ((Below.refl _ _).alloc (Nat.le_refl _) _).alloc (by simp) _
  have HB := Bx.mk hbel
  have HR := Bx.mk hreq
  clear hreq h1 h2 h1' h2' hAB hbel
  go_enter Tryd.func43, Tryd.ntmps43
  go_wp2_with fail
  refine HR.out.mono ?_
  rintro e w2 ⟨rfl, rfl⟩
  exact ⟨rfl, rfl, HB.out⟩
theorem div_not (ao bo : Option Addr) (A B : List Int) (n m ca cb : Nat) (w : World) (hn : A.length = n) (hm : B.length = m) (hca : CellsK .u32 w ao A) (hcb : CellsK .u32 w bo B) (hAB : ¬ (isNat A = true ∧ isNat B = true)) :
    Calls Tryd.prog 16 #[.slice ao n ca, .slice bo m cb] w (OutD w 0 0 1) := by
  have hmf : ∀ (fn : Fn) (first cap : Array Value) (w : World), (Instr.makeFunc fn first cap).run Tryd.prog w = .ok (.func fn first cap) w := fun _ _ _ _ => rfl
  have hb2 : Below w.heap.size w ((w.alloc (.cells #[.slice ao n ca] 23)).alloc (.cells #[.slice bo m cb] 23)) := ((Below.refl _ _).alloc (Nat.le_refl _) _).alloc (by simp) _
  have c1 : Cap ((w.alloc (.cells #[.slice ao n ca] 23)).alloc (.cells #[.slice bo m cb] 23)) w.heap.size ao A n ca := ⟨by simp; omega, by simp [go_sem], hn, hca.keep hb2⟩
  have c2 : Cap ((w.alloc (.cells #[.slice ao n ca] 23)).alloc (.cells #[.slice bo m cb] 23)) (w.heap.size + 1) bo B m cb := ⟨by simp, by simp [go_sem], hm, hcb.keep hb2⟩
  have hat := attemptDiv_raised ⟨w.heap.size, 0, none⟩ ⟨w.heap.size + 1, 0, none⟩ 1 ((w.alloc (.cells #[.slice ao n ca] 23)).alloc (.cells #[.slice bo m cb] 23)) (closDiv_not w.heap.size (w.heap.size + 1) ao bo A B n m ca cb _ ((c1.alloc _).alloc _) ((c2.alloc _).alloc _) hAB)
  have H := Bx.mk hat
  clear hat hca hcb hAB hn hm c1 c2
  have HB := Bx.mk hb2
  clear hb2
  go_enter Tryd.func16, Tryd.ntmps16
  go_wp2_with fail
  refine H.out.mono ?_
  rintro e w3 ⟨rfl, hb⟩
  have G := fun nq => below_drewN ((Below.refl w3.heap.size w3).alloc (Nat.le_refl _) (.cells #[.slice none 0 0, .slice none 0 0] 51)) nq
  have G5 := Bx.mk fun nq => (HB.out.trans (hb.mono HB.out.size)).trans ((G nq).mono (by have := hb.size; have := HB.out.size; omega))
  clear G HB H hb
  go_wp2_with fail
  go_quiet (fail)
  go_wp2
  go_ret3
  exact ⟨_, _, rfl, by rw [limbs_zero]; exact Rd.nil _, by rw [limbs_zero]; exact Rd.nil _, G5.out _⟩
theorem closPow_not (b1 b2 : Nat) (ao : Option Addr) (A : List Int) (n ca : Nat) (w : World) (h1 : Cap w b1 ao A n ca) (hA : ¬ isNat A = true) :
    Calls Tryd.prog 45 #[.pointer (some ⟨b1, 0, none⟩), .pointer (some ⟨b2, 0, none⟩)] w (Raised w 1) := by
  have h1' := h1.alloc (.cells #[.slice ao n ca] 23)
  have hreq := require1_bad w.heap.size ao A n ca (w.alloc (.cells #[.slice ao n ca] 23)) h1.len h1'.cells hA (by simp [go_sem])
  have hc1 := h1.cell
  have hl1 := h1.lt
  have HR := Bx.mk hreq
  clear hreq h1 h1' hA
  go_enter Tryd.func45, Tryd.ntmps45
  go_wp2_with fail
  refine HR.out.mono ?_
  rintro e w2 ⟨rfl, rfl⟩
  exact ⟨rfl, rfl, (Below.refl _ _).alloc (Nat.le_refl _) _⟩
theorem pow_not (ao : Option Addr) (A : List Int) (n ca : Nat) (x : Int) (w : World) (hn : A.length = n) (hca : CellsK .u32 w ao A) (hA : ¬ isNat A = true) :
    Calls Tryd.prog 18 #[.slice ao n ca, .int .i64 x] w (OutN w 0 1) := by
  have hmf : ∀ (fn : Fn) (first cap : Array Value) (w : World), (Instr.makeFunc fn first cap).run Tryd.prog w = .ok (.func fn first cap) w := fun _ _ _ _ => rfl
  have hb2 : Below w.heap.size w ((w.alloc (.cells #[.slice ao n ca] 23)).alloc (.cells #[.int .i64 x] 3)) := ((Below.refl _ _).alloc (Nat.le_refl _) _).alloc (by simp) _
  have c1 : Cap ((w.alloc (.cells #[.slice ao n ca] 23)).alloc (.cells #[.int .i64 x] 3)) w.heap.size ao A n ca := ⟨by simp; omega, by simp [go_sem], hn, hca.keep hb2⟩
  have hat := attemptPow_raised ⟨w.heap.size, 0, none⟩ ⟨w.heap.size + 1, 0, none⟩ 1 ((w.alloc (.cells #[.slice ao n ca] 23)).alloc (.cells #[.int .i64 x] 3)) (closPow_not w.heap.size (w.heap.size + 1) ao A n ca _ (c1.alloc _) hA)
  have H := Bx.mk hat
  clear hat hca hA hn c1
  have HB := Bx.mk hb2
  clear hb2
  go_enter Tryd.func18, Tryd.ntmps18
  go_wp2_with fail
  refine H.out.mono ?_
  rintro e w3 ⟨rfl, hb⟩
  go_wp2
  go_ret2
  exact ⟨_, rfl, by rw [limbs_zero]; exact Rd.nil _, HB.out.trans (hb.mono HB.out.size)⟩
theorem closText_not (b1 : Nat) (ao : Option Addr) (A : List Int) (n ca : Nat) (w : World) (h1 : Cap w b1 ao A n ca) (hA : ¬ isNat A = true) :
    Calls Tryd.prog 51 #[.pointer (some ⟨b1, 0, none⟩)] w (Raised w 1) := by
  have h1' := h1.alloc (.cells #[.slice ao n ca] 23)
  have hreq := require1_bad w.heap.size ao A n ca (w.alloc (.cells #[.slice ao n ca] 23)) h1.len h1'.cells hA (by simp [go_sem])
  have hc1 := h1.cell
  have hl1 := h1.lt
  have HR := Bx.mk hreq
  clear hreq h1 h1' hA
  go_enter Tryd.func51, Tryd.ntmps51
  go_wp2_with fail
  refine HR.out.mono ?_
  rintro e w2 ⟨rfl, rfl⟩
  exact ⟨rfl, rfl, (Below.refl _ _).alloc (Nat.le_refl _) _⟩
theorem text_not (ao : Option Addr) (A : List Int) (n ca : Nat) (w : World) (hn : A.length = n) (hca : CellsK .u32 w ao A) (hA : ¬ isNat A = true) :
    Calls Tryd.prog 22 #[.slice ao n ca] w fun e w' => e = .returned (.tuple #[.string ⟨#[]⟩, .int .i64 1]) ∧ Below w.heap.size w w' := by
  have hmf : ∀ (fn : Fn) (first cap : Array Value) (w : World), (Instr.makeFunc fn first cap).run Tryd.prog w = .ok (.func fn first cap) w := fun _ _ _ _ => rfl
  have hb2 : Below w.heap.size w (w.alloc (.cells #[.slice ao n ca] 23)) := (Below.refl _ _).alloc (Nat.le_refl _) _
  have c1 : Cap (w.alloc (.cells #[.slice ao n ca] 23)) w.heap.size ao A n ca := ⟨by simp, by simp [go_sem], hn, hca.keep hb2⟩
  have hat := attemptText_raised ⟨w.heap.size, 0, none⟩ 1 (w.alloc (.cells #[.slice ao n ca] 23)) (closText_not w.heap.size ao A n ca _ (c1.alloc _) hA)
  have H := Bx.mk hat
  clear hat hca hA hn c1
  have HB := Bx.mk hb2
  clear hb2
  go_enter Tryd.func22, Tryd.ntmps22
  go_wp2_with fail
  refine H.out.mono ?_
  rintro e w3 ⟨rfl, hb⟩
  go_wp2
  go_ret2
  exact ⟨rfl, HB.out.trans (hb.mono HB.out.size)⟩
end Go.Proofs.YthfpkjeobdajiaaDoor

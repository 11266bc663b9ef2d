/- the exported functions of natural, by what their closures do. -/
import Derived.Test.YtegjhkjmejckdaaDoorT3
namespace Go.Proofs.YtegjhkjmejckdaaDoor
open Go.RowKit M
/-- A number and an error code. -/
def OutN (w : World) (s : Nat) (c : Int) (e : Ending) (w' : World) : Prop := ∃ v, e = .returned (.tuple #[v, .int .i64 c]) ∧ Rd w' v (limbs s) ∧ Below w.heap.size w w'
theorem plain_ret (w : World) (s : Nat) : Plain (RetNat w s) := fun _ _ h => let ⟨v, he, _⟩ := h; Or.inl ⟨v, he⟩
theorem plain_raised (w : World) (n : Int) : Plain (Raised w n) := fun _ _ h => Or.inr ⟨_, h.1⟩
theorem quiet_below {w w' : World} (h : Quiet w w') (B : Nat) : Below B w w' := by
  obtain ⟨d, rfl⟩ := h
  exact ⟨rfl, rfl, rfl, Nat.le_refl _, fun _ _ => rfl⟩
theorem add_gen (ao bo : Option Addr) (A B : List Int) (n m ca cb : Nat) (w : World) (hn : A.length = n) (hm : B.length = m) (hca : CellsK .u32 w ao A) (hcb : CellsK .u32 w bo B) (hA : isNat A = true) (hB : isNat B = true) (s : Nat)
    (hS : ∀ w3, Below w.heap.size w w3 → Calls Tryd.prog 40 #[.slice ao n ca, .slice bo m cb] w3 (RetNat w3 s)) : Calls Tryd.prog 18 #[.slice ao n ca, .slice bo m cb] w (OutN w s 0) := by
  have hmf : ∀ (fn : Fn) (first cap : Array Value) (w : World), (Instr.makeFunc fn first cap).run Tryd.prog w = .ok (.func fn first cap) w := fun _ _ _ _ => rfl
  have hb2 : Below w.heap.size w ((w.alloc (.cells #[.slice ao n ca] 23)).alloc (.cells #[.slice bo m cb] 23)) := ((Below.refl _ _).alloc (Nat.le_refl _) _).alloc (by simp) _
  have hb3 : Below w.heap.size w (((w.alloc (.cells #[.slice ao n ca] 23)).alloc (.cells #[.slice bo m cb] 23)).alloc (.cells #[.int .i64 0] 29)) := hb2.alloc (by simp; omega) _
  have hb4 : Below w.heap.size w ((((w.alloc (.cells #[.slice ao n ca] 23)).alloc (.cells #[.slice bo m cb] 23)).alloc (.cells #[.int .i64 0] 29)).alloc (.cells #[.slice ao n ca, .slice bo m cb] 23)) := hb3.alloc (by simp; omega) _
  have c1 : Cap ((w.alloc (.cells #[.slice ao n ca] 23)).alloc (.cells #[.slice bo m cb] 23)) w.heap.size ao A n ca := ⟨by simp; omega, by simp [go_sem], hn, hca.keep hb2⟩
  have c2 : Cap ((w.alloc (.cells #[.slice ao n ca] 23)).alloc (.cells #[.slice bo m cb] 23)) (w.heap.size + 1) bo B m cb := ⟨by simp, by simp [go_sem], hm, hcb.keep hb2⟩
  have hat := attemptAdd_ok ⟨w.heap.size, 0, none⟩ ⟨w.heap.size + 1, 0, none⟩ s ((w.alloc (.cells #[.slice ao n ca] 23)).alloc (.cells #[.slice bo m cb] 23)) (closAdd_any w.heap.size (w.heap.size + 1) ao bo A B n m ca cb _ (c1.alloc _) (c2.alloc _) hA hB _ (plain_ret _ _) ((hS _ hb4).mono fun _ _ h => RetNat.after ((Below.refl _ _).alloc (Nat.le_refl _) _) h))
  have H := Bx.mk hat
  clear hat hS hca hcb hA hB hn hm c1 c2 hb3 hb4
  have HB := Bx.mk hb2
  clear hb2
  go_enter Tryd.func18, Tryd.ntmps18
  go_wp2_with fail
  refine H.out.mono ?_
  rintro e w3 ⟨v, rfl, hr, hb⟩
  go_wp2
  go_ret2
  exact ⟨v, rfl, hr, HB.out.trans (hb.mono HB.out.size)⟩
theorem add_gen_raised (ao bo : Option Addr) (A B : List Int) (n m ca cb : Nat) (w : World) (hn : A.length = n) (hm : B.length = m) (hca : CellsK .u32 w ao A) (hcb : CellsK .u32 w bo B) (hA : isNat A = true) (hB : isNat B = true) (c : Int)
    (hS : ∀ w3, Below w.heap.size w w3 → Calls Tryd.prog 40 #[.slice ao n ca, .slice bo m cb] w3 (Raised w3 c)) : Calls Tryd.prog 18 #[.slice ao n ca, .slice bo m cb] w (OutN w 0 c) := by
  have hmf : ∀ (fn : Fn) (first cap : Array Value) (w : World), (Instr.makeFunc fn first cap).run Tryd.prog w = .ok (.func fn first cap) w := fun _ _ _ _ => rfl
  have hb2 : Below w.heap.size w ((w.alloc (.cells #[.slice ao n ca] 23)).alloc (.cells #[.slice bo m cb] 23)) := ((Below.refl _ _).alloc (Nat.le_refl _) _).alloc (by simp) _
  have hb3 : Below w.heap.size w (((w.alloc (.cells #[.slice ao n ca] 23)).alloc (.cells #[.slice bo m cb] 23)).alloc (.cells #[.int .i64 0] 29)) := hb2.alloc (by simp; omega) _
  have hb4 : Below w.heap.size w ((((w.alloc (.cells #[.slice ao n ca] 23)).alloc (.cells #[.slice bo m cb] 23)).alloc (.cells #[.int .i64 0] 29)).alloc (.cells #[.slice ao n ca, .slice bo m cb] 23)) := hb3.alloc (by simp; omega) _
  have c1 : Cap ((w.alloc (.cells #[.slice ao n ca] 23)).alloc (.cells #[.slice bo m cb] 23)) w.heap.size ao A n ca := ⟨by simp; omega, by simp [go_sem], hn, hca.keep hb2⟩
  have c2 : Cap ((w.alloc (.cells #[.slice ao n ca] 23)).alloc (.cells #[.slice bo m cb] 23)) (w.heap.size + 1) bo B m cb := ⟨by simp, by simp [go_sem], hm, hcb.keep hb2⟩
  have hat := attemptAdd_raised ⟨w.heap.size, 0, none⟩ ⟨w.heap.size + 1, 0, none⟩ c ((w.alloc (.cells #[.slice ao n ca] 23)).alloc (.cells #[.slice bo m cb] 23)) (closAdd_any w.heap.size (w.heap.size + 1) ao bo A B n m ca cb _ (c1.alloc _) (c2.alloc _) hA hB _ (plain_raised _ _) ((hS _ hb4).mono fun _ _ h => Raised.after ((Below.refl _ _).alloc (Nat.le_refl _) _) h))
  have H := Bx.mk hat
  clear hat hS hca hcb hA hB hn hm c1 c2 hb3 hb4
  have HB := Bx.mk hb2
  clear hb2
  go_enter Tryd.func18, Tryd.ntmps18
  go_wp2_with fail
  refine H.out.mono ?_
  rintro e w3 ⟨rfl, hb⟩
  go_wp2
  go_ret2
  exact ⟨_, rfl, by rw [limbs_zero]; exact Rd.nil _, HB.out.trans (hb.mono HB.out.size)⟩
theorem sub_gen (ao bo : Option Addr) (A B : List Int) (n m ca cb : Nat) (w : World) (hn : A.length = n) (hm : B.length = m) (hca : CellsK .u32 w ao A) (hcb : CellsK .u32 w bo B) (hA : isNat A = true) (hB : isNat B = true) (s : Nat)
    (hS : ∀ w3, Below w.heap.size w w3 → Calls Tryd.prog 45 #[.slice ao n ca, .slice bo m cb] w3 (RetNat w3 s)) : Calls Tryd.prog 20 #[.slice ao n ca, .slice bo m cb] w (OutN w s 0) := by
  have hmf : ∀ (fn : Fn) (first cap : Array Value) (w : World), (Instr.makeFunc fn first cap).run Tryd.prog w = .ok (.func fn first cap) w := fun _ _ _ _ => rfl
  have hb2 : Below w.heap.size w ((w.alloc (.cells #[.slice ao n ca] 23)).alloc (.cells #[.slice bo m cb] 23)) := ((Below.refl _ _).alloc (Nat.le_refl _) _).alloc (by simp) _
  have hb3 : Below w.heap.size w (((w.alloc (.cells #[.slice ao n ca] 23)).alloc (.cells #[.slice bo m cb] 23)).alloc (.cells #[.int .i64 0] 29)) := hb2.alloc (by simp; omega) _
  have hb4 : Below w.heap.size w ((((w.alloc (.cells #[.slice ao n ca] 23)).alloc (.cells #[.slice bo m cb] 23)).alloc (.cells #[.int .i64 0] 29)).alloc (.cells #[.slice ao n ca, .slice bo m cb] 23)) := hb3.alloc (by simp; omega) _
  have c1 : Cap ((w.alloc (.cells #[.slice ao n ca] 23)).alloc (.cells #[.slice bo m cb] 23)) w.heap.size ao A n ca := ⟨by simp; omega, by simp [go_sem], hn, hca.keep hb2⟩
  have c2 : Cap ((w.alloc (.cells #[.slice ao n ca] 23)).alloc (.cells #[.slice bo m cb] 23)) (w.heap.size + 1) bo B m cb := ⟨by simp, by simp [go_sem], hm, hcb.keep hb2⟩
  have hat := attemptSub_ok ⟨w.heap.size, 0, none⟩ ⟨w.heap.size + 1, 0, none⟩ s ((w.alloc (.cells #[.slice ao n ca] 23)).alloc (.cells #[.slice bo m cb] 23)) (closSub_any w.heap.size (w.heap.size + 1) ao bo A B n m ca cb _ (c1.alloc _) (c2.alloc _) hA hB _ (plain_ret _ _) ((hS _ hb4).mono fun _ _ h => RetNat.after ((Below.refl _ _).alloc (Nat.le_refl _) _) h))
  have H := Bx.mk hat
  clear hat hS hca hcb hA hB hn hm c1 c2 hb3 hb4
  have HB := Bx.mk hb2
  clear hb2
  go_enter Tryd.func20, Tryd.ntmps20
  go_wp2_with fail
  refine H.out.mono ?_
  rintro e w3 ⟨v, rfl, hr, hb⟩
  go_wp2
  go_ret2
  exact ⟨v, rfl, hr, HB.out.trans (hb.mono HB.out.size)⟩
theorem sub_gen_raised (ao bo : Option Addr) (A B : List Int) (n m ca cb : Nat) (w : World) (hn : A.length = n) (hm : B.length = m) (hca : CellsK .u32 w ao A) (hcb : CellsK .u32 w bo B) (hA : isNat A = true) (hB : isNat B = true) (c : Int)
    (hS : ∀ w3, Below w.heap.size w w3 → Calls Tryd.prog 45 #[.slice ao n ca, .slice bo m cb] w3 (Raised w3 c)) : Calls Tryd.prog 20 #[.slice ao n ca, .slice bo m cb] w (OutN w 0 c) := by
  have hmf : ∀ (fn : Fn) (first cap : Array Value) (w : World), (Instr.makeFunc fn first cap).run Tryd.prog w = .ok (.func fn first cap) w := fun _ _ _ _ => rfl
  have hb2 : Below w.heap.size w ((w.alloc (.cells #[.slice ao n ca] 23)).alloc (.cells #[.slice bo m cb] 23)) := ((Below.refl _ _).alloc (Nat.le_refl _) _).alloc (by simp) _
  have hb3 : Below w.heap.size w (((w.alloc (.cells #[.slice ao n ca] 23)).alloc (.cells #[.slice bo m cb] 23)).alloc (.cells #[.int .i64 0] 29)) := hb2.alloc (by simp; omega) _
  have hb4 : Below w.heap.size w ((((w.alloc (.cells #[.slice ao n ca] 23)).alloc (.cells #[.slice bo m cb] 23)).alloc (.cells #[.int .i64 0] 29)).alloc (.cells #[.slice ao n ca, .slice bo m cb] 23)) := hb3.alloc (by simp; omega) _
  have c1 : Cap ((w.alloc (.cells #[.slice ao n ca] 23)).alloc (.cells #[.slice bo m cb] 23)) w.heap.size ao A n ca := ⟨by simp; omega, by simp [go_sem], hn, hca.keep hb2⟩
  have c2 : Cap ((w.alloc (.cells #[.slice ao n ca] 23)).alloc (.cells #[.slice bo m cb] 23)) (w.heap.size + 1) bo B m cb := ⟨by simp, by simp [go_sem], hm, hcb.keep hb2⟩
  have hat := attemptSub_raised ⟨w.heap.size, 0, none⟩ ⟨w.heap.size + 1, 0, none⟩ c ((w.alloc (.cells #[.slice ao n ca] 23)).alloc (.cells #[.slice bo m cb] 23)) (closSub_any w.heap.size (w.heap.size + 1) ao bo A B n m ca cb _ (c1.alloc _) (c2.alloc _) hA hB _ (plain_raised _ _) ((hS _ hb4).mono fun _ _ h => Raised.after ((Below.refl _ _).alloc (Nat.le_refl _) _) h))
  have H := Bx.mk hat
  clear hat hS hca hcb hA hB hn hm c1 c2 hb3 hb4
  have HB := Bx.mk hb2
  clear hb2
  go_enter Tryd.func20, Tryd.ntmps20
  go_wp2_with fail
  refine H.out.mono ?_
  rintro e w3 ⟨rfl, hb⟩
  go_wp2
  go_ret2
  exact ⟨_, rfl, by rw [limbs_zero]; exact Rd.nil _, HB.out.trans (hb.mono HB.out.size)⟩
theorem mul_gen (ao bo : Option Addr) (A B : List Int) (n m ca cb : Nat) (w : World) (hn : A.length = n) (hm : B.length = m) (hca : CellsK .u32 w ao A) (hcb : CellsK .u32 w bo B) (hA : isNat A = true) (hB : isNat B = true) (s : Nat)
    (hS : ∀ w3, Below w.heap.size w w3 → Calls Tryd.prog 49 #[.slice ao n ca, .slice bo m cb] w3 (RetNat w3 s)) : Calls Tryd.prog 22 #[.slice ao n ca, .slice bo m cb] w (OutN w s 0) := by
  have hmf : ∀ (fn : Fn) (first cap : Array Value) (w : World), (Instr.makeFunc fn first cap).run Tryd.prog w = .ok (.func fn first cap) w := fun _ _ _ _ => rfl
  have hb2 : Below w.heap.size w ((w.alloc (.cells #[.slice ao n ca] 23)).alloc (.cells #[.slice bo m cb] 23)) := ((Below.refl _ _).alloc (Nat.le_refl _) _).alloc (by simp) _
  have hb3 : Below w.heap.size w (((w.alloc (.cells #[.slice ao n ca] 23)).alloc (.cells #[.slice bo m cb] 23)).alloc (.cells #[.int .i64 0] 29)) := hb2.alloc (by simp; omega) _
  have hb4 : Below w.heap.size w ((((w.alloc (.cells #[.slice ao n ca] 23)).alloc (.cells #[.slice bo m cb] 23)).alloc (.cells #[.int .i64 0] 29)).alloc (.cells #[.slice ao n ca, .slice bo m cb] 23)) := hb3.alloc (by simp; omega) _
  have c1 : Cap ((w.alloc (.cells #[.slice ao n ca] 23)).alloc (.cells #[.slice bo m cb] 23)) w.heap.size ao A n ca := ⟨by simp; omega, by simp [go_sem], hn, hca.keep hb2⟩
  have c2 : Cap ((w.alloc (.cells #[.slice ao n ca] 23)).alloc (.cells #[.slice bo m cb] 23)) (w.heap.size + 1) bo B m cb := ⟨by simp, by simp [go_sem], hm, hcb.keep hb2⟩
  have hat := attemptMul_ok ⟨w.heap.size, 0, none⟩ ⟨w.heap.size + 1, 0, none⟩ s ((w.alloc (.cells #[.slice ao n ca] 23)).alloc (.cells #[.slice bo m cb] 23)) (closMul_any w.heap.size (w.heap.size + 1) ao bo A B n m ca cb _ (c1.alloc _) (c2.alloc _) hA hB _ (plain_ret _ _) ((hS _ hb4).mono fun _ _ h => RetNat.after ((Below.refl _ _).alloc (Nat.le_refl _) _) h))
  have H := Bx.mk hat
  clear hat hS hca hcb hA hB hn hm c1 c2 hb3 hb4
  have HB := Bx.mk hb2
  clear hb2
  go_enter Tryd.func22, Tryd.ntmps22
  go_wp2_with fail
  refine H.out.mono ?_
  rintro e w3 ⟨v, rfl, hr, hb⟩
  go_wp2
  go_ret2
  exact ⟨v, rfl, hr, HB.out.trans (hb.mono HB.out.size)⟩
theorem mul_gen_raised (ao bo : Option Addr) (A B : List Int) (n m ca cb : Nat) (w : World) (hn : A.length = n) (hm : B.length = m) (hca : CellsK .u32 w ao A) (hcb : CellsK .u32 w bo B) (hA : isNat A = true) (hB : isNat B = true) (c : Int)
    (hS : ∀ w3, Below w.heap.size w w3 → Calls Tryd.prog 49 #[.slice ao n ca, .slice bo m cb] w3 (Raised w3 c)) : Calls Tryd.prog 22 #[.slice ao n ca, .slice bo m cb] w (OutN w 0 c) := by
  have hmf : ∀ (fn : Fn) (first cap : Array Value) (w : World), (Instr.makeFunc fn first cap).run Tryd.prog w = .ok (.func fn first cap) w := fun _ _ _ _ => rfl
  have hb2 : Below w.heap.size w ((w.alloc (.cells #[.slice ao n ca] 23)).alloc (.cells #[.slice bo m cb] 23)) := ((Below.refl _ _).alloc (Nat.le_refl _) _).alloc (by simp) _
  have hb3 : Below w.heap.size w (((w.alloc (.cells #[.slice ao n ca] 23)).alloc (.cells #[.slice bo m cb] 23)).alloc (.cells #[.int .i64 0] 29)) := hb2.alloc (by simp; omega) _
  have hb4 : Below w.heap.size w ((((w.alloc (.cells #[.slice ao n ca] 23)).alloc (.cells #[.slice bo m cb] 23)).alloc (.cells #[.int .i64 0] 29)).alloc (.cells #[.slice ao n ca, .slice bo m cb] 23)) := hb3.alloc (by simp; omega) _
  have c1 : Cap ((w.alloc (.cells #[.slice ao n ca] 23)).alloc (.cells #[.slice bo m cb] 23)) w.heap.size ao A n ca := ⟨by simp; omega, by simp [go_sem], hn, hca.keep hb2⟩
  have c2 : Cap ((w.alloc (.cells #[.slice ao n ca] 23)).alloc (.cells #[.slice bo m cb] 23)) (w.heap.size + 1) bo B m cb := ⟨by simp, by simp [go_sem], hm, hcb.keep hb2⟩
  have hat := attemptMul_raised ⟨w.heap.size, 0, none⟩ ⟨w.heap.size + 1, 0, none⟩ c ((w.alloc (.cells #[.slice ao n ca] 23)).alloc (.cells #[.slice bo m cb] 23)) (closMul_any w.heap.size (w.heap.size + 1) ao bo A B n m ca cb _ (c1.alloc _) (c2.alloc _) hA hB _ (plain_raised _ _) ((hS _ hb4).mono fun _ _ h => Raised.after ((Below.refl _ _).alloc (Nat.le_refl _) _) h))
  have H := Bx.mk hat
  clear hat hS hca hcb hA hB hn hm c1 c2 hb3 hb4
  have HB := Bx.mk hb2
  clear hb2
  go_enter Tryd.func22, Tryd.ntmps22
  go_wp2_with fail
  refine H.out.mono ?_
  rintro e w3 ⟨rfl, hb⟩
  go_wp2
  go_ret2
  exact ⟨_, rfl, by rw [limbs_zero]; exact Rd.nil _, HB.out.trans (hb.mono HB.out.size)⟩
theorem cmp_gen (ao bo : Option Addr) (A B : List Int) (n m ca cb : Nat) (w : World) (hn : A.length = n) (hm : B.length = m) (hca : CellsK .u32 w ao A) (hcb : CellsK .u32 w bo B) (hA : isNat A = true) (hB : isNat B = true) (s : Int)
    (hS : ∀ w3, Below w.heap.size w w3 → Calls Tryd.prog 58 #[.slice ao n ca, .slice bo m cb] w3 fun e w' => e = .returned (.int .i64 s) ∧ Quiet w3 w') : Calls Tryd.prog 28 #[.slice ao n ca, .slice bo m cb] w fun e w' => e = .returned (.tuple #[.int .i64 s, .int .i64 0]) ∧ Below w.heap.size w w' := by
  have hmf : ∀ (fn : Fn) (first cap : Array Value) (w : World), (Instr.makeFunc fn first cap).run Tryd.prog w = .ok (.func fn first cap) w := fun _ _ _ _ => rfl
  have hb2 : Below w.heap.size w ((w.alloc (.cells #[.slice ao n ca] 23)).alloc (.cells #[.slice bo m cb] 23)) := ((Below.refl _ _).alloc (Nat.le_refl _) _).alloc (by simp) _
  have hb3 : Below w.heap.size w (((w.alloc (.cells #[.slice ao n ca] 23)).alloc (.cells #[.slice bo m cb] 23)).alloc (.cells #[.int .i64 0] 29)) := hb2.alloc (by simp; omega) _
  have hb4 : Below w.heap.size w ((((w.alloc (.cells #[.slice ao n ca] 23)).alloc (.cells #[.slice bo m cb] 23)).alloc (.cells #[.int .i64 0] 29)).alloc (.cells #[.slice ao n ca, .slice bo m cb] 23)) := hb3.alloc (by simp; omega) _
  have c1 : Cap ((w.alloc (.cells #[.slice ao n ca] 23)).alloc (.cells #[.slice bo m cb] 23)) w.heap.size ao A n ca := ⟨by simp; omega, by simp [go_sem], hn, hca.keep hb2⟩
  have c2 : Cap ((w.alloc (.cells #[.slice ao n ca] 23)).alloc (.cells #[.slice bo m cb] 23)) (w.heap.size + 1) bo B m cb := ⟨by simp, by simp [go_sem], hm, hcb.keep hb2⟩
  have hat := attemptCmp_ok ⟨w.heap.size, 0, none⟩ ⟨w.heap.size + 1, 0, none⟩ s ((w.alloc (.cells #[.slice ao n ca] 23)).alloc (.cells #[.slice bo m cb] 23)) (closCmp_any w.heap.size (w.heap.size + 1) ao bo A B n m ca cb _ (c1.alloc _) (c2.alloc _) hA hB _ (fun _ _ h => Or.inl ⟨_, h.1⟩) ((hS _ hb4).mono fun _ w' h => ⟨h.1, ((Below.refl _ _).alloc (by simp) _).trans (quiet_below h.2 _)⟩))
  have H := Bx.mk hat
  clear hat hS hca hcb hA hB hn hm c1 c2 hb3 hb4
  have HB := Bx.mk hb2
  clear hb2
  go_enter Tryd.func28, Tryd.ntmps28
  go_wp2_with fail
  refine H.out.mono ?_
  rintro e w3 ⟨rfl, hb⟩
  go_wp2
  go_ret2
  exact ⟨rfl, HB.out.trans (hb.mono HB.out.size)⟩
end Go.Proofs.YtegjhkjmejckdaaDoor

/- natural.Div, by what its closure does. -/
import Derived.Test.YtegjhkjmejckdaaDoorT4
import Derived.BigQuiet
namespace Go.Proofs.YtegjhkjmejckdaaDoor
open Go.RowKit M
/-- Two numbers and an error code. -/
def OutD (w : World) (q r : Nat) (c : Int) (e : Ending) (w' : World) : Prop := ∃ v1 v2, e = .returned (.tuple #[v1, v2, .int .i64 c]) ∧ Rd w' v1 (limbs q) ∧ Rd w' v2 (limbs r) ∧ Below w.heap.size w w'
theorem div_gen (ao bo : Option Addr) (A B : List Int) (n m ca cb : Nat) (w : World) (hn : A.length = n) (hm : B.length = m) (hca : CellsK .u32 w ao A) (hcb : CellsK .u32 w bo B) (hA : isNat A = true) (hB : isNat B = true) (q r : Nat)
    (hS : ∀ w3, Below w.heap.size w w3 → Calls Tryd.prog 53 #[.slice ao n ca, .slice bo m cb] w3 (RetPair w3 q r)) : Calls Tryd.prog 24 #[.slice ao n ca, .slice bo m cb] w (OutD w q r 0) := by
  have hmf : ∀ (fn : Fn) (first cap : Array Value) (w : World), (Instr.makeFunc fn first cap).run Tryd.prog w = .ok (.func fn first cap) w := fun _ _ _ _ => rfl
  have hb2 : Below w.heap.size w ((w.alloc (.cells #[.slice ao n ca] 23)).alloc (.cells #[.slice bo m cb] 23)) := ((Below.refl _ _).alloc (Nat.le_refl _) _).alloc (by simp) _
  have hb4 : Below w.heap.size w (((((w.alloc (.cells #[.slice ao n ca] 23)).alloc (.cells #[.slice bo m cb] 23)).alloc (.cells #[.slice none 0 0, .slice none 0 0] 57)).alloc (.cells #[.int .i64 0] 29))) := (hb2.alloc (by simp; omega) _).alloc (by simp; omega) _
  have c1 : Cap ((w.alloc (.cells #[.slice ao n ca] 23)).alloc (.cells #[.slice bo m cb] 23)) w.heap.size ao A n ca := ⟨by simp; omega, by simp [go_sem], hn, hca.keep hb2⟩
  have c2 : Cap ((w.alloc (.cells #[.slice ao n ca] 23)).alloc (.cells #[.slice bo m cb] 23)) (w.heap.size + 1) bo B m cb := ⟨by simp, by simp [go_sem], hm, hcb.keep hb2⟩
  have hat := attemptDiv_ok ⟨w.heap.size, 0, none⟩ ⟨w.heap.size + 1, 0, none⟩ q r _ (closDiv_ok w.heap.size (w.heap.size + 1) ao bo A B n m ca cb q r _ ((c1.alloc _).alloc _) ((c2.alloc _).alloc _) hA hB (fun w1 h => hS w1 (hb4.trans (h.mono hb4.size))))
  have H := Bx.mk hat
  clear hat hS hca hcb hA hB hn hm c1 c2 hb4
  have HB := Bx.mk hb2
  clear hb2
  go_enter Tryd.func24, Tryd.ntmps24
  go_wp2_with fail
  refine H.out.mono ?_
  rintro e w3 ⟨v1, v2, rfl, hr1, hr2, hb⟩
  obtain ⟨s1, n1, rfl, _, _, _⟩ := hr1.shape
  obtain ⟨s2, n2, rfl, _, _, _⟩ := hr2.shape
  have G := fun nq => below_drewN ((Below.refl w3.heap.size w3).alloc (Nat.le_refl _) (.cells #[.slice s1 (limbs q).length n1, .slice s2 (limbs r).length n2] 57)) nq
  have G1 := Bx.mk fun nq => hr1.keep (G nq)
  have G2 := Bx.mk fun nq => hr2.keep (G nq)
  have G5 := Bx.mk fun nq => (HB.out.trans (hb.mono HB.out.size)).trans ((G nq).mono (by have := hb.size; have := HB.out.size; omega))
  clear G hr1 hr2 HB H hb
  go_wp2_with fail
  go_quiet (fail)
  go_wp2
  go_ret3
  exact ⟨_, _, rfl, G1.out _, G2.out _, G5.out _⟩
theorem div_gen_zero (ao bo : Option Addr) (A : List Int) (n ca cb : Nat) (w : World) (hn : A.length = n) (hca : CellsK .u32 w ao A) (hA : isNat A = true) :
    Calls Tryd.prog 24 #[.slice ao n ca, .slice bo 0 cb] w (OutD w 0 0 7) := by
  have hmf : ∀ (fn : Fn) (first cap : Array Value) (w : World), (Instr.makeFunc fn first cap).run Tryd.prog w = .ok (.func fn first cap) w := fun _ _ _ _ => rfl
  have hb2 : Below w.heap.size w ((w.alloc (.cells #[.slice ao n ca] 23)).alloc (.cells #[.slice bo 0 cb] 23)) := ((Below.refl _ _).alloc (Nat.le_refl _) _).alloc (by simp) _
  have c1 : Cap ((w.alloc (.cells #[.slice ao n ca] 23)).alloc (.cells #[.slice bo 0 cb] 23)) w.heap.size ao A n ca := ⟨by simp; omega, by simp [go_sem], hn, hca.keep hb2⟩
  have c2 : Cap ((w.alloc (.cells #[.slice ao n ca] 23)).alloc (.cells #[.slice bo 0 cb] 23)) (w.heap.size + 1) bo [] 0 cb := ⟨by simp, by simp [go_sem], rfl, CellsK.nil⟩
  have hat := attemptDiv_raised ⟨w.heap.size, 0, none⟩ ⟨w.heap.size + 1, 0, none⟩ 7 _ (closDiv_zero w.heap.size (w.heap.size + 1) ao bo A n ca cb _ ((c1.alloc _).alloc _) ((c2.alloc _).alloc _) hA)
  have H := Bx.mk hat
  clear hat hca hA hn c1 c2
  have HB := Bx.mk hb2
  clear hb2
  go_enter Tryd.func24, Tryd.ntmps24
  go_wp2_with fail
  refine H.out.mono ?_
  rintro e w3 ⟨rfl, hb⟩
  have G := fun nq => below_drewN ((Below.refl w3.heap.size w3).alloc (Nat.le_refl _) (.cells #[.slice none 0 0, .slice none 0 0] 57)) nq
  have G5 := Bx.mk fun nq => (HB.out.trans (hb.mono HB.out.size)).trans ((G nq).mono (by have := hb.size; have := HB.out.size; omega))
  clear G HB H hb
  go_wp2_with fail
  go_quiet (fail)
  go_wp2
  go_ret3
  exact ⟨_, _, rfl, by rw [limbs_zero]; exact Rd.nil _, by rw [limbs_zero]; exact Rd.nil _, G5.out _⟩
end Go.Proofs.YtegjhkjmejckdaaDoor

/- the exported functions Pow, Text, Parse and Div of natural, by what their closures do. -/
import Derived.Test.YtegjhkjmejckdaaDoorT4
namespace Go.Proofs.YtegjhkjmejckdaaDoor
open Go.RowKit M
theorem pow_gen (ao : Option Addr) (A : List Int) (n ca : Nat) (x : Int) (w : World) (hn : A.length = n) (hca : CellsK .u32 w ao A) (hA : isNat A = true) (s : Nat) (hS : ∀ w3, Below w.heap.size w w3 → Calls Tryd.prog 55 #[.slice ao n ca, .int .i64 x] w3 (RetNat w3 s)) : Calls Tryd.prog 26 #[.slice ao n ca, .int .i64 x] w (OutN w s 0) := by
  have hmf : ∀ (fn : Fn) (first cap : Array Value) (w : World), (Instr.makeFunc fn first cap).run Tryd.prog w = .ok (.func fn first cap) w := fun _ _ _ _ => rfl
  have hb2 : Below w.heap.size w ((w.alloc (.cells #[.slice ao n ca] 23)).alloc (.cells #[.int .i64 x] 3)) := ((Below.refl _ _).alloc (Nat.le_refl _) _).alloc (by simp) _
  have hb3 : Below w.heap.size w (((w.alloc (.cells #[.slice ao n ca] 23)).alloc (.cells #[.int .i64 x] 3)).alloc (.cells #[.int .i64 0] 29)) := hb2.alloc (by simp; omega) _
  have hb4 : Below w.heap.size w ((((w.alloc (.cells #[.slice ao n ca] 23)).alloc (.cells #[.int .i64 x] 3)).alloc (.cells #[.int .i64 0] 29)).alloc (.cells #[.slice ao n ca] 23)) := hb3.alloc (by simp; omega) _
  have c1 : Cap ((w.alloc (.cells #[.slice ao n ca] 23)).alloc (.cells #[.int .i64 x] 3)) w.heap.size ao A n ca := ⟨by simp; omega, by simp [go_sem], hn, hca.keep hb2⟩
  have hat := attemptPow_ok ⟨w.heap.size, 0, none⟩ ⟨w.heap.size + 1, 0, none⟩ s ((w.alloc (.cells #[.slice ao n ca] 23)).alloc (.cells #[.int .i64 x] 3)) (closPow_any w.heap.size (w.heap.size + 1) ao A n ca x _ (c1.alloc _) (by simp) (by simp [go_sem]) hA _ (plain_ret _ _) ((hS _ hb4).mono fun _ _ h => RetNat.after ((Below.refl _ _).alloc (Nat.le_refl _) _) h))
  have H := Bx.mk hat
  clear hat hS hca hA hn c1 hb3 hb4
  have HB := Bx.mk hb2
  clear hb2
  go_enter Tryd.func26, Tryd.ntmps26
  go_wp2_with fail
  refine H.out.mono ?_
  rintro e w3 ⟨v, rfl, hr, hb⟩
  go_wp2
  go_ret2
  exact ⟨v, rfl, hr, HB.out.trans (hb.mono HB.out.size)⟩
theorem pow_gen_raised (ao : Option Addr) (A : List Int) (n ca : Nat) (x : Int) (w : World) (hn : A.length = n) (hca : CellsK .u32 w ao A) (hA : isNat A = true) (c : Int) (hS : ∀ w3, Below w.heap.size w w3 → Calls Tryd.prog 55 #[.slice ao n ca, .int .i64 x] w3 (Raised w3 c)) : Calls Tryd.prog 26 #[.slice ao n ca, .int .i64 x] w (OutN w 0 c) := by
  have hmf : ∀ (fn : Fn) (first cap : Array Value) (w : World), (Instr.makeFunc fn first cap).run Tryd.prog w = .ok (.func fn first cap) w := fun _ _ _ _ => rfl
  have hb2 : Below w.heap.size w ((w.alloc (.cells #[.slice ao n ca] 23)).alloc (.cells #[.int .i64 x] 3)) := ((Below.refl _ _).alloc (Nat.le_refl _) _).alloc (by simp) _
  have hb3 : Below w.heap.size w (((w.alloc (.cells #[.slice ao n ca] 23)).alloc (.cells #[.int .i64 x] 3)).alloc (.cells #[.int .i64 0] 29)) := hb2.alloc (by simp; omega) _
  have hb4 : Below w.heap.size w ((((w.alloc (.cells #[.slice ao n ca] 23)).alloc (.cells #[.int .i64 x] 3)).alloc (.cells #[.int .i64 0] 29)).alloc (.cells #[.slice ao n ca] 23)) := hb3.alloc (by simp; omega) _
  have c1 : Cap ((w.alloc (.cells #[.slice ao n ca] 23)).alloc (.cells #[.int .i64 x] 3)) w.heap.size ao A n ca := ⟨by simp; omega, by simp [go_sem], hn, hca.keep hb2⟩
  have hat := attemptPow_raised ⟨w.heap.size, 0, none⟩ ⟨w.heap.size + 1, 0, none⟩ c ((w.alloc (.cells #[.slice ao n ca] 23)).alloc (.cells #[.int .i64 x] 3)) (closPow_any w.heap.size (w.heap.size + 1) ao A n ca x _ (c1.alloc _) (by simp) (by simp [go_sem]) hA _ (plain_raised _ _) ((hS _ hb4).mono fun _ _ h => Raised.after ((Below.refl _ _).alloc (Nat.le_refl _) _) h))
  have H := Bx.mk hat
  clear hat hS hca hA hn c1 hb3 hb4
  have HB := Bx.mk hb2
  clear hb2
  go_enter Tryd.func26, Tryd.ntmps26
  go_wp2_with fail
  refine H.out.mono ?_
  rintro e w3 ⟨rfl, hb⟩
  go_wp2
  go_ret2
  exact ⟨_, rfl, by rw [limbs_zero]; exact Rd.nil _, HB.out.trans (hb.mono HB.out.size)⟩
theorem text_gen (ao : Option Addr) (A : List Int) (n ca : Nat) (w : World) (hn : A.length = n) (hca : CellsK .u32 w ao A) (hA : isNat A = true) (s : ByteArray) (hS : ∀ w3, Below w.heap.size w w3 → Calls Tryd.prog 61 #[.slice ao n ca] w3 fun e w' => e = .returned (.string s) ∧ Below w3.heap.size w3 w') : Calls Tryd.prog 30 #[.slice ao n ca] w fun e w' => e = .returned (.tuple #[.string s, .int .i64 0]) ∧ Below w.heap.size w w' := by
  have hmf : ∀ (fn : Fn) (first cap : Array Value) (w : World), (Instr.makeFunc fn first cap).run Tryd.prog w = .ok (.func fn first cap) w := fun _ _ _ _ => rfl
  have hb2 : Below w.heap.size w (w.alloc (.cells #[.slice ao n ca] 23)) := (Below.refl _ _).alloc (Nat.le_refl _) _
  have hb3 : Below w.heap.size w ((w.alloc (.cells #[.slice ao n ca] 23)).alloc (.cells #[.int .i64 0] 29)) := hb2.alloc (by simp) _
  have hb4 : Below w.heap.size w (((w.alloc (.cells #[.slice ao n ca] 23)).alloc (.cells #[.int .i64 0] 29)).alloc (.cells #[.slice ao n ca] 23)) := hb3.alloc (by simp; omega) _
  have c1 : Cap (w.alloc (.cells #[.slice ao n ca] 23)) w.heap.size ao A n ca := ⟨by simp, by simp [go_sem], hn, hca.keep hb2⟩
  have hat := attemptText_ok ⟨w.heap.size, 0, none⟩ s (w.alloc (.cells #[.slice ao n ca] 23)) (closText_any w.heap.size ao A n ca _ (c1.alloc _) hA _ (fun _ _ h => Or.inl ⟨_, h.1⟩) ((hS _ hb4).mono fun _ w' h => ⟨h.1, ((Below.refl _ _).alloc (by simp) _).trans (h.2.mono (by simp))⟩))
  have H := Bx.mk hat
  clear hat hS hca hA hn c1 hb3 hb4
  have HB := Bx.mk hb2
  clear hb2
  go_enter Tryd.func30, Tryd.ntmps30
  go_wp2_with fail
  refine H.out.mono ?_
  rintro e w3 ⟨rfl, hb⟩
  go_wp2
  go_ret2
  exact ⟨rfl, HB.out.trans (hb.mono HB.out.size)⟩
theorem parse_bad (s : ByteArray) (w : World) (hs : s.size ≤ maxLen) (hd : isDec (letters s) = false) : Calls Tryd.prog 32 #[.string s] w (OutN w 0 8) := by
  have hmf : ∀ (fn : Fn) (first cap : Array Value) (w : World), (Instr.makeFunc fn first cap).run Tryd.prog w = .ok (.func fn first cap) w := fun _ _ _ _ => rfl
  have hb2 : Below w.heap.size w (w.alloc (.cells #[.string s] 9)) := (Below.refl _ _).alloc (Nat.le_refl _) _
  have hb3 : Below w.heap.size w ((w.alloc (.cells #[.string s] 9)).alloc (.cells #[.int .i64 0] 29)) := hb2.alloc (by simp) _
  have hcc : ((w.alloc (.cells #[.string s] 9)).alloc (.cells #[.int .i64 0] 29)).cell? ⟨w.heap.size, 0, none⟩ = some (.string s) := by simp [go_sem]
  have hat := attemptParse_raised ⟨w.heap.size, 0, none⟩ 8 (w.alloc (.cells #[.string s] 9)) (closParse_bad w.heap.size s _ (by simp; omega) hcc hs hd)
  have H := Bx.mk hat
  clear hat hs hd hb3
  have HB := Bx.mk hb2
  clear hb2
  go_enter Tryd.func32, Tryd.ntmps32
  go_wp2_with fail
  refine H.out.mono ?_
  rintro e w3 ⟨rfl, hb⟩
  go_wp2
  go_ret2
  exact ⟨_, rfl, by rw [limbs_zero]; exact Rd.nil _, HB.out.trans (hb.mono HB.out.size)⟩
theorem parse_gen (s : ByteArray) (w : World) (hs : s.size ≤ maxLen) (hd : isDec (letters s) = true) (x : Nat) (hS : ∀ w3, Calls Tryd.prog 64 #[.string s] w3 (RetNat w3 x)) : Calls Tryd.prog 32 #[.string s] w (OutN w x 0) := by
  have hmf : ∀ (fn : Fn) (first cap : Array Value) (w : World), (Instr.makeFunc fn first cap).run Tryd.prog w = .ok (.func fn first cap) w := fun _ _ _ _ => rfl
  have hb2 : Below w.heap.size w (w.alloc (.cells #[.string s] 9)) := (Below.refl _ _).alloc (Nat.le_refl _) _
  have hb3 : Below w.heap.size w ((w.alloc (.cells #[.string s] 9)).alloc (.cells #[.int .i64 0] 29)) := hb2.alloc (by simp) _
  have hcc : ((w.alloc (.cells #[.string s] 9)).alloc (.cells #[.int .i64 0] 29)).cell? ⟨w.heap.size, 0, none⟩ = some (.string s) := by simp [go_sem]
  have hat := attemptParse_ok ⟨w.heap.size, 0, none⟩ x (w.alloc (.cells #[.string s] 9)) (closParse_any w.heap.size s _ (by simp; omega) hcc hs hd _ (plain_ret _ _) (hS _))
  have H := Bx.mk hat
  clear hat hS hs hd hb3
  have HB := Bx.mk hb2
  clear hb2
  go_enter Tryd.func32, Tryd.ntmps32
  go_wp2_with fail
  refine H.out.mono ?_
  rintro e w3 ⟨v, rfl, hr, hb⟩
  go_wp2
  go_ret2
  exact ⟨v, rfl, hr, HB.out.trans (hb.mono HB.out.size)⟩
theorem parse_gen_raised (s : ByteArray) (w : World) (hs : s.size ≤ maxLen) (hd : isDec (letters s) = true) (c : Int) (hS : ∀ w3, Calls Tryd.prog 64 #[.string s] w3 (Raised w3 c)) : Calls Tryd.prog 32 #[.string s] w (OutN w 0 c) := by
  have hmf : ∀ (fn : Fn) (first cap : Array Value) (w : World), (Instr.makeFunc fn first cap).run Tryd.prog w = .ok (.func fn first cap) w := fun _ _ _ _ => rfl
  have hb2 : Below w.heap.size w (w.alloc (.cells #[.string s] 9)) := (Below.refl _ _).alloc (Nat.le_refl _) _
  have hb3 : Below w.heap.size w ((w.alloc (.cells #[.string s] 9)).alloc (.cells #[.int .i64 0] 29)) := hb2.alloc (by simp) _
  have hcc : ((w.alloc (.cells #[.string s] 9)).alloc (.cells #[.int .i64 0] 29)).cell? ⟨w.heap.size, 0, none⟩ = some (.string s) := by simp [go_sem]
  have hat := attemptParse_raised ⟨w.heap.size, 0, none⟩ c (w.alloc (.cells #[.string s] 9)) (closParse_any w.heap.size s _ (by simp; omega) hcc hs hd _ (plain_raised _ _) (hS _))
  have H := Bx.mk hat
  clear hat hS hs hd hb3
  have HB := Bx.mk hb2
  clear hb2
  go_enter Tryd.func32, Tryd.ntmps32
  go_wp2_with fail
  refine H.out.mono ?_
  rintro e w3 ⟨rfl, hb⟩
  go_wp2
  go_ret2
  exact ⟨_, rfl, by rw [limbs_zero]; exact Rd.nil _, HB.out.trans (hb.mono HB.out.size)⟩
end Go.Proofs.YtegjhkjmejckdaaDoor

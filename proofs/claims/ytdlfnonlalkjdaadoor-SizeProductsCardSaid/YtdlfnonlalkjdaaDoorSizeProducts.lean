/- SizeProducts: whatever the input is, the law returns true and leaves the input as it was; the program's tables lie as their initialisers lay them. -/
import Derived.Test.YtdlfnonlalkjdaaDoorSLPa
import Derived.Test.YtdlfnonlalkjdaaDoorSFr
import Derived.Test.YtdlfnonlalkjdaaDoorRows
import Derived.Test.YtdlfnonlalkjdaaDoorTie
import Derived.Test.YtdlfnonlalkjdaaDoorCards
import Derived.SevenTiedAt
namespace Go.Proofs.YtdlfnonlalkjdaaDoor.sizeProducts
open Go.ChangeShapes Go.WideShapes Go.ChangeAt Go.RowKit M
def laidT_sizeProducts : List (String × DataW Unit) := [("schisma/size.logarithms", Rows.laid_schisma_size_logarithms)]
theorem walk (a0 : Nat → Int) (w0 : W6 a0) (a1 : Nat → Int) (w1 : W6 a1) (w : World) (hl : Lm w) :
    Calls Tryd.prog 5 #[PV a0, PV a1] w fun e w' => e = .returned (.bool true) ∧ Below w.heap.size w w' := sproducts_all a0 a1 w hl
theorem tabs {w : World} (h : laidMetH Tryd.prog laidT_sizeProducts w) : Lm w := by
  rw [MakeChecks.laidMetH_plain _ _ _ (by kernel_rfl)] at h
  exact lm_of_head h
set_option maxRecDepth 100000 in
theorem lifted (os : Os) (started : os.Started) (H : Type) (enc : TypeId × Value → H) :
    ReturnsInHanded {} Tryd.checked os 5 .any (fun w args => (Rows.sizeProductsSpec.pre enc Tryd.prog Tryd.f5 [] false w args ∧ laidMetH Tryd.prog laidT_sizeProducts w) ∧ sizedMet enc Tryd.prog Tryd.f5 (OpenSpec.ofChange Rows.sizeProductsSpec) false w args) (Rows.sizeProductsSpec.post enc Tryd.prog Tryd.f5 false true false false) := by
  refine returnsInHanded_of_change_and (C := Tryd.checked) (X := fun w _ => laidMetH Tryd.prog laidT_sizeProducts w) (fun _ _ _ hh h => h.of_heap hh) own started (by kernel_rfl) Tryd.func5
    (ChangeSpec.witness_shaped (enc := enc) (C := Tryd.checked) (os := os) (X := fun w _ => laidMetH Tryd.prog laidT_sizeProducts w) false (World.laidAll Tryd.prog os laidT_sizeProducts) #[PV fun _ => 0, PV fun _ => 0] 8 (World.laidAll_os _ _ _) (World.shaped_of_ZipB (by kernel_rfl) (by kernel_rfl)) (by kernel_rfl) (by kernel_rfl) (by kernel_rfl)
      (by rw [MakeChecks.laidMetH_plain _ _ _ (by kernel_rfl)]; exact laidMet_laidAll _ (by kernel_rfl) (by kernel_rfl))) ?_
  intro W base args ds gs before hval0 hW X1 X2 X3 X4
  have hval : ∀ (j : Nat) t v, Tryd.f5.params[j]? = some t → args[j]? = some v → Value.okWide Tryd.prog W .any base t v := hval0
  have hW' := hW
  obtain ⟨p, q, hA0, hV, rfl, hfz, hnd⟩ := hW
  have hA : DataW.TrodAll enc Tryd.prog W 0 (fun _ => true) true Tryd.f5.params.toList args.toList ds p := hA0
  rw [Tryd.params5] at hA hval
  obtain ⟨v0, vs0, d0, ds0, p0, q0, hargs, rfl, rfl, h0, r0⟩ := trodAll_cons hA
  obtain ⟨v1, vs1, d1, ds1, p1, q1, rfl, rfl, rfl, h1, r1⟩ := trodAll_cons r0
  obtain ⟨rfl, rfl, rfl⟩ := trodAll_nil r1
  obtain rfl : args = #[v0, v1] := by cases args; simp_all
  obtain ⟨rfl, rfl⟩ := trodVars_none hV
  obtain ⟨a0, rfl, rfl, rfl, w0⟩ := six_open (by kernel_rfl) cellsP (hval 0 25 v0 rfl rfl) h0
  obtain ⟨a1, rfl, rfl, rfl, w1⟩ := six_open (by kernel_rfl) cellsP (hval 1 25 v1 rfl rfl) h1
  clear hA0 hval0
  simp only [List.append_nil] at hW'
  have hg := tabs (w := W) (by first | exact X1 | exact X2 | exact X3 | exact X4)
  refine (walk a0 w0 a1 w1 W hg).mono fun e W' ⟨he, bel⟩ => ?_
  subst he
  exact ⟨_, rfl, _, _, _, [], _, [], hW', trodAll_mk1 (shut_bool Tryd.underlying4 _), (trodAll_cons_mk (six_shut (by kernel_rfl) cellsP w0) (trodAll_cons_mk (six_shut (by kernel_rfl) cellsP w1) trodAll_mk0)), rfl, bel.frame _, fun h => by cases h⟩

theorem over : Rows.sizeProductsRow.holds Tryd.pinned (OpenSpec.ofChange Rows.sizeProductsSpec) :=
  OpenClaim.holds_of_wide 5 Tryd.f5 rfl rfl rfl rfl rfl rfl rfl ⟨rfl, rfl, rfl, rfl, rfl⟩ rfl rfl rfl rfl rfl (by kernel_rfl) Tryd.func5 (by kernel_rfl)
    (of_decide_eq_true (by kernel_rfl)) (by unfold Func.isWrapper; first | (rw [if_pos (by decide +kernel)]; kernel_rfl) | (rw [if_neg (by decide +kernel)]; exact ⟨rfl, rfl⟩))
    (fun os started H enc _ => lifted os started H enc)

end Go.Proofs.YtdlfnonlalkjdaaDoor.sizeProducts
namespace Go.Proofs.YtdlfnonlalkjdaaDoor
open Go
/-- The tied card. -/
theorem sizeProducts_card : Rows.SizeProductsCardSaid :=
  Claim7.holds_tied_plain_at .later [] [.wider] true (true, "59c08f82e007c89a150890e4d4b3d8d20e70f7852e3289b7397d3396d7da4dd1") true
    sizeProducts.over (fun _ h => by cases h) (by kernel_rfl) (fun _ h => by cases h) sizeProducts_row_tie rfl ⟨rfl, rfl⟩ (by kernel_rfl) rfl
    (fun f fn hf hfn => by
      obtain rfl : f = 5 := Option.some.inj ((show Tryd.prog.funcNamed "schisma/schismalaw04.SizeProducts" = some 5 by kernel_rfl).symm.trans hf) |>.symm
      obtain rfl : fn = Tryd.f5 := (Option.some.inj (Tryd.func5.symm.trans hfn)).symm
      exact ⟨by kernel_rfl, fun j t ht => by
        rw [Tryd.params5] at ht
        have hm : t ∈ [25] := by have := Array.mem_of_getElem? ht; simp at this ⊢; first | exact this | omega | (rcases this with h | h <;> simp [h]) | (rcases this with h | h | h <;> simp [h])
        have hall : ([25].all fun u => !Tryd.prog.wantsStandIn u) = true := by kernel_rfl
        exact (show Tryd.prog.wantsStandIn t = false by simpa using List.all_eq_true.1 hall t hm)⟩)
    (by kernel_rfl)
#print axioms sizeProducts_card
end Go.Proofs.YtdlfnonlalkjdaaDoor

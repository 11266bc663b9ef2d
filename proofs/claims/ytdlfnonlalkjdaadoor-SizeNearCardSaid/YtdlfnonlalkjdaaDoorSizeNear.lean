/- SizeNear: whatever the input is, the law returns true and leaves the input as it was; the program's tables lie as their initialisers lay them. -/
import Derived.Test.YtdlfnonlalkjdaaDoorSLNa
import Derived.Test.YtdlfnonlalkjdaaDoorSFr
import Derived.Test.YtdlfnonlalkjdaaDoorRows
import Derived.Test.YtdlfnonlalkjdaaDoorTie
import Derived.Test.YtdlfnonlalkjdaaDoorCards
import Derived.SevenTiedAt
namespace Go.Proofs.YtdlfnonlalkjdaaDoor.sizeNear
open Go.ChangeShapes Go.WideShapes Go.ChangeAt Go.RowKit M
def laidT_sizeNear : List (String × DataW Unit) := [("schisma/size.logarithms", Rows.laid_schisma_size_logarithms)]
theorem walk (a0 : Nat → Int) (w0 : W6 a0) (a1 : Nat → Int) (w1 : W6 a1) (a2 : Nat → Int) (w2 : W6 a2) (a3 : Int) (w3 : (Lit.int .i64 a3).wf = true) (a4 : Int) (w4 : (Lit.int .i64 a4).wf = true) (w : World) (hl : Lm w) :
    Calls Tryd.prog 9 #[PV a0, PV a1, PV a2, .int .i64 a3, .int .i64 a4] w fun e w' => e = .returned (.bool true) ∧ Below w.heap.size w w' := snear_all a0 a1 a2 a3 a4 w hl
theorem tabs {w : World} (h : laidMetH Tryd.prog laidT_sizeNear w) : Lm w := by
  rw [MakeChecks.laidMetH_plain _ _ _ (by kernel_rfl)] at h
  exact lm_of_head h
set_option maxRecDepth 100000 in
theorem lifted (os : Os) (started : os.Started) (H : Type) (enc : TypeId × Value → H) :
    ReturnsInHanded {} Tryd.checked os 9 .any (fun w args => (Rows.sizeNearSpec.pre enc Tryd.prog Tryd.f9 [] false w args ∧ laidMetH Tryd.prog laidT_sizeNear w) ∧ sizedMet enc Tryd.prog Tryd.f9 (OpenSpec.ofChange Rows.sizeNearSpec) false w args) (Rows.sizeNearSpec.post enc Tryd.prog Tryd.f9 false true false false) := by
  refine returnsInHanded_of_change_and (C := Tryd.checked) (X := fun w _ => laidMetH Tryd.prog laidT_sizeNear w) (fun _ _ _ hh h => h.of_heap hh) own started (by kernel_rfl) Tryd.func9
    (ChangeSpec.witness_shaped (enc := enc) (C := Tryd.checked) (os := os) (X := fun w _ => laidMetH Tryd.prog laidT_sizeNear w) false (World.laidAll Tryd.prog os laidT_sizeNear) #[PV fun _ => 0, PV fun _ => 0, PV fun _ => 0, .int .i64 0, .int .i64 0] 8 (World.laidAll_os _ _ _) (World.shaped_of_ZipB (by kernel_rfl) (by kernel_rfl)) (by kernel_rfl) (by kernel_rfl) (by kernel_rfl)
      (by rw [MakeChecks.laidMetH_plain _ _ _ (by kernel_rfl)]; exact laidMet_laidAll _ (by kernel_rfl) (by kernel_rfl))) ?_
  intro W base args ds gs before hval0 hW X1 X2 X3 X4
  have hval : ∀ (j : Nat) t v, Tryd.f9.params[j]? = some t → args[j]? = some v → Value.okWide Tryd.prog W .any base t v := hval0
  have hW' := hW
  obtain ⟨p, q, hA0, hV, rfl, hfz, hnd⟩ := hW
  have hA : DataW.TrodAll enc Tryd.prog W 0 (fun _ => true) true Tryd.f9.params.toList args.toList ds p := hA0
  rw [Tryd.params9] at hA hval
  obtain ⟨v0, vs0, d0, ds0, p0, q0, hargs, rfl, rfl, h0, r0⟩ := trodAll_cons hA
  obtain ⟨v1, vs1, d1, ds1, p1, q1, rfl, rfl, rfl, h1, r1⟩ := trodAll_cons r0
  obtain ⟨v2, vs2, d2, ds2, p2, q2, rfl, rfl, rfl, h2, r2⟩ := trodAll_cons r1
  obtain ⟨v3, vs3, d3, ds3, p3, q3, rfl, rfl, rfl, h3, r3⟩ := trodAll_cons r2
  obtain ⟨v4, vs4, d4, ds4, p4, q4, rfl, rfl, rfl, h4, r4⟩ := trodAll_cons r3
  obtain ⟨rfl, rfl, rfl⟩ := trodAll_nil r4
  obtain rfl : args = #[v0, v1, v2, v3, v4] := by cases args; simp_all
  obtain ⟨rfl, rfl⟩ := trodVars_none hV
  obtain ⟨a0, rfl, rfl, rfl, w0⟩ := six_open (by kernel_rfl) cellsP (hval 0 25 v0 rfl rfl) h0
  obtain ⟨a1, rfl, rfl, rfl, w1⟩ := six_open (by kernel_rfl) cellsP (hval 1 25 v1 rfl rfl) h1
  obtain ⟨a2, rfl, rfl, rfl, w2⟩ := six_open (by kernel_rfl) cellsP (hval 2 25 v2 rfl rfl) h2
  obtain ⟨a3, rfl, rfl, rfl, w3⟩ := open_int Tryd.underlying3 (hval 3 3 v3 rfl rfl) h3
  obtain ⟨a4, rfl, rfl, rfl, w4⟩ := open_int Tryd.underlying3 (hval 4 3 v4 rfl rfl) h4
  clear hA0 hval0
  simp only [List.append_nil] at hW'
  have hg := tabs (w := W) (by first | exact X1 | exact X2 | exact X3 | exact X4)
  refine (walk a0 w0 a1 w1 a2 w2 a3 w3 a4 w4 W hg).mono fun e W' ⟨he, bel⟩ => ?_
  subst he
  exact ⟨_, rfl, _, _, _, [], _, [], hW', trodAll_mk1 (shut_bool Tryd.underlying4 _), (trodAll_cons_mk (six_shut (by kernel_rfl) cellsP w0) (trodAll_cons_mk (six_shut (by kernel_rfl) cellsP w1) (trodAll_cons_mk (six_shut (by kernel_rfl) cellsP w2) (trodAll_cons_mk (shut_int Tryd.underlying3 w3) (trodAll_cons_mk (shut_int Tryd.underlying3 w4) trodAll_mk0))))), rfl, bel.frame _, fun h => by cases h⟩

theorem over : Rows.sizeNearRow.holds Tryd.pinned (OpenSpec.ofChange Rows.sizeNearSpec) :=
  OpenClaim.holds_of_wide 9 Tryd.f9 rfl rfl rfl rfl rfl rfl rfl ⟨rfl, rfl, rfl, rfl, rfl⟩ rfl rfl rfl rfl rfl (by kernel_rfl) Tryd.func9 (by kernel_rfl)
    (of_decide_eq_true (by kernel_rfl)) (by unfold Func.isWrapper; first | (rw [if_pos (by decide +kernel)]; kernel_rfl) | (rw [if_neg (by decide +kernel)]; exact ⟨rfl, rfl⟩))
    (fun os started H enc _ => lifted os started H enc)

end Go.Proofs.YtdlfnonlalkjdaaDoor.sizeNear
namespace Go.Proofs.YtdlfnonlalkjdaaDoor
open Go
/-- The tied card. -/
theorem sizeNear_card : Rows.SizeNearCardSaid :=
  Claim7.holds_tied_plain_at .later [] [.wider] true (true, "59c08f82e007c89a150890e4d4b3d8d20e70f7852e3289b7397d3396d7da4dd1") true
    sizeNear.over (fun _ h => by cases h) (by kernel_rfl) (fun _ h => by cases h) sizeNear_row_tie rfl ⟨rfl, rfl⟩ (by kernel_rfl) rfl
    (fun f fn hf hfn => by
      obtain rfl : f = 9 := Option.some.inj ((show Tryd.prog.funcNamed "schisma/schismalaw04.SizeNear" = some 9 by kernel_rfl).symm.trans hf) |>.symm
      obtain rfl : fn = Tryd.f9 := (Option.some.inj (Tryd.func9.symm.trans hfn)).symm
      exact ⟨by kernel_rfl, fun j t ht => by
        rw [Tryd.params9] at ht
        have hm : t ∈ [25, 3] := by have := Array.mem_of_getElem? ht; simp at this ⊢; first | exact this | omega | (rcases this with h | h <;> simp [h]) | (rcases this with h | h | h <;> simp [h])
        have hall : ([25, 3].all fun u => !Tryd.prog.wantsStandIn u) = true := by kernel_rfl
        exact (show Tryd.prog.wantsStandIn t = false by simpa using List.all_eq_true.1 hall t hm)⟩)
    (by kernel_rfl)
#print axioms sizeNear_card
end Go.Proofs.YtdlfnonlalkjdaaDoor

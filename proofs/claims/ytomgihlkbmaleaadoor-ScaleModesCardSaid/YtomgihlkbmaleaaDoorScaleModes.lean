/- ScaleModes: whatever the input is, the law returns true and leaves the input as it was; the program's tables lie as their initialisers lay them. -/
import Derived.Test.YtomgihlkbmaleaaDoorRF
import Derived.Test.YtomgihlkbmaleaaDoorQFs
import Derived.Test.YtomgihlkbmaleaaDoorQFr
import Derived.Test.YtomgihlkbmaleaaDoorRows
import Derived.Test.YtomgihlkbmaleaaDoorTie
import Derived.Test.YtomgihlkbmaleaaDoorCards
import Derived.SevenTiedAt
namespace Go.Proofs.YtomgihlkbmaleaaDoor.scaleModes
open Go.ChangeShapes Go.WideShapes Go.ChangeAt Go.RowKit M
theorem walk (a0 : Option Addr) (n0 c0 : Nat) (M0 : Nat → Nat → Int) (l0 : n0 ≤ c0) (m0 : c0 ≤ maxLen) (a1 : Nat) (w1 : a1 ≤ 255) (a2 : Nat) (w2 : a2 ≤ 255) (w : World) (hs : Sm w) (s0 : CV w a0 n0 M0) :
    Calls Tryd.prog 6 #[.slice a0 n0 c0, .int .u8 a1, .int .u8 a2] w fun e w' => e = .returned (.bool true) ∧ Below w.heap.size w w' := smodes_all a0 n0 c0 a1 a2 M0 w hs (by unfold maxLen at m0; omega) l0 m0 w1 w2 s0
set_option maxRecDepth 100000 in
theorem lifted (os : Os) (started : os.Started) (H : Type) (enc : TypeId × Value → H) :
    ReturnsInHanded {} Tryd.checked os 6 .any (fun w args => (Rows.scaleModesSpec.pre enc Tryd.prog Tryd.f6 [] false w args ∧ laidMetH Tryd.prog laidT w) ∧ sizedMet enc Tryd.prog Tryd.f6 (OpenSpec.ofChange Rows.scaleModesSpec) false w args) (Rows.scaleModesSpec.post enc Tryd.prog Tryd.f6 false true false false) := by
  refine returnsInHanded_of_change_and (C := Tryd.checked) (X := fun w _ => laidMetH Tryd.prog laidT w) (fun _ _ _ hh h => h.of_heap hh) own started (by kernel_rfl) Tryd.func6
    (ChangeSpec.witness_shaped (enc := enc) (C := Tryd.checked) (os := os) (X := fun w _ => laidMetH Tryd.prog laidT w) false (World.laidAll Tryd.prog os laidT) #[.slice none 0 0, .int .u8 0, .int .u8 0] 8 (World.laidAll_os _ _ _) (World.shaped_of_ZipB (by kernel_rfl) (by kernel_rfl)) (by kernel_rfl) (by kernel_rfl) (by kernel_rfl)
      (by rw [MakeChecks.laidMetH_plain _ _ _ (by kernel_rfl)]; exact laidMet_laidAll _ (by kernel_rfl) (by kernel_rfl))) ?_
  intro W base args ds gs before hval0 hW X1 X2 X3 X4
  have hval : ∀ (j : Nat) t v, Tryd.f6.params[j]? = some t → args[j]? = some v → Value.okWide Tryd.prog W .any base t v := hval0
  have hW' := hW
  obtain ⟨p, q, hA0, hV, rfl, hfz, hnd⟩ := hW
  have hA : DataW.TrodAll enc Tryd.prog W 0 (fun _ => true) true Tryd.f6.params.toList args.toList ds p := hA0
  rw [Tryd.params6] at hA hval
  obtain ⟨v0, vs0, d0, ds0, p0, q0, hargs, rfl, rfl, h0, r0⟩ := trodAll_cons hA
  obtain ⟨v1, vs1, d1, ds1, p1, q1, rfl, rfl, rfl, h1, r1⟩ := trodAll_cons r0
  obtain ⟨v2, vs2, d2, ds2, p2, q2, rfl, rfl, rfl, h2, r2⟩ := trodAll_cons r1
  obtain ⟨rfl, rfl, rfl⟩ := trodAll_nil r2
  obtain rfl : args = #[v0, v1, v2] := by cases args; simp_all
  obtain ⟨rfl, rfl⟩ := trodVars_none hV
  have k0 := h0
  obtain ⟨a0, n0, c0, M0, rfl, l0, m0, s0, z0, lt0⟩ := pitches_in (okWide_slice Tryd.underlying32 (hval 0 32 v0 rfl rfl)) h0
  obtain ⟨b1, rfl, rfl, rfl, u1⟩ := open_int Tryd.underlying5 (hval 1 5 v1 rfl rfl) h1
  obtain ⟨a1, rfl, w1⟩ := wf_u8 u1
  obtain ⟨b2, rfl, rfl, rfl, u2⟩ := open_int Tryd.underlying5 (hval 2 5 v2 rfl rfl) h2
  obtain ⟨a2, rfl, w2⟩ := wf_u8 u2
  clear hA0 hval0
  simp only [List.append_nil, List.nil_append] at hW'
  have hg := sm_of_laid (w := W) (by first | exact X1 | exact X2 | exact X3 | exact X4)
  refine (walk a0 n0 c0 M0 l0 m0 a1 w1 a2 w2 W hg s0).mono fun e W' ⟨he, bel⟩ => ?_
  subst he
  exact ⟨_, rfl, _, _, _, [], _, [], hW', trodAll_mk1 (shut_bool Tryd.underlying4 _), (trodAll_cons_mk (Below.trod laidOut (by kernel_rfl) (of_decide_eq_true (by kernel_rfl)) k0 bel lt0) (trodAll_cons_mk (shut_int Tryd.underlying5 u1) (trodAll_cons_mk (shut_int Tryd.underlying5 u2) trodAll_mk0))), rfl, bel.frame _, fun h => by cases h⟩

theorem over : Rows.scaleModesRow.holds Tryd.pinned (OpenSpec.ofChange Rows.scaleModesSpec) :=
  OpenClaim.holds_of_wide 6 Tryd.f6 rfl rfl rfl rfl rfl rfl rfl ⟨rfl, rfl, rfl, rfl, rfl⟩ rfl rfl rfl rfl rfl (by kernel_rfl) Tryd.func6 (by kernel_rfl)
    (of_decide_eq_true (by kernel_rfl)) (by unfold Func.isWrapper; first | (rw [if_pos (by decide +kernel)]; kernel_rfl) | (rw [if_neg (by decide +kernel)]; exact ⟨rfl, rfl⟩))
    (fun os started H enc _ => lifted os started H enc)

end Go.Proofs.YtomgihlkbmaleaaDoor.scaleModes
namespace Go.Proofs.YtomgihlkbmaleaaDoor
open Go
/-- The tied card. -/
theorem scaleModes_card : Rows.ScaleModesCardSaid :=
  Claim7.holds_tied_plain_at .later [] [.data, .data, .data] true (true, "d405bb15d6e39794631f88e7551a33ac13bcf0ff84879933877592e10751730d") true
    scaleModes.over (fun _ h => by cases h) (by kernel_rfl) (fun _ h => by cases h) scaleModes_row_tie rfl ⟨rfl, rfl⟩ (by kernel_rfl) rfl
    (fun f fn hf hfn => by
      obtain rfl : f = 6 := Option.some.inj ((show Tryd.prog.funcNamed "schisma/schismalaw09.ScaleModes" = some 6 by kernel_rfl).symm.trans hf) |>.symm
      obtain rfl : fn = Tryd.f6 := (Option.some.inj (Tryd.func6.symm.trans hfn)).symm
      exact ⟨by kernel_rfl, fun j t ht => by
        rw [Tryd.params6] at ht
        have hm : t ∈ [32, 5] := by have := Array.mem_of_getElem? ht; simp at this ⊢; first | exact this | omega | (rcases this with h | h <;> simp [h]) | (rcases this with h | h | h <;> simp [h])
        have hall : ([32, 5].all fun u => !Tryd.prog.wantsStandIn u) = true := by kernel_rfl
        exact (show Tryd.prog.wantsStandIn t = false by simpa using List.all_eq_true.1 hall t hm)⟩)
    (by kernel_rfl)
#print axioms scaleModes_card
end Go.Proofs.YtomgihlkbmaleaaDoor

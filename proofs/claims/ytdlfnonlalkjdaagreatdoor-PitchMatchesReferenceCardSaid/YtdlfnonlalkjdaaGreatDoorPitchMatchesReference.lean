/- PitchMatchesReference: whatever the input is, the law returns true and leaves the input as it was; the library's and the program's tables lie as their initialisers lay them. -/
import Derived.Test.YtdlfnonlalkjdaaGreatDoorU14
import Derived.Test.YtdlfnonlalkjdaaGreatDoorRows
import Derived.Lib.SmallJoins
import Derived.WalkKit
import Derived.ProofKit
import Derived.OpenShut
import Derived.ShutString
import Derived.Lay
import Derived.MakeChecks
import Derived.Stop.Joined
import Derived.Stop.LaidErr
import Derived.LaidLaws
import Derived.ChangeBears2
import Derived.Test.YtdlfnonlalkjdaaGreatDoorTie
import Derived.Test.YtdlfnonlalkjdaaGreatDoorCards
import Derived.SevenTiedAt
import Derived.SizedLaws
namespace Go.Proofs.YtdlfnonlalkjdaaGreatDoor
open Go.ChangeShapes Go.WideShapes Go.ChangeAt Go.RowKit Go.Joins M
theorem cellsP : Tryz.prog.cellsOf 23 = 6 := by kernel_rfl
theorem cellsV : Tryz.prog.cellsOf 24 = 6 := by kernel_rfl
theorem cells3 : Tryz.prog.cellsOf 3 = 1 := by kernel_rfl
theorem laidOut : laidOutB Tryz.prog = true := by kernel_rfl
theorem own : ownKnob Tryz.prog.godebug = none := by kernel_rfl
def d6 {H : Type} (v : Nat → Int) : DataW H := .agg [.lit (.int .i64 (v 0)), .lit (.int .i64 (v 1)), .lit (.int .i64 (v 2)), .lit (.int .i64 (v 3)), .lit (.int .i64 (v 4)), .lit (.int .i64 (v 5))]
structure W6 (v : Nat → Int) : Prop where
  w0 : (Lit.int .i64 (v 0)).wf = true
  w1 : (Lit.int .i64 (v 1)).wf = true
  w2 : (Lit.int .i64 (v 2)).wf = true
  w3 : (Lit.int .i64 (v 3)).wf = true
  w4 : (Lit.int .i64 (v 4)).wf = true
  w5 : (Lit.int .i64 (v 5)).wf = true
theorem array6 {α : Type} {cs : Array α} (h : cs.size = 6) : ∃ c0 c1 c2 c3 c4 c5, cs = #[c0, c1, c2, c3, c4, c5] := by
  obtain ⟨l⟩ := cs
  match l, h with
  | [c0, c1, c2, c3, c4, c5], _ => exact ⟨c0, c1, c2, c3, c4, c5, rfl⟩
theorem list6 {α : Type} {l : List α} (h : l.length = 6) : ∃ c0 c1 c2 c3 c4 c5, l = [c0, c1, c2, c3, c4, c5] := by
  match l, h with
  | [c0, c1, c2, c3, c4, c5], _ => exact ⟨c0, c1, c2, c3, c4, c5, rfl⟩
section
variable {H : Type} {enc : TypeId × Value → H} {w : World} {base : Nat} {spare : Nat → Bool} {held : Bool}
set_option maxRecDepth 100000 in
theorem six_open {t : TypeId} (hu : Tryz.prog.underlying t = some (.array 6 3)) (hc : Tryz.prog.cellsOf t = 6) {r : Reach} {b0 : Nat} {v : Value} {d : DataW H} {p : List MemPlace} (hv : Value.okWide Tryz.prog w r b0 t v) (h : DataW.Trod enc Tryz.prog w base spare held t v d p) :
    ∃ a : Nat → Int, v = PV a ∧ d = d6 a ∧ p = [] ∧ W6 a := by
  simp only [Value.okWide, hu] at hv
  obtain ⟨cs, rfl, hsz, _⟩ := hv
  obtain ⟨c0, c1, c2, c3, c4, c5, rfl⟩ := array6 (hsz.trans hc)
  obtain ⟨fuel, hf⟩ := h
  obtain ⟨xs, m, _, hx, _, hl, hi⟩ := DataW.trod_array hu hf
  obtain ⟨y0, y1, y2, y3, y4, y5, rfl⟩ := list6 hl
  have i0 := hi 0 (by omega)
  have i1 := hi 1 (by omega)
  have i2 := hi 2 (by omega)
  have i3 := hi 3 (by omega)
  have i4 := hi 4 (by omega)
  have i5 := hi 5 (by omega)
  simp [cells3, Value.cells] at i0 i1 i2 i3 i4 i5
  obtain ⟨a0, e0, rfl, k0⟩ := DataW.trod_int Tryz.underlying3 i0
  obtain ⟨a1, e1, rfl, k1⟩ := DataW.trod_int Tryz.underlying3 i1
  obtain ⟨a2, e2, rfl, k2⟩ := DataW.trod_int Tryz.underlying3 i2
  obtain ⟨a3, e3, rfl, k3⟩ := DataW.trod_int Tryz.underlying3 i3
  obtain ⟨a4, e4, rfl, k4⟩ := DataW.trod_int Tryz.underlying3 i4
  obtain ⟨a5, e5, rfl, k5⟩ := DataW.trod_int Tryz.underlying3 i5
  cases e0; cases e1; cases e2; cases e3; cases e4; cases e5
  simp only [Prod.mk.injEq] at hx
  obtain ⟨rfl, rfl⟩ := hx
  exact ⟨fun i => if i = 0 then a0 else if i = 1 then a1 else if i = 2 then a2 else if i = 3 then a3 else if i = 4 then a4 else a5, rfl, rfl, rfl, ⟨k0, k1, k2, k3, k4, k5⟩⟩
set_option maxRecDepth 100000 in
theorem six_shut {t : TypeId} (hu : Tryz.prog.underlying t = some (.array 6 3)) (hc : Tryz.prog.cellsOf t = 6) {a : Nat → Int} (k : W6 a) : DataW.Trod enc Tryz.prog w base spare held t (PV a) (d6 a) [] :=
  ⟨2, by simp [DataW.trod, hu, hc, cells3, Value.cells, Tryz.underlying3, k.w0, k.w1, k.w2, k.w3, k.w4, k.w5, d6, List.range, List.range.loop]⟩
end
def laidT : List (String × DataW Unit) := [("math/bits.deBruijn32tab", Rows.laid_math_bits_deBruijn32tab), ("math/bits.deBruijn64tab", Rows.laid_math_bits_deBruijn64tab), ("internal/strconv.uint64pow10", Rows.laid_internal_strconv_uint64pow10), ("unicode/utf8.acceptRanges", Rows.laid_unicode_utf8_acceptRanges), ("strconv.ErrRange", Rows.laid_strconv_ErrRange), ("strconv.ErrSyntax", Rows.laid_strconv_ErrSyntax), ("schisma/pitch.primes", Rows.laid_schisma_pitch_primes), ("unicode/utf8.first", Rows.laid_unicode_utf8_first)]
theorem powers_datum : (Rows.laid_internal_strconv_uint64pow10 : DataW Unit) = Lib.tabData .u64 Lib.pow10Tab := by kernel_rfl
theorem primes_datum : (Rows.laid_schisma_pitch_primes : DataW Unit) = Lib.tabData .i64 [2, 3, 5, 7, 11, 13] := by kernel_rfl
theorem star : "*" ++ "errors.errorString" = "*errors.errorString" := by decide
theorem rowPE (u : TypeId) (h : Tryz.prog.typeName? 3 u = some "*errors.errorString") : u = 166 :=
  typeName_ptr_named (nm := "errors.errorString") (by rw [star]; kernel_rfl) (by kernel_rfl) (by decide) u (by rw [star]; exact h)
theorem cellsE : Tryz.prog.cellsOf 168 = 1 := by kernel_rfl
theorem cellsT : Tryz.prog.cellsOf 9 = 1 := by kernel_rfl
theorem pm_of_tab {w : World} (h : Lib.TabIs Tryz.prog w "schisma/pitch.primes" .i64 [2, 3, 5, 7, 11, 13]) : Pm w := by
  have hg : Tryz.prog.globalNamed "schisma/pitch.primes" = some 0 := by kernel_rfl
  have k : ∀ off, w.cell? ⟨0, off, none⟩ = _ := fun off => var?_cell hg h off
  refine ⟨?_, k 0, k 1, k 2, k 3, k 4, k 5⟩
  have h0 := k 0
  rcases Nat.lt_or_ge 0 w.heap.size with h' | h'
  · exact h'
  · simp [World.cell?, Array.getElem?_eq_none h'] at h0
theorem gv_of_laid {w : World} (h : laidMetH Tryz.prog laidT w) : Gv w := by
  rw [MakeChecks.laidMetH_plain _ _ _ (by kernel_rfl)] at h
  have h3 := h.tail.tail
  have h5 := h3.tail.tail
  have h6 := h5.tail
  have h7 := h6.tail
  rw [powers_datum] at h3
  rw [primes_datum] at h7
  obtain ⟨a0, s0, v0, _⟩ := laid_sentinel h5 (g := 6) (by kernel_rfl) (by kernel_rfl) Tryz.underlying105 rowPE Tryz.underlying166 Tryz.underlying168 rfl rfl Tryz.underlying9 cellsE cellsT
  obtain ⟨a1, s1, v1, _⟩ := laid_sentinel h6 (g := 5) (by kernel_rfl) (by kernel_rfl) Tryz.underlying105 rowPE Tryz.underlying166 Tryz.underlying168 rfl rfl Tryz.underlying9 cellsE cellsT
  exact ⟨pm_of_tab (Lib.tabIs_of_head (g := 0) (t := 22) (e := 3) (n := 6) (by kernel_rfl) (by kernel_rfl) (by kernel_rfl) (by kernel_rfl) (by kernel_rfl) (by kernel_rfl) h7),
    Lib.tabIs_of_head (g := 4) (t := 156) (e := 77) (n := 20) (by kernel_rfl) (by kernel_rfl) (by kernel_rfl) (by kernel_rfl) (by kernel_rfl) (by kernel_rfl) h3, ⟨_, _, v1⟩, _, _, v0⟩
end Go.Proofs.YtdlfnonlalkjdaaGreatDoor
namespace Go.Proofs.YtdlfnonlalkjdaaGreatDoor.pitchMatchesReference
open Go.ChangeShapes Go.WideShapes Go.ChangeAt Go.RowKit M
open Go.ChangeMaps (open_string shut_string)
theorem walk (a0 a1 a2 : Nat → Int) (a3 a4 : Int) (a5 : ByteArray) (hs5 : a5.size ≤ 281474976710656) (w : World) (hg : Gv w) :
    Calls Tryz.prog 3 #[PV a0, PV a1, PV a2, .int .i64 a3, .int .i64 a4, .string a5] w fun e w' => e = .returned (.bool true) ∧ Below w.heap.size w w' := by
  obtain ⟨⟨l⟩⟩ := a5
  exact pref_all_in a0 a1 a2 a3 a4 l w hg hs5
set_option maxRecDepth 100000 in
theorem lifted (os : Os) (started : os.Started) (H : Type) (enc : TypeId × Value → H) :
    ReturnsInHanded {} Tryz.checked os 3 .any (fun w args => (Rows.pitchMatchesReferenceSpec.pre enc Tryz.prog Tryz.f3 [] false w args ∧ laidMetH Tryz.prog laidT w) ∧ sizedMet enc Tryz.prog Tryz.f3 (OpenSpec.ofChange Rows.pitchMatchesReferenceSpec) false w args) (Rows.pitchMatchesReferenceSpec.post enc Tryz.prog Tryz.f3 false true false false) := by
  refine returnsInHanded_of_change_and (C := Tryz.checked) (X := fun w _ => laidMetH Tryz.prog laidT w) (fun _ _ _ hh h => h.of_heap hh) own started (by kernel_rfl) Tryz.func3
    (ChangeSpec.witness_shaped (enc := enc) (C := Tryz.checked) (os := os) (X := fun w _ => laidMetH Tryz.prog laidT w) false (World.laidAll Tryz.prog os laidT) #[PV fun _ => 0, PV fun _ => 0, PV fun _ => 0, .int .i64 0, .int .i64 0, .string ByteArray.empty] 8 (World.laidAll_os _ _ _) (World.shaped_of_ZipB (by kernel_rfl) (by kernel_rfl)) (by kernel_rfl) (by kernel_rfl) (by kernel_rfl)
      (by rw [MakeChecks.laidMetH_plain _ _ _ (by kernel_rfl)]; exact laidMet_laidAll _ (by kernel_rfl) (by kernel_rfl))) ?_
  intro W base args ds gs before hval0 hW X1 X2 X3 X4
  have hval : ∀ (j : Nat) t v, Tryz.f3.params[j]? = some t → args[j]? = some v → Value.okWide Tryz.prog W .any base t v := hval0
  have hW' := hW
  obtain ⟨p, q, hA0, hV, rfl, hfz, hnd⟩ := hW
  have hA : DataW.TrodAll enc Tryz.prog W 0 (fun _ => true) true Tryz.f3.params.toList args.toList ds p := hA0
  have hsz : (DataW.weightsEach Tryz.prog (Tryz.f3.params.toList ++ Rows.pitchMatchesReferenceSpec.plain.varTypes Tryz.prog) (ds ++ gs)).all (· ≤ reachBytes) = true := X2
  rw [Tryz.params3] at hA hval hsz
  obtain ⟨v0, vs0, d0, ds0, p0, q0, hargs, rfl, rfl, h0, r0⟩ := trodAll_cons hA
  obtain ⟨v1, vs1, d1, ds1, p1, q1, rfl, rfl, rfl, h1, r1⟩ := trodAll_cons r0
  obtain ⟨v2, vs2, d2, ds2, p2, q2, rfl, rfl, rfl, h2, r2⟩ := trodAll_cons r1
  obtain ⟨v3, vs3, d3, ds3, p3, q3, rfl, rfl, rfl, h3, r3⟩ := trodAll_cons r2
  obtain ⟨v4, vs4, d4, ds4, p4, q4, rfl, rfl, rfl, h4, r4⟩ := trodAll_cons r3
  obtain ⟨v5, vs5, d5, ds5, p5, q5, rfl, rfl, rfl, h5, r5⟩ := trodAll_cons r4
  obtain ⟨rfl, rfl, rfl⟩ := trodAll_nil r5
  obtain rfl : args = #[v0, v1, v2, v3, v4, v5] := by cases args; simp_all
  obtain ⟨rfl, rfl⟩ := trodVars_none hV
  obtain ⟨a0, rfl, rfl, rfl, w0⟩ := six_open (by kernel_rfl) cellsP (hval 0 23 v0 rfl rfl) h0
  obtain ⟨a1, rfl, rfl, rfl, w1⟩ := six_open (by kernel_rfl) cellsP (hval 1 23 v1 rfl rfl) h1
  obtain ⟨a2, rfl, rfl, rfl, w2⟩ := six_open (by kernel_rfl) cellsV (hval 2 24 v2 rfl rfl) h2
  obtain ⟨a3, rfl, rfl, rfl, w3⟩ := open_int Tryz.underlying3 (hval 3 3 v3 rfl rfl) h3
  obtain ⟨a4, rfl, rfl, rfl, w4⟩ := open_int Tryz.underlying3 (hval 4 3 v4 rfl rfl) h4
  obtain ⟨a5, rfl, rfl, rfl, w5⟩ := open_string Tryz.underlying9 (hval 5 9 v5 rfl rfl) h5
  clear hA0 hval0
  simp only [List.append_nil] at hW'
  have hg : Gv W := gv_of_laid (by first | exact X1 | exact X2 | exact X3 | exact X4)
  have hs1 := sized_string hsz (j := 5) (t := 9) rfl rfl
  have hz1 : a5.size ≤ 281474976710656 := by
    have e : a5.data.toList.length = a5.size := Array.length_toList
    have := reachBytes_lt
    omega
  refine (walk a0 a1 a2 a3 a4 a5 hz1 W hg).mono fun e W' ⟨he, bel⟩ => ?_
  subst he
  exact ⟨_, rfl, _, _, _, [], _, [], hW', trodAll_mk1 (shut_bool Tryz.underlying4 _), (trodAll_cons_mk (six_shut (by kernel_rfl) cellsP w0) (trodAll_cons_mk (six_shut (by kernel_rfl) cellsP w1) (trodAll_cons_mk (six_shut (by kernel_rfl) cellsV w2) (trodAll_cons_mk (shut_int Tryz.underlying3 w3) (trodAll_cons_mk (shut_int Tryz.underlying3 w4) (trodAll_cons_mk (shut_string Tryz.underlying9 w5) trodAll_mk0)))))), rfl, bel.frame _, fun h => by cases h⟩

theorem over : Rows.pitchMatchesReferenceRow.holds Tryz.pinned (OpenSpec.ofChange Rows.pitchMatchesReferenceSpec) :=
  OpenClaim.holds_of_wide 3 Tryz.f3 rfl rfl rfl rfl rfl rfl rfl ⟨rfl, rfl, rfl, rfl, rfl⟩ rfl rfl rfl rfl rfl (by kernel_rfl) Tryz.func3 (by kernel_rfl)
    (of_decide_eq_true (by kernel_rfl)) (by unfold Func.isWrapper; first | (rw [if_pos (by decide +kernel)]; kernel_rfl) | (rw [if_neg (by decide +kernel)]; exact ⟨rfl, rfl⟩))
    (fun os started H enc _ => lifted os started H enc)

end Go.Proofs.YtdlfnonlalkjdaaGreatDoor.pitchMatchesReference
namespace Go.Proofs.YtdlfnonlalkjdaaGreatDoor
open Go
/-- The tied card. -/
theorem pitchMatchesReference_card : Rows.PitchMatchesReferenceCardSaid :=
  Claim7.holds_tied_plain_at .later [] [.data, .data, .data, .data, .sentinel, .sentinel, .data, .pinned] true (true, "b722690a5850f0169534f5b9e2d8732499525d9bea4a51c36ffff2d55a66b6d9") true
    pitchMatchesReference.over (fun _ h => by cases h) (by kernel_rfl) (fun _ h => by cases h) pitchMatchesReference_row_tie rfl ⟨rfl, rfl⟩ (by kernel_rfl) rfl
    (fun f fn hf hfn => by
      obtain rfl : f = 3 := Option.some.inj ((show Tryz.prog.funcNamed "schisma/schismalaw03.PitchMatchesReference" = some 3 by kernel_rfl).symm.trans hf) |>.symm
      obtain rfl : fn = Tryz.f3 := (Option.some.inj (Tryz.func3.symm.trans hfn)).symm
      exact ⟨by kernel_rfl, fun j t ht => by
        rw [Tryz.params3] at ht
        have hm : t ∈ [23, 24, 3, 9] := by have := Array.mem_of_getElem? ht; simp at this ⊢; first | exact this | omega | (rcases this with h | h <;> simp [h]) | (rcases this with h | h | h <;> simp [h]) | (rcases this with h | h | h | h | h | h <;> simp [h])
        have hall : ([23, 24, 3, 9].all fun u => !Tryz.prog.wantsStandIn u) = true := by kernel_rfl
        exact (show Tryz.prog.wantsStandIn t = false by simpa using List.all_eq_true.1 hall t hm)⟩)
    (by kernel_rfl)
#print axioms pitchMatchesReference_card
end Go.Proofs.YtdlfnonlalkjdaaGreatDoor

/-
  DERIVED. GIVEN WITH THE SEED: THE CARDS: each row of YtdlfnonlalkjdaaGreatDoorRows.lean that lists a variable, with what it lists TIED to the program's text (the seventh form; the later family's looks); each row that meets fmt, with fmt's text TOLD by the authors' own Lean function (tested against real Go, not proved from fmt's source: count such statements apart). THE CARD IS WHAT COUNTS. Prove the row's statement (the work); the ties are given (YtdlfnonlalkjdaaGreatDoorTie.lean); close each card by the builder's one call (the guide's Derived/Test/ToyasCard.lean, 'card_holds'). Laid BY PROGRAM, IN A SANDBOX (cutbox-door.mjs). By AI agents, Wed Nov 11 2026. No macro, syntax, notation, axiom, sorry.
-/
import Derived.Test.YtdlfnonlalkjdaaGreatDoorRows
import GoSem.ClaimSeven
namespace Go.Proofs.YtdlfnonlalkjdaaGreatDoor
namespace Rows

/-- THE TIED CARD OF 'schismalaw03.PitchMatchesReference'. -/
def pitchMatchesReferenceCard : Claim7 := { stood := { row := pitchMatchesReferenceRow, standIns := [], harness := (true, "b722690a5850f0169534f5b9e2d8732499525d9bea4a51c36ffff2d55a66b6d9"), looks := true }, kinds := [], alts := [], laidByText := true, laidKinds := [.data, .data, .data, .data, .sentinel, .sentinel, .data, .pinned], laidTests := true, laidLooks := .later }
def PitchMatchesReferenceCardSaid : Prop := Claim7.holds Tryz.pinned (.plain (OpenSpec.ofChange pitchMatchesReferenceSpec)) pitchMatchesReferenceCard

/-- THE SECOND FORM's CARD OF 'schismalaw03.PitchMatchesReference'. -/
def pitchMatchesReferenceUptoCard : Claim7 := { stood := { row := pitchMatchesReferenceUptoRow, standIns := [], harness := (true, "b722690a5850f0169534f5b9e2d8732499525d9bea4a51c36ffff2d55a66b6d9"), looks := true }, kinds := [], alts := [], laidByText := true, laidKinds := [.data, .data, .data, .data, .sentinel, .sentinel, .data, .pinned], laidTests := true, laidLooks := .later }
def PitchMatchesReferenceUptoCardSaid : Prop := Claim7.holds Tryz.pinned (.plain (OpenSpec.upto pitchMatchesReferenceSpec)) pitchMatchesReferenceUptoCard
end Rows
end Go.Proofs.YtdlfnonlalkjdaaGreatDoor

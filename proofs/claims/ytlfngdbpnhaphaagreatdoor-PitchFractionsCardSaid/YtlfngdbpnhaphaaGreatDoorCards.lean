/-
  DERIVED. GIVEN WITH THE SEED: THE CARDS: each row of YtlfngdbpnhaphaaGreatDoorRows.lean that lists a variable, with what it lists TIED to the program's text (the seventh form; the later family's looks); each row that meets fmt, with fmt's text TOLD by the authors' own Lean function (tested against real Go, not proved from fmt's source: count such statements apart). THE CARD IS WHAT COUNTS. Prove the row's statement (the work); the ties are given (YtlfngdbpnhaphaaGreatDoorTie.lean); close each card by the builder's one call (the guide's Derived/Test/ToyasCard.lean, 'card_holds'). Laid BY PROGRAM, IN A SANDBOX (cutbox-door.mjs). By AI agents, Wed Nov 11 2026. No macro, syntax, notation, axiom, sorry.
-/
import Derived.Test.YtlfngdbpnhaphaaGreatDoorRows
import GoSem.ClaimSeven
namespace Go.Proofs.YtlfngdbpnhaphaaGreatDoor
namespace Rows

/-- THE TIED CARD OF 'schismalaw03.PitchMatchesReference'. -/
def pitchMatchesReferenceCard : Claim7 := { stood := { row := pitchMatchesReferenceRow, standIns := [], harness := (true, "706ccaf4af952eaaee2dbf14a925b6b793633a8322c54deed50734982b116e1c"), looks := true }, kinds := [], alts := [], laidByText := true, laidKinds := [.data, .data, .data, .data, .sentinel, .sentinel, .data, .pinned], laidTests := true, laidLooks := .later }
def PitchMatchesReferenceCardSaid : Prop := Claim7.holds Tryz.pinned (.plain (OpenSpec.ofChange pitchMatchesReferenceSpec)) pitchMatchesReferenceCard

/-- THE TIED CARD OF 'schismalaw03.PitchGroup'. -/
def pitchGroupCard : Claim7 := { stood := { row := pitchGroupRow, standIns := [], harness := (true, "706ccaf4af952eaaee2dbf14a925b6b793633a8322c54deed50734982b116e1c"), looks := true }, kinds := [], alts := [], laidByText := true, laidKinds := [.data, .data, .data, .data, .sentinel, .sentinel, .data, .pinned], laidTests := true, laidLooks := .later }
def PitchGroupCardSaid : Prop := Claim7.holds Tryz.pinned (.plain (OpenSpec.ofChange pitchGroupSpec)) pitchGroupCard

/-- THE TIED CARD OF 'schismalaw03.PitchOrder'. -/
def pitchOrderCard : Claim7 := { stood := { row := pitchOrderRow, standIns := [], harness := (true, "706ccaf4af952eaaee2dbf14a925b6b793633a8322c54deed50734982b116e1c"), looks := true }, kinds := [], alts := [], laidByText := true, laidKinds := [.data, .data, .data, .data, .sentinel, .sentinel, .data, .pinned], laidTests := true, laidLooks := .later }
def PitchOrderCardSaid : Prop := Claim7.holds Tryz.pinned (.plain (OpenSpec.ofChange pitchOrderSpec)) pitchOrderCard

/-- THE TIED CARD OF 'schismalaw03.PitchTranslated'. -/
def pitchTranslatedCard : Claim7 := { stood := { row := pitchTranslatedRow, standIns := [], harness := (true, "706ccaf4af952eaaee2dbf14a925b6b793633a8322c54deed50734982b116e1c"), looks := true }, kinds := [], alts := [], laidByText := true, laidKinds := [.data, .data, .data, .data, .sentinel, .sentinel, .data, .pinned], laidTests := true, laidLooks := .later }
def PitchTranslatedCardSaid : Prop := Claim7.holds Tryz.pinned (.plain (OpenSpec.ofChange pitchTranslatedSpec)) pitchTranslatedCard

/-- THE TIED CARD OF 'schismalaw03.PitchPowers'. -/
def pitchPowersCard : Claim7 := { stood := { row := pitchPowersRow, standIns := [], harness := (true, "706ccaf4af952eaaee2dbf14a925b6b793633a8322c54deed50734982b116e1c"), looks := true }, kinds := [], alts := [], laidByText := true, laidKinds := [.data, .data, .data, .data, .sentinel, .sentinel, .data, .pinned], laidTests := true, laidLooks := .later }
def PitchPowersCardSaid : Prop := Claim7.holds Tryz.pinned (.plain (OpenSpec.ofChange pitchPowersSpec)) pitchPowersCard

/-- THE TIED CARD OF 'schismalaw03.PitchFractions'. -/
def pitchFractionsCard : Claim7 := { stood := { row := pitchFractionsRow, standIns := [], harness := (true, "706ccaf4af952eaaee2dbf14a925b6b793633a8322c54deed50734982b116e1c"), looks := true }, kinds := [], alts := [], laidByText := true, laidKinds := [.data, .data, .data, .data, .sentinel, .sentinel, .data, .pinned], laidTests := true, laidLooks := .later }
def PitchFractionsCardSaid : Prop := Claim7.holds Tryz.pinned (.plain (OpenSpec.ofChange pitchFractionsSpec)) pitchFractionsCard

/-- THE TIED CARD OF 'schismalaw03.PitchTexts'. -/
def pitchTextsCard : Claim7 := { stood := { row := pitchTextsRow, standIns := [], harness := (true, "706ccaf4af952eaaee2dbf14a925b6b793633a8322c54deed50734982b116e1c"), looks := true }, kinds := [], alts := [], laidByText := true, laidKinds := [.data, .data, .data, .data, .sentinel, .sentinel, .data, .pinned], laidTests := true, laidLooks := .later }
def PitchTextsCardSaid : Prop := Claim7.holds Tryz.pinned (.plain (OpenSpec.ofChange pitchTextsSpec)) pitchTextsCard

/-- THE SECOND FORM's CARD OF 'schismalaw03.PitchMatchesReference'. -/
def pitchMatchesReferenceUptoCard : Claim7 := { stood := { row := pitchMatchesReferenceUptoRow, standIns := [], harness := (true, "706ccaf4af952eaaee2dbf14a925b6b793633a8322c54deed50734982b116e1c"), looks := true }, kinds := [], alts := [], laidByText := true, laidKinds := [.data, .data, .data, .data, .sentinel, .sentinel, .data, .pinned], laidTests := true, laidLooks := .later }
def PitchMatchesReferenceUptoCardSaid : Prop := Claim7.holds Tryz.pinned (.plain (OpenSpec.upto pitchMatchesReferenceSpec)) pitchMatchesReferenceUptoCard

/-- THE SECOND FORM's CARD OF 'schismalaw03.PitchGroup'. -/
def pitchGroupUptoCard : Claim7 := { stood := { row := pitchGroupUptoRow, standIns := [], harness := (true, "706ccaf4af952eaaee2dbf14a925b6b793633a8322c54deed50734982b116e1c"), looks := true }, kinds := [], alts := [], laidByText := true, laidKinds := [.data, .data, .data, .data, .sentinel, .sentinel, .data, .pinned], laidTests := true, laidLooks := .later }
def PitchGroupUptoCardSaid : Prop := Claim7.holds Tryz.pinned (.plain (OpenSpec.upto pitchGroupSpec)) pitchGroupUptoCard

/-- THE SECOND FORM's CARD OF 'schismalaw03.PitchOrder'. -/
def pitchOrderUptoCard : Claim7 := { stood := { row := pitchOrderUptoRow, standIns := [], harness := (true, "706ccaf4af952eaaee2dbf14a925b6b793633a8322c54deed50734982b116e1c"), looks := true }, kinds := [], alts := [], laidByText := true, laidKinds := [.data, .data, .data, .data, .sentinel, .sentinel, .data, .pinned], laidTests := true, laidLooks := .later }
def PitchOrderUptoCardSaid : Prop := Claim7.holds Tryz.pinned (.plain (OpenSpec.upto pitchOrderSpec)) pitchOrderUptoCard

/-- THE SECOND FORM's CARD OF 'schismalaw03.PitchTranslated'. -/
def pitchTranslatedUptoCard : Claim7 := { stood := { row := pitchTranslatedUptoRow, standIns := [], harness := (true, "706ccaf4af952eaaee2dbf14a925b6b793633a8322c54deed50734982b116e1c"), looks := true }, kinds := [], alts := [], laidByText := true, laidKinds := [.data, .data, .data, .data, .sentinel, .sentinel, .data, .pinned], laidTests := true, laidLooks := .later }
def PitchTranslatedUptoCardSaid : Prop := Claim7.holds Tryz.pinned (.plain (OpenSpec.upto pitchTranslatedSpec)) pitchTranslatedUptoCard

/-- THE SECOND FORM's CARD OF 'schismalaw03.PitchPowers'. -/
def pitchPowersUptoCard : Claim7 := { stood := { row := pitchPowersUptoRow, standIns := [], harness := (true, "706ccaf4af952eaaee2dbf14a925b6b793633a8322c54deed50734982b116e1c"), looks := true }, kinds := [], alts := [], laidByText := true, laidKinds := [.data, .data, .data, .data, .sentinel, .sentinel, .data, .pinned], laidTests := true, laidLooks := .later }
def PitchPowersUptoCardSaid : Prop := Claim7.holds Tryz.pinned (.plain (OpenSpec.upto pitchPowersSpec)) pitchPowersUptoCard

/-- THE SECOND FORM's CARD OF 'schismalaw03.PitchFractions'. -/
def pitchFractionsUptoCard : Claim7 := { stood := { row := pitchFractionsUptoRow, standIns := [], harness := (true, "706ccaf4af952eaaee2dbf14a925b6b793633a8322c54deed50734982b116e1c"), looks := true }, kinds := [], alts := [], laidByText := true, laidKinds := [.data, .data, .data, .data, .sentinel, .sentinel, .data, .pinned], laidTests := true, laidLooks := .later }
def PitchFractionsUptoCardSaid : Prop := Claim7.holds Tryz.pinned (.plain (OpenSpec.upto pitchFractionsSpec)) pitchFractionsUptoCard

/-- THE SECOND FORM's CARD OF 'schismalaw03.PitchTexts'. -/
def pitchTextsUptoCard : Claim7 := { stood := { row := pitchTextsUptoRow, standIns := [], harness := (true, "706ccaf4af952eaaee2dbf14a925b6b793633a8322c54deed50734982b116e1c"), looks := true }, kinds := [], alts := [], laidByText := true, laidKinds := [.data, .data, .data, .data, .sentinel, .sentinel, .data, .pinned], laidTests := true, laidLooks := .later }
def PitchTextsUptoCardSaid : Prop := Claim7.holds Tryz.pinned (.plain (OpenSpec.upto pitchTextsSpec)) pitchTextsUptoCard
end Rows
end Go.Proofs.YtlfngdbpnhaphaaGreatDoor

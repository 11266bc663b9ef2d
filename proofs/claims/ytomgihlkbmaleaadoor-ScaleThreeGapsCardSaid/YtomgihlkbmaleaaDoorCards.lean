/-
  DERIVED. GIVEN WITH THE SEED: THE CARDS: each row of YtomgihlkbmaleaaDoorRows.lean that lists a variable, with what it lists TIED to the program's text (the seventh form; the later family's looks); each row that meets fmt, with fmt's text TOLD by the authors' own Lean function (tested against real Go, not proved from fmt's source: count such statements apart). THE CARD IS WHAT COUNTS. Prove the row's statement (the work); the ties are given (YtomgihlkbmaleaaDoorTie.lean); close each card by the builder's one call (the guide's Derived/Test/ToyasCard.lean, 'card_holds'). Laid BY PROGRAM, IN A SANDBOX (cutbox-door.mjs). By AI agents, Wed Nov 11 2026. No macro, syntax, notation, axiom, sorry.
-/
import Derived.Test.YtomgihlkbmaleaaDoorRows
import GoSem.ClaimSeven
namespace Go.Proofs.YtomgihlkbmaleaaDoor
namespace Rows

/-- THE TIED CARD OF 'schismalaw09.ScaleOctaves'. -/
def scaleOctavesCard : Claim7 := { stood := { row := scaleOctavesRow, standIns := [], harness := (true, "d405bb15d6e39794631f88e7551a33ac13bcf0ff84879933877592e10751730d"), looks := true }, kinds := [], alts := [], laidByText := true, laidKinds := [.data, .data, .data], laidTests := true, laidLooks := .later }
def ScaleOctavesCardSaid : Prop := Claim7.holds Tryd.pinned (.plain (OpenSpec.ofChange scaleOctavesSpec)) scaleOctavesCard

/-- THE TIED CARD OF 'schismalaw09.ScaleThreeGaps'. -/
def scaleThreeGapsCard : Claim7 := { stood := { row := scaleThreeGapsRow, standIns := [], harness := (true, "d405bb15d6e39794631f88e7551a33ac13bcf0ff84879933877592e10751730d"), looks := true }, kinds := [], alts := [], laidByText := true, laidKinds := [.data, .data, .data], laidTests := true, laidLooks := .later }
def ScaleThreeGapsCardSaid : Prop := Claim7.holds Tryd.pinned (.plain (OpenSpec.ofChange scaleThreeGapsSpec)) scaleThreeGapsCard

/-- THE TIED CARD OF 'schismalaw09.ScaleSteps'. -/
def scaleStepsCard : Claim7 := { stood := { row := scaleStepsRow, standIns := [], harness := (true, "d405bb15d6e39794631f88e7551a33ac13bcf0ff84879933877592e10751730d"), looks := true }, kinds := [], alts := [], laidByText := true, laidKinds := [.data, .data, .data], laidTests := true, laidLooks := .later }
def ScaleStepsCardSaid : Prop := Claim7.holds Tryd.pinned (.plain (OpenSpec.ofChange scaleStepsSpec)) scaleStepsCard

/-- THE TIED CARD OF 'schismalaw09.ScaleModes'. -/
def scaleModesCard : Claim7 := { stood := { row := scaleModesRow, standIns := [], harness := (true, "d405bb15d6e39794631f88e7551a33ac13bcf0ff84879933877592e10751730d"), looks := true }, kinds := [], alts := [], laidByText := true, laidKinds := [.data, .data, .data], laidTests := true, laidLooks := .later }
def ScaleModesCardSaid : Prop := Claim7.holds Tryd.pinned (.plain (OpenSpec.ofChange scaleModesSpec)) scaleModesCard

/-- THE TIED CARD OF 'schismalaw09.ScaleDegrees'. -/
def scaleDegreesCard : Claim7 := { stood := { row := scaleDegreesRow, standIns := [], harness := (true, "d405bb15d6e39794631f88e7551a33ac13bcf0ff84879933877592e10751730d"), looks := true }, kinds := [], alts := [], laidByText := true, laidKinds := [.data, .data, .data], laidTests := true, laidLooks := .later }
def ScaleDegreesCardSaid : Prop := Claim7.holds Tryd.pinned (.plain (OpenSpec.ofChange scaleDegreesSpec)) scaleDegreesCard

/-- THE TIED CARD OF 'schismalaw09.ScaleLonger'. -/
def scaleLongerCard : Claim7 := { stood := { row := scaleLongerRow, standIns := [], harness := (true, "d405bb15d6e39794631f88e7551a33ac13bcf0ff84879933877592e10751730d"), looks := true }, kinds := [], alts := [], laidByText := true, laidKinds := [.data, .data, .data], laidTests := true, laidLooks := .later }
def ScaleLongerCardSaid : Prop := Claim7.holds Tryd.pinned (.plain (OpenSpec.ofChange scaleLongerSpec)) scaleLongerCard

/-- THE SECOND FORM's CARD OF 'schismalaw09.ScaleOctaves'. -/
def scaleOctavesUptoCard : Claim7 := { stood := { row := scaleOctavesUptoRow, standIns := [], harness := (true, "d405bb15d6e39794631f88e7551a33ac13bcf0ff84879933877592e10751730d"), looks := true }, kinds := [], alts := [], laidByText := true, laidKinds := [.data, .data, .data], laidTests := true, laidLooks := .later }
def ScaleOctavesUptoCardSaid : Prop := Claim7.holds Tryd.pinned (.plain (OpenSpec.upto scaleOctavesSpec)) scaleOctavesUptoCard

/-- THE SECOND FORM's CARD OF 'schismalaw09.ScaleThreeGaps'. -/
def scaleThreeGapsUptoCard : Claim7 := { stood := { row := scaleThreeGapsUptoRow, standIns := [], harness := (true, "d405bb15d6e39794631f88e7551a33ac13bcf0ff84879933877592e10751730d"), looks := true }, kinds := [], alts := [], laidByText := true, laidKinds := [.data, .data, .data], laidTests := true, laidLooks := .later }
def ScaleThreeGapsUptoCardSaid : Prop := Claim7.holds Tryd.pinned (.plain (OpenSpec.upto scaleThreeGapsSpec)) scaleThreeGapsUptoCard

/-- THE SECOND FORM's CARD OF 'schismalaw09.ScaleSteps'. -/
def scaleStepsUptoCard : Claim7 := { stood := { row := scaleStepsUptoRow, standIns := [], harness := (true, "d405bb15d6e39794631f88e7551a33ac13bcf0ff84879933877592e10751730d"), looks := true }, kinds := [], alts := [], laidByText := true, laidKinds := [.data, .data, .data], laidTests := true, laidLooks := .later }
def ScaleStepsUptoCardSaid : Prop := Claim7.holds Tryd.pinned (.plain (OpenSpec.upto scaleStepsSpec)) scaleStepsUptoCard

/-- THE SECOND FORM's CARD OF 'schismalaw09.ScaleModes'. -/
def scaleModesUptoCard : Claim7 := { stood := { row := scaleModesUptoRow, standIns := [], harness := (true, "d405bb15d6e39794631f88e7551a33ac13bcf0ff84879933877592e10751730d"), looks := true }, kinds := [], alts := [], laidByText := true, laidKinds := [.data, .data, .data], laidTests := true, laidLooks := .later }
def ScaleModesUptoCardSaid : Prop := Claim7.holds Tryd.pinned (.plain (OpenSpec.upto scaleModesSpec)) scaleModesUptoCard

/-- THE SECOND FORM's CARD OF 'schismalaw09.ScaleDegrees'. -/
def scaleDegreesUptoCard : Claim7 := { stood := { row := scaleDegreesUptoRow, standIns := [], harness := (true, "d405bb15d6e39794631f88e7551a33ac13bcf0ff84879933877592e10751730d"), looks := true }, kinds := [], alts := [], laidByText := true, laidKinds := [.data, .data, .data], laidTests := true, laidLooks := .later }
def ScaleDegreesUptoCardSaid : Prop := Claim7.holds Tryd.pinned (.plain (OpenSpec.upto scaleDegreesSpec)) scaleDegreesUptoCard

/-- THE SECOND FORM's CARD OF 'schismalaw09.ScaleLonger'. -/
def scaleLongerUptoCard : Claim7 := { stood := { row := scaleLongerUptoRow, standIns := [], harness := (true, "d405bb15d6e39794631f88e7551a33ac13bcf0ff84879933877592e10751730d"), looks := true }, kinds := [], alts := [], laidByText := true, laidKinds := [.data, .data, .data], laidTests := true, laidLooks := .later }
def ScaleLongerUptoCardSaid : Prop := Claim7.holds Tryd.pinned (.plain (OpenSpec.upto scaleLongerSpec)) scaleLongerUptoCard
end Rows
end Go.Proofs.YtomgihlkbmaleaaDoor

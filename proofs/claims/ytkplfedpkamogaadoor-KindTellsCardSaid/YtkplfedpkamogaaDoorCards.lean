/-
  DERIVED. GIVEN WITH THE SEED: THE CARDS: each row of YtkplfedpkamogaaDoorRows.lean that lists a variable, with what it lists TIED to the program's text (the seventh form; the later family's looks); each row that meets fmt, with fmt's text TOLD by the authors' own Lean function (tested against real Go, not proved from fmt's source: count such statements apart). THE CARD IS WHAT COUNTS. Prove the row's statement (the work); the ties are given (YtkplfedpkamogaaDoorTie.lean); close each card by the builder's one call (the guide's Derived/Test/ToyasCard.lean, 'card_holds'). Laid BY PROGRAM, IN A SANDBOX (cutbox-door.mjs). By AI agents, Wed Nov 11 2026. No macro, syntax, notation, axiom, sorry.
-/
import Derived.Test.YtkplfedpkamogaaDoorRows
import GoSem.ClaimSeven
namespace Go.Proofs.YtkplfedpkamogaaDoor
namespace Rows

/-- THE TIED CARD OF 'borrowdalelaw07.KindRight'. -/
def kindRightCard : Claim7 := { stood := { row := kindRightRow, standIns := [], harness := (true, "8e14f51b3284bacd017e5d2a08484028c86acdc46063e60197908eef85b401db"), looks := true }, kinds := [], alts := [], laidByText := true, laidKinds := [.data, .data, .data, .sentinel, .sentinel], laidTests := true, laidLooks := .later }
def KindRightCardSaid : Prop := Claim7.holds Tryd.pinned (.plain (OpenSpec.ofChange kindRightSpec)) kindRightCard

/-- THE TIED CARD OF 'borrowdalelaw07.KindSame'. -/
def kindSameCard : Claim7 := { stood := { row := kindSameRow, standIns := [], harness := (true, "8e14f51b3284bacd017e5d2a08484028c86acdc46063e60197908eef85b401db"), looks := true }, kinds := [], alts := [], laidByText := true, laidKinds := [.data, .data, .data, .sentinel, .sentinel], laidTests := true, laidLooks := .later }
def KindSameCardSaid : Prop := Claim7.holds Tryd.pinned (.plain (OpenSpec.ofChange kindSameSpec)) kindSameCard

/-- THE TIED CARD OF 'borrowdalelaw07.KindTells'. -/
def kindTellsCard : Claim7 := { stood := { row := kindTellsRow, standIns := [], harness := (true, "8e14f51b3284bacd017e5d2a08484028c86acdc46063e60197908eef85b401db"), looks := true }, kinds := [], alts := [], laidByText := true, laidKinds := [.data, .data, .data, .sentinel, .sentinel], laidTests := true, laidLooks := .later }
def KindTellsCardSaid : Prop := Claim7.holds Tryd.pinned (.plain (OpenSpec.ofChange kindTellsSpec)) kindTellsCard

/-- THE TIED CARD OF 'borrowdalelaw07.KindWith'. -/
def kindWithCard : Claim7 := { stood := { row := kindWithRow, standIns := [], harness := (true, "8e14f51b3284bacd017e5d2a08484028c86acdc46063e60197908eef85b401db"), looks := true }, kinds := [], alts := [], laidByText := true, laidKinds := [.data, .data, .data, .sentinel, .sentinel], laidTests := true, laidLooks := .later }
def KindWithCardSaid : Prop := Claim7.holds Tryd.pinned (.plain (OpenSpec.ofChange kindWithSpec)) kindWithCard

/-- THE TIED CARD OF 'borrowdalelaw07.KindTexts'. -/
def kindTextsCard : Claim7 := { stood := { row := kindTextsRow, standIns := [], harness := (true, "8e14f51b3284bacd017e5d2a08484028c86acdc46063e60197908eef85b401db"), looks := true }, kinds := [], alts := [], laidByText := true, laidKinds := [.data, .data, .data, .sentinel, .sentinel], laidTests := true, laidLooks := .later }
def KindTextsCardSaid : Prop := Claim7.holds Tryd.pinned (.plain (OpenSpec.ofChange kindTextsSpec)) kindTextsCard

/-- THE TIED CARD OF 'borrowdalelaw07.KindParses'. -/
def kindParsesCard : Claim7 := { stood := { row := kindParsesRow, standIns := [], harness := (true, "8e14f51b3284bacd017e5d2a08484028c86acdc46063e60197908eef85b401db"), looks := true }, kinds := [], alts := [], laidByText := true, laidKinds := [.data, .data, .data, .sentinel, .sentinel], laidTests := true, laidLooks := .later }
def KindParsesCardSaid : Prop := Claim7.holds Tryd.pinned (.plain (OpenSpec.ofChange kindParsesSpec)) kindParsesCard

/-- THE TIED CARD OF 'borrowdalelaw07.KindErased'. -/
def kindErasedCard : Claim7 := { stood := { row := kindErasedRow, standIns := [], harness := (true, "8e14f51b3284bacd017e5d2a08484028c86acdc46063e60197908eef85b401db"), looks := true }, kinds := [], alts := [], laidByText := true, laidKinds := [.data, .data, .data, .sentinel, .sentinel], laidTests := true, laidLooks := .later }
def KindErasedCardSaid : Prop := Claim7.holds Tryd.pinned (.plain (OpenSpec.ofChange kindErasedSpec)) kindErasedCard

/-- THE SECOND FORM's CARD OF 'borrowdalelaw07.KindRight'. -/
def kindRightUptoCard : Claim7 := { stood := { row := kindRightUptoRow, standIns := [], harness := (true, "8e14f51b3284bacd017e5d2a08484028c86acdc46063e60197908eef85b401db"), looks := true }, kinds := [], alts := [], laidByText := true, laidKinds := [.data, .data, .data, .sentinel, .sentinel], laidTests := true, laidLooks := .later }
def KindRightUptoCardSaid : Prop := Claim7.holds Tryd.pinned (.plain (OpenSpec.upto kindRightSpec)) kindRightUptoCard

/-- THE SECOND FORM's CARD OF 'borrowdalelaw07.KindSame'. -/
def kindSameUptoCard : Claim7 := { stood := { row := kindSameUptoRow, standIns := [], harness := (true, "8e14f51b3284bacd017e5d2a08484028c86acdc46063e60197908eef85b401db"), looks := true }, kinds := [], alts := [], laidByText := true, laidKinds := [.data, .data, .data, .sentinel, .sentinel], laidTests := true, laidLooks := .later }
def KindSameUptoCardSaid : Prop := Claim7.holds Tryd.pinned (.plain (OpenSpec.upto kindSameSpec)) kindSameUptoCard

/-- THE SECOND FORM's CARD OF 'borrowdalelaw07.KindTells'. -/
def kindTellsUptoCard : Claim7 := { stood := { row := kindTellsUptoRow, standIns := [], harness := (true, "8e14f51b3284bacd017e5d2a08484028c86acdc46063e60197908eef85b401db"), looks := true }, kinds := [], alts := [], laidByText := true, laidKinds := [.data, .data, .data, .sentinel, .sentinel], laidTests := true, laidLooks := .later }
def KindTellsUptoCardSaid : Prop := Claim7.holds Tryd.pinned (.plain (OpenSpec.upto kindTellsSpec)) kindTellsUptoCard

/-- THE SECOND FORM's CARD OF 'borrowdalelaw07.KindWith'. -/
def kindWithUptoCard : Claim7 := { stood := { row := kindWithUptoRow, standIns := [], harness := (true, "8e14f51b3284bacd017e5d2a08484028c86acdc46063e60197908eef85b401db"), looks := true }, kinds := [], alts := [], laidByText := true, laidKinds := [.data, .data, .data, .sentinel, .sentinel], laidTests := true, laidLooks := .later }
def KindWithUptoCardSaid : Prop := Claim7.holds Tryd.pinned (.plain (OpenSpec.upto kindWithSpec)) kindWithUptoCard

/-- THE SECOND FORM's CARD OF 'borrowdalelaw07.KindTexts'. -/
def kindTextsUptoCard : Claim7 := { stood := { row := kindTextsUptoRow, standIns := [], harness := (true, "8e14f51b3284bacd017e5d2a08484028c86acdc46063e60197908eef85b401db"), looks := true }, kinds := [], alts := [], laidByText := true, laidKinds := [.data, .data, .data, .sentinel, .sentinel], laidTests := true, laidLooks := .later }
def KindTextsUptoCardSaid : Prop := Claim7.holds Tryd.pinned (.plain (OpenSpec.upto kindTextsSpec)) kindTextsUptoCard

/-- THE SECOND FORM's CARD OF 'borrowdalelaw07.KindParses'. -/
def kindParsesUptoCard : Claim7 := { stood := { row := kindParsesUptoRow, standIns := [], harness := (true, "8e14f51b3284bacd017e5d2a08484028c86acdc46063e60197908eef85b401db"), looks := true }, kinds := [], alts := [], laidByText := true, laidKinds := [.data, .data, .data, .sentinel, .sentinel], laidTests := true, laidLooks := .later }
def KindParsesUptoCardSaid : Prop := Claim7.holds Tryd.pinned (.plain (OpenSpec.upto kindParsesSpec)) kindParsesUptoCard

/-- THE SECOND FORM's CARD OF 'borrowdalelaw07.KindErased'. -/
def kindErasedUptoCard : Claim7 := { stood := { row := kindErasedUptoRow, standIns := [], harness := (true, "8e14f51b3284bacd017e5d2a08484028c86acdc46063e60197908eef85b401db"), looks := true }, kinds := [], alts := [], laidByText := true, laidKinds := [.data, .data, .data, .sentinel, .sentinel], laidTests := true, laidLooks := .later }
def KindErasedUptoCardSaid : Prop := Claim7.holds Tryd.pinned (.plain (OpenSpec.upto kindErasedSpec)) kindErasedUptoCard
end Rows
end Go.Proofs.YtkplfedpkamogaaDoor

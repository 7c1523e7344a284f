/-
  DERIVED. GIVEN WITH THE SEED: THE CARDS: each row of YtcgiifcikcfdaaaDoorRows.lean that lists a variable, with what it lists TIED to the program's text (the seventh form; the later family's looks); each row that meets fmt, with fmt's text TOLD by the authors' own Lean function (tested against real Go, not proved from fmt's source: count such statements apart). THE CARD IS WHAT COUNTS. Prove the row's statement (the work); the ties are given (YtcgiifcikcfdaaaDoorTie.lean); close each card by the builder's one call (the guide's Derived/Test/ToyasCard.lean, 'card_holds'). Laid BY PROGRAM, IN A SANDBOX (cutbox-door.mjs). By AI agents, Wed Nov 11 2026. No macro, syntax, notation, axiom, sorry.
-/
import Derived.Test.YtcgiifcikcfdaaaDoorRows
import GoSem.ClaimSeven
namespace Go.Proofs.YtcgiifcikcfdaaaDoor
namespace Rows

/-- THE TIED CARD OF 'borrowdalelaw01.SrcCleans'. -/
def srcCleansCard : Claim7 := { stood := { row := srcCleansRow, standIns := [], harness := (true, "4676c8390f62a2d39e22b3d64131c835a3cf48a340a66fa6691c1541513f9465"), looks := false }, kinds := [], alts := [], laidByText := true, laidKinds := [.data, .data, .data, .data, .pinned], laidTests := true, laidLooks := .later }
def SrcCleansCardSaid : Prop := Claim7.holds Tryd.pinned (.plain (OpenSpec.ofChange srcCleansSpec)) srcCleansCard

/-- THE TIED CARD OF 'borrowdalelaw01.SrcLines'. -/
def srcLinesCard : Claim7 := { stood := { row := srcLinesRow, standIns := [], harness := (true, "4676c8390f62a2d39e22b3d64131c835a3cf48a340a66fa6691c1541513f9465"), looks := false }, kinds := [], alts := [], laidByText := true, laidKinds := [.data, .data, .data, .data, .pinned], laidTests := true, laidLooks := .later }
def SrcLinesCardSaid : Prop := Claim7.holds Tryd.pinned (.plain (OpenSpec.ofChange srcLinesSpec)) srcLinesCard

/-- THE TIED CARD OF 'borrowdalelaw01.SrcPlaces'. -/
def srcPlacesCard : Claim7 := { stood := { row := srcPlacesRow, standIns := [], harness := (true, "4676c8390f62a2d39e22b3d64131c835a3cf48a340a66fa6691c1541513f9465"), looks := false }, kinds := [], alts := [], laidByText := true, laidKinds := [.data, .data, .data, .data, .pinned], laidTests := true, laidLooks := .later }
def SrcPlacesCardSaid : Prop := Claim7.holds Tryd.pinned (.plain (OpenSpec.ofChange srcPlacesSpec)) srcPlacesCard

/-- THE TIED CARD OF 'borrowdalelaw01.SrcAt'. -/
def srcAtCard : Claim7 := { stood := { row := srcAtRow, standIns := [], harness := (true, "4676c8390f62a2d39e22b3d64131c835a3cf48a340a66fa6691c1541513f9465"), looks := false }, kinds := [], alts := [], laidByText := true, laidKinds := [.data, .data, .data, .data, .pinned], laidTests := true, laidLooks := .later }
def SrcAtCardSaid : Prop := Claim7.holds Tryd.pinned (.plain (OpenSpec.ofChange srcAtSpec)) srcAtCard

/-- THE TIED CARD OF 'borrowdalelaw01.SrcOrder'. -/
def srcOrderCard : Claim7 := { stood := { row := srcOrderRow, standIns := [], harness := (true, "4676c8390f62a2d39e22b3d64131c835a3cf48a340a66fa6691c1541513f9465"), looks := false }, kinds := [], alts := [], laidByText := true, laidKinds := [.data, .data, .data, .data, .pinned], laidTests := true, laidLooks := .later }
def SrcOrderCardSaid : Prop := Claim7.holds Tryd.pinned (.plain (OpenSpec.ofChange srcOrderSpec)) srcOrderCard

/-- THE TIED CARD OF 'borrowdalelaw01.SrcExcerpts'. -/
def srcExcerptsCard : Claim7 := { stood := { row := srcExcerptsRow, standIns := [], harness := (true, "4676c8390f62a2d39e22b3d64131c835a3cf48a340a66fa6691c1541513f9465"), looks := false }, kinds := [], alts := [], laidByText := true, laidKinds := [.data, .data, .data, .data, .pinned], laidTests := true, laidLooks := .later }
def SrcExcerptsCardSaid : Prop := Claim7.holds Tryd.pinned (.plain (OpenSpec.ofChange srcExcerptsSpec)) srcExcerptsCard

/-- THE TIED CARD OF 'borrowdalelaw01.SrcMark'. -/
def srcMarkCard : Claim7 := { stood := { row := srcMarkRow, standIns := [], harness := (true, "4676c8390f62a2d39e22b3d64131c835a3cf48a340a66fa6691c1541513f9465"), looks := false }, kinds := [], alts := [], laidByText := true, laidKinds := [.data, .data, .data, .data, .pinned], laidTests := true, laidLooks := .later }
def SrcMarkCardSaid : Prop := Claim7.holds Tryd.pinned (.plain (OpenSpec.ofChange srcMarkSpec)) srcMarkCard

/-- THE TIED CARD OF 'borrowdalelaw01.SrcMessages'. -/
def srcMessagesCard : Claim7 := { stood := { row := srcMessagesRow, standIns := [], harness := (true, "4676c8390f62a2d39e22b3d64131c835a3cf48a340a66fa6691c1541513f9465"), looks := false }, kinds := [], alts := [], laidByText := true, laidKinds := [.data, .data, .data, .data, .pinned], laidTests := true, laidLooks := .later }
def SrcMessagesCardSaid : Prop := Claim7.holds Tryd.pinned (.plain (OpenSpec.ofChange srcMessagesSpec)) srcMessagesCard

/-- THE SECOND FORM's CARD OF 'borrowdalelaw01.SrcCleans'. -/
def srcCleansUptoCard : Claim7 := { stood := { row := srcCleansUptoRow, standIns := [], harness := (true, "4676c8390f62a2d39e22b3d64131c835a3cf48a340a66fa6691c1541513f9465"), looks := false }, kinds := [], alts := [], laidByText := true, laidKinds := [.data, .data, .data, .data, .pinned], laidTests := true, laidLooks := .later }
def SrcCleansUptoCardSaid : Prop := Claim7.holds Tryd.pinned (.plain (OpenSpec.upto srcCleansSpec)) srcCleansUptoCard

/-- THE SECOND FORM's CARD OF 'borrowdalelaw01.SrcLines'. -/
def srcLinesUptoCard : Claim7 := { stood := { row := srcLinesUptoRow, standIns := [], harness := (true, "4676c8390f62a2d39e22b3d64131c835a3cf48a340a66fa6691c1541513f9465"), looks := false }, kinds := [], alts := [], laidByText := true, laidKinds := [.data, .data, .data, .data, .pinned], laidTests := true, laidLooks := .later }
def SrcLinesUptoCardSaid : Prop := Claim7.holds Tryd.pinned (.plain (OpenSpec.upto srcLinesSpec)) srcLinesUptoCard

/-- THE SECOND FORM's CARD OF 'borrowdalelaw01.SrcPlaces'. -/
def srcPlacesUptoCard : Claim7 := { stood := { row := srcPlacesUptoRow, standIns := [], harness := (true, "4676c8390f62a2d39e22b3d64131c835a3cf48a340a66fa6691c1541513f9465"), looks := false }, kinds := [], alts := [], laidByText := true, laidKinds := [.data, .data, .data, .data, .pinned], laidTests := true, laidLooks := .later }
def SrcPlacesUptoCardSaid : Prop := Claim7.holds Tryd.pinned (.plain (OpenSpec.upto srcPlacesSpec)) srcPlacesUptoCard

/-- THE SECOND FORM's CARD OF 'borrowdalelaw01.SrcAt'. -/
def srcAtUptoCard : Claim7 := { stood := { row := srcAtUptoRow, standIns := [], harness := (true, "4676c8390f62a2d39e22b3d64131c835a3cf48a340a66fa6691c1541513f9465"), looks := false }, kinds := [], alts := [], laidByText := true, laidKinds := [.data, .data, .data, .data, .pinned], laidTests := true, laidLooks := .later }
def SrcAtUptoCardSaid : Prop := Claim7.holds Tryd.pinned (.plain (OpenSpec.upto srcAtSpec)) srcAtUptoCard

/-- THE SECOND FORM's CARD OF 'borrowdalelaw01.SrcOrder'. -/
def srcOrderUptoCard : Claim7 := { stood := { row := srcOrderUptoRow, standIns := [], harness := (true, "4676c8390f62a2d39e22b3d64131c835a3cf48a340a66fa6691c1541513f9465"), looks := false }, kinds := [], alts := [], laidByText := true, laidKinds := [.data, .data, .data, .data, .pinned], laidTests := true, laidLooks := .later }
def SrcOrderUptoCardSaid : Prop := Claim7.holds Tryd.pinned (.plain (OpenSpec.upto srcOrderSpec)) srcOrderUptoCard

/-- THE SECOND FORM's CARD OF 'borrowdalelaw01.SrcExcerpts'. -/
def srcExcerptsUptoCard : Claim7 := { stood := { row := srcExcerptsUptoRow, standIns := [], harness := (true, "4676c8390f62a2d39e22b3d64131c835a3cf48a340a66fa6691c1541513f9465"), looks := false }, kinds := [], alts := [], laidByText := true, laidKinds := [.data, .data, .data, .data, .pinned], laidTests := true, laidLooks := .later }
def SrcExcerptsUptoCardSaid : Prop := Claim7.holds Tryd.pinned (.plain (OpenSpec.upto srcExcerptsSpec)) srcExcerptsUptoCard

/-- THE SECOND FORM's CARD OF 'borrowdalelaw01.SrcMark'. -/
def srcMarkUptoCard : Claim7 := { stood := { row := srcMarkUptoRow, standIns := [], harness := (true, "4676c8390f62a2d39e22b3d64131c835a3cf48a340a66fa6691c1541513f9465"), looks := false }, kinds := [], alts := [], laidByText := true, laidKinds := [.data, .data, .data, .data, .pinned], laidTests := true, laidLooks := .later }
def SrcMarkUptoCardSaid : Prop := Claim7.holds Tryd.pinned (.plain (OpenSpec.upto srcMarkSpec)) srcMarkUptoCard

/-- THE SECOND FORM's CARD OF 'borrowdalelaw01.SrcMessages'. -/
def srcMessagesUptoCard : Claim7 := { stood := { row := srcMessagesUptoRow, standIns := [], harness := (true, "4676c8390f62a2d39e22b3d64131c835a3cf48a340a66fa6691c1541513f9465"), looks := false }, kinds := [], alts := [], laidByText := true, laidKinds := [.data, .data, .data, .data, .pinned], laidTests := true, laidLooks := .later }
def SrcMessagesUptoCardSaid : Prop := Claim7.holds Tryd.pinned (.plain (OpenSpec.upto srcMessagesSpec)) srcMessagesUptoCard
end Rows
end Go.Proofs.YtcgiifcikcfdaaaDoor

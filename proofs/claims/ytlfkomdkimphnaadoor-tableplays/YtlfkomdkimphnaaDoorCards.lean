/-
  DERIVED. GIVEN WITH THE SEED: THE CARDS: each row of YtlfkomdkimphnaaDoorRows.lean that lists a variable, with what it lists TIED to the program's text (the seventh form; the later family's looks); each row that meets fmt, with fmt's text TOLD by the authors' own Lean function (tested against real Go, not proved from fmt's source: count such statements apart). THE CARD IS WHAT COUNTS. Prove the row's statement (the work); the ties are given (YtlfkomdkimphnaaDoorTie.lean); close each card by the builder's one call (the guide's Derived/Test/ToyasCard.lean, 'card_holds'). Laid BY PROGRAM, IN A SANDBOX (cutbox-door.mjs). By AI agents, Wed Nov 11 2026. No macro, syntax, notation, axiom, sorry.
-/
import Derived.Test.YtlfkomdkimphnaaDoorRows
import GoSem.ClaimSeven
namespace Go.Proofs.YtlfkomdkimphnaaDoor
namespace Rows

/-- THE TIED CARD OF 'bywashlaw4.TablePlays'. -/
def tablePlaysCard : Claim7 := { stood := { row := tablePlaysRow, standIns := [], harness := (true, "ca414cf8a1053d761e25f390ab5afac446f9e1ff2d652ff1ccf03629de74de79"), looks := false }, kinds := [], alts := [], laidByText := true, laidKinds := [.data], laidTests := true, laidLooks := .later }
def TablePlaysCardSaid : Prop := Claim7.holds Tryd.pinned (.plain (OpenSpec.ofChange tablePlaysSpec)) tablePlaysCard

/-- THE TIED CARD OF 'bywashlaw4.TableRoom'. -/
def tableRoomCard : Claim7 := { stood := { row := tableRoomRow, standIns := [], harness := (true, "ca414cf8a1053d761e25f390ab5afac446f9e1ff2d652ff1ccf03629de74de79"), looks := false }, kinds := [], alts := [], laidByText := true, laidKinds := [.data], laidTests := true, laidLooks := .later }
def TableRoomCardSaid : Prop := Claim7.holds Tryd.pinned (.plain (OpenSpec.ofChange tableRoomSpec)) tableRoomCard

/-- THE TIED CARD OF 'bywashlaw4.TableFixed'. -/
def tableFixedCard : Claim7 := { stood := { row := tableFixedRow, standIns := [], harness := (true, "ca414cf8a1053d761e25f390ab5afac446f9e1ff2d652ff1ccf03629de74de79"), looks := false }, kinds := [], alts := [], laidByText := true, laidKinds := [.data], laidTests := true, laidLooks := .later }
def TableFixedCardSaid : Prop := Claim7.holds Tryd.pinned (.plain (OpenSpec.ofChange tableFixedSpec)) tableFixedCard

/-- THE TIED CARD OF 'bywashlaw4.TableFinds'. -/
def tableFindsCard : Claim7 := { stood := { row := tableFindsRow, standIns := [], harness := (true, "ca414cf8a1053d761e25f390ab5afac446f9e1ff2d652ff1ccf03629de74de79"), looks := false }, kinds := [], alts := [], laidByText := true, laidKinds := [.data], laidTests := true, laidLooks := .later }
def TableFindsCardSaid : Prop := Claim7.holds Tryd.pinned (.plain (OpenSpec.ofChange tableFindsSpec)) tableFindsCard

/-- THE TIED CARD OF 'bywashlaw4.TableShrinks'. -/
def tableShrinksCard : Claim7 := { stood := { row := tableShrinksRow, standIns := [], harness := (true, "ca414cf8a1053d761e25f390ab5afac446f9e1ff2d652ff1ccf03629de74de79"), looks := false }, kinds := [], alts := [], laidByText := true, laidKinds := [.data], laidTests := true, laidLooks := .later }
def TableShrinksCardSaid : Prop := Claim7.holds Tryd.pinned (.plain (OpenSpec.ofChange tableShrinksSpec)) tableShrinksCard

/-- THE TIED CARD OF 'bywashlaw4.TableCosts'. -/
def tableCostsCard : Claim7 := { stood := { row := tableCostsRow, standIns := [], harness := (true, "ca414cf8a1053d761e25f390ab5afac446f9e1ff2d652ff1ccf03629de74de79"), looks := false }, kinds := [], alts := [], laidByText := true, laidKinds := [.data], laidTests := true, laidLooks := .later }
def TableCostsCardSaid : Prop := Claim7.holds Tryd.pinned (.plain (OpenSpec.ofChange tableCostsSpec)) tableCostsCard

/-- THE SECOND FORM's CARD OF 'bywashlaw4.TablePlays'. -/
def tablePlaysUptoCard : Claim7 := { stood := { row := tablePlaysUptoRow, standIns := [], harness := (true, "ca414cf8a1053d761e25f390ab5afac446f9e1ff2d652ff1ccf03629de74de79"), looks := false }, kinds := [], alts := [], laidByText := true, laidKinds := [.data], laidTests := true, laidLooks := .later }
def TablePlaysUptoCardSaid : Prop := Claim7.holds Tryd.pinned (.plain (OpenSpec.upto tablePlaysSpec)) tablePlaysUptoCard

/-- THE SECOND FORM's CARD OF 'bywashlaw4.TableRoom'. -/
def tableRoomUptoCard : Claim7 := { stood := { row := tableRoomUptoRow, standIns := [], harness := (true, "ca414cf8a1053d761e25f390ab5afac446f9e1ff2d652ff1ccf03629de74de79"), looks := false }, kinds := [], alts := [], laidByText := true, laidKinds := [.data], laidTests := true, laidLooks := .later }
def TableRoomUptoCardSaid : Prop := Claim7.holds Tryd.pinned (.plain (OpenSpec.upto tableRoomSpec)) tableRoomUptoCard

/-- THE SECOND FORM's CARD OF 'bywashlaw4.TableFixed'. -/
def tableFixedUptoCard : Claim7 := { stood := { row := tableFixedUptoRow, standIns := [], harness := (true, "ca414cf8a1053d761e25f390ab5afac446f9e1ff2d652ff1ccf03629de74de79"), looks := false }, kinds := [], alts := [], laidByText := true, laidKinds := [.data], laidTests := true, laidLooks := .later }
def TableFixedUptoCardSaid : Prop := Claim7.holds Tryd.pinned (.plain (OpenSpec.upto tableFixedSpec)) tableFixedUptoCard

/-- THE SECOND FORM's CARD OF 'bywashlaw4.TableFinds'. -/
def tableFindsUptoCard : Claim7 := { stood := { row := tableFindsUptoRow, standIns := [], harness := (true, "ca414cf8a1053d761e25f390ab5afac446f9e1ff2d652ff1ccf03629de74de79"), looks := false }, kinds := [], alts := [], laidByText := true, laidKinds := [.data], laidTests := true, laidLooks := .later }
def TableFindsUptoCardSaid : Prop := Claim7.holds Tryd.pinned (.plain (OpenSpec.upto tableFindsSpec)) tableFindsUptoCard

/-- THE SECOND FORM's CARD OF 'bywashlaw4.TableShrinks'. -/
def tableShrinksUptoCard : Claim7 := { stood := { row := tableShrinksUptoRow, standIns := [], harness := (true, "ca414cf8a1053d761e25f390ab5afac446f9e1ff2d652ff1ccf03629de74de79"), looks := false }, kinds := [], alts := [], laidByText := true, laidKinds := [.data], laidTests := true, laidLooks := .later }
def TableShrinksUptoCardSaid : Prop := Claim7.holds Tryd.pinned (.plain (OpenSpec.upto tableShrinksSpec)) tableShrinksUptoCard

/-- THE SECOND FORM's CARD OF 'bywashlaw4.TableCosts'. -/
def tableCostsUptoCard : Claim7 := { stood := { row := tableCostsUptoRow, standIns := [], harness := (true, "ca414cf8a1053d761e25f390ab5afac446f9e1ff2d652ff1ccf03629de74de79"), looks := false }, kinds := [], alts := [], laidByText := true, laidKinds := [.data], laidTests := true, laidLooks := .later }
def TableCostsUptoCardSaid : Prop := Claim7.holds Tryd.pinned (.plain (OpenSpec.upto tableCostsSpec)) tableCostsUptoCard
end Rows
end Go.Proofs.YtlfkomdkimphnaaDoor

/-
  DERIVED. GIVEN WITH THE SEED: THE CARDS: each row of YtlfkomdkimphnabDoorRows.lean that lists a variable, with what it lists TIED to the program's text (the seventh form; the later family's looks); each row that meets fmt, with fmt's text TOLD by the authors' own Lean function (tested against real Go, not proved from fmt's source: count such statements apart). THE CARD IS WHAT COUNTS. Prove the row's statement (the work); the ties are given (YtlfkomdkimphnabDoorTie.lean); close each card by the builder's one call (the guide's Derived/Test/ToyasCard.lean, 'card_holds'). Laid BY PROGRAM, IN A SANDBOX (cutbox-door.mjs). By AI agents, Wed Nov 11 2026. No macro, syntax, notation, axiom, sorry.
-/
import Derived.Test.YtlfkomdkimphnabDoorRows
import GoSem.ClaimSeven
namespace Go.Proofs.YtlfkomdkimphnabDoor
namespace Rows

/-- THE TIED CARD OF 'bywashlaw4.TableGreat'. -/
def tableGreatCard : Claim7 := { stood := { row := tableGreatRow, standIns := [], harness := (true, "cf585d73bc9ba46a08b80033f16952a699509cb98d42f70736deca0afff918d0"), looks := false }, kinds := [], alts := [], laidByText := true, laidKinds := [.data], laidTests := true, laidLooks := .later }
def TableGreatCardSaid : Prop := Claim7.holds Tryd.pinned (.plain (OpenSpec.ofChange tableGreatSpec)) tableGreatCard

/-- THE SECOND FORM's CARD OF 'bywashlaw4.TableGreat'. -/
def tableGreatUptoCard : Claim7 := { stood := { row := tableGreatUptoRow, standIns := [], harness := (true, "cf585d73bc9ba46a08b80033f16952a699509cb98d42f70736deca0afff918d0"), looks := false }, kinds := [], alts := [], laidByText := true, laidKinds := [.data], laidTests := true, laidLooks := .later }
def TableGreatUptoCardSaid : Prop := Claim7.holds Tryd.pinned (.plain (OpenSpec.upto tableGreatSpec)) tableGreatUptoCard
end Rows
end Go.Proofs.YtlfkomdkimphnabDoor

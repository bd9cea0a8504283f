/-
  DERIVED. GIVEN WITH THE SEED: THE CARDS: each row of YtladdbppkepphabDoorRows.lean that lists a variable, with what it lists TIED to the program's text (the seventh form; the later family's looks); each row that meets fmt, with fmt's text TOLD by the authors' own Lean function (tested against real Go, not proved from fmt's source: count such statements apart). THE CARD IS WHAT COUNTS. Prove the row's statement (the work); the ties are given (YtladdbppkepphabDoorTie.lean); close each card by the builder's one call (the guide's Derived/Test/ToyasCard.lean, 'card_holds'). Laid BY PROGRAM, IN A SANDBOX (cutbox-door.mjs). By AI agents, Wed Nov 11 2026. No macro, syntax, notation, axiom, sorry.
-/
import Derived.Test.YtladdbppkepphabDoorRows
import GoSem.ClaimSeven
namespace Go.Proofs.YtladdbppkepphabDoor
namespace Rows

/-- THE TIED CARD OF 'bywashlaw6.FieldForbids'. -/
def fieldForbidsCard : Claim7 := { stood := { row := fieldForbidsRow, standIns := [], harness := (true, "67774d3ce8d12d9d8657a1471f6a169b626eed512ba559b4a0d7a298da05ebad"), looks := true }, kinds := [], alts := [], laidByText := true, laidKinds := [.data, .data, .data, .sentinel, .sentinel], laidTests := true, laidLooks := .later }
def FieldForbidsCardSaid : Prop := Claim7.holds Tryd.pinned (.plain (OpenSpec.ofChange fieldForbidsSpec)) fieldForbidsCard

/-- THE TIED CARD OF 'bywashlaw6.FieldValues'. -/
def fieldValuesCard : Claim7 := { stood := { row := fieldValuesRow, standIns := [], harness := (true, "67774d3ce8d12d9d8657a1471f6a169b626eed512ba559b4a0d7a298da05ebad"), looks := true }, kinds := [], alts := [], laidByText := true, laidKinds := [.data, .data, .data, .sentinel, .sentinel], laidTests := true, laidLooks := .later }
def FieldValuesCardSaid : Prop := Claim7.holds Tryd.pinned (.plain (OpenSpec.ofChange fieldValuesSpec)) fieldValuesCard

/-- THE SECOND FORM's CARD OF 'bywashlaw6.FieldForbids'. -/
def fieldForbidsUptoCard : Claim7 := { stood := { row := fieldForbidsUptoRow, standIns := [], harness := (true, "67774d3ce8d12d9d8657a1471f6a169b626eed512ba559b4a0d7a298da05ebad"), looks := true }, kinds := [], alts := [], laidByText := true, laidKinds := [.data, .data, .data, .sentinel, .sentinel], laidTests := true, laidLooks := .later }
def FieldForbidsUptoCardSaid : Prop := Claim7.holds Tryd.pinned (.plain (OpenSpec.upto fieldForbidsSpec)) fieldForbidsUptoCard

/-- THE SECOND FORM's CARD OF 'bywashlaw6.FieldValues'. -/
def fieldValuesUptoCard : Claim7 := { stood := { row := fieldValuesUptoRow, standIns := [], harness := (true, "67774d3ce8d12d9d8657a1471f6a169b626eed512ba559b4a0d7a298da05ebad"), looks := true }, kinds := [], alts := [], laidByText := true, laidKinds := [.data, .data, .data, .sentinel, .sentinel], laidTests := true, laidLooks := .later }
def FieldValuesUptoCardSaid : Prop := Claim7.holds Tryd.pinned (.plain (OpenSpec.upto fieldValuesSpec)) fieldValuesUptoCard
end Rows
end Go.Proofs.YtladdbppkepphabDoor

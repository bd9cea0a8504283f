/-
  DERIVED. GIVEN WITH THE SEED: THE CARDS: each row of YthgcbgdafoiacaaFmtRows.lean that lists a variable, with what it lists TIED to the program's text (the seventh form; the later family's looks); each row that meets fmt, with fmt's text TOLD by the authors' own Lean function (tested against real Go, not proved from fmt's source: count such statements apart). THE CARD IS WHAT COUNTS. Prove the row's statement (the work); the ties are given (YthgcbgdafoiacaaFmtTie.lean); close each card by the builder's one call (the guide's Derived/Test/ToyasCard.lean, 'card_holds'). Laid BY PROGRAM, IN A SANDBOX (cutbox-door.mjs). By AI agents, Wed Nov 11 2026. No macro, syntax, notation, axiom, sorry.
-/
import Derived.Test.YthgcbgdafoiacaaFmtRows
import GoSem.ClaimSeven
namespace Go.Proofs.YthgcbgdafoiacaaFmt
namespace Rows

/-- THE TOLD AND TIED CARD OF 'bywashlaw1.FailChains'. -/
def failChainsCard : Claim7 := { stood := { row := failChainsRow, standIns := [], harness := (true, "c2f8c4dcb70175e900675198799154ec5b5941d39315011c03c45a2d4da4e25d"), looks := true }, told := true, laidByText := true, laidKinds := [.handle, .data], laidTests := true, laidLooks := .later, goes := false }
def FailChainsToldSaid : Prop := Claim7.holds Tryf.pinned (.plain (OpenSpec.ofChange failChainsSpec)) failChainsCard
/-- ITS FALSE NEIGHBOUR. Refute it at one input. -/
def FailChainsToldWrongFalsely : Prop := Claim7.holds Tryf.pinned (.plain (OpenSpec.ofChange failChainsWrong)) failChainsCard
end Rows
end Go.Proofs.YthgcbgdafoiacaaFmt

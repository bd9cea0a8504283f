/-
  DERIVED. GIVEN WITH THE SEED: THE CARDS: each row of YtblhgifmdcghoaaDoorRows.lean that lists a variable, with what it lists TIED to the program's text (the seventh form; the later family's looks); each row that meets fmt, with fmt's text TOLD by the authors' own Lean function (tested against real Go, not proved from fmt's source: count such statements apart). THE CARD IS WHAT COUNTS. Prove the row's statement (the work); the ties are given (YtblhgifmdcghoaaDoorTie.lean); close each card by the builder's one call (the guide's Derived/Test/ToyasCard.lean, 'card_holds'). Laid BY PROGRAM, IN A SANDBOX (cutbox-door.mjs). By AI agents, Wed Nov 11 2026. No macro, syntax, notation, axiom, sorry.
-/
import Derived.Test.YtblhgifmdcghoaaDoorRows
import GoSem.ClaimSeven
namespace Go.Proofs.YtblhgifmdcghoaaDoor
namespace Rows

/-- THE TIED CARD OF 'bywashlaw14.StreamTells'. -/
def streamTellsCard : Claim7 := { stood := { row := streamTellsRow, standIns := [], harness := (true, "d54c9f1797cf569d4f074594a06fd7edcd1fb41b93c0cb2755f35b5bb20893f4"), looks := false }, kinds := [], alts := [], laidByText := true, laidKinds := [.data], laidTests := true, laidLooks := .later }
def StreamTellsCardSaid : Prop := Claim7.holds Tryd.pinned (.plain (OpenSpec.ofChange streamTellsSpec)) streamTellsCard

/-- THE TIED CARD OF 'bywashlaw14.StreamRuns'. -/
def streamRunsCard : Claim7 := { stood := { row := streamRunsRow, standIns := [], harness := (true, "d54c9f1797cf569d4f074594a06fd7edcd1fb41b93c0cb2755f35b5bb20893f4"), looks := false }, kinds := [], alts := [], laidByText := true, laidKinds := [.data], laidTests := true, laidLooks := .later }
def StreamRunsCardSaid : Prop := Claim7.holds Tryd.pinned (.plain (OpenSpec.ofChange streamRunsSpec)) streamRunsCard

/-- THE TIED CARD OF 'bywashlaw14.StreamSides'. -/
def streamSidesCard : Claim7 := { stood := { row := streamSidesRow, standIns := [], harness := (true, "d54c9f1797cf569d4f074594a06fd7edcd1fb41b93c0cb2755f35b5bb20893f4"), looks := false }, kinds := [], alts := [], laidByText := true, laidKinds := [.data], laidTests := true, laidLooks := .later }
def StreamSidesCardSaid : Prop := Claim7.holds Tryd.pinned (.plain (OpenSpec.ofChange streamSidesSpec)) streamSidesCard

/-- THE TIED CARD OF 'bywashlaw14.StreamErrors'. -/
def streamErrorsCard : Claim7 := { stood := { row := streamErrorsRow, standIns := [], harness := (true, "d54c9f1797cf569d4f074594a06fd7edcd1fb41b93c0cb2755f35b5bb20893f4"), looks := false }, kinds := [], alts := [], laidByText := true, laidKinds := [.data], laidTests := true, laidLooks := .later }
def StreamErrorsCardSaid : Prop := Claim7.holds Tryd.pinned (.plain (OpenSpec.ofChange streamErrorsSpec)) streamErrorsCard

/-- THE TIED CARD OF 'bywashlaw14.StreamResets'. -/
def streamResetsCard : Claim7 := { stood := { row := streamResetsRow, standIns := [], harness := (true, "d54c9f1797cf569d4f074594a06fd7edcd1fb41b93c0cb2755f35b5bb20893f4"), looks := false }, kinds := [], alts := [], laidByText := true, laidKinds := [.data], laidTests := true, laidLooks := .later }
def StreamResetsCardSaid : Prop := Claim7.holds Tryd.pinned (.plain (OpenSpec.ofChange streamResetsSpec)) streamResetsCard

/-- THE TIED CARD OF 'bywashlaw14.StreamReads'. -/
def streamReadsCard : Claim7 := { stood := { row := streamReadsRow, standIns := [], harness := (true, "d54c9f1797cf569d4f074594a06fd7edcd1fb41b93c0cb2755f35b5bb20893f4"), looks := false }, kinds := [], alts := [], laidByText := true, laidKinds := [.data], laidTests := true, laidLooks := .later }
def StreamReadsCardSaid : Prop := Claim7.holds Tryd.pinned (.plain (OpenSpec.ofChange streamReadsSpec)) streamReadsCard

/-- THE SECOND FORM's CARD OF 'bywashlaw14.StreamTells'. -/
def streamTellsUptoCard : Claim7 := { stood := { row := streamTellsUptoRow, standIns := [], harness := (true, "d54c9f1797cf569d4f074594a06fd7edcd1fb41b93c0cb2755f35b5bb20893f4"), looks := false }, kinds := [], alts := [], laidByText := true, laidKinds := [.data], laidTests := true, laidLooks := .later }
def StreamTellsUptoCardSaid : Prop := Claim7.holds Tryd.pinned (.plain (OpenSpec.upto streamTellsSpec)) streamTellsUptoCard

/-- THE SECOND FORM's CARD OF 'bywashlaw14.StreamRuns'. -/
def streamRunsUptoCard : Claim7 := { stood := { row := streamRunsUptoRow, standIns := [], harness := (true, "d54c9f1797cf569d4f074594a06fd7edcd1fb41b93c0cb2755f35b5bb20893f4"), looks := false }, kinds := [], alts := [], laidByText := true, laidKinds := [.data], laidTests := true, laidLooks := .later }
def StreamRunsUptoCardSaid : Prop := Claim7.holds Tryd.pinned (.plain (OpenSpec.upto streamRunsSpec)) streamRunsUptoCard

/-- THE SECOND FORM's CARD OF 'bywashlaw14.StreamSides'. -/
def streamSidesUptoCard : Claim7 := { stood := { row := streamSidesUptoRow, standIns := [], harness := (true, "d54c9f1797cf569d4f074594a06fd7edcd1fb41b93c0cb2755f35b5bb20893f4"), looks := false }, kinds := [], alts := [], laidByText := true, laidKinds := [.data], laidTests := true, laidLooks := .later }
def StreamSidesUptoCardSaid : Prop := Claim7.holds Tryd.pinned (.plain (OpenSpec.upto streamSidesSpec)) streamSidesUptoCard

/-- THE SECOND FORM's CARD OF 'bywashlaw14.StreamErrors'. -/
def streamErrorsUptoCard : Claim7 := { stood := { row := streamErrorsUptoRow, standIns := [], harness := (true, "d54c9f1797cf569d4f074594a06fd7edcd1fb41b93c0cb2755f35b5bb20893f4"), looks := false }, kinds := [], alts := [], laidByText := true, laidKinds := [.data], laidTests := true, laidLooks := .later }
def StreamErrorsUptoCardSaid : Prop := Claim7.holds Tryd.pinned (.plain (OpenSpec.upto streamErrorsSpec)) streamErrorsUptoCard

/-- THE SECOND FORM's CARD OF 'bywashlaw14.StreamResets'. -/
def streamResetsUptoCard : Claim7 := { stood := { row := streamResetsUptoRow, standIns := [], harness := (true, "d54c9f1797cf569d4f074594a06fd7edcd1fb41b93c0cb2755f35b5bb20893f4"), looks := false }, kinds := [], alts := [], laidByText := true, laidKinds := [.data], laidTests := true, laidLooks := .later }
def StreamResetsUptoCardSaid : Prop := Claim7.holds Tryd.pinned (.plain (OpenSpec.upto streamResetsSpec)) streamResetsUptoCard

/-- THE SECOND FORM's CARD OF 'bywashlaw14.StreamReads'. -/
def streamReadsUptoCard : Claim7 := { stood := { row := streamReadsUptoRow, standIns := [], harness := (true, "d54c9f1797cf569d4f074594a06fd7edcd1fb41b93c0cb2755f35b5bb20893f4"), looks := false }, kinds := [], alts := [], laidByText := true, laidKinds := [.data], laidTests := true, laidLooks := .later }
def StreamReadsUptoCardSaid : Prop := Claim7.holds Tryd.pinned (.plain (OpenSpec.upto streamReadsSpec)) streamReadsUptoCard
end Rows
end Go.Proofs.YtblhgifmdcghoaaDoor

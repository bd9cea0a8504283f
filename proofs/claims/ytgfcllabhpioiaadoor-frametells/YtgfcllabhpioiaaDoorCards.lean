/-
  DERIVED. GIVEN WITH THE SEED: THE CARDS: each row of YtgfcllabhpioiaaDoorRows.lean that lists a variable, with what it lists TIED to the program's text (the seventh form; the later family's looks); each row that meets fmt, with fmt's text TOLD by the authors' own Lean function (tested against real Go, not proved from fmt's source: count such statements apart). THE CARD IS WHAT COUNTS. Prove the row's statement (the work); the ties are given (YtgfcllabhpioiaaDoorTie.lean); close each card by the builder's one call (the guide's Derived/Test/ToyasCard.lean, 'card_holds'). Laid BY PROGRAM, IN A SANDBOX (cutbox-door.mjs). By AI agents, Wed Nov 11 2026. No macro, syntax, notation, axiom, sorry.
-/
import Derived.Test.YtgfcllabhpioiaaDoorRows
import GoSem.ClaimSeven
namespace Go.Proofs.YtgfcllabhpioiaaDoor
namespace Rows

/-- THE TIED CARD OF 'bywashlaw7.FrameTells'. -/
def frameTellsCard : Claim7 := { stood := { row := frameTellsRow, standIns := [], harness := (true, "fba7cef67e70f7bb03a69f760db36c8ef78b4ce26cc454533d08dc39e0efb318"), looks := false }, kinds := [], alts := [], laidByText := true, laidKinds := [.data], laidTests := true, laidLooks := .later }
def FrameTellsCardSaid : Prop := Claim7.holds Tryd.pinned (.plain (OpenSpec.ofChange frameTellsSpec)) frameTellsCard

/-- THE TIED CARD OF 'bywashlaw7.FrameCuts'. -/
def frameCutsCard : Claim7 := { stood := { row := frameCutsRow, standIns := [], harness := (true, "fba7cef67e70f7bb03a69f760db36c8ef78b4ce26cc454533d08dc39e0efb318"), looks := false }, kinds := [], alts := [], laidByText := true, laidKinds := [.data], laidTests := true, laidLooks := .later }
def FrameCutsCardSaid : Prop := Claim7.holds Tryd.pinned (.plain (OpenSpec.ofChange frameCutsSpec)) frameCutsCard

/-- THE TIED CARD OF 'bywashlaw7.FrameJoins'. -/
def frameJoinsCard : Claim7 := { stood := { row := frameJoinsRow, standIns := [], harness := (true, "fba7cef67e70f7bb03a69f760db36c8ef78b4ce26cc454533d08dc39e0efb318"), looks := false }, kinds := [], alts := [], laidByText := true, laidKinds := [.data], laidTests := true, laidLooks := .later }
def FrameJoinsCardSaid : Prop := Claim7.holds Tryd.pinned (.plain (OpenSpec.ofChange frameJoinsSpec)) frameJoinsCard

/-- THE TIED CARD OF 'bywashlaw7.FramePads'. -/
def framePadsCard : Claim7 := { stood := { row := framePadsRow, standIns := [], harness := (true, "fba7cef67e70f7bb03a69f760db36c8ef78b4ce26cc454533d08dc39e0efb318"), looks := false }, kinds := [], alts := [], laidByText := true, laidKinds := [.data], laidTests := true, laidLooks := .later }
def FramePadsCardSaid : Prop := Claim7.holds Tryd.pinned (.plain (OpenSpec.ofChange framePadsSpec)) framePadsCard

/-- THE TIED CARD OF 'bywashlaw7.FrameBounds'. -/
def frameBoundsCard : Claim7 := { stood := { row := frameBoundsRow, standIns := [], harness := (true, "fba7cef67e70f7bb03a69f760db36c8ef78b4ce26cc454533d08dc39e0efb318"), looks := false }, kinds := [], alts := [], laidByText := true, laidKinds := [.data], laidTests := true, laidLooks := .later }
def FrameBoundsCardSaid : Prop := Claim7.holds Tryd.pinned (.plain (OpenSpec.ofChange frameBoundsSpec)) frameBoundsCard

/-- THE TIED CARD OF 'bywashlaw7.FrameShort'. -/
def frameShortCard : Claim7 := { stood := { row := frameShortRow, standIns := [], harness := (true, "fba7cef67e70f7bb03a69f760db36c8ef78b4ce26cc454533d08dc39e0efb318"), looks := false }, kinds := [], alts := [], laidByText := true, laidKinds := [.data], laidTests := true, laidLooks := .later }
def FrameShortCardSaid : Prop := Claim7.holds Tryd.pinned (.plain (OpenSpec.ofChange frameShortSpec)) frameShortCard

/-- THE SECOND FORM's CARD OF 'bywashlaw7.FrameTells'. -/
def frameTellsUptoCard : Claim7 := { stood := { row := frameTellsUptoRow, standIns := [], harness := (true, "fba7cef67e70f7bb03a69f760db36c8ef78b4ce26cc454533d08dc39e0efb318"), looks := false }, kinds := [], alts := [], laidByText := true, laidKinds := [.data], laidTests := true, laidLooks := .later }
def FrameTellsUptoCardSaid : Prop := Claim7.holds Tryd.pinned (.plain (OpenSpec.upto frameTellsSpec)) frameTellsUptoCard

/-- THE SECOND FORM's CARD OF 'bywashlaw7.FrameCuts'. -/
def frameCutsUptoCard : Claim7 := { stood := { row := frameCutsUptoRow, standIns := [], harness := (true, "fba7cef67e70f7bb03a69f760db36c8ef78b4ce26cc454533d08dc39e0efb318"), looks := false }, kinds := [], alts := [], laidByText := true, laidKinds := [.data], laidTests := true, laidLooks := .later }
def FrameCutsUptoCardSaid : Prop := Claim7.holds Tryd.pinned (.plain (OpenSpec.upto frameCutsSpec)) frameCutsUptoCard

/-- THE SECOND FORM's CARD OF 'bywashlaw7.FrameJoins'. -/
def frameJoinsUptoCard : Claim7 := { stood := { row := frameJoinsUptoRow, standIns := [], harness := (true, "fba7cef67e70f7bb03a69f760db36c8ef78b4ce26cc454533d08dc39e0efb318"), looks := false }, kinds := [], alts := [], laidByText := true, laidKinds := [.data], laidTests := true, laidLooks := .later }
def FrameJoinsUptoCardSaid : Prop := Claim7.holds Tryd.pinned (.plain (OpenSpec.upto frameJoinsSpec)) frameJoinsUptoCard

/-- THE SECOND FORM's CARD OF 'bywashlaw7.FramePads'. -/
def framePadsUptoCard : Claim7 := { stood := { row := framePadsUptoRow, standIns := [], harness := (true, "fba7cef67e70f7bb03a69f760db36c8ef78b4ce26cc454533d08dc39e0efb318"), looks := false }, kinds := [], alts := [], laidByText := true, laidKinds := [.data], laidTests := true, laidLooks := .later }
def FramePadsUptoCardSaid : Prop := Claim7.holds Tryd.pinned (.plain (OpenSpec.upto framePadsSpec)) framePadsUptoCard

/-- THE SECOND FORM's CARD OF 'bywashlaw7.FrameBounds'. -/
def frameBoundsUptoCard : Claim7 := { stood := { row := frameBoundsUptoRow, standIns := [], harness := (true, "fba7cef67e70f7bb03a69f760db36c8ef78b4ce26cc454533d08dc39e0efb318"), looks := false }, kinds := [], alts := [], laidByText := true, laidKinds := [.data], laidTests := true, laidLooks := .later }
def FrameBoundsUptoCardSaid : Prop := Claim7.holds Tryd.pinned (.plain (OpenSpec.upto frameBoundsSpec)) frameBoundsUptoCard

/-- THE SECOND FORM's CARD OF 'bywashlaw7.FrameShort'. -/
def frameShortUptoCard : Claim7 := { stood := { row := frameShortUptoRow, standIns := [], harness := (true, "fba7cef67e70f7bb03a69f760db36c8ef78b4ce26cc454533d08dc39e0efb318"), looks := false }, kinds := [], alts := [], laidByText := true, laidKinds := [.data], laidTests := true, laidLooks := .later }
def FrameShortUptoCardSaid : Prop := Claim7.holds Tryd.pinned (.plain (OpenSpec.upto frameShortSpec)) frameShortUptoCard
end Rows
end Go.Proofs.YtgfcllabhpioiaaDoor

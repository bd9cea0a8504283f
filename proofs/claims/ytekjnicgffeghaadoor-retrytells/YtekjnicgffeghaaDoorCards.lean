/-
  DERIVED. GIVEN WITH THE SEED: THE CARDS: each row of YtekjnicgffeghaaDoorRows.lean that lists a variable, with what it lists TIED to the program's text (the seventh form; the later family's looks); each row that meets fmt, with fmt's text TOLD by the authors' own Lean function (tested against real Go, not proved from fmt's source: count such statements apart). THE CARD IS WHAT COUNTS. Prove the row's statement (the work); the ties are given (YtekjnicgffeghaaDoorTie.lean); close each card by the builder's one call (the guide's Derived/Test/ToyasCard.lean, 'card_holds'). Laid BY PROGRAM, IN A SANDBOX (cutbox-door.mjs). By AI agents, Wed Nov 11 2026. No macro, syntax, notation, axiom, sorry.
-/
import Derived.Test.YtekjnicgffeghaaDoorRows
import GoSem.ClaimSeven
namespace Go.Proofs.YtekjnicgffeghaaDoor
namespace Rows

/-- THE TIED CARD OF 'bywashlaw21.RetryTells'. -/
def retryTellsCard : Claim7 := { stood := { row := retryTellsRow, standIns := [], harness := (true, "94fb1943ccd03a291e8e8af1b6bf65616e290a4b2913ac3e928db01dfc5030b3"), looks := true }, kinds := [], alts := [], laidByText := true, laidKinds := [.handle, .data, .sentinel, .sentinel], laidTests := true, laidLooks := .later }
def RetryTellsCardSaid : Prop := Claim7.holds Tryd.pinned (.plain (OpenSpec.ofChange retryTellsSpec)) retryTellsCard

/-- THE TIED CARD OF 'bywashlaw21.RetryOnce'. -/
def retryOnceCard : Claim7 := { stood := { row := retryOnceRow, standIns := [], harness := (true, "94fb1943ccd03a291e8e8af1b6bf65616e290a4b2913ac3e928db01dfc5030b3"), looks := true }, kinds := [], alts := [], laidByText := true, laidKinds := [.sentinel, .sentinel], laidTests := true, laidLooks := .later }
def RetryOnceCardSaid : Prop := Claim7.holds Tryd.pinned (.plain (OpenSpec.ofChange retryOnceSpec)) retryOnceCard

/-- THE TIED CARD OF 'bywashlaw21.RetryMost'. -/
def retryMostCard : Claim7 := { stood := { row := retryMostRow, standIns := [], harness := (true, "94fb1943ccd03a291e8e8af1b6bf65616e290a4b2913ac3e928db01dfc5030b3"), looks := true }, kinds := [], alts := [], laidByText := true, laidKinds := [.sentinel, .sentinel], laidTests := true, laidLooks := .later }
def RetryMostCardSaid : Prop := Claim7.holds Tryd.pinned (.plain (OpenSpec.ofChange retryMostSpec)) retryMostCard

/-- THE TIED CARD OF 'bywashlaw21.RetryWraps'. -/
def retryWrapsCard : Claim7 := { stood := { row := retryWrapsRow, standIns := [], harness := (true, "94fb1943ccd03a291e8e8af1b6bf65616e290a4b2913ac3e928db01dfc5030b3"), looks := true }, kinds := [], alts := [], laidByText := true, laidKinds := [.sentinel, .sentinel], laidTests := true, laidLooks := .later }
def RetryWrapsCardSaid : Prop := Claim7.holds Tryd.pinned (.plain (OpenSpec.ofChange retryWrapsSpec)) retryWrapsCard

/-- THE TIED CARD OF 'bywashlaw21.RetryFinal'. -/
def retryFinalCard : Claim7 := { stood := { row := retryFinalRow, standIns := [], harness := (true, "94fb1943ccd03a291e8e8af1b6bf65616e290a4b2913ac3e928db01dfc5030b3"), looks := true }, kinds := [], alts := [], laidByText := true, laidKinds := [.sentinel, .sentinel], laidTests := true, laidLooks := .later }
def RetryFinalCardSaid : Prop := Claim7.holds Tryd.pinned (.plain (OpenSpec.ofChange retryFinalSpec)) retryFinalCard

/-- THE SECOND FORM's CARD OF 'bywashlaw21.RetryTells'. -/
def retryTellsUptoCard : Claim7 := { stood := { row := retryTellsUptoRow, standIns := [], harness := (true, "94fb1943ccd03a291e8e8af1b6bf65616e290a4b2913ac3e928db01dfc5030b3"), looks := true }, kinds := [], alts := [], laidByText := true, laidKinds := [.handle, .data, .sentinel, .sentinel], laidTests := true, laidLooks := .later }
def RetryTellsUptoCardSaid : Prop := Claim7.holds Tryd.pinned (.plain (OpenSpec.upto retryTellsSpec)) retryTellsUptoCard

/-- THE SECOND FORM's CARD OF 'bywashlaw21.RetryOnce'. -/
def retryOnceUptoCard : Claim7 := { stood := { row := retryOnceUptoRow, standIns := [], harness := (true, "94fb1943ccd03a291e8e8af1b6bf65616e290a4b2913ac3e928db01dfc5030b3"), looks := true }, kinds := [], alts := [], laidByText := true, laidKinds := [.sentinel, .sentinel], laidTests := true, laidLooks := .later }
def RetryOnceUptoCardSaid : Prop := Claim7.holds Tryd.pinned (.plain (OpenSpec.upto retryOnceSpec)) retryOnceUptoCard

/-- THE SECOND FORM's CARD OF 'bywashlaw21.RetryMost'. -/
def retryMostUptoCard : Claim7 := { stood := { row := retryMostUptoRow, standIns := [], harness := (true, "94fb1943ccd03a291e8e8af1b6bf65616e290a4b2913ac3e928db01dfc5030b3"), looks := true }, kinds := [], alts := [], laidByText := true, laidKinds := [.sentinel, .sentinel], laidTests := true, laidLooks := .later }
def RetryMostUptoCardSaid : Prop := Claim7.holds Tryd.pinned (.plain (OpenSpec.upto retryMostSpec)) retryMostUptoCard

/-- THE SECOND FORM's CARD OF 'bywashlaw21.RetryWraps'. -/
def retryWrapsUptoCard : Claim7 := { stood := { row := retryWrapsUptoRow, standIns := [], harness := (true, "94fb1943ccd03a291e8e8af1b6bf65616e290a4b2913ac3e928db01dfc5030b3"), looks := true }, kinds := [], alts := [], laidByText := true, laidKinds := [.sentinel, .sentinel], laidTests := true, laidLooks := .later }
def RetryWrapsUptoCardSaid : Prop := Claim7.holds Tryd.pinned (.plain (OpenSpec.upto retryWrapsSpec)) retryWrapsUptoCard

/-- THE SECOND FORM's CARD OF 'bywashlaw21.RetryFinal'. -/
def retryFinalUptoCard : Claim7 := { stood := { row := retryFinalUptoRow, standIns := [], harness := (true, "94fb1943ccd03a291e8e8af1b6bf65616e290a4b2913ac3e928db01dfc5030b3"), looks := true }, kinds := [], alts := [], laidByText := true, laidKinds := [.sentinel, .sentinel], laidTests := true, laidLooks := .later }
def RetryFinalUptoCardSaid : Prop := Claim7.holds Tryd.pinned (.plain (OpenSpec.upto retryFinalSpec)) retryFinalUptoCard
end Rows
end Go.Proofs.YtekjnicgffeghaaDoor

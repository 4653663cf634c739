/-
  DERIVED. GIVEN WITH THE SEED: THE CARDS: each row of YtehiaenicfmpbaaDoorRows.lean that lists a variable, with what it lists TIED to the program's text (the seventh form; the later family's looks); each row that meets fmt, with fmt's text TOLD by the authors' own Lean function (tested against real Go, not proved from fmt's source: count such statements apart). THE CARD IS WHAT COUNTS. Prove the row's statement (the work); the ties are given (YtehiaenicfmpbaaDoorTie.lean); close each card by the builder's one call (the guide's Derived/Test/ToyasCard.lean, 'card_holds'). Laid BY PROGRAM, IN A SANDBOX (cutbox-door.mjs). By AI agents, Wed Nov 11 2026. No macro, syntax, notation, axiom, sorry.
-/
import Derived.Test.YtehiaenicfmpbaaDoorRows
import GoSem.ClaimSeven
namespace Go.Proofs.YtehiaenicfmpbaaDoor
namespace Rows

/-- THE TIED CARD OF 'scrapbooklaw.BaseBack'. -/
def baseBackCard : Claim7 := { stood := { row := baseBackRow, standIns := [], harness := (true, "cce0e531a1f4993fc4afcc6d9ce4d74e2783d101054e99562027a5bb8b473046"), looks := true }, kinds := [], alts := [], laidByText := true, laidKinds := [.data, .pinned], laidTests := true, laidLooks := .later }
def BaseBackCardSaid : Prop := Claim7.holds Tryd.pinned (.plain (OpenSpec.ofChange baseBackSpec)) baseBackCard

/-- THE TIED CARD OF 'scrapbooklaw.QuoteSays'. -/
def quoteSaysCard : Claim7 := { stood := { row := quoteSaysRow, standIns := [], harness := (true, "cce0e531a1f4993fc4afcc6d9ce4d74e2783d101054e99562027a5bb8b473046"), looks := true }, kinds := [], alts := [], laidByText := true, laidKinds := [.data, .data, .data, .data, .sentinel, .sentinel, .pinned, .pinned], laidTests := true, laidLooks := .later }
def QuoteSaysCardSaid : Prop := Claim7.holds Tryd.pinned (.plain (OpenSpec.ofChange quoteSaysSpec)) quoteSaysCard

/-- THE TIED CARD OF 'scrapbooklaw.QuoteBack'. -/
def quoteBackCard : Claim7 := { stood := { row := quoteBackRow, standIns := [], harness := (true, "cce0e531a1f4993fc4afcc6d9ce4d74e2783d101054e99562027a5bb8b473046"), looks := true }, kinds := [], alts := [], laidByText := true, laidKinds := [.data, .pinned], laidTests := true, laidLooks := .later }
def QuoteBackCardSaid : Prop := Claim7.holds Tryd.pinned (.plain (OpenSpec.ofChange quoteBackSpec)) quoteBackCard

/-- THE TIED CARD OF 'scrapbooklaw.QuoteParts'. -/
def quotePartsCard : Claim7 := { stood := { row := quotePartsRow, standIns := [], harness := (true, "cce0e531a1f4993fc4afcc6d9ce4d74e2783d101054e99562027a5bb8b473046"), looks := true }, kinds := [], alts := [], laidByText := true, laidKinds := [.data, .pinned], laidTests := true, laidLooks := .later }
def QuotePartsCardSaid : Prop := Claim7.holds Tryd.pinned (.plain (OpenSpec.ofChange quotePartsSpec)) quotePartsCard

/-- THE TIED CARD OF 'scrapbooklaw.HeaderSays'. -/
def headerSaysCard : Claim7 := { stood := { row := headerSaysRow, standIns := [], harness := (true, "cce0e531a1f4993fc4afcc6d9ce4d74e2783d101054e99562027a5bb8b473046"), looks := true }, kinds := [], alts := [], laidByText := true, laidKinds := [.data, .data, .data, .pinned, .pinned], laidTests := true, laidLooks := .later }
def HeaderSaysCardSaid : Prop := Claim7.holds Tryd.pinned (.plain (OpenSpec.ofChange headerSaysSpec)) headerSaysCard

/-- THE TIED CARD OF 'scrapbooklaw.HeaderBack'. -/
def headerBackCard : Claim7 := { stood := { row := headerBackRow, standIns := [], harness := (true, "cce0e531a1f4993fc4afcc6d9ce4d74e2783d101054e99562027a5bb8b473046"), looks := true }, kinds := [], alts := [], laidByText := true, laidKinds := [.data, .data, .data, .pinned, .pinned], laidTests := true, laidLooks := .later }
def HeaderBackCardSaid : Prop := Claim7.holds Tryd.pinned (.plain (OpenSpec.ofChange headerBackSpec)) headerBackCard

/-- THE TIED CARD OF 'scrapbooklaw.HeaderGets'. -/
def headerGetsCard : Claim7 := { stood := { row := headerGetsRow, standIns := [], harness := (true, "cce0e531a1f4993fc4afcc6d9ce4d74e2783d101054e99562027a5bb8b473046"), looks := true }, kinds := [], alts := [], laidByText := true, laidKinds := [.data, .data, .data, .pinned, .pinned], laidTests := true, laidLooks := .later }
def HeaderGetsCardSaid : Prop := Claim7.holds Tryd.pinned (.plain (OpenSpec.ofChange headerGetsSpec)) headerGetsCard

/-- THE TIED CARD OF 'scrapbooklaw.HeaderParams'. -/
def headerParamsCard : Claim7 := { stood := { row := headerParamsRow, standIns := [], harness := (true, "cce0e531a1f4993fc4afcc6d9ce4d74e2783d101054e99562027a5bb8b473046"), looks := true }, kinds := [], alts := [], laidByText := true, laidKinds := [.data, .data, .data, .pinned, .pinned], laidTests := true, laidLooks := .later }
def HeaderParamsCardSaid : Prop := Claim7.holds Tryd.pinned (.plain (OpenSpec.ofChange headerParamsSpec)) headerParamsCard

/-- THE TIED CARD OF 'scrapbooklaw.PartSays'. -/
def partSaysCard : Claim7 := { stood := { row := partSaysRow, standIns := [], harness := (true, "cce0e531a1f4993fc4afcc6d9ce4d74e2783d101054e99562027a5bb8b473046"), looks := true }, kinds := [], alts := [], laidByText := true, laidKinds := [.data, .pinned], laidTests := true, laidLooks := .later }
def PartSaysCardSaid : Prop := Claim7.holds Tryd.pinned (.plain (OpenSpec.ofChange partSaysSpec)) partSaysCard

/-- THE SECOND FORM's CARD OF 'scrapbooklaw.BaseBack'. -/
def baseBackUptoCard : Claim7 := { stood := { row := baseBackUptoRow, standIns := [], harness := (true, "cce0e531a1f4993fc4afcc6d9ce4d74e2783d101054e99562027a5bb8b473046"), looks := true }, kinds := [], alts := [], laidByText := true, laidKinds := [.data, .pinned], laidTests := true, laidLooks := .later }
def BaseBackUptoCardSaid : Prop := Claim7.holds Tryd.pinned (.plain (OpenSpec.upto baseBackSpec)) baseBackUptoCard

/-- THE SECOND FORM's CARD OF 'scrapbooklaw.QuoteSays'. -/
def quoteSaysUptoCard : Claim7 := { stood := { row := quoteSaysUptoRow, standIns := [], harness := (true, "cce0e531a1f4993fc4afcc6d9ce4d74e2783d101054e99562027a5bb8b473046"), looks := true }, kinds := [], alts := [], laidByText := true, laidKinds := [.data, .data, .data, .data, .sentinel, .sentinel, .pinned, .pinned], laidTests := true, laidLooks := .later }
def QuoteSaysUptoCardSaid : Prop := Claim7.holds Tryd.pinned (.plain (OpenSpec.upto quoteSaysSpec)) quoteSaysUptoCard

/-- THE SECOND FORM's CARD OF 'scrapbooklaw.QuoteBack'. -/
def quoteBackUptoCard : Claim7 := { stood := { row := quoteBackUptoRow, standIns := [], harness := (true, "cce0e531a1f4993fc4afcc6d9ce4d74e2783d101054e99562027a5bb8b473046"), looks := true }, kinds := [], alts := [], laidByText := true, laidKinds := [.data, .pinned], laidTests := true, laidLooks := .later }
def QuoteBackUptoCardSaid : Prop := Claim7.holds Tryd.pinned (.plain (OpenSpec.upto quoteBackSpec)) quoteBackUptoCard

/-- THE SECOND FORM's CARD OF 'scrapbooklaw.QuoteParts'. -/
def quotePartsUptoCard : Claim7 := { stood := { row := quotePartsUptoRow, standIns := [], harness := (true, "cce0e531a1f4993fc4afcc6d9ce4d74e2783d101054e99562027a5bb8b473046"), looks := true }, kinds := [], alts := [], laidByText := true, laidKinds := [.data, .pinned], laidTests := true, laidLooks := .later }
def QuotePartsUptoCardSaid : Prop := Claim7.holds Tryd.pinned (.plain (OpenSpec.upto quotePartsSpec)) quotePartsUptoCard

/-- THE SECOND FORM's CARD OF 'scrapbooklaw.HeaderSays'. -/
def headerSaysUptoCard : Claim7 := { stood := { row := headerSaysUptoRow, standIns := [], harness := (true, "cce0e531a1f4993fc4afcc6d9ce4d74e2783d101054e99562027a5bb8b473046"), looks := true }, kinds := [], alts := [], laidByText := true, laidKinds := [.data, .data, .data, .pinned, .pinned], laidTests := true, laidLooks := .later }
def HeaderSaysUptoCardSaid : Prop := Claim7.holds Tryd.pinned (.plain (OpenSpec.upto headerSaysSpec)) headerSaysUptoCard

/-- THE SECOND FORM's CARD OF 'scrapbooklaw.HeaderBack'. -/
def headerBackUptoCard : Claim7 := { stood := { row := headerBackUptoRow, standIns := [], harness := (true, "cce0e531a1f4993fc4afcc6d9ce4d74e2783d101054e99562027a5bb8b473046"), looks := true }, kinds := [], alts := [], laidByText := true, laidKinds := [.data, .data, .data, .pinned, .pinned], laidTests := true, laidLooks := .later }
def HeaderBackUptoCardSaid : Prop := Claim7.holds Tryd.pinned (.plain (OpenSpec.upto headerBackSpec)) headerBackUptoCard

/-- THE SECOND FORM's CARD OF 'scrapbooklaw.HeaderGets'. -/
def headerGetsUptoCard : Claim7 := { stood := { row := headerGetsUptoRow, standIns := [], harness := (true, "cce0e531a1f4993fc4afcc6d9ce4d74e2783d101054e99562027a5bb8b473046"), looks := true }, kinds := [], alts := [], laidByText := true, laidKinds := [.data, .data, .data, .pinned, .pinned], laidTests := true, laidLooks := .later }
def HeaderGetsUptoCardSaid : Prop := Claim7.holds Tryd.pinned (.plain (OpenSpec.upto headerGetsSpec)) headerGetsUptoCard

/-- THE SECOND FORM's CARD OF 'scrapbooklaw.HeaderParams'. -/
def headerParamsUptoCard : Claim7 := { stood := { row := headerParamsUptoRow, standIns := [], harness := (true, "cce0e531a1f4993fc4afcc6d9ce4d74e2783d101054e99562027a5bb8b473046"), looks := true }, kinds := [], alts := [], laidByText := true, laidKinds := [.data, .data, .data, .pinned, .pinned], laidTests := true, laidLooks := .later }
def HeaderParamsUptoCardSaid : Prop := Claim7.holds Tryd.pinned (.plain (OpenSpec.upto headerParamsSpec)) headerParamsUptoCard

/-- THE SECOND FORM's CARD OF 'scrapbooklaw.PartSays'. -/
def partSaysUptoCard : Claim7 := { stood := { row := partSaysUptoRow, standIns := [], harness := (true, "cce0e531a1f4993fc4afcc6d9ce4d74e2783d101054e99562027a5bb8b473046"), looks := true }, kinds := [], alts := [], laidByText := true, laidKinds := [.data, .pinned], laidTests := true, laidLooks := .later }
def PartSaysUptoCardSaid : Prop := Claim7.holds Tryd.pinned (.plain (OpenSpec.upto partSaysSpec)) partSaysUptoCard
end Rows
end Go.Proofs.YtehiaenicfmpbaaDoor

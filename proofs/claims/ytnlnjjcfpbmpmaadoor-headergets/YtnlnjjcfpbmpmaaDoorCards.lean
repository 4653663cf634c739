/-
  DERIVED. GIVEN WITH THE SEED: THE CARDS: each row of YtnlnjjcfpbmpmaaDoorRows.lean that lists a variable, with what it lists TIED to the program's text (the seventh form; the later family's looks); each row that meets fmt, with fmt's text TOLD by the authors' own Lean function (tested against real Go, not proved from fmt's source: count such statements apart). THE CARD IS WHAT COUNTS. Prove the row's statement (the work); the ties are given (YtnlnjjcfpbmpmaaDoorTie.lean); close each card by the builder's one call (the guide's Derived/Test/ToyasCard.lean, 'card_holds'). Laid BY PROGRAM, IN A SANDBOX (cutbox-door.mjs). By AI agents, Wed Nov 11 2026. No macro, syntax, notation, axiom, sorry.
-/
import Derived.Test.YtnlnjjcfpbmpmaaDoorRows
import GoSem.ClaimSeven
namespace Go.Proofs.YtnlnjjcfpbmpmaaDoor
namespace Rows

/-- THE TIED CARD OF 'scrapbooklaw.BaseBack'. -/
def baseBackCard : Claim7 := { stood := { row := baseBackRow, standIns := [], harness := (true, "dcc7124e07806a7a4ff4322c1a1782ac03fbda159312d0ebfdbd62a86e19fba4"), looks := true }, kinds := [], alts := [], laidByText := true, laidKinds := [.data, .pinned], laidTests := true, laidLooks := .later }
def BaseBackCardSaid : Prop := Claim7.holds Tryd.pinned (.plain (OpenSpec.ofChange baseBackSpec)) baseBackCard

/-- THE TIED CARD OF 'scrapbooklaw.QuoteSays'. -/
def quoteSaysCard : Claim7 := { stood := { row := quoteSaysRow, standIns := [], harness := (true, "dcc7124e07806a7a4ff4322c1a1782ac03fbda159312d0ebfdbd62a86e19fba4"), looks := true }, kinds := [], alts := [], laidByText := true, laidKinds := [.data, .data, .data, .data, .sentinel, .sentinel, .pinned, .pinned], laidTests := true, laidLooks := .later }
def QuoteSaysCardSaid : Prop := Claim7.holds Tryd.pinned (.plain (OpenSpec.ofChange quoteSaysSpec)) quoteSaysCard

/-- THE TIED CARD OF 'scrapbooklaw.QuoteBack'. -/
def quoteBackCard : Claim7 := { stood := { row := quoteBackRow, standIns := [], harness := (true, "dcc7124e07806a7a4ff4322c1a1782ac03fbda159312d0ebfdbd62a86e19fba4"), looks := true }, kinds := [], alts := [], laidByText := true, laidKinds := [.data, .pinned], laidTests := true, laidLooks := .later }
def QuoteBackCardSaid : Prop := Claim7.holds Tryd.pinned (.plain (OpenSpec.ofChange quoteBackSpec)) quoteBackCard

/-- THE TIED CARD OF 'scrapbooklaw.QuoteParts'. -/
def quotePartsCard : Claim7 := { stood := { row := quotePartsRow, standIns := [], harness := (true, "dcc7124e07806a7a4ff4322c1a1782ac03fbda159312d0ebfdbd62a86e19fba4"), looks := true }, kinds := [], alts := [], laidByText := true, laidKinds := [.data, .pinned], laidTests := true, laidLooks := .later }
def QuotePartsCardSaid : Prop := Claim7.holds Tryd.pinned (.plain (OpenSpec.ofChange quotePartsSpec)) quotePartsCard

/-- THE TIED CARD OF 'scrapbooklaw.HeaderSays'. -/
def headerSaysCard : Claim7 := { stood := { row := headerSaysRow, standIns := [], harness := (true, "dcc7124e07806a7a4ff4322c1a1782ac03fbda159312d0ebfdbd62a86e19fba4"), looks := true }, kinds := [], alts := [], laidByText := true, laidKinds := [.data, .data, .data, .pinned, .pinned], laidTests := true, laidLooks := .later }
def HeaderSaysCardSaid : Prop := Claim7.holds Tryd.pinned (.plain (OpenSpec.ofChange headerSaysSpec)) headerSaysCard

/-- THE TIED CARD OF 'scrapbooklaw.HeaderBack'. -/
def headerBackCard : Claim7 := { stood := { row := headerBackRow, standIns := [], harness := (true, "dcc7124e07806a7a4ff4322c1a1782ac03fbda159312d0ebfdbd62a86e19fba4"), looks := true }, kinds := [], alts := [], laidByText := true, laidKinds := [.data, .data, .data, .pinned, .pinned], laidTests := true, laidLooks := .later }
def HeaderBackCardSaid : Prop := Claim7.holds Tryd.pinned (.plain (OpenSpec.ofChange headerBackSpec)) headerBackCard

/-- THE TIED CARD OF 'scrapbooklaw.HeaderGets'. -/
def headerGetsCard : Claim7 := { stood := { row := headerGetsRow, standIns := [], harness := (true, "dcc7124e07806a7a4ff4322c1a1782ac03fbda159312d0ebfdbd62a86e19fba4"), looks := true }, kinds := [], alts := [], laidByText := true, laidKinds := [.data, .data, .data, .pinned, .pinned], laidTests := true, laidLooks := .later }
def HeaderGetsCardSaid : Prop := Claim7.holds Tryd.pinned (.plain (OpenSpec.ofChange headerGetsSpec)) headerGetsCard

/-- THE TIED CARD OF 'scrapbooklaw.HeaderParams'. -/
def headerParamsCard : Claim7 := { stood := { row := headerParamsRow, standIns := [], harness := (true, "dcc7124e07806a7a4ff4322c1a1782ac03fbda159312d0ebfdbd62a86e19fba4"), looks := true }, kinds := [], alts := [], laidByText := true, laidKinds := [.data, .data, .data, .pinned, .pinned], laidTests := true, laidLooks := .later }
def HeaderParamsCardSaid : Prop := Claim7.holds Tryd.pinned (.plain (OpenSpec.ofChange headerParamsSpec)) headerParamsCard

/-- THE SECOND FORM's CARD OF 'scrapbooklaw.BaseBack'. -/
def baseBackUptoCard : Claim7 := { stood := { row := baseBackUptoRow, standIns := [], harness := (true, "dcc7124e07806a7a4ff4322c1a1782ac03fbda159312d0ebfdbd62a86e19fba4"), looks := true }, kinds := [], alts := [], laidByText := true, laidKinds := [.data, .pinned], laidTests := true, laidLooks := .later }
def BaseBackUptoCardSaid : Prop := Claim7.holds Tryd.pinned (.plain (OpenSpec.upto baseBackSpec)) baseBackUptoCard

/-- THE SECOND FORM's CARD OF 'scrapbooklaw.QuoteSays'. -/
def quoteSaysUptoCard : Claim7 := { stood := { row := quoteSaysUptoRow, standIns := [], harness := (true, "dcc7124e07806a7a4ff4322c1a1782ac03fbda159312d0ebfdbd62a86e19fba4"), looks := true }, kinds := [], alts := [], laidByText := true, laidKinds := [.data, .data, .data, .data, .sentinel, .sentinel, .pinned, .pinned], laidTests := true, laidLooks := .later }
def QuoteSaysUptoCardSaid : Prop := Claim7.holds Tryd.pinned (.plain (OpenSpec.upto quoteSaysSpec)) quoteSaysUptoCard

/-- THE SECOND FORM's CARD OF 'scrapbooklaw.QuoteBack'. -/
def quoteBackUptoCard : Claim7 := { stood := { row := quoteBackUptoRow, standIns := [], harness := (true, "dcc7124e07806a7a4ff4322c1a1782ac03fbda159312d0ebfdbd62a86e19fba4"), looks := true }, kinds := [], alts := [], laidByText := true, laidKinds := [.data, .pinned], laidTests := true, laidLooks := .later }
def QuoteBackUptoCardSaid : Prop := Claim7.holds Tryd.pinned (.plain (OpenSpec.upto quoteBackSpec)) quoteBackUptoCard

/-- THE SECOND FORM's CARD OF 'scrapbooklaw.QuoteParts'. -/
def quotePartsUptoCard : Claim7 := { stood := { row := quotePartsUptoRow, standIns := [], harness := (true, "dcc7124e07806a7a4ff4322c1a1782ac03fbda159312d0ebfdbd62a86e19fba4"), looks := true }, kinds := [], alts := [], laidByText := true, laidKinds := [.data, .pinned], laidTests := true, laidLooks := .later }
def QuotePartsUptoCardSaid : Prop := Claim7.holds Tryd.pinned (.plain (OpenSpec.upto quotePartsSpec)) quotePartsUptoCard

/-- THE SECOND FORM's CARD OF 'scrapbooklaw.HeaderSays'. -/
def headerSaysUptoCard : Claim7 := { stood := { row := headerSaysUptoRow, standIns := [], harness := (true, "dcc7124e07806a7a4ff4322c1a1782ac03fbda159312d0ebfdbd62a86e19fba4"), looks := true }, kinds := [], alts := [], laidByText := true, laidKinds := [.data, .data, .data, .pinned, .pinned], laidTests := true, laidLooks := .later }
def HeaderSaysUptoCardSaid : Prop := Claim7.holds Tryd.pinned (.plain (OpenSpec.upto headerSaysSpec)) headerSaysUptoCard

/-- THE SECOND FORM's CARD OF 'scrapbooklaw.HeaderBack'. -/
def headerBackUptoCard : Claim7 := { stood := { row := headerBackUptoRow, standIns := [], harness := (true, "dcc7124e07806a7a4ff4322c1a1782ac03fbda159312d0ebfdbd62a86e19fba4"), looks := true }, kinds := [], alts := [], laidByText := true, laidKinds := [.data, .data, .data, .pinned, .pinned], laidTests := true, laidLooks := .later }
def HeaderBackUptoCardSaid : Prop := Claim7.holds Tryd.pinned (.plain (OpenSpec.upto headerBackSpec)) headerBackUptoCard

/-- THE SECOND FORM's CARD OF 'scrapbooklaw.HeaderGets'. -/
def headerGetsUptoCard : Claim7 := { stood := { row := headerGetsUptoRow, standIns := [], harness := (true, "dcc7124e07806a7a4ff4322c1a1782ac03fbda159312d0ebfdbd62a86e19fba4"), looks := true }, kinds := [], alts := [], laidByText := true, laidKinds := [.data, .data, .data, .pinned, .pinned], laidTests := true, laidLooks := .later }
def HeaderGetsUptoCardSaid : Prop := Claim7.holds Tryd.pinned (.plain (OpenSpec.upto headerGetsSpec)) headerGetsUptoCard

/-- THE SECOND FORM's CARD OF 'scrapbooklaw.HeaderParams'. -/
def headerParamsUptoCard : Claim7 := { stood := { row := headerParamsUptoRow, standIns := [], harness := (true, "dcc7124e07806a7a4ff4322c1a1782ac03fbda159312d0ebfdbd62a86e19fba4"), looks := true }, kinds := [], alts := [], laidByText := true, laidKinds := [.data, .data, .data, .pinned, .pinned], laidTests := true, laidLooks := .later }
def HeaderParamsUptoCardSaid : Prop := Claim7.holds Tryd.pinned (.plain (OpenSpec.upto headerParamsSpec)) headerParamsUptoCard
end Rows
end Go.Proofs.YtnlnjjcfpbmpmaaDoor

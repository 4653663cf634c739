/-
  DERIVED. GIVEN WITH THE SEED: THE CARDS: each row of YtnjicfhmheaccaaDoorRows.lean that lists a variable, with what it lists TIED to the program's text (the seventh form; the later family's looks); each row that meets fmt, with fmt's text TOLD by the authors' own Lean function (tested against real Go, not proved from fmt's source: count such statements apart). THE CARD IS WHAT COUNTS. Prove the row's statement (the work); the ties are given (YtnjicfhmheaccaaDoorTie.lean); close each card by the builder's one call (the guide's Derived/Test/ToyasCard.lean, 'card_holds'). Laid BY PROGRAM, IN A SANDBOX (cutbox-door.mjs). By AI agents, Wed Nov 11 2026. No macro, syntax, notation, axiom, sorry.
-/
import Derived.Test.YtnjicfhmheaccaaDoorRows
import GoSem.ClaimSeven
namespace Go.Proofs.YtnjicfhmheaccaaDoor
namespace Rows

/-- THE TIED CARD OF 'scrapbooklaw.BaseBack'. -/
def baseBackCard : Claim7 := { stood := { row := baseBackRow, standIns := [], harness := (true, "de0064e640798a3a4b86517d578b559ebbd6c7cd966acafe8cc4d86af71afc95"), looks := true }, kinds := [], alts := [], laidByText := true, laidKinds := [.data, .pinned], laidTests := true, laidLooks := .later }
def BaseBackCardSaid : Prop := Claim7.holds Tryd.pinned (.plain (OpenSpec.ofChange baseBackSpec)) baseBackCard

/-- THE TIED CARD OF 'scrapbooklaw.QuoteSays'. -/
def quoteSaysCard : Claim7 := { stood := { row := quoteSaysRow, standIns := [], harness := (true, "de0064e640798a3a4b86517d578b559ebbd6c7cd966acafe8cc4d86af71afc95"), looks := true }, kinds := [], alts := [], laidByText := true, laidKinds := [.data, .data, .data, .data, .sentinel, .sentinel, .pinned, .pinned], laidTests := true, laidLooks := .later }
def QuoteSaysCardSaid : Prop := Claim7.holds Tryd.pinned (.plain (OpenSpec.ofChange quoteSaysSpec)) quoteSaysCard

/-- THE TIED CARD OF 'scrapbooklaw.QuoteBack'. -/
def quoteBackCard : Claim7 := { stood := { row := quoteBackRow, standIns := [], harness := (true, "de0064e640798a3a4b86517d578b559ebbd6c7cd966acafe8cc4d86af71afc95"), looks := true }, kinds := [], alts := [], laidByText := true, laidKinds := [.data, .pinned], laidTests := true, laidLooks := .later }
def QuoteBackCardSaid : Prop := Claim7.holds Tryd.pinned (.plain (OpenSpec.ofChange quoteBackSpec)) quoteBackCard

/-- THE TIED CARD OF 'scrapbooklaw.QuoteParts'. -/
def quotePartsCard : Claim7 := { stood := { row := quotePartsRow, standIns := [], harness := (true, "de0064e640798a3a4b86517d578b559ebbd6c7cd966acafe8cc4d86af71afc95"), looks := true }, kinds := [], alts := [], laidByText := true, laidKinds := [.data, .pinned], laidTests := true, laidLooks := .later }
def QuotePartsCardSaid : Prop := Claim7.holds Tryd.pinned (.plain (OpenSpec.ofChange quotePartsSpec)) quotePartsCard

/-- THE SECOND FORM's CARD OF 'scrapbooklaw.BaseBack'. -/
def baseBackUptoCard : Claim7 := { stood := { row := baseBackUptoRow, standIns := [], harness := (true, "de0064e640798a3a4b86517d578b559ebbd6c7cd966acafe8cc4d86af71afc95"), looks := true }, kinds := [], alts := [], laidByText := true, laidKinds := [.data, .pinned], laidTests := true, laidLooks := .later }
def BaseBackUptoCardSaid : Prop := Claim7.holds Tryd.pinned (.plain (OpenSpec.upto baseBackSpec)) baseBackUptoCard

/-- THE SECOND FORM's CARD OF 'scrapbooklaw.QuoteSays'. -/
def quoteSaysUptoCard : Claim7 := { stood := { row := quoteSaysUptoRow, standIns := [], harness := (true, "de0064e640798a3a4b86517d578b559ebbd6c7cd966acafe8cc4d86af71afc95"), looks := true }, kinds := [], alts := [], laidByText := true, laidKinds := [.data, .data, .data, .data, .sentinel, .sentinel, .pinned, .pinned], laidTests := true, laidLooks := .later }
def QuoteSaysUptoCardSaid : Prop := Claim7.holds Tryd.pinned (.plain (OpenSpec.upto quoteSaysSpec)) quoteSaysUptoCard

/-- THE SECOND FORM's CARD OF 'scrapbooklaw.QuoteBack'. -/
def quoteBackUptoCard : Claim7 := { stood := { row := quoteBackUptoRow, standIns := [], harness := (true, "de0064e640798a3a4b86517d578b559ebbd6c7cd966acafe8cc4d86af71afc95"), looks := true }, kinds := [], alts := [], laidByText := true, laidKinds := [.data, .pinned], laidTests := true, laidLooks := .later }
def QuoteBackUptoCardSaid : Prop := Claim7.holds Tryd.pinned (.plain (OpenSpec.upto quoteBackSpec)) quoteBackUptoCard

/-- THE SECOND FORM's CARD OF 'scrapbooklaw.QuoteParts'. -/
def quotePartsUptoCard : Claim7 := { stood := { row := quotePartsUptoRow, standIns := [], harness := (true, "de0064e640798a3a4b86517d578b559ebbd6c7cd966acafe8cc4d86af71afc95"), looks := true }, kinds := [], alts := [], laidByText := true, laidKinds := [.data, .pinned], laidTests := true, laidLooks := .later }
def QuotePartsUptoCardSaid : Prop := Claim7.holds Tryd.pinned (.plain (OpenSpec.upto quotePartsSpec)) quotePartsUptoCard
end Rows
end Go.Proofs.YtnjicfhmheaccaaDoor

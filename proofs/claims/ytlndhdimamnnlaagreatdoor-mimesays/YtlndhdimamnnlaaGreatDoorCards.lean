/-
  DERIVED. GIVEN WITH THE SEED: THE CARDS: each row of YtlndhdimamnnlaaGreatDoorRows.lean that lists a variable, with what it lists TIED to the program's text (the seventh form; the later family's looks); each row that meets fmt, with fmt's text TOLD by the authors' own Lean function (tested against real Go, not proved from fmt's source: count such statements apart). THE CARD IS WHAT COUNTS. Prove the row's statement (the work); the ties are given (YtlndhdimamnnlaaGreatDoorTie.lean); close each card by the builder's one call (the guide's Derived/Test/ToyasCard.lean, 'card_holds'). Laid BY PROGRAM, IN A SANDBOX (cutbox-door.mjs). By AI agents, Wed Nov 11 2026. No macro, syntax, notation, axiom, sorry.
-/
import Derived.Test.YtlndhdimamnnlaaGreatDoorRows
import GoSem.ClaimSeven
namespace Go.Proofs.YtlndhdimamnnlaaGreatDoor
namespace Rows

/-- THE TIED CARD OF 'scrapbooklaw.MimeSays'. -/
def mimeSaysCard : Claim7 := { stood := { row := mimeSaysRow, standIns := [], harness := (true, "8ef22ee96531de533c73e59489674ec9da2d679af5c73602d5c37cf48e9356f2"), looks := true }, kinds := [], alts := [], laidByText := true, laidKinds := [.data, .data, .data, .data, .sentinel, .sentinel, .data, .data, .data, .pinned, .pinned], laidTests := true, laidLooks := .later }
def MimeSaysCardSaid : Prop := Claim7.holds Tryz.pinned (.plain (OpenSpec.ofChange mimeSaysSpec)) mimeSaysCard

/-- THE TIED CARD OF 'scrapbooklaw.MimeWraps'. -/
def mimeWrapsCard : Claim7 := { stood := { row := mimeWrapsRow, standIns := [], harness := (true, "8ef22ee96531de533c73e59489674ec9da2d679af5c73602d5c37cf48e9356f2"), looks := true }, kinds := [], alts := [], laidByText := true, laidKinds := [.data, .data, .data, .data, .data, .data, .data, .pinned, .pinned], laidTests := true, laidLooks := .later }
def MimeWrapsCardSaid : Prop := Claim7.holds Tryz.pinned (.plain (OpenSpec.ofChange mimeWrapsSpec)) mimeWrapsCard

/-- THE SECOND FORM's CARD OF 'scrapbooklaw.MimeSays'. -/
def mimeSaysUptoCard : Claim7 := { stood := { row := mimeSaysUptoRow, standIns := [], harness := (true, "8ef22ee96531de533c73e59489674ec9da2d679af5c73602d5c37cf48e9356f2"), looks := true }, kinds := [], alts := [], laidByText := true, laidKinds := [.data, .data, .data, .data, .sentinel, .sentinel, .data, .data, .data, .pinned, .pinned], laidTests := true, laidLooks := .later }
def MimeSaysUptoCardSaid : Prop := Claim7.holds Tryz.pinned (.plain (OpenSpec.upto mimeSaysSpec)) mimeSaysUptoCard

/-- THE SECOND FORM's CARD OF 'scrapbooklaw.MimeWraps'. -/
def mimeWrapsUptoCard : Claim7 := { stood := { row := mimeWrapsUptoRow, standIns := [], harness := (true, "8ef22ee96531de533c73e59489674ec9da2d679af5c73602d5c37cf48e9356f2"), looks := true }, kinds := [], alts := [], laidByText := true, laidKinds := [.data, .data, .data, .data, .data, .data, .data, .pinned, .pinned], laidTests := true, laidLooks := .later }
def MimeWrapsUptoCardSaid : Prop := Claim7.holds Tryz.pinned (.plain (OpenSpec.upto mimeWrapsSpec)) mimeWrapsUptoCard
end Rows
end Go.Proofs.YtlndhdimamnnlaaGreatDoor

/-
  DERIVED. GIVEN WITH THE SEED: THE CARDS: each row of YtpgnkhaanoalhaaGreatDoorRows.lean that lists a variable, with what it lists TIED to the program's text (the seventh form; the later family's looks); each row that meets fmt, with fmt's text TOLD by the authors' own Lean function (tested against real Go, not proved from fmt's source: count such statements apart). THE CARD IS WHAT COUNTS. Prove the row's statement (the work); the ties are given (YtpgnkhaanoalhaaGreatDoorTie.lean); close each card by the builder's one call (the guide's Derived/Test/ToyasCard.lean, 'card_holds'). Laid BY PROGRAM, IN A SANDBOX (cutbox-door.mjs). By AI agents, Wed Nov 11 2026. No macro, syntax, notation, axiom, sorry.
-/
import Derived.Test.YtpgnkhaanoalhaaGreatDoorRows
import GoSem.ClaimSeven
namespace Go.Proofs.YtpgnkhaanoalhaaGreatDoor
namespace Rows

/-- THE TIED CARD OF 'scrapbooklaw.MimeSays'. -/
def mimeSaysCard : Claim7 := { stood := { row := mimeSaysRow, standIns := [], harness := (true, "2dd9f25069e04d2c46f8ee5a89e25337ff2a2e45c335377d515d49f59191e73f"), looks := true }, kinds := [], alts := [], laidByText := true, laidKinds := [.data, .data, .data, .data, .sentinel, .sentinel, .data, .data, .data, .pinned, .pinned], laidTests := true, laidLooks := .later }
def MimeSaysCardSaid : Prop := Claim7.holds Tryz.pinned (.plain (OpenSpec.ofChange mimeSaysSpec)) mimeSaysCard

/-- THE TIED CARD OF 'scrapbooklaw.MimeBack'. -/
def mimeBackCard : Claim7 := { stood := { row := mimeBackRow, standIns := [], harness := (true, "2dd9f25069e04d2c46f8ee5a89e25337ff2a2e45c335377d515d49f59191e73f"), looks := true }, kinds := [], alts := [], laidByText := true, laidKinds := [.data, .data, .data, .data, .data, .data, .data, .pinned, .pinned], laidTests := true, laidLooks := .later }
def MimeBackCardSaid : Prop := Claim7.holds Tryz.pinned (.plain (OpenSpec.ofChange mimeBackSpec)) mimeBackCard

/-- THE TIED CARD OF 'scrapbooklaw.MimeWraps'. -/
def mimeWrapsCard : Claim7 := { stood := { row := mimeWrapsRow, standIns := [], harness := (true, "2dd9f25069e04d2c46f8ee5a89e25337ff2a2e45c335377d515d49f59191e73f"), looks := true }, kinds := [], alts := [], laidByText := true, laidKinds := [.data, .data, .data, .data, .data, .data, .data, .pinned, .pinned], laidTests := true, laidLooks := .later }
def MimeWrapsCardSaid : Prop := Claim7.holds Tryz.pinned (.plain (OpenSpec.ofChange mimeWrapsSpec)) mimeWrapsCard

/-- THE TIED CARD OF 'scrapbooklaw.MimeHow'. -/
def mimeHowCard : Claim7 := { stood := { row := mimeHowRow, standIns := [], harness := (true, "2dd9f25069e04d2c46f8ee5a89e25337ff2a2e45c335377d515d49f59191e73f"), looks := true }, kinds := [], alts := [], laidByText := true, laidKinds := [.data, .data, .data, .data, .data, .data, .data, .pinned, .pinned], laidTests := true, laidLooks := .later }
def MimeHowCardSaid : Prop := Claim7.holds Tryz.pinned (.plain (OpenSpec.ofChange mimeHowSpec)) mimeHowCard

/-- THE TIED CARD OF 'scrapbooklaw.MimeBorders'. -/
def mimeBordersCard : Claim7 := { stood := { row := mimeBordersRow, standIns := [], harness := (true, "2dd9f25069e04d2c46f8ee5a89e25337ff2a2e45c335377d515d49f59191e73f"), looks := true }, kinds := [], alts := [], laidByText := true, laidKinds := [.data, .data, .data, .data, .data, .data, .data, .pinned, .pinned], laidTests := true, laidLooks := .later }
def MimeBordersCardSaid : Prop := Claim7.holds Tryz.pinned (.plain (OpenSpec.ofChange mimeBordersSpec)) mimeBordersCard

/-- THE SECOND FORM's CARD OF 'scrapbooklaw.MimeSays'. -/
def mimeSaysUptoCard : Claim7 := { stood := { row := mimeSaysUptoRow, standIns := [], harness := (true, "2dd9f25069e04d2c46f8ee5a89e25337ff2a2e45c335377d515d49f59191e73f"), looks := true }, kinds := [], alts := [], laidByText := true, laidKinds := [.data, .data, .data, .data, .sentinel, .sentinel, .data, .data, .data, .pinned, .pinned], laidTests := true, laidLooks := .later }
def MimeSaysUptoCardSaid : Prop := Claim7.holds Tryz.pinned (.plain (OpenSpec.upto mimeSaysSpec)) mimeSaysUptoCard

/-- THE SECOND FORM's CARD OF 'scrapbooklaw.MimeBack'. -/
def mimeBackUptoCard : Claim7 := { stood := { row := mimeBackUptoRow, standIns := [], harness := (true, "2dd9f25069e04d2c46f8ee5a89e25337ff2a2e45c335377d515d49f59191e73f"), looks := true }, kinds := [], alts := [], laidByText := true, laidKinds := [.data, .data, .data, .data, .data, .data, .data, .pinned, .pinned], laidTests := true, laidLooks := .later }
def MimeBackUptoCardSaid : Prop := Claim7.holds Tryz.pinned (.plain (OpenSpec.upto mimeBackSpec)) mimeBackUptoCard

/-- THE SECOND FORM's CARD OF 'scrapbooklaw.MimeWraps'. -/
def mimeWrapsUptoCard : Claim7 := { stood := { row := mimeWrapsUptoRow, standIns := [], harness := (true, "2dd9f25069e04d2c46f8ee5a89e25337ff2a2e45c335377d515d49f59191e73f"), looks := true }, kinds := [], alts := [], laidByText := true, laidKinds := [.data, .data, .data, .data, .data, .data, .data, .pinned, .pinned], laidTests := true, laidLooks := .later }
def MimeWrapsUptoCardSaid : Prop := Claim7.holds Tryz.pinned (.plain (OpenSpec.upto mimeWrapsSpec)) mimeWrapsUptoCard

/-- THE SECOND FORM's CARD OF 'scrapbooklaw.MimeHow'. -/
def mimeHowUptoCard : Claim7 := { stood := { row := mimeHowUptoRow, standIns := [], harness := (true, "2dd9f25069e04d2c46f8ee5a89e25337ff2a2e45c335377d515d49f59191e73f"), looks := true }, kinds := [], alts := [], laidByText := true, laidKinds := [.data, .data, .data, .data, .data, .data, .data, .pinned, .pinned], laidTests := true, laidLooks := .later }
def MimeHowUptoCardSaid : Prop := Claim7.holds Tryz.pinned (.plain (OpenSpec.upto mimeHowSpec)) mimeHowUptoCard

/-- THE SECOND FORM's CARD OF 'scrapbooklaw.MimeBorders'. -/
def mimeBordersUptoCard : Claim7 := { stood := { row := mimeBordersUptoRow, standIns := [], harness := (true, "2dd9f25069e04d2c46f8ee5a89e25337ff2a2e45c335377d515d49f59191e73f"), looks := true }, kinds := [], alts := [], laidByText := true, laidKinds := [.data, .data, .data, .data, .data, .data, .data, .pinned, .pinned], laidTests := true, laidLooks := .later }
def MimeBordersUptoCardSaid : Prop := Claim7.holds Tryz.pinned (.plain (OpenSpec.upto mimeBordersSpec)) mimeBordersUptoCard
end Rows
end Go.Proofs.YtpgnkhaanoalhaaGreatDoor

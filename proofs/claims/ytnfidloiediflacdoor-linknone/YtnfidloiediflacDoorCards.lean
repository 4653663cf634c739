/-
  DERIVED. GIVEN WITH THE SEED: THE CARDS: each row of YtnfidloiediflacDoorRows.lean that lists a variable, with what it lists TIED to the program's text (the seventh form; the later family's looks); each row that meets fmt, with fmt's text TOLD by the authors' own Lean function (tested against real Go, not proved from fmt's source: count such statements apart). THE CARD IS WHAT COUNTS. Prove the row's statement (the work); the ties are given (YtnfidloiediflacDoorTie.lean); close each card by the builder's one call (the guide's Derived/Test/ToyasCard.lean, 'card_holds'). Laid BY PROGRAM, IN A SANDBOX (cutbox-door.mjs). By AI agents, Wed Nov 11 2026. No macro, syntax, notation, axiom, sorry.
-/
import Derived.Test.YtnfidloiediflacDoorRows
import GoSem.ClaimSeven
namespace Go.Proofs.YtnfidloiediflacDoor
namespace Rows

/-- THE TIED CARD OF 'scrapbooklaw.LinkPuts'. -/
def linkPutsCard : Claim7 := { stood := { row := linkPutsRow, standIns := [], harness := (true, "db11b3f02cda1a30dbdf7ee5df4f920338ba01831044acc075aa60b2013f8071"), looks := false }, kinds := [], alts := [], laidByText := true, laidKinds := [.data, .pinned, .pinned], laidTests := true, laidLooks := .later }
def LinkPutsCardSaid : Prop := Claim7.holds Tryd.pinned (.plain (OpenSpec.ofChange linkPutsSpec)) linkPutsCard

/-- THE TIED CARD OF 'scrapbooklaw.LinkNone'. -/
def linkNoneCard : Claim7 := { stood := { row := linkNoneRow, standIns := [], harness := (true, "db11b3f02cda1a30dbdf7ee5df4f920338ba01831044acc075aa60b2013f8071"), looks := false }, kinds := [], alts := [], laidByText := true, laidKinds := [.data, .pinned, .pinned], laidTests := true, laidLooks := .later }
def LinkNoneCardSaid : Prop := Claim7.holds Tryd.pinned (.plain (OpenSpec.ofChange linkNoneSpec)) linkNoneCard

/-- THE SECOND FORM's CARD OF 'scrapbooklaw.LinkPuts'. -/
def linkPutsUptoCard : Claim7 := { stood := { row := linkPutsUptoRow, standIns := [], harness := (true, "db11b3f02cda1a30dbdf7ee5df4f920338ba01831044acc075aa60b2013f8071"), looks := false }, kinds := [], alts := [], laidByText := true, laidKinds := [.data, .pinned, .pinned], laidTests := true, laidLooks := .later }
def LinkPutsUptoCardSaid : Prop := Claim7.holds Tryd.pinned (.plain (OpenSpec.upto linkPutsSpec)) linkPutsUptoCard

/-- THE SECOND FORM's CARD OF 'scrapbooklaw.LinkNone'. -/
def linkNoneUptoCard : Claim7 := { stood := { row := linkNoneUptoRow, standIns := [], harness := (true, "db11b3f02cda1a30dbdf7ee5df4f920338ba01831044acc075aa60b2013f8071"), looks := false }, kinds := [], alts := [], laidByText := true, laidKinds := [.data, .pinned, .pinned], laidTests := true, laidLooks := .later }
def LinkNoneUptoCardSaid : Prop := Claim7.holds Tryd.pinned (.plain (OpenSpec.upto linkNoneSpec)) linkNoneUptoCard
end Rows
end Go.Proofs.YtnfidloiediflacDoor

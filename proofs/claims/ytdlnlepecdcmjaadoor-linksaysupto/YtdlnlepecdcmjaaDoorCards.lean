/-
  DERIVED. GIVEN WITH THE SEED: THE CARDS: each row of YtdlnlepecdcmjaaDoorRows.lean that lists a variable, with what it lists TIED to the program's text (the seventh form; the later family's looks); each row that meets fmt, with fmt's text TOLD by the authors' own Lean function (tested against real Go, not proved from fmt's source: count such statements apart). THE CARD IS WHAT COUNTS. Prove the row's statement (the work); the ties are given (YtdlnlepecdcmjaaDoorTie.lean); close each card by the builder's one call (the guide's Derived/Test/ToyasCard.lean, 'card_holds'). Laid BY PROGRAM, IN A SANDBOX (cutbox-door.mjs). By AI agents, Wed Nov 11 2026. No macro, syntax, notation, axiom, sorry.
-/
import Derived.Test.YtdlnlepecdcmjaaDoorRows
import GoSem.ClaimSeven
namespace Go.Proofs.YtdlnlepecdcmjaaDoor
namespace Rows

/-- THE TIED CARD OF 'scrapbooklaw.LinkSays'. -/
def linkSaysCard : Claim7 := { stood := { row := linkSaysRow, standIns := [], harness := (true, "db90837e87718caf0b8b88005b44086ead4fef45ac077e71b6b2614ef8e2c071"), looks := false }, kinds := [], alts := [], laidByText := true, laidKinds := [.data, .pinned, .pinned], laidTests := true, laidLooks := .later }
def LinkSaysCardSaid : Prop := Claim7.holds Tryd.pinned (.plain (OpenSpec.ofChange linkSaysSpec)) linkSaysCard

/-- THE SECOND FORM's CARD OF 'scrapbooklaw.LinkSays'. -/
def linkSaysUptoCard : Claim7 := { stood := { row := linkSaysUptoRow, standIns := [], harness := (true, "db90837e87718caf0b8b88005b44086ead4fef45ac077e71b6b2614ef8e2c071"), looks := false }, kinds := [], alts := [], laidByText := true, laidKinds := [.data, .pinned, .pinned], laidTests := true, laidLooks := .later }
def LinkSaysUptoCardSaid : Prop := Claim7.holds Tryd.pinned (.plain (OpenSpec.upto linkSaysSpec)) linkSaysUptoCard
end Rows
end Go.Proofs.YtdlnlepecdcmjaaDoor

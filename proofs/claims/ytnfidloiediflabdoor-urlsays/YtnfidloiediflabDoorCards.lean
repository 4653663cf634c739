/-
  DERIVED. GIVEN WITH THE SEED: THE CARDS: each row of YtnfidloiediflabDoorRows.lean that lists a variable, with what it lists TIED to the program's text (the seventh form; the later family's looks); each row that meets fmt, with fmt's text TOLD by the authors' own Lean function (tested against real Go, not proved from fmt's source: count such statements apart). THE CARD IS WHAT COUNTS. Prove the row's statement (the work); the ties are given (YtnfidloiediflabDoorTie.lean); close each card by the builder's one call (the guide's Derived/Test/ToyasCard.lean, 'card_holds'). Laid BY PROGRAM, IN A SANDBOX (cutbox-door.mjs). By AI agents, Wed Nov 11 2026. No macro, syntax, notation, axiom, sorry.
-/
import Derived.Test.YtnfidloiediflabDoorRows
import GoSem.ClaimSeven
namespace Go.Proofs.YtnfidloiediflabDoor
namespace Rows

/-- THE TIED CARD OF 'scrapbooklaw.URLSays'. -/
def uRLSaysCard : Claim7 := { stood := { row := uRLSaysRow, standIns := [], harness := (true, "653dbff988a3880880726e43dddbbb18a62041309b3b541176763b5931e22f6c"), looks := false }, kinds := [], alts := [], laidByText := true, laidKinds := [.data, .pinned], laidTests := true, laidLooks := .later }
def URLSaysCardSaid : Prop := Claim7.holds Tryd.pinned (.plain (OpenSpec.ofChange uRLSaysSpec)) uRLSaysCard

/-- THE TIED CARD OF 'scrapbooklaw.URLBack'. -/
def uRLBackCard : Claim7 := { stood := { row := uRLBackRow, standIns := [], harness := (true, "653dbff988a3880880726e43dddbbb18a62041309b3b541176763b5931e22f6c"), looks := false }, kinds := [], alts := [], laidByText := true, laidKinds := [.data, .data, .data, .pinned, .pinned], laidTests := true, laidLooks := .later }
def URLBackCardSaid : Prop := Claim7.holds Tryd.pinned (.plain (OpenSpec.ofChange uRLBackSpec)) uRLBackCard

/-- THE TIED CARD OF 'scrapbooklaw.URLLeads'. -/
def uRLLeadsCard : Claim7 := { stood := { row := uRLLeadsRow, standIns := [], harness := (true, "653dbff988a3880880726e43dddbbb18a62041309b3b541176763b5931e22f6c"), looks := false }, kinds := [], alts := [], laidByText := true, laidKinds := [.data, .pinned], laidTests := true, laidLooks := .later }
def URLLeadsCardSaid : Prop := Claim7.holds Tryd.pinned (.plain (OpenSpec.ofChange uRLLeadsSpec)) uRLLeadsCard

/-- THE TIED CARD OF 'scrapbooklaw.URLPaths'. -/
def uRLPathsCard : Claim7 := { stood := { row := uRLPathsRow, standIns := [], harness := (true, "653dbff988a3880880726e43dddbbb18a62041309b3b541176763b5931e22f6c"), looks := false }, kinds := [], alts := [], laidByText := true, laidKinds := [.data, .pinned], laidTests := true, laidLooks := .later }
def URLPathsCardSaid : Prop := Claim7.holds Tryd.pinned (.plain (OpenSpec.ofChange uRLPathsSpec)) uRLPathsCard

/-- THE TIED CARD OF 'scrapbooklaw.LinkSays'. -/
def linkSaysCard : Claim7 := { stood := { row := linkSaysRow, standIns := [], harness := (true, "653dbff988a3880880726e43dddbbb18a62041309b3b541176763b5931e22f6c"), looks := false }, kinds := [], alts := [], laidByText := true, laidKinds := [.data, .pinned, .pinned], laidTests := true, laidLooks := .later }
def LinkSaysCardSaid : Prop := Claim7.holds Tryd.pinned (.plain (OpenSpec.ofChange linkSaysSpec)) linkSaysCard

/-- THE SECOND FORM's CARD OF 'scrapbooklaw.URLSays'. -/
def uRLSaysUptoCard : Claim7 := { stood := { row := uRLSaysUptoRow, standIns := [], harness := (true, "653dbff988a3880880726e43dddbbb18a62041309b3b541176763b5931e22f6c"), looks := false }, kinds := [], alts := [], laidByText := true, laidKinds := [.data, .pinned], laidTests := true, laidLooks := .later }
def URLSaysUptoCardSaid : Prop := Claim7.holds Tryd.pinned (.plain (OpenSpec.upto uRLSaysSpec)) uRLSaysUptoCard

/-- THE SECOND FORM's CARD OF 'scrapbooklaw.URLBack'. -/
def uRLBackUptoCard : Claim7 := { stood := { row := uRLBackUptoRow, standIns := [], harness := (true, "653dbff988a3880880726e43dddbbb18a62041309b3b541176763b5931e22f6c"), looks := false }, kinds := [], alts := [], laidByText := true, laidKinds := [.data, .data, .data, .pinned, .pinned], laidTests := true, laidLooks := .later }
def URLBackUptoCardSaid : Prop := Claim7.holds Tryd.pinned (.plain (OpenSpec.upto uRLBackSpec)) uRLBackUptoCard

/-- THE SECOND FORM's CARD OF 'scrapbooklaw.URLLeads'. -/
def uRLLeadsUptoCard : Claim7 := { stood := { row := uRLLeadsUptoRow, standIns := [], harness := (true, "653dbff988a3880880726e43dddbbb18a62041309b3b541176763b5931e22f6c"), looks := false }, kinds := [], alts := [], laidByText := true, laidKinds := [.data, .pinned], laidTests := true, laidLooks := .later }
def URLLeadsUptoCardSaid : Prop := Claim7.holds Tryd.pinned (.plain (OpenSpec.upto uRLLeadsSpec)) uRLLeadsUptoCard

/-- THE SECOND FORM's CARD OF 'scrapbooklaw.URLPaths'. -/
def uRLPathsUptoCard : Claim7 := { stood := { row := uRLPathsUptoRow, standIns := [], harness := (true, "653dbff988a3880880726e43dddbbb18a62041309b3b541176763b5931e22f6c"), looks := false }, kinds := [], alts := [], laidByText := true, laidKinds := [.data, .pinned], laidTests := true, laidLooks := .later }
def URLPathsUptoCardSaid : Prop := Claim7.holds Tryd.pinned (.plain (OpenSpec.upto uRLPathsSpec)) uRLPathsUptoCard

/-- THE SECOND FORM's CARD OF 'scrapbooklaw.LinkSays'. -/
def linkSaysUptoCard : Claim7 := { stood := { row := linkSaysUptoRow, standIns := [], harness := (true, "653dbff988a3880880726e43dddbbb18a62041309b3b541176763b5931e22f6c"), looks := false }, kinds := [], alts := [], laidByText := true, laidKinds := [.data, .pinned, .pinned], laidTests := true, laidLooks := .later }
def LinkSaysUptoCardSaid : Prop := Claim7.holds Tryd.pinned (.plain (OpenSpec.upto linkSaysSpec)) linkSaysUptoCard
end Rows
end Go.Proofs.YtnfidloiediflabDoor

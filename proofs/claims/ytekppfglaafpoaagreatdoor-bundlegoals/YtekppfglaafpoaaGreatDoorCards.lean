/-
  DERIVED. GIVEN WITH THE SEED: THE CARDS: each row of YtekppfglaafpoaaGreatDoorRows.lean that lists a variable, with what it lists TIED to the program's text (the seventh form; the later family's looks); each row that meets fmt, with fmt's text TOLD by the authors' own Lean function (tested against real Go, not proved from fmt's source: count such statements apart). THE CARD IS WHAT COUNTS. Prove the row's statement (the work); the ties are given (YtekppfglaafpoaaGreatDoorTie.lean); close each card by the builder's one call (the guide's Derived/Test/ToyasCard.lean, 'card_holds'). Laid BY PROGRAM, IN A SANDBOX (cutbox-door.mjs). By AI agents, Wed Nov 11 2026. No macro, syntax, notation, axiom, sorry.
-/
import Derived.Test.YtekppfglaafpoaaGreatDoorRows
import GoSem.ClaimSeven
namespace Go.Proofs.YtekppfglaafpoaaGreatDoor
namespace Rows

/-- THE TIED CARD OF 'scrapbooklaw.BundleSays'. -/
def bundleSaysCard : Claim7 := { stood := { row := bundleSaysRow, standIns := [], harness := (true, "df49a206a911424144f22ef668781c49d2a6a9a401b5ab747ced23bca0604a90"), looks := false }, kinds := [], alts := [], laidByText := true, laidKinds := [.data, .pinned, .pinned], laidTests := true, laidLooks := .later }
def BundleSaysCardSaid : Prop := Claim7.holds Tryz.pinned (.plain (OpenSpec.ofChange bundleSaysSpec)) bundleSaysCard

/-- THE TIED CARD OF 'scrapbooklaw.BundleGoals'. -/
def bundleGoalsCard : Claim7 := { stood := { row := bundleGoalsRow, standIns := [], harness := (true, "df49a206a911424144f22ef668781c49d2a6a9a401b5ab747ced23bca0604a90"), looks := false }, kinds := [], alts := [], laidByText := true, laidKinds := [.data, .pinned, .pinned], laidTests := true, laidLooks := .later }
def BundleGoalsCardSaid : Prop := Claim7.holds Tryz.pinned (.plain (OpenSpec.ofChange bundleGoalsSpec)) bundleGoalsCard

/-- THE TIED CARD OF 'scrapbooklaw.BundleMore'. -/
def bundleMoreCard : Claim7 := { stood := { row := bundleMoreRow, standIns := [], harness := (true, "df49a206a911424144f22ef668781c49d2a6a9a401b5ab747ced23bca0604a90"), looks := false }, kinds := [], alts := [], laidByText := true, laidKinds := [.data, .pinned, .pinned], laidTests := true, laidLooks := .later }
def BundleMoreCardSaid : Prop := Claim7.holds Tryz.pinned (.plain (OpenSpec.ofChange bundleMoreSpec)) bundleMoreCard

/-- THE TIED CARD OF 'scrapbooklaw.BundleWhere'. -/
def bundleWhereCard : Claim7 := { stood := { row := bundleWhereRow, standIns := [], harness := (true, "df49a206a911424144f22ef668781c49d2a6a9a401b5ab747ced23bca0604a90"), looks := false }, kinds := [], alts := [], laidByText := true, laidKinds := [.data, .pinned, .pinned], laidTests := true, laidLooks := .later }
def BundleWhereCardSaid : Prop := Claim7.holds Tryz.pinned (.plain (OpenSpec.ofChange bundleWhereSpec)) bundleWhereCard

/-- THE SECOND FORM's CARD OF 'scrapbooklaw.BundleSays'. -/
def bundleSaysUptoCard : Claim7 := { stood := { row := bundleSaysUptoRow, standIns := [], harness := (true, "df49a206a911424144f22ef668781c49d2a6a9a401b5ab747ced23bca0604a90"), looks := false }, kinds := [], alts := [], laidByText := true, laidKinds := [.data, .pinned, .pinned], laidTests := true, laidLooks := .later }
def BundleSaysUptoCardSaid : Prop := Claim7.holds Tryz.pinned (.plain (OpenSpec.upto bundleSaysSpec)) bundleSaysUptoCard

/-- THE SECOND FORM's CARD OF 'scrapbooklaw.BundleGoals'. -/
def bundleGoalsUptoCard : Claim7 := { stood := { row := bundleGoalsUptoRow, standIns := [], harness := (true, "df49a206a911424144f22ef668781c49d2a6a9a401b5ab747ced23bca0604a90"), looks := false }, kinds := [], alts := [], laidByText := true, laidKinds := [.data, .pinned, .pinned], laidTests := true, laidLooks := .later }
def BundleGoalsUptoCardSaid : Prop := Claim7.holds Tryz.pinned (.plain (OpenSpec.upto bundleGoalsSpec)) bundleGoalsUptoCard

/-- THE SECOND FORM's CARD OF 'scrapbooklaw.BundleMore'. -/
def bundleMoreUptoCard : Claim7 := { stood := { row := bundleMoreUptoRow, standIns := [], harness := (true, "df49a206a911424144f22ef668781c49d2a6a9a401b5ab747ced23bca0604a90"), looks := false }, kinds := [], alts := [], laidByText := true, laidKinds := [.data, .pinned, .pinned], laidTests := true, laidLooks := .later }
def BundleMoreUptoCardSaid : Prop := Claim7.holds Tryz.pinned (.plain (OpenSpec.upto bundleMoreSpec)) bundleMoreUptoCard

/-- THE SECOND FORM's CARD OF 'scrapbooklaw.BundleWhere'. -/
def bundleWhereUptoCard : Claim7 := { stood := { row := bundleWhereUptoRow, standIns := [], harness := (true, "df49a206a911424144f22ef668781c49d2a6a9a401b5ab747ced23bca0604a90"), looks := false }, kinds := [], alts := [], laidByText := true, laidKinds := [.data, .pinned, .pinned], laidTests := true, laidLooks := .later }
def BundleWhereUptoCardSaid : Prop := Claim7.holds Tryz.pinned (.plain (OpenSpec.upto bundleWhereSpec)) bundleWhereUptoCard
end Rows
end Go.Proofs.YtekppfglaafpoaaGreatDoor

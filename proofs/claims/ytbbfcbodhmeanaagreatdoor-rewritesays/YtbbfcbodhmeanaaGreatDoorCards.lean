/-
  DERIVED. GIVEN WITH THE SEED: THE CARDS: each row of YtbbfcbodhmeanaaGreatDoorRows.lean that lists a variable, with what it lists TIED to the program's text (the seventh form; the later family's looks); each row that meets fmt, with fmt's text TOLD by the authors' own Lean function (tested against real Go, not proved from fmt's source: count such statements apart). THE CARD IS WHAT COUNTS. Prove the row's statement (the work); the ties are given (YtbbfcbodhmeanaaGreatDoorTie.lean); close each card by the builder's one call (the guide's Derived/Test/ToyasCard.lean, 'card_holds'). Laid BY PROGRAM, IN A SANDBOX (cutbox-door.mjs). By AI agents, Wed Nov 11 2026. No macro, syntax, notation, axiom, sorry.
-/
import Derived.Test.YtbbfcbodhmeanaaGreatDoorRows
import GoSem.ClaimSeven
namespace Go.Proofs.YtbbfcbodhmeanaaGreatDoor
namespace Rows

/-- THE TIED CARD OF 'scrapbooklaw.BundleSays'. -/
def bundleSaysCard : Claim7 := { stood := { row := bundleSaysRow, standIns := [], harness := (true, "991646ffe6793a36efb72c488c3906877b472892e8f598ff830ebe891afe6072"), looks := false }, kinds := [], alts := [], laidByText := true, laidKinds := [.data, .pinned, .pinned], laidTests := true, laidLooks := .later }
def BundleSaysCardSaid : Prop := Claim7.holds Tryz.pinned (.plain (OpenSpec.ofChange bundleSaysSpec)) bundleSaysCard

/-- THE TIED CARD OF 'scrapbooklaw.BundleMore'. -/
def bundleMoreCard : Claim7 := { stood := { row := bundleMoreRow, standIns := [], harness := (true, "991646ffe6793a36efb72c488c3906877b472892e8f598ff830ebe891afe6072"), looks := false }, kinds := [], alts := [], laidByText := true, laidKinds := [.data, .pinned, .pinned], laidTests := true, laidLooks := .later }
def BundleMoreCardSaid : Prop := Claim7.holds Tryz.pinned (.plain (OpenSpec.ofChange bundleMoreSpec)) bundleMoreCard

/-- THE TIED CARD OF 'scrapbooklaw.RewriteSays'. -/
def rewriteSaysCard : Claim7 := { stood := { row := rewriteSaysRow, standIns := [], harness := (true, "991646ffe6793a36efb72c488c3906877b472892e8f598ff830ebe891afe6072"), looks := false }, kinds := [], alts := [], laidByText := true, laidKinds := [.data, .pinned, .pinned], laidTests := true, laidLooks := .later }
def RewriteSaysCardSaid : Prop := Claim7.holds Tryz.pinned (.plain (OpenSpec.ofChange rewriteSaysSpec)) rewriteSaysCard

/-- THE TIED CARD OF 'scrapbooklaw.RewriteNone'. -/
def rewriteNoneCard : Claim7 := { stood := { row := rewriteNoneRow, standIns := [], harness := (true, "991646ffe6793a36efb72c488c3906877b472892e8f598ff830ebe891afe6072"), looks := false }, kinds := [], alts := [], laidByText := true, laidKinds := [.data, .pinned, .pinned], laidTests := true, laidLooks := .later }
def RewriteNoneCardSaid : Prop := Claim7.holds Tryz.pinned (.plain (OpenSpec.ofChange rewriteNoneSpec)) rewriteNoneCard

/-- THE TIED CARD OF 'scrapbooklaw.RewriteOnly'. -/
def rewriteOnlyCard : Claim7 := { stood := { row := rewriteOnlyRow, standIns := [], harness := (true, "991646ffe6793a36efb72c488c3906877b472892e8f598ff830ebe891afe6072"), looks := false }, kinds := [], alts := [], laidByText := true, laidKinds := [.data, .pinned, .pinned], laidTests := true, laidLooks := .later }
def RewriteOnlyCardSaid : Prop := Claim7.holds Tryz.pinned (.plain (OpenSpec.ofChange rewriteOnlySpec)) rewriteOnlyCard

/-- THE SECOND FORM's CARD OF 'scrapbooklaw.BundleSays'. -/
def bundleSaysUptoCard : Claim7 := { stood := { row := bundleSaysUptoRow, standIns := [], harness := (true, "991646ffe6793a36efb72c488c3906877b472892e8f598ff830ebe891afe6072"), looks := false }, kinds := [], alts := [], laidByText := true, laidKinds := [.data, .pinned, .pinned], laidTests := true, laidLooks := .later }
def BundleSaysUptoCardSaid : Prop := Claim7.holds Tryz.pinned (.plain (OpenSpec.upto bundleSaysSpec)) bundleSaysUptoCard

/-- THE SECOND FORM's CARD OF 'scrapbooklaw.BundleMore'. -/
def bundleMoreUptoCard : Claim7 := { stood := { row := bundleMoreUptoRow, standIns := [], harness := (true, "991646ffe6793a36efb72c488c3906877b472892e8f598ff830ebe891afe6072"), looks := false }, kinds := [], alts := [], laidByText := true, laidKinds := [.data, .pinned, .pinned], laidTests := true, laidLooks := .later }
def BundleMoreUptoCardSaid : Prop := Claim7.holds Tryz.pinned (.plain (OpenSpec.upto bundleMoreSpec)) bundleMoreUptoCard

/-- THE SECOND FORM's CARD OF 'scrapbooklaw.RewriteSays'. -/
def rewriteSaysUptoCard : Claim7 := { stood := { row := rewriteSaysUptoRow, standIns := [], harness := (true, "991646ffe6793a36efb72c488c3906877b472892e8f598ff830ebe891afe6072"), looks := false }, kinds := [], alts := [], laidByText := true, laidKinds := [.data, .pinned, .pinned], laidTests := true, laidLooks := .later }
def RewriteSaysUptoCardSaid : Prop := Claim7.holds Tryz.pinned (.plain (OpenSpec.upto rewriteSaysSpec)) rewriteSaysUptoCard

/-- THE SECOND FORM's CARD OF 'scrapbooklaw.RewriteNone'. -/
def rewriteNoneUptoCard : Claim7 := { stood := { row := rewriteNoneUptoRow, standIns := [], harness := (true, "991646ffe6793a36efb72c488c3906877b472892e8f598ff830ebe891afe6072"), looks := false }, kinds := [], alts := [], laidByText := true, laidKinds := [.data, .pinned, .pinned], laidTests := true, laidLooks := .later }
def RewriteNoneUptoCardSaid : Prop := Claim7.holds Tryz.pinned (.plain (OpenSpec.upto rewriteNoneSpec)) rewriteNoneUptoCard

/-- THE SECOND FORM's CARD OF 'scrapbooklaw.RewriteOnly'. -/
def rewriteOnlyUptoCard : Claim7 := { stood := { row := rewriteOnlyUptoRow, standIns := [], harness := (true, "991646ffe6793a36efb72c488c3906877b472892e8f598ff830ebe891afe6072"), looks := false }, kinds := [], alts := [], laidByText := true, laidKinds := [.data, .pinned, .pinned], laidTests := true, laidLooks := .later }
def RewriteOnlyUptoCardSaid : Prop := Claim7.holds Tryz.pinned (.plain (OpenSpec.upto rewriteOnlySpec)) rewriteOnlyUptoCard
end Rows
end Go.Proofs.YtbbfcbodhmeanaaGreatDoor

/-
  NARROWER THAN 'FOR EVERY INPUT', by the rows' own cells (each row's printed sentence says how): BundleSays: loops, laid · BundleMore: loops, laid · RewriteSays: loops, laid · RewriteNone: loops, laid · RewriteOnly: loops, laid.
  DERIVED. THE GIVEN ROWS OF THIS SEAT. 5 by the template 'for every input the law returns true; each argument reads behind the call as it read before'; 0 by the template 'total and deterministic' (their statements: YtbbfcbodhmeanaaGreatDoorTotals.lean).
  GIVEN WITH THE SEED: the statements are not yours to turn. If you find one false, say at which input.
  Laid BY PROGRAM, IN A SANDBOX (cutbox-rows.mjs): the forced cells as the released guide's own fill.sh prints them over the translation 2affd4dc3a7d6777… (all of the seat's roots in one cut). By AI agents, Wed Nov 11 2026. No macro, syntax, notation, axiom, sorry.
-/
import Derived.Test.YtbbfcbodhmeanaaGreatDoorChecked
import GoSem.PinnedTables
import GoSem.Claim
import GoSem.ClaimJoined
import GoSem.ClaimMapViews
import Derived.JoinedTies
import Derived.KernelRfl
namespace Go.Proofs.YtbbfcbodhmeanaaGreatDoor
/- THE CELL 'sum', in the pinned program and in every row, IS THE sha256 OF THE DUMP (.gsa) THAT YtbbfcbodhmeanaaGreatDoorProg.lean LOADS. Nothing in Lean hashes anything: it is a label: what it is worth is what the hold of that sum in a sandbox is worth. -/
noncomputable def Tryz.pinned : Pinned := { name := "ytbbfcbodhmeanaagreatdoor", sum := "2affd4dc3a7d6777fa043315bfc55b222f9cd218376408fe76d5450722b27961", checked := Tryz.checked }
namespace Rows
def none {H : Type} : Left H := { results := [], args := [] }

/- WHAT THE LISTED PACKAGE-LEVEL VARIABLES READ AS WHEN THE CALL BEGINS. Each datum BY PROGRAM (the guide's laid-datum.mjs) off the statement by which the dump's own 'gosem.cut.vars' lays the variable. In a bare row this is a premise. The card (YtbbfcbodhmeanaaGreatDoorCards.lean) ties it to the program's text. -/
def laid_unicode_utf8_acceptRanges {H : Type} : DataW H := .agg [.agg [.lit (.int .u8 128), .lit (.int .u8 191)], .agg [.lit (.int .u8 160), .lit (.int .u8 191)], .agg [.lit (.int .u8 128), .lit (.int .u8 159)], .agg [.lit (.int .u8 144), .lit (.int .u8 191)], .agg [.lit (.int .u8 128), .lit (.int .u8 143)], .agg [.lit (.int .u8 0), .lit (.int .u8 0)], .agg [.lit (.int .u8 0), .lit (.int .u8 0)], .agg [.lit (.int .u8 0), .lit (.int .u8 0)], .agg [.lit (.int .u8 0), .lit (.int .u8 0)], .agg [.lit (.int .u8 0), .lit (.int .u8 0)], .agg [.lit (.int .u8 0), .lit (.int .u8 0)], .agg [.lit (.int .u8 0), .lit (.int .u8 0)], .agg [.lit (.int .u8 0), .lit (.int .u8 0)], .agg [.lit (.int .u8 0), .lit (.int .u8 0)], .agg [.lit (.int .u8 0), .lit (.int .u8 0)], .agg [.lit (.int .u8 0), .lit (.int .u8 0)]]
/-- One of Go's own tables, pinned by name: the form's constant. -/
def laid_unicode_CaseRanges : DataW Unit := Go.Pinned.caseRanges
/-- One of Go's own tables, pinned by name: the form's constant. -/
def laid_unicode_utf8_first : DataW Unit := Go.Pinned.utf8First

/-- 'scrapbooklaw.BundleSays': WHATEVER THE INPUT: true; the input reads as it did. -/
def bundleSaysSpec : ChangeSpec := { name := "bundleSays", fn := fun _ => fun
  | [d1, d2, d3] => { results := [.lit (.bool true)], args := [d1, d2, d3] }
  | _ => none }
def bundleSaysRow : OpenClaim := { program := "ytbbfcbodhmeanaagreatdoor", sum := "2affd4dc3a7d6777fa043315bfc55b222f9cd218376408fe76d5450722b27961", func := "scrapbook/scrapbooklaw.BundleSays", spec := "bundleSays", inPlace := ["internal/bytealg.IndexByteString", "internal/bytealg.IndexString", "internal/bytealg.CountString", "internal/abi.NoEscape", "internal/bytealg.MakeNoZero"], unfollowed := true, recurses := true, named := ["internal/bytealg.MaxLen", "unicode/utf8.first", "unicode/utf8.acceptRanges", "unicode.CaseRanges"], loops := true, apart := false, laid := [("unicode/utf8.acceptRanges", laid_unicode_utf8_acceptRanges), ("unicode.CaseRanges", laid_unicode_CaseRanges), ("unicode/utf8.first", laid_unicode_utf8_first)] }
def BundleSaysSaid : Prop := bundleSaysRow.holds Tryz.pinned (OpenSpec.ofChange bundleSaysSpec)

/-- ITS FALSE NEIGHBOUR: 'it returns false'. Refute it at one input. -/
def bundleSaysWrong : ChangeSpec := { name := "bundleSays", fn := fun _ => fun
  | [d1, d2, d3] => { results := [.lit (.bool false)], args := [d1, d2, d3] }
  | _ => none }
def BundleSaysWrongFalsely : Prop := bundleSaysRow.holds Tryz.pinned (OpenSpec.ofChange bundleSaysWrong)

/-- 'scrapbooklaw.BundleMore': WHATEVER THE INPUT: true; the input reads as it did. -/
def bundleMoreSpec : ChangeSpec := { name := "bundleMore", fn := fun _ => fun
  | [d1, d2] => { results := [.lit (.bool true)], args := [d1, d2] }
  | _ => none }
def bundleMoreRow : OpenClaim := { program := "ytbbfcbodhmeanaagreatdoor", sum := "2affd4dc3a7d6777fa043315bfc55b222f9cd218376408fe76d5450722b27961", func := "scrapbook/scrapbooklaw.BundleMore", spec := "bundleMore", inPlace := ["internal/bytealg.IndexByteString", "internal/bytealg.IndexString", "internal/bytealg.CountString", "internal/abi.NoEscape", "internal/bytealg.MakeNoZero"], unfollowed := true, recurses := true, named := ["internal/bytealg.MaxLen", "unicode/utf8.first", "unicode/utf8.acceptRanges", "unicode.CaseRanges"], loops := true, apart := false, laid := [("unicode/utf8.acceptRanges", laid_unicode_utf8_acceptRanges), ("unicode.CaseRanges", laid_unicode_CaseRanges), ("unicode/utf8.first", laid_unicode_utf8_first)] }
def BundleMoreSaid : Prop := bundleMoreRow.holds Tryz.pinned (OpenSpec.ofChange bundleMoreSpec)

/-- ITS FALSE NEIGHBOUR: 'it returns false'. Refute it at one input. -/
def bundleMoreWrong : ChangeSpec := { name := "bundleMore", fn := fun _ => fun
  | [d1, d2] => { results := [.lit (.bool false)], args := [d1, d2] }
  | _ => none }
def BundleMoreWrongFalsely : Prop := bundleMoreRow.holds Tryz.pinned (OpenSpec.ofChange bundleMoreWrong)

/-- 'scrapbooklaw.RewriteSays': WHATEVER THE INPUT: true; the input reads as it did. -/
def rewriteSaysSpec : ChangeSpec := { name := "rewriteSays", fn := fun _ => fun
  | [d1, d2, d3] => { results := [.lit (.bool true)], args := [d1, d2, d3] }
  | _ => none }
def rewriteSaysRow : OpenClaim := { program := "ytbbfcbodhmeanaagreatdoor", sum := "2affd4dc3a7d6777fa043315bfc55b222f9cd218376408fe76d5450722b27961", func := "scrapbook/scrapbooklaw.RewriteSays", spec := "rewriteSays", inPlace := ["internal/bytealg.IndexByteString", "internal/bytealg.IndexString", "internal/bytealg.CountString", "internal/abi.NoEscape", "internal/bytealg.MakeNoZero", "slices.overlaps[byte]"], unfollowed := true, recurses := true, named := ["internal/bytealg.MaxLen", "unicode/utf8.first", "unicode/utf8.acceptRanges", "unicode.CaseRanges"], loops := true, apart := false, laid := [("unicode/utf8.acceptRanges", laid_unicode_utf8_acceptRanges), ("unicode.CaseRanges", laid_unicode_CaseRanges), ("unicode/utf8.first", laid_unicode_utf8_first)] }
def RewriteSaysSaid : Prop := rewriteSaysRow.holds Tryz.pinned (OpenSpec.ofChange rewriteSaysSpec)

/-- ITS FALSE NEIGHBOUR: 'it returns false'. Refute it at one input. -/
def rewriteSaysWrong : ChangeSpec := { name := "rewriteSays", fn := fun _ => fun
  | [d1, d2, d3] => { results := [.lit (.bool false)], args := [d1, d2, d3] }
  | _ => none }
def RewriteSaysWrongFalsely : Prop := rewriteSaysRow.holds Tryz.pinned (OpenSpec.ofChange rewriteSaysWrong)

/-- 'scrapbooklaw.RewriteNone': WHATEVER THE INPUT: true; the input reads as it did. -/
def rewriteNoneSpec : ChangeSpec := { name := "rewriteNone", fn := fun _ => fun
  | [d1, d2] => { results := [.lit (.bool true)], args := [d1, d2] }
  | _ => none }
def rewriteNoneRow : OpenClaim := { program := "ytbbfcbodhmeanaagreatdoor", sum := "2affd4dc3a7d6777fa043315bfc55b222f9cd218376408fe76d5450722b27961", func := "scrapbook/scrapbooklaw.RewriteNone", spec := "rewriteNone", inPlace := ["internal/bytealg.IndexByteString", "internal/bytealg.IndexString", "internal/bytealg.CountString", "internal/abi.NoEscape", "internal/bytealg.MakeNoZero"], unfollowed := true, recurses := true, named := ["internal/bytealg.MaxLen", "unicode/utf8.first", "unicode/utf8.acceptRanges", "unicode.CaseRanges"], loops := true, apart := false, laid := [("unicode/utf8.acceptRanges", laid_unicode_utf8_acceptRanges), ("unicode.CaseRanges", laid_unicode_CaseRanges), ("unicode/utf8.first", laid_unicode_utf8_first)] }
def RewriteNoneSaid : Prop := rewriteNoneRow.holds Tryz.pinned (OpenSpec.ofChange rewriteNoneSpec)

/-- ITS FALSE NEIGHBOUR: 'it returns false'. Refute it at one input. -/
def rewriteNoneWrong : ChangeSpec := { name := "rewriteNone", fn := fun _ => fun
  | [d1, d2] => { results := [.lit (.bool false)], args := [d1, d2] }
  | _ => none }
def RewriteNoneWrongFalsely : Prop := rewriteNoneRow.holds Tryz.pinned (OpenSpec.ofChange rewriteNoneWrong)

/-- 'scrapbooklaw.RewriteOnly': WHATEVER THE INPUT: true; the input reads as it did. -/
def rewriteOnlySpec : ChangeSpec := { name := "rewriteOnly", fn := fun _ => fun
  | [d1, d2] => { results := [.lit (.bool true)], args := [d1, d2] }
  | _ => none }
def rewriteOnlyRow : OpenClaim := { program := "ytbbfcbodhmeanaagreatdoor", sum := "2affd4dc3a7d6777fa043315bfc55b222f9cd218376408fe76d5450722b27961", func := "scrapbook/scrapbooklaw.RewriteOnly", spec := "rewriteOnly", inPlace := ["internal/bytealg.IndexByteString", "internal/bytealg.IndexString", "internal/bytealg.CountString", "internal/abi.NoEscape", "internal/bytealg.MakeNoZero"], unfollowed := true, recurses := true, named := ["internal/bytealg.MaxLen", "unicode/utf8.first", "unicode/utf8.acceptRanges", "unicode.CaseRanges"], loops := true, apart := false, laid := [("unicode/utf8.acceptRanges", laid_unicode_utf8_acceptRanges), ("unicode.CaseRanges", laid_unicode_CaseRanges), ("unicode/utf8.first", laid_unicode_utf8_first)] }
def RewriteOnlySaid : Prop := rewriteOnlyRow.holds Tryz.pinned (OpenSpec.ofChange rewriteOnlySpec)

/-- ITS FALSE NEIGHBOUR: 'it returns false'. Refute it at one input. -/
def rewriteOnlyWrong : ChangeSpec := { name := "rewriteOnly", fn := fun _ => fun
  | [d1, d2] => { results := [.lit (.bool false)], args := [d1, d2] }
  | _ => none }
def RewriteOnlyWrongFalsely : Prop := rewriteOnlyRow.holds Tryz.pinned (OpenSpec.ofChange rewriteOnlyWrong)

/- THE SECOND FORM. 'bulk': how many values and letters a reading holds, each counted each time it is reached (what is shared counts as often as it is met; a slice's spare places count too). A statement '..UptoSaid' is the law's where the arguments, and the package variables that the reading takes, are together of bulk at most 1048576: NARROWER than '..Said'. Prove '..Said' where nothing that the law and all that it calls make is longer than what came in: it says more and counts as full. Else prove '..UptoSaid'. A law counts once. -/
mutual
def uptoBulk {H : Type} : DataW H → Nat
  | .lit (.string bytes) => bytes.length + 1
  | .lit _ => 1
  | .nil => 1
  | .ptr d => uptoBulk d + 1
  | .slice elems spare => uptoBulkAll elems + uptoBulkAll spare + 1
  | .agg parts => uptoBulkAll parts + 1
  | .iface _ d => uptoBulk d + 1
  | .map entries => uptoBulkEntries entries + 1
  | .held _ => 1
def uptoBulkAll {H : Type} : List (DataW H) → Nat
  | [] => 0
  | d :: r => uptoBulk d + uptoBulkAll r
def uptoBulkEntries {H : Type} : List (Lit × DataW H) → Nat
  | [] => 0
  | x :: r => uptoBulkEntry x + uptoBulkEntries r
def uptoBulkEntry {H : Type} : Lit × DataW H → Nat
  | (.string bytes, d) => bytes.length + uptoBulk d + 1
  | (_, d) => uptoBulk d + 1
 end
def uptoSmall : (H : Type) → List (DataW H) → Bool := fun _ ds => decide (uptoBulkAll ds ≤ 1048576)
def OpenSpec.upto (s : _root_.Go.ChangeSpec) : _root_.Go.OpenSpec := { _root_.Go.OpenSpec.ofChange s with cond := some uptoSmall }

/-- 'scrapbooklaw.BundleSays', WHERE WHAT IT READS IS OF BULK AT MOST 1048576: true; the input reads as it did. -/
def bundleSaysUptoRow : OpenClaim := { program := "ytbbfcbodhmeanaagreatdoor", sum := "2affd4dc3a7d6777fa043315bfc55b222f9cd218376408fe76d5450722b27961", func := "scrapbook/scrapbooklaw.BundleSays", spec := "bundleSays", inPlace := ["internal/bytealg.IndexByteString", "internal/bytealg.IndexString", "internal/bytealg.CountString", "internal/abi.NoEscape", "internal/bytealg.MakeNoZero"], unfollowed := true, recurses := true, named := ["internal/bytealg.MaxLen", "unicode/utf8.first", "unicode/utf8.acceptRanges", "unicode.CaseRanges"], loops := true, apart := false, laid := [("unicode/utf8.acceptRanges", laid_unicode_utf8_acceptRanges), ("unicode.CaseRanges", laid_unicode_CaseRanges), ("unicode/utf8.first", laid_unicode_utf8_first)], narrowed := true }
def BundleSaysUptoSaid : Prop := bundleSaysUptoRow.holds Tryz.pinned (OpenSpec.upto bundleSaysSpec)

/-- 'scrapbooklaw.BundleMore', WHERE WHAT IT READS IS OF BULK AT MOST 1048576: true; the input reads as it did. -/
def bundleMoreUptoRow : OpenClaim := { program := "ytbbfcbodhmeanaagreatdoor", sum := "2affd4dc3a7d6777fa043315bfc55b222f9cd218376408fe76d5450722b27961", func := "scrapbook/scrapbooklaw.BundleMore", spec := "bundleMore", inPlace := ["internal/bytealg.IndexByteString", "internal/bytealg.IndexString", "internal/bytealg.CountString", "internal/abi.NoEscape", "internal/bytealg.MakeNoZero"], unfollowed := true, recurses := true, named := ["internal/bytealg.MaxLen", "unicode/utf8.first", "unicode/utf8.acceptRanges", "unicode.CaseRanges"], loops := true, apart := false, laid := [("unicode/utf8.acceptRanges", laid_unicode_utf8_acceptRanges), ("unicode.CaseRanges", laid_unicode_CaseRanges), ("unicode/utf8.first", laid_unicode_utf8_first)], narrowed := true }
def BundleMoreUptoSaid : Prop := bundleMoreUptoRow.holds Tryz.pinned (OpenSpec.upto bundleMoreSpec)

/-- 'scrapbooklaw.RewriteSays', WHERE WHAT IT READS IS OF BULK AT MOST 1048576: true; the input reads as it did. -/
def rewriteSaysUptoRow : OpenClaim := { program := "ytbbfcbodhmeanaagreatdoor", sum := "2affd4dc3a7d6777fa043315bfc55b222f9cd218376408fe76d5450722b27961", func := "scrapbook/scrapbooklaw.RewriteSays", spec := "rewriteSays", inPlace := ["internal/bytealg.IndexByteString", "internal/bytealg.IndexString", "internal/bytealg.CountString", "internal/abi.NoEscape", "internal/bytealg.MakeNoZero", "slices.overlaps[byte]"], unfollowed := true, recurses := true, named := ["internal/bytealg.MaxLen", "unicode/utf8.first", "unicode/utf8.acceptRanges", "unicode.CaseRanges"], loops := true, apart := false, laid := [("unicode/utf8.acceptRanges", laid_unicode_utf8_acceptRanges), ("unicode.CaseRanges", laid_unicode_CaseRanges), ("unicode/utf8.first", laid_unicode_utf8_first)], narrowed := true }
def RewriteSaysUptoSaid : Prop := rewriteSaysUptoRow.holds Tryz.pinned (OpenSpec.upto rewriteSaysSpec)

/-- 'scrapbooklaw.RewriteNone', WHERE WHAT IT READS IS OF BULK AT MOST 1048576: true; the input reads as it did. -/
def rewriteNoneUptoRow : OpenClaim := { program := "ytbbfcbodhmeanaagreatdoor", sum := "2affd4dc3a7d6777fa043315bfc55b222f9cd218376408fe76d5450722b27961", func := "scrapbook/scrapbooklaw.RewriteNone", spec := "rewriteNone", inPlace := ["internal/bytealg.IndexByteString", "internal/bytealg.IndexString", "internal/bytealg.CountString", "internal/abi.NoEscape", "internal/bytealg.MakeNoZero"], unfollowed := true, recurses := true, named := ["internal/bytealg.MaxLen", "unicode/utf8.first", "unicode/utf8.acceptRanges", "unicode.CaseRanges"], loops := true, apart := false, laid := [("unicode/utf8.acceptRanges", laid_unicode_utf8_acceptRanges), ("unicode.CaseRanges", laid_unicode_CaseRanges), ("unicode/utf8.first", laid_unicode_utf8_first)], narrowed := true }
def RewriteNoneUptoSaid : Prop := rewriteNoneUptoRow.holds Tryz.pinned (OpenSpec.upto rewriteNoneSpec)

/-- 'scrapbooklaw.RewriteOnly', WHERE WHAT IT READS IS OF BULK AT MOST 1048576: true; the input reads as it did. -/
def rewriteOnlyUptoRow : OpenClaim := { program := "ytbbfcbodhmeanaagreatdoor", sum := "2affd4dc3a7d6777fa043315bfc55b222f9cd218376408fe76d5450722b27961", func := "scrapbook/scrapbooklaw.RewriteOnly", spec := "rewriteOnly", inPlace := ["internal/bytealg.IndexByteString", "internal/bytealg.IndexString", "internal/bytealg.CountString", "internal/abi.NoEscape", "internal/bytealg.MakeNoZero"], unfollowed := true, recurses := true, named := ["internal/bytealg.MaxLen", "unicode/utf8.first", "unicode/utf8.acceptRanges", "unicode.CaseRanges"], loops := true, apart := false, laid := [("unicode/utf8.acceptRanges", laid_unicode_utf8_acceptRanges), ("unicode.CaseRanges", laid_unicode_CaseRanges), ("unicode/utf8.first", laid_unicode_utf8_first)], narrowed := true }
def RewriteOnlyUptoSaid : Prop := rewriteOnlyUptoRow.holds Tryz.pinned (OpenSpec.upto rewriteOnlySpec)

end Rows
end Go.Proofs.YtbbfcbodhmeanaaGreatDoor

/- The listed tables of unicode/utf8, read off a row's list: they lie in memory as the plain functions have them. No function of the program. -/
import Derived.Test.YtehiaenicfmpbaaDoorCommon
import Derived.Test.YtehiaenicfmpbaaDoorShelf
import Derived.Lib.LaidU8T
import Derived.Lib.LaidTab
import Derived.LaidByTextLater
namespace Go.Proofs.YtehiaenicfmpbaaDoor
open Go.RowKit Go.Lib Go.Shelf

theorem utf8_laid8 {w : World} (h3 : VarReads Tryd.prog w "unicode/utf8.first" firstData) (h4 : VarReads Tryd.prog w "unicode/utf8.acceptRanges" acceptData) : Lib.Utf8Tabs 4 5 w :=
  utf8Tabs_of_readsT (ρ := Tryd.lays159_ren) { Tryd.lays159 with } ⟨by kernel_rfl, by kernel_rfl, by kernel_rfl, by kernel_rfl, by kernel_rfl, by kernel_rfl, by kernel_rfl⟩ h3 h4
theorem tabs8_laid {W : World} (h : laidMetH Tryd.prog [("unicode/utf8.acceptRanges", Rows.laid_unicode_utf8_acceptRanges), ("unicode/utf8.first", Rows.laid_unicode_utf8_first)] W) : Lib.Utf8Tabs 4 5 W := by
  rw [MakeChecks.laidMetH_plain _ _ _ (by kernel_rfl)] at h
  refine utf8_laid8 (laidMet.reads h ?_) (laidMet.reads h ?_)
  · exact List.mem_of_getElem? (i := 1) (by kernel_rfl)
  · exact List.mem_of_getElem? (i := 0) (by kernel_rfl)
theorem Utf8Tabs_below8 {a b : Nat} {w w' : World} (h : Lib.Utf8Tabs a b w) (hb : Below w.heap.size w w') : Lib.Utf8Tabs a b w' := Utf8Tabs_below h hb
end Go.Proofs.YtehiaenicfmpbaaDoor

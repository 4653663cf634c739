/- The listed tables of unicode and unicode/utf8, read off a row's list: they lie in memory as the plain functions have them, in each world above. No function of the program. -/
import Derived.Test.YtnfidloiediflacDoorLRead2
import Derived.Lib.LaidCase
import Derived.Lib.LaidU8T
import Derived.Lib.LaidTab
import Derived.LaidByTextLater
namespace Go.Proofs.YtnfidloiediflacDoor
open Go.RowKit Go.Lib Go.Shelf

theorem utf8_laidL {w : World} (h3 : VarReads Tryd.prog w "unicode/utf8.first" firstData) (h4 : VarReads Tryd.prog w "unicode/utf8.acceptRanges" acceptData) : Lib.Utf8Tabs 2 3 w :=
  utf8Tabs_of_readsT (ρ := Tryd.lays159_ren) { Tryd.lays159 with } ⟨by kernel_rfl, by kernel_rfl, by kernel_rfl, by kernel_rfl, by kernel_rfl, by kernel_rfl, by kernel_rfl⟩ h3 h4
theorem case_laidL {w : World} (h : VarReads Tryd.prog w "unicode.CaseRanges" caseData) : CaseVar 1 caseA w :=
  caseVar_of_reads (ρ := Tryd.lays159_ren) { Tryd.lays159 with } Tryd.lays159.t206 ⟨by kernel_rfl, by kernel_rfl, by kernel_rfl, by kernel_rfl, by kernel_rfl, by kernel_rfl⟩ h
theorem lenv_laid {W : World} (h : laidMetH Tryd.prog [("unicode/utf8.acceptRanges", Rows.laid_unicode_utf8_acceptRanges), ("unicode.CaseRanges", Rows.laid_unicode_CaseRanges), ("unicode/utf8.first", Rows.laid_unicode_utf8_first)] W) (m : Int) (hm : W.cell? ⟨0, 0, none⟩ = some (.int .i64 m)) : LEnv W := by
  rw [MakeChecks.laidMetH_plain _ _ _ (by kernel_rfl)] at h
  have h1 := utf8_laidL (laidMet.reads h (List.mem_of_getElem? (i := 2) (by kernel_rfl))) (laidMet.reads h (List.mem_of_getElem? (i := 0) (by kernel_rfl)))
  have h2 := case_laidL (laidMet.reads h (List.mem_of_getElem? (i := 1) (by kernel_rfl)))
  intro W' hb
  exact ⟨⟨m, (hb.cell (p := ⟨0, 0, none⟩) (World.block_lt_of_cell? W _ hm)).trans hm⟩, CaseVar_below h2 hb, Utf8Tabs_below h1 hb⟩
end Go.Proofs.YtnfidloiediflacDoor

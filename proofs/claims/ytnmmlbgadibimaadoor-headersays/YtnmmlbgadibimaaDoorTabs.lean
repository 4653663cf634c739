/- The listed tables of unicode and unicode/utf8, read off the row's list: they lie in memory as the plain functions have them. No function of the program. -/
import Derived.Test.YtnmmlbgadibimaaDoorSFold
import Derived.Lib.LaidCase
import Derived.Lib.LaidU8T
import Derived.Lib.LaidTab
import Derived.Deep.SlicePairs
import Derived.LaidByTextLater
namespace Go.Proofs.YtnmmlbgadibimaaDoor
open Go.RowKit Go.Lib Go.Shelf

theorem utf8_laid {w : World} (h3 : VarReads Tryd.prog w "unicode/utf8.first" firstData) (h4 : VarReads Tryd.prog w "unicode/utf8.acceptRanges" acceptData) : Lib.Utf8Tabs 4 5 w :=
  utf8Tabs_of_readsT (ρ := Tryd.lays159_ren) { Tryd.lays159 with } ⟨by kernel_rfl, by kernel_rfl, by kernel_rfl, by kernel_rfl, by kernel_rfl, by kernel_rfl, by kernel_rfl⟩ h3 h4
theorem case_laid {w : World} (h : VarReads Tryd.prog w "unicode.CaseRanges" caseData) : CaseVar 2 caseA w :=
  caseVar_of_reads (ρ := Tryd.lays159_ren) { Tryd.lays159 with } Tryd.lays159.t206 ⟨by kernel_rfl, by kernel_rfl, by kernel_rfl, by kernel_rfl, by kernel_rfl, by kernel_rfl⟩ h

def ascData : DataW Unit := tabData .u16 (asc.map fun (n : Nat) => (n : Int))
def orbData : DataW Unit := .slice (orb.map fun x => .agg [.lit (.int .u16 (x.1 : Int)), .lit (.int .u16 (x.2 : Int))]) []
theorem asc_same : Rows.laid_unicode_asciiFold = ascData := by kernel_rfl
theorem orb_same : Rows.laid_unicode_caseOrbit = orbData := by kernel_rfl

theorem asc_laid {w : World} (h : VarReads Tryd.prog w "unicode.asciiFold" ascData) : AscTab w := by
  obtain ⟨g, t, cs, fuel, p, hg, hty, hvar, hd⟩ := h
  obtain rfl := Option.some.inj ((show Tryd.prog.globalNamed "unicode.asciiFold" = some 0 by kernel_rfl).symm.trans hg)
  obtain rfl := Option.some.inj ((show (Tryd.prog.globals[(0 : Nat)]?).map (·.type) = some 166 by kernel_rfl).symm.trans hty)
  intro i hi
  have hcs := cells_of_tab Tryd.underlying166 Tryd.underlying165 (by kernel_rfl) (by kernel_rfl) hd
  rw [World.var?_cell hg hvar i, ← Array.getElem?_toList, hcs, List.getElem?_map, List.getElem?_map]
  have hl := asc_length
  rw [List.getD_eq_getElem?_getD, List.getElem?_eq_getElem (by omega)]
  rfl

theorem orb_laid {w : World} (h : VarReads Tryd.prog w "unicode.caseOrbit" orbData) : OrbTab w := by
  obtain ⟨g, t, cs, fuel, p, hg, hty, hvar, hd⟩ := h
  obtain rfl := Option.some.inj ((show Tryd.prog.globalNamed "unicode.caseOrbit" = some 1 by kernel_rfl).symm.trans hg)
  obtain rfl := Option.some.inj ((show (Tryd.prog.globals[(1 : Nat)]?).map (·.type) = some 167 by kernel_rfl).symm.trans hty)
  have hl := orb_length
  obtain ⟨f0, f1, hu, o0, o1, t0, t1⟩ : ∃ f0 f1 : Field, Tryd.prog.underlying 169 = some (.struct #[f0, f1]) ∧ f0.offset = 0 ∧ f1.offset = 1 ∧ f0.type = 165 ∧ f1.type = 165 := ⟨_, _, Tryd.underlying169, rfl, rfl, rfl, rfl⟩
  rcases Go.Deep.open_slice_pairs Tryd.underlying167 hu (by kernel_rfl) o0 o1 (by rw [t0]; kernel_rfl) (by rw [t1]; kernel_rfl) hd with ⟨_, hx⟩ | ⟨a, len, cap, m, n, V0, V1, D0, D1, P0, P1, hcs, _, hlc, _, hmm, hx, each⟩
  · cases hx
  · have hE := congrArg Prod.fst hx
    simp only [orbData, DataW.slice.injEq] at hE
    have hlen : len = 94 := by
      have := congrArg List.length hE.1
      rw [List.length_map, List.length_map, List.length_range, hl] at this
      exact this.symm
    subst hlen
    have hm94 : 94 ≤ m := by rw [hmm]; split <;> omega
    have row : ∀ i, i < 94 → w.cell? (a.add (i * 2)) = some (.int .u16 (((orb.getD i (0, 0)).1 : Nat) : Int)) ∧ w.cell? (a.add (i * 2 + 1)) = some (.int .u16 (((orb.getD i (0, 0)).2 : Nat) : Int)) := fun i hi => by
      obtain ⟨h1, h2, h3, h4⟩ := each i (by omega)
      rw [t0] at h3
      rw [t1] at h4
      obtain ⟨z0, e0, x0, _⟩ := DataW.trod_int Tryd.underlying165 h3
      obtain ⟨z1, e1, x1, _⟩ := DataW.trod_int Tryd.underlying165 h4
      have hi2 : i < orb.length := by omega
      have hd := congrArg (·[i]?) hE.1
      simp only [List.getElem?_map, List.getElem?_range hi, List.getElem?_eq_getElem hi2, Option.map_some, Option.some.injEq, DataW.agg.injEq, List.cons.injEq] at hd
      have y0 := congrArg Prod.fst x0
      have y1 := congrArg Prod.fst x1
      simp only at y0 y1
      rw [y0, y1] at hd
      have q0 := hd.1
      have q1 := hd.2.1
      simp only [DataW.lit.injEq, Lit.int.injEq, true_and] at q0 q1
      have ed : orb.getD i (0, 0) = orb[i] := by rw [List.getD_eq_getElem?_getD, List.getElem?_eq_getElem hi2]; rfl
      rw [ed, h1, h2, (List.cons.inj e0).1, (List.cons.inj e1).1, ← q0, ← q1]
      exact ⟨rfl, rfl⟩
    obtain ⟨R, oR, sR⟩ := a
    obtain rfl : sR = none := by simpa [Addr.add] using World.cell?_spot (row 0 (by omega)).1
    refine ⟨R, oR, cap, ?_, fun i hi => ?_⟩
    · rw [World.var?_cell hg hvar 0, ← Array.getElem?_toList, hcs]; rfl
    · have h1 := row i hi
      rw [Addr.add_lit, Addr.add_lit] at h1
      exact ⟨h1.1, by rw [Nat.add_assoc]; exact h1.2⟩

/-- All the listed tables. -/
theorem tabs_laid {W : World} (h : laidMetH Tryd.prog Rows.headerSaysRow.laid W) : FoldTabs W ∧ Lib.Utf8Tabs 4 5 W := by
  rw [MakeChecks.laidMetH_plain _ _ _ (by kernel_rfl)] at h
  refine ⟨⟨asc_laid (laidMet.reads h ?_), orb_laid (laidMet.reads h ?_), case_laid (laidMet.reads h ?_)⟩, utf8_laid (laidMet.reads h ?_) (laidMet.reads h ?_)⟩
  · exact List.mem_of_getElem? (i := 1) (by rw [← asc_same]; kernel_rfl)
  · exact List.mem_of_getElem? (i := 2) (by rw [← orb_same]; kernel_rfl)
  · exact List.mem_of_getElem? (i := 3) (by kernel_rfl)
  · exact List.mem_of_getElem? (i := 4) (by kernel_rfl)
  · exact List.mem_of_getElem? (i := 0) (by kernel_rfl)
end Go.Proofs.YtnmmlbgadibimaaDoor

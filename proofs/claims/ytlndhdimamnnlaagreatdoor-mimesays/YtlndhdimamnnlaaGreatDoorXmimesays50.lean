
import Derived.Test.YtlndhdimamnnlaaGreatDoorXmimesays49
import Derived.Shelf.Vars
import Derived.Stop.LaidErr
import Derived.HandedShaped
import Derived.Lay
import Derived.SevenTiedAt
import Derived.Stop.Joined
import Derived.ShutString
import Derived.ChangeOld
import Derived.Below
namespace Go.Proofs.YtlndhdimamnnlaaGreatDoor
open Go.RowKit Go.Lib Go.Shelf
theorem menv_laidS {W : World} (h : laidMetH Tryz.prog Rows.mimeSaysRow.laid W) (M : Int) (hM : W.cell? ⟨1, 0, none⟩ = some (.int .i64 M)) : MEnv W := by
 rw [MakeChecks.laidMetH_plain _ _ _ (by kernel_rfl)] at h
 have f1 : FoldTabs W := ⟨asc_laid (laidMet.reads h (List.mem_of_getElem? (i := 6) (by rw [← asc_same]; kernel_rfl))), orb_laid (laidMet.reads h (List.mem_of_getElem? (i := 7) (by rw [← orb_same]; kernel_rfl))), case_laid (laidMet.reads h (List.mem_of_getElem? (i := 9) (by kernel_rfl)))⟩
 have f2 : Lib.Utf8Tabs 6 7 W := utf8_laid (laidMet.reads h (List.mem_of_getElem? (i := 10) (by kernel_rfl))) (laidMet.reads h (List.mem_of_getElem? (i := 3) (by kernel_rfl)))
 have f3 : HowTab W := hows_laid (laidMet.reads h (List.mem_of_getElem? (i := 8) (by kernel_rfl)))
 have f4 := pow_laid (laidMet.reads h (List.mem_of_getElem? (i := 2) (by kernel_rfl)))
 refine ⟨fun w' hb => ⟨f3.below hb, f1.below hb, ?_⟩, fun w' hb => ⟨f3.below hb, ⟨M, (hb.cell (p := ⟨1, 0, none⟩) (World.block_lt_of_cell? W _ hM)).trans hM⟩, Go.Joins.tab_stays (show Tryz.prog.globalNamed "internal/strconv.uint64pow10" = some 5 by kernel_rfl) f4 hb (Nat.le_refl _)⟩⟩
 exact ⟨fun c hc => (hb.cell (p := ⟨6, c, none⟩) (World.block_lt_of_cell? W _ (f2.1 c hc))).trans (f2.1 c hc), fun i hi => ⟨(hb.cell (p := ⟨7, 2 * i, none⟩) (World.block_lt_of_cell? W _ (f2.2 i hi).1)).trans (f2.2 i hi).1, (hb.cell (p := ⟨7, 2 * i + 1, none⟩) (World.block_lt_of_cell? W _ (f2.2 i hi).2)).trans (f2.2 i hi).2⟩⟩
def tab64 : List Int := [0, 1, 56, 2, 57, 49, 28, 3, 61, 58, 42, 50, 38, 29, 17, 4, 62, 47, 59, 36, 45, 43, 51, 22, 53, 39, 33, 30, 24, 18, 12, 5, 63, 55, 48, 27, 60, 41, 37, 16, 46, 35, 44, 21, 52, 32, 23, 11, 54, 26, 40, 15, 34, 20, 31, 10, 25, 14, 19, 9, 13, 8, 7, 6]
theorem tab_cellS {W : World} (h : laidMetH Tryz.prog Rows.mimeSaysRow.laid W) : W.cell? ⟨11, 15, none⟩ = some (.int .u8 4) := by
 rw [MakeChecks.laidMetH_plain _ _ _ (by kernel_rfl)] at h
 have h2 := laidMet.tail h
 have hT := Lib.tabIs_of_head (P := Tryz.prog) (k := .u8) (zs := tab64) (g := 11) (t := 253) (e := 5) (n := 64) (by kernel_rfl) (by kernel_rfl) Tryz.underlying253 Tryz.underlying5 (by kernel_rfl) (by kernel_rfl) h2
 exact hT.cell (by kernel_rfl) 15 (by decide)
theorem senv_laid {W : World} (h : laidMetH Tryz.prog Rows.mimeSaysRow.laid W) (M : Int) (hM : W.cell? ⟨1, 0, none⟩ = some (.int .i64 M)) : SEnv W :=
 ⟨menv_laidS h M hM, fun _ hb => (hb.cell (p := ⟨11, 15, none⟩) (World.block_lt_of_cell? W _ (tab_cellS h))).trans (tab_cellS h)⟩
end Go.Proofs.YtlndhdimamnnlaaGreatDoor



namespace Go.Proofs.YtlndhdimamnnlaaGreatDoor
open Go.ChangeShapes Go.WideShapes Go.ChangeAt Go.RowKit
set_option linter.unusedVariables false
theorem own : ownKnob Tryz.prog.godebug = none := by kernel_rfl
theorem laidOut : laidOutB Tryz.prog = true := by kernel_rfl
theorem sized_of_heap {H : Type} {enc : TypeId × Value → H} {P : Program} {fn : Func} {s : OpenSpec} {apart : Bool} {w w' : World} {args : Array Value} (hh : w.heap = w'.heap) (h : sizedMet enc P fn s apart w args) : sizedMet enc P fn s apart w' args := by
 obtain ⟨h1, ds, gs, before, hw, h2⟩ := h
 exact ⟨h1, ds, gs, before, DataW.Whole.of_heap hh hw, h2⟩
theorem handed_sized {H : Type} {enc : TypeId × Value → H} {a : Assume} {C : Checked} {os : Os} {f : FuncId} {fn : Func} {s : ChangeSpec} {conds : List PathCond} {apart fresh handsOn again : Bool} {X : World → Array Value → Prop}
  (hX : ∀ (w w' : World) (args : Array Value), w.heap = w'.heap → X w args → X w' args)
  (own : ownKnob C.prog.godebug = none) (started : os.Started) (noInit : C.prog.inits.idxOf? f = none) (hfn : C.prog.funcs[f]? = some fn)
  (witness : ∃ (w : World) (tape : Tape) (i : Input), w.os = os ∧ (w.forCall tape i).Shaped C.prog ∧ i.vars = [] ∧ Input.okWide C.prog (w.forCall tape i) .any w.heap.size f i ∧
   ((s.pre enc C.prog fn conds apart (w.forCall tape i).memory i.args ∧ X (w.forCall tape i).memory i.args) ∧ sizedMet enc C.prog fn (OpenSpec.ofChange s) apart (w.forCall tape i).memory i.args) ∧ a.holds C.prog (lone (Frame.enter C.prog f i.args .normal) [] (w.forCall tape i)))
  (contract : ∀ (W : World) (base : Nat) (args : Array Value) (ds gs : List (DataW H)) (before : List MemPlace),
   (∀ (j : Nat) t v, fn.params[j]? = some t → args[j]? = some v → Value.okWide C.prog W .any base t v) →
   DataW.Whole enc C.prog fn.params.toList s.vars apart W args.toList ds gs before → X W args → sizedMet enc C.prog fn (OpenSpec.ofChange s) apart W args → W.ShapedOpen C.prog →
   Calls C.prog f args W fun e W' => ∃ v, e = .returned v ∧ s.post enc C.prog fn apart fresh handsOn again W args v W') :
  ReturnsInHanded a C os f .any (fun w args => (s.pre enc C.prog fn conds apart w args ∧ X w args) ∧ sizedMet enc C.prog fn (OpenSpec.ofChange s) apart w args) (s.post enc C.prog fn apart fresh handsOn again) := by
 refine returnsInHanded_of_calls own started noInit witness ?_
 intro w tape i _ hsh _ hok hpre hholds
 obtain ⟨_, _, _, fn', hfn', _, _, _, _, hval⟩ := hok
 have e : fn' = fn := Option.some.inj (hfn'.symm.trans hfn)
 subst e
 obtain ⟨⟨⟨ds, gs, before, hw, hc⟩, hx⟩, hz⟩ := hpre
 have hw' := DataW.Whole.of_heap (w' := w.forCall tape i) (by rfl) hw
 refine (contract (w.forCall tape i) w.heap.size i.args ds gs before hval hw' (hX _ _ _ (by rfl) hx) (sized_of_heap (by rfl) hz) hsh).mono fun e W' ⟨v, he, hp⟩ => ?_
 subst he
 exact ChangeSpec.post_blind hp
theorem maxLen_cell {W : World} (h : W.ShapedOpen Tryz.prog) : ∃ m, W.cell? ⟨1, 0, none⟩ = some (.int .i64 m) :=
 cell_of_shapedOpen_int (P := Tryz.prog) (g := 1) (t := 3) (zero := #[.int .i64 0]) h (of_decide_eq_true (by kernel_rfl)) (by kernel_rfl) rfl (by kernel_rfl) (by kernel_rfl) Tryz.underlying3
end Go.Proofs.YtlndhdimamnnlaaGreatDoor


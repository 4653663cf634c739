/- The listed tables of this layer's rows, read off the row's list: they lie in memory as the plain functions have them, and stay. No function of the program. -/
import Derived.Test.YtpgnkhaanoalhaaGreatDoorXmimeborders49
import Derived.Test.YtpgnkhaanoalhaaGreatDoorXmimeborders52
import Derived.Lib.SmallJoins
import Derived.Test.YtpgnkhaanoalhaaGreatDoorRows
import Derived.HandedShaped
import Derived.Shelf.Vars
import Derived.Lay
import Derived.SevenTiedAt
import Derived.Stop.Joined
import Derived.WalkKit
import Derived.ProofKit
import Derived.OpenShut
import Derived.ShutString
import Derived.ChangeOld
import Derived.Below
namespace Go.Proofs.YtpgnkhaanoalhaaGreatDoor
open Go.RowKit Go.Lib Go.Shelf

/-- An array of texts that reads as listed. -/
theorem cells_of_strs {H : Type} {enc : TypeId × Value → H} {P : Program} {w : World} {base : Nat} {sp : Nat → Bool} {held : Bool} {fuel : Nat} {t e : TypeId} {n : Nat} {cs : List Value} {zs : List (List UInt8)} {p : List MemPlace}
    (ht : P.underlying t = some (.array n e)) (he : P.underlying e = some .string) (hce : P.cellsOf e = 1) (hct : P.cellsOf t = n)
    (h : DataW.trod enc P w base sp held fuel t cs = some (.agg (zs.map fun z => .lit (.string z)), p)) (i : Nat) (hi : i < n) : cs[i]? = (zs[i]?).map fun z => Value.string ⟨z.toArray⟩ := by
  cases fuel with
  | zero => simp [DataW.trod] at h
  | succ fuel =>
    simp only [DataW.trod, ht, hce, hct, Nat.mul_one] at h
    split at h
    · rename_i hl
      obtain ⟨xs, hm, hx⟩ := Option.map_eq_some_iff.1 h
      have hxs : xs.map (·.1) = zs.map fun z => (DataW.lit (.string z) : DataW H) := by
        have := congrArg Prod.fst hx
        simpa using this
      obtain ⟨b, hb, hf⟩ := mapM_at hm i i (by simp [hi])
      obtain ⟨s, hc, rfl, _⟩ := DataW.trod_string he hf
      have h1 : cs[i]? = some (.string s) := by
        have := congrArg (·[0]?) hc
        simpa [List.getElem?_take, List.getElem?_drop] using this
      have h2 : (xs.map (·.1))[i]? = some (DataW.lit (.string s.data.toList) : DataW H) := by simp [hb]
      rw [hxs] at h2
      simp only [List.getElem?_map, Option.map_eq_some_iff, DataW.lit.injEq, Lit.string.injEq] at h2
      obtain ⟨z', hz', rfl⟩ := h2
      rw [h1, hz']
      rfl
    · cases h
def howsData : DataW Unit := .agg ([how0, how1, how2].map fun z => .lit (.string z))
theorem hows_laid {w : World} (h : VarReads Tryz.prog w "scrapbook/mime.hows" howsData) : HowTab w := by
  obtain ⟨g, t, cs, fuel, p, hg, hty, hvar, hd⟩ := h
  obtain rfl := Option.some.inj ((show Tryz.prog.globalNamed "scrapbook/mime.hows" = some 0 by kernel_rfl).symm.trans hg)
  obtain rfl := Option.some.inj ((show (Tryz.prog.globals[(0 : Nat)]?).map (·.type) = some 139 by kernel_rfl).symm.trans hty)
  have key := cells_of_strs (zs := [how0, how1, how2]) Tryz.underlying139 Tryz.underlying9 (by kernel_rfl) (by kernel_rfl) hd
  refine ⟨?_, ?_, ?_⟩
  · rw [World.var?_cell hg hvar 0, ← Array.getElem?_toList, key 0 (by decide)]; rfl
  · rw [World.var?_cell hg hvar 1, ← Array.getElem?_toList, key 1 (by decide)]; rfl
  · rw [World.var?_cell hg hvar 2, ← Array.getElem?_toList, key 2 (by decide)]; rfl
def powData : DataW Unit := tabData .u64 Lib.pow10Tab
theorem pow_laid {w : World} (h : VarReads Tryz.prog w "internal/strconv.uint64pow10" powData) : TabIs Tryz.prog w "internal/strconv.uint64pow10" .u64 Lib.pow10Tab := by
  obtain ⟨g, t, cs, fuel, p, hg, hty, hvar, hd⟩ := h
  obtain rfl := Option.some.inj ((show Tryz.prog.globalNamed "internal/strconv.uint64pow10" = some 5 by kernel_rfl).symm.trans hg)
  obtain rfl := Option.some.inj ((show (Tryz.prog.globals[(5 : Nat)]?).map (·.type) = some 233 by kernel_rfl).symm.trans hty)
  have hcs := cells_of_tab Tryz.underlying233 Tryz.underlying122 (by kernel_rfl) (by kernel_rfl) hd
  unfold TabIs
  rw [hvar, ← hcs]
/-- All the listed tables. -/
theorem menv_laid {W : World} (h : laidMetH Tryz.prog Rows.mimeBackRow.laid W) (M : Int) (hM : W.cell? ⟨1, 0, none⟩ = some (.int .i64 M)) : MEnv W := by
  rw [MakeChecks.laidMetH_plain _ _ _ (by kernel_rfl)] at h
  have f1 : FoldTabs W := ⟨asc_laid (laidMet.reads h (List.mem_of_getElem? (i := 4) (by rw [← asc_same]; kernel_rfl))), orb_laid (laidMet.reads h (List.mem_of_getElem? (i := 5) (by rw [← orb_same]; kernel_rfl))), case_laid (laidMet.reads h (List.mem_of_getElem? (i := 7) (by kernel_rfl)))⟩
  have f2 : Lib.Utf8Tabs 6 7 W := utf8_laid (laidMet.reads h (List.mem_of_getElem? (i := 8) (by kernel_rfl))) (laidMet.reads h (List.mem_of_getElem? (i := 3) (by kernel_rfl)))
  have f3 : HowTab W := hows_laid (laidMet.reads h (List.mem_of_getElem? (i := 6) (by kernel_rfl)))
  have f4 := pow_laid (laidMet.reads h (List.mem_of_getElem? (i := 2) (by kernel_rfl)))
  refine ⟨fun w' hb => ⟨f3.below hb, f1.below hb, ?_⟩, fun w' hb => ⟨f3.below hb, ⟨M, (hb.cell (p := ⟨1, 0, none⟩) (World.block_lt_of_cell? W _ hM)).trans hM⟩, Go.Joins.tab_stays (show Tryz.prog.globalNamed "internal/strconv.uint64pow10" = some 5 by kernel_rfl) f4 hb (Nat.le_refl _)⟩⟩
  exact ⟨fun c hc => (hb.cell (p := ⟨6, c, none⟩) (World.block_lt_of_cell? W _ (f2.1 c hc))).trans (f2.1 c hc), fun i hi => ⟨(hb.cell (p := ⟨7, 2 * i, none⟩) (World.block_lt_of_cell? W _ (f2.2 i hi).1)).trans (f2.2 i hi).1, (hb.cell (p := ⟨7, 2 * i + 1, none⟩) (World.block_lt_of_cell? W _ (f2.2 i hi).2)).trans (f2.2 i hi).2⟩⟩
end Go.Proofs.YtpgnkhaanoalhaaGreatDoor

/- What the closings of this seat's rows share: the builder with the world's shape kept; the cell of internal/bytealg.MaxLen. -/
namespace Go.Proofs.YtpgnkhaanoalhaaGreatDoor
open Go.ChangeShapes Go.WideShapes Go.ChangeAt Go.RowKit
set_option linter.unusedVariables false

theorem own : ownKnob Tryz.prog.godebug = none := by kernel_rfl
theorem laidOut : laidOutB Tryz.prog = true := by kernel_rfl

/-- The builder 'and' with the world's shape kept. -/
theorem handed_and_shaped {H : Type} {enc : TypeId × Value → H} {a : Assume} {C : Checked} {os : Os} {f : FuncId} {fn : Func} {s : ChangeSpec} {conds : List PathCond} {apart fresh handsOn again : Bool} {X : World → Array Value → Prop}
    (hX : ∀ (w w' : World) (args : Array Value), w.heap = w'.heap → X w args → X w' args)
    (own : ownKnob C.prog.godebug = none) (started : os.Started) (noInit : C.prog.inits.idxOf? f = none) (hfn : C.prog.funcs[f]? = some fn)
    (witness : ∃ (w : World) (tape : Tape) (i : Input), w.os = os ∧ (w.forCall tape i).Shaped C.prog ∧ i.vars = [] ∧ Input.okWide C.prog (w.forCall tape i) .any w.heap.size f i ∧
      ((s.pre enc C.prog fn conds apart (w.forCall tape i).memory i.args ∧ X (w.forCall tape i).memory i.args) ∧ sizedMet enc C.prog fn (OpenSpec.ofChange s) apart (w.forCall tape i).memory i.args) ∧ a.holds C.prog (lone (Frame.enter C.prog f i.args .normal) [] (w.forCall tape i)))
    (contract : ∀ (W : World) (base : Nat) (args : Array Value) (ds gs : List (DataW H)) (before : List MemPlace),
      (∀ (j : Nat) t v, fn.params[j]? = some t → args[j]? = some v → Value.okWide C.prog W .any base t v) →
      DataW.Whole enc C.prog fn.params.toList s.vars apart W args.toList ds gs before → X W args → W.ShapedOpen C.prog →
      Calls C.prog f args W fun e W' => ∃ v, e = .returned v ∧ s.post enc C.prog fn apart fresh handsOn again W args v W') :
    ReturnsInHanded a C os f .any (fun w args => (s.pre enc C.prog fn conds apart w args ∧ X w args) ∧ sizedMet enc C.prog fn (OpenSpec.ofChange s) apart w args) (s.post enc C.prog fn apart fresh handsOn again) := by
  refine returnsInHanded_of_calls own started noInit witness ?_
  intro w tape i _ hsh _ hok hpre hholds
  obtain ⟨_, _, _, fn', hfn', _, _, _, _, hval⟩ := hok
  have e : fn' = fn := Option.some.inj (hfn'.symm.trans hfn)
  subst e
  obtain ⟨⟨⟨ds, gs, before, hw, hc⟩, hx⟩, hz⟩ := hpre
  have hw' := DataW.Whole.of_heap (w' := w.forCall tape i) (by rfl) hw
  refine (contract (w.forCall tape i) w.heap.size i.args ds gs before hval hw' (hX _ _ _ (by rfl) hx) hsh).mono fun e W' ⟨v, he, hp⟩ => ?_
  subst he
  exact ChangeSpec.post_blind hp

theorem sized_of_heap {H : Type} {enc : TypeId × Value → H} {P : Program} {fn : Func} {s : OpenSpec} {apart : Bool} {w w' : World} {args : Array Value} (hh : w.heap = w'.heap) (h : sizedMet enc P fn s apart w args) : sizedMet enc P fn s apart w' args := by
  obtain ⟨h1, ds, gs, before, hw, h2⟩ := h
  exact ⟨h1, ds, gs, before, DataW.Whole.of_heap hh hw, h2⟩

/-- The same, with what the arguments weigh kept besides. -/
theorem handed_sized {H : Type} {enc : TypeId × Value → H} {a : Assume} {C : Checked} {os : Os} {f : FuncId} {fn : Func} {s : ChangeSpec} {conds : List PathCond} {apart fresh handsOn again : Bool} {X : World → Array Value → Prop}
    (hX : ∀ (w w' : World) (args : Array Value), w.heap = w'.heap → X w args → X w' args)
    (own : ownKnob C.prog.godebug = none) (started : os.Started) (noInit : C.prog.inits.idxOf? f = none) (hfn : C.prog.funcs[f]? = some fn)
    (witness : ∃ (w : World) (tape : Tape) (i : Input), w.os = os ∧ (w.forCall tape i).Shaped C.prog ∧ i.vars = [] ∧ Input.okWide C.prog (w.forCall tape i) .any w.heap.size f i ∧
      ((s.pre enc C.prog fn conds apart (w.forCall tape i).memory i.args ∧ X (w.forCall tape i).memory i.args) ∧ sizedMet enc C.prog fn (OpenSpec.ofChange s) apart (w.forCall tape i).memory i.args) ∧ a.holds C.prog (lone (Frame.enter C.prog f i.args .normal) [] (w.forCall tape i)))
    (contract : ∀ (W : World) (base : Nat) (args : Array Value) (ds gs : List (DataW H)) (before : List MemPlace),
      (∀ (j : Nat) t v, fn.params[j]? = some t → args[j]? = some v → Value.okWide C.prog W .any base t v) →
      DataW.Whole enc C.prog fn.params.toList s.vars apart W args.toList ds gs before → X W args → sizedMet enc C.prog fn (OpenSpec.ofChange s) apart W args → W.ShapedOpen C.prog →
      Calls C.prog f args W fun e W' => ∃ v, e = .returned v ∧ s.post enc C.prog fn apart fresh handsOn again W args v W') :
    ReturnsInHanded a C os f .any (fun w args => (s.pre enc C.prog fn conds apart w args ∧ X w args) ∧ sizedMet enc C.prog fn (OpenSpec.ofChange s) apart w args) (s.post enc C.prog fn apart fresh handsOn again) := by
  refine returnsInHanded_of_calls own started noInit witness ?_
  intro w tape i _ hsh _ hok hpre hholds
  obtain ⟨_, _, _, fn', hfn', _, _, _, _, hval⟩ := hok
  have e : fn' = fn := Option.some.inj (hfn'.symm.trans hfn)
  subst e
  obtain ⟨⟨⟨ds, gs, before, hw, hc⟩, hx⟩, hz⟩ := hpre
  have hw' := DataW.Whole.of_heap (w' := w.forCall tape i) (by rfl) hw
  refine (contract (w.forCall tape i) w.heap.size i.args ds gs before hval hw' (hX _ _ _ (by rfl) hx) (sized_of_heap (by rfl) hz) hsh).mono fun e W' ⟨v, he, hp⟩ => ?_
  subst he
  exact ChangeSpec.post_blind hp

theorem maxLen_cell {W : World} (h : W.ShapedOpen Tryz.prog) : ∃ m, W.cell? ⟨1, 0, none⟩ = some (.int .i64 m) :=
  cell_of_shapedOpen_int (P := Tryz.prog) (g := 1) (t := 3) (zero := #[.int .i64 0]) h (of_decide_eq_true (by kernel_rfl)) (by kernel_rfl) rfl (by kernel_rfl) (by kernel_rfl) Tryz.underlying3
end Go.Proofs.YtpgnkhaanoalhaaGreatDoor

/- The listed tables of unicode and unicode/utf8, read off the row's list: they lie in memory as the plain functions have them. No function of the program. -/
import Derived.Test.YtlndhdimamnnlaaGreatDoorXmimewrapsupto20
import Derived.Lib.LaidCase
import Derived.Lib.LaidU8T
import Derived.Lib.LaidTab
import Derived.Deep.SlicePairs
import Derived.LaidByTextLater
import Derived.Test.YtlndhdimamnnlaaGreatDoorXmimewrapsupto39
import Derived.Lib.SmallJoins
import Derived.Lib.Join
import Derived.Test.YtlndhdimamnnlaaGreatDoorRows
import Derived.HandedShaped
import Derived.Shelf.Vars
import Derived.Lay
import Derived.SevenTiedAt
import Derived.Stop.Joined
import Derived.WalkKit
import Derived.ProofKit
import Derived.OpenShut
import Derived.ShutString
import Derived.ChangeOld
import Derived.Below
import Derived.Deep.DeepHandedRow
import Derived.LaidLaws
namespace Go.Proofs.YtlndhdimamnnlaaGreatDoor
open Go.RowKit Go.Lib Go.Shelf

theorem utf8_laid {w : World} (h3 : VarReads Tryz.prog w "unicode/utf8.first" firstData) (h4 : VarReads Tryz.prog w "unicode/utf8.acceptRanges" acceptData) : Lib.Utf8Tabs 6 7 w :=
  utf8Tabs_of_readsT (ρ := Tryz.lays159_ren) { Tryz.lays159 with } ⟨by kernel_rfl, by kernel_rfl, by kernel_rfl, by kernel_rfl, by kernel_rfl, by kernel_rfl, by kernel_rfl⟩ h3 h4
theorem case_laid {w : World} (h : VarReads Tryz.prog w "unicode.CaseRanges" caseData) : CaseVar 4 caseA w :=
  caseVar_of_reads (ρ := Tryz.lays159_ren) { Tryz.lays159 with } Tryz.lays159.t206 ⟨by kernel_rfl, by kernel_rfl, by kernel_rfl, by kernel_rfl, by kernel_rfl, by kernel_rfl⟩ h

def ascData : DataW Unit := tabData .u16 (asc.map fun (n : Nat) => (n : Int))
def orbData : DataW Unit := .slice (orb.map fun x => .agg [.lit (.int .u16 (x.1 : Int)), .lit (.int .u16 (x.2 : Int))]) []
theorem asc_same : Rows.laid_unicode_asciiFold = ascData := by kernel_rfl
theorem orb_same : Rows.laid_unicode_caseOrbit = orbData := by kernel_rfl

theorem asc_laid {w : World} (h : VarReads Tryz.prog w "unicode.asciiFold" ascData) : AscTab w := by
  obtain ⟨g, t, cs, fuel, p, hg, hty, hvar, hd⟩ := h
  obtain rfl := Option.some.inj ((show Tryz.prog.globalNamed "unicode.asciiFold" = some 2 by kernel_rfl).symm.trans hg)
  obtain rfl := Option.some.inj ((show (Tryz.prog.globals[(2 : Nat)]?).map (·.type) = some 191 by kernel_rfl).symm.trans hty)
  intro i hi
  have hcs := cells_of_tab Tryz.underlying191 Tryz.underlying190 (by kernel_rfl) (by kernel_rfl) hd
  rw [World.var?_cell hg hvar i, ← Array.getElem?_toList, hcs, List.getElem?_map, List.getElem?_map]
  have hl := asc_length
  rw [List.getD_eq_getElem?_getD, List.getElem?_eq_getElem (by omega)]
  rfl

theorem orb_laid {w : World} (h : VarReads Tryz.prog w "unicode.caseOrbit" orbData) : OrbTab w := by
  obtain ⟨g, t, cs, fuel, p, hg, hty, hvar, hd⟩ := h
  obtain rfl := Option.some.inj ((show Tryz.prog.globalNamed "unicode.caseOrbit" = some 3 by kernel_rfl).symm.trans hg)
  obtain rfl := Option.some.inj ((show (Tryz.prog.globals[(3 : Nat)]?).map (·.type) = some 192 by kernel_rfl).symm.trans hty)
  have hl := orb_length
  obtain ⟨f0, f1, hu, o0, o1, t0, t1⟩ : ∃ f0 f1 : Field, Tryz.prog.underlying 194 = some (.struct #[f0, f1]) ∧ f0.offset = 0 ∧ f1.offset = 1 ∧ f0.type = 190 ∧ f1.type = 190 := ⟨_, _, Tryz.underlying194, rfl, rfl, rfl, rfl⟩
  rcases Go.Deep.open_slice_pairs Tryz.underlying192 hu (by kernel_rfl) o0 o1 (by rw [t0]; kernel_rfl) (by rw [t1]; kernel_rfl) hd with ⟨_, hx⟩ | ⟨a, len, cap, m, n, V0, V1, D0, D1, P0, P1, hcs, _, hlc, _, hmm, hx, each⟩
  · cases hx
  · have hE := congrArg Prod.fst hx
    simp only [orbData, DataW.slice.injEq] at hE
    have hlen : len = 94 := by
      have := congrArg List.length hE.1
      rw [List.length_map, List.length_map, List.length_range, hl] at this
      exact this.symm
    subst hlen
    have hm94 : 94 ≤ m := by rw [hmm]; split <;> omega
    have row : ∀ i, i < 94 → w.cell? (a.add (i * 2)) = some (.int .u16 (((orb.getD i (0, 0)).1 : Nat) : Int)) ∧ w.cell? (a.add (i * 2 + 1)) = some (.int .u16 (((orb.getD i (0, 0)).2 : Nat) : Int)) := fun i hi => by
      obtain ⟨h1, h2, h3, h4⟩ := each i (by omega)
      rw [t0] at h3
      rw [t1] at h4
      obtain ⟨z0, e0, x0, _⟩ := DataW.trod_int Tryz.underlying190 h3
      obtain ⟨z1, e1, x1, _⟩ := DataW.trod_int Tryz.underlying190 h4
      have hi2 : i < orb.length := by omega
      have hd := congrArg (·[i]?) hE.1
      simp only [List.getElem?_map, List.getElem?_range hi, List.getElem?_eq_getElem hi2, Option.map_some, Option.some.injEq, DataW.agg.injEq, List.cons.injEq] at hd
      have y0 := congrArg Prod.fst x0
      have y1 := congrArg Prod.fst x1
      simp only at y0 y1
      rw [y0, y1] at hd
      have q0 := hd.1
      have q1 := hd.2.1
      simp only [DataW.lit.injEq, Lit.int.injEq, true_and] at q0 q1
      have ed : orb.getD i (0, 0) = orb[i] := by rw [List.getD_eq_getElem?_getD, List.getElem?_eq_getElem hi2]; rfl
      rw [ed, h1, h2, (List.cons.inj e0).1, (List.cons.inj e1).1, ← q0, ← q1]
      exact ⟨rfl, rfl⟩
    obtain ⟨R, oR, sR⟩ := a
    obtain rfl : sR = none := by simpa [Addr.add] using World.cell?_spot (row 0 (by omega)).1
    refine ⟨R, oR, cap, ?_, fun i hi => ?_⟩
    · rw [World.var?_cell hg hvar 0, ← Array.getElem?_toList, hcs]; rfl
    · have h1 := row i hi
      rw [Addr.add_lit, Addr.add_lit] at h1
      exact ⟨h1.1, by rw [Nat.add_assoc]; exact h1.2⟩

end Go.Proofs.YtlndhdimamnnlaaGreatDoor

/- Tables that a row lists, read off its list: the names of Hows, the powers of ten. No function of the program. -/
namespace Go.Proofs.YtlndhdimamnnlaaGreatDoor
open Go.RowKit Go.Lib Go.Shelf

/-- An array of texts that reads as listed. -/
theorem cells_of_strs {H : Type} {enc : TypeId × Value → H} {P : Program} {w : World} {base : Nat} {sp : Nat → Bool} {held : Bool} {fuel : Nat} {t e : TypeId} {n : Nat} {cs : List Value} {zs : List (List UInt8)} {p : List MemPlace}
    (ht : P.underlying t = some (.array n e)) (he : P.underlying e = some .string) (hce : P.cellsOf e = 1) (hct : P.cellsOf t = n)
    (h : DataW.trod enc P w base sp held fuel t cs = some (.agg (zs.map fun z => .lit (.string z)), p)) (i : Nat) (hi : i < n) : cs[i]? = (zs[i]?).map fun z => Value.string ⟨z.toArray⟩ := by
  cases fuel with
  | zero => simp [DataW.trod] at h
  | succ fuel =>
    simp only [DataW.trod, ht, hce, hct, Nat.mul_one] at h
    split at h
    · rename_i hl
      obtain ⟨xs, hm, hx⟩ := Option.map_eq_some_iff.1 h
      have hxs : xs.map (·.1) = zs.map fun z => (DataW.lit (.string z) : DataW H) := by
        have := congrArg Prod.fst hx
        simpa using this
      obtain ⟨b, hb, hf⟩ := mapM_at hm i i (by simp [hi])
      obtain ⟨s, hc, rfl, _⟩ := DataW.trod_string he hf
      have h1 : cs[i]? = some (.string s) := by
        have := congrArg (·[0]?) hc
        simpa [List.getElem?_take, List.getElem?_drop] using this
      have h2 : (xs.map (·.1))[i]? = some (DataW.lit (.string s.data.toList) : DataW H) := by simp [hb]
      rw [hxs] at h2
      simp only [List.getElem?_map, Option.map_eq_some_iff, DataW.lit.injEq, Lit.string.injEq] at h2
      obtain ⟨z', hz', rfl⟩ := h2
      rw [h1, hz']
      rfl
    · cases h
def howsData : DataW Unit := .agg ([how0, how1, how2].map fun z => .lit (.string z))
theorem hows_laid {w : World} (h : VarReads Tryz.prog w "scrapbook/mime.hows" howsData) : HowTab w := by
  obtain ⟨g, t, cs, fuel, p, hg, hty, hvar, hd⟩ := h
  obtain rfl := Option.some.inj ((show Tryz.prog.globalNamed "scrapbook/mime.hows" = some 0 by kernel_rfl).symm.trans hg)
  obtain rfl := Option.some.inj ((show (Tryz.prog.globals[(0 : Nat)]?).map (·.type) = some 132 by kernel_rfl).symm.trans hty)
  have key := cells_of_strs (zs := [how0, how1, how2]) Tryz.underlying132 Tryz.underlying9 (by kernel_rfl) (by kernel_rfl) hd
  refine ⟨?_, ?_, ?_⟩
  · rw [World.var?_cell hg hvar 0, ← Array.getElem?_toList, key 0 (by decide)]; rfl
  · rw [World.var?_cell hg hvar 1, ← Array.getElem?_toList, key 1 (by decide)]; rfl
  · rw [World.var?_cell hg hvar 2, ← Array.getElem?_toList, key 2 (by decide)]; rfl
def powData : DataW Unit := tabData .u64 Lib.pow10Tab
theorem pow_laid {w : World} (h : VarReads Tryz.prog w "internal/strconv.uint64pow10" powData) : TabIs Tryz.prog w "internal/strconv.uint64pow10" .u64 Lib.pow10Tab := by
  obtain ⟨g, t, cs, fuel, p, hg, hty, hvar, hd⟩ := h
  obtain rfl := Option.some.inj ((show Tryz.prog.globalNamed "internal/strconv.uint64pow10" = some 5 by kernel_rfl).symm.trans hg)
  obtain rfl := Option.some.inj ((show (Tryz.prog.globals[(5 : Nat)]?).map (·.type) = some 226 by kernel_rfl).symm.trans hty)
  have hcs := cells_of_tab Tryz.underlying226 Tryz.underlying115 (by kernel_rfl) (by kernel_rfl) hd
  unfold TabIs
  rw [hvar, ← hcs]
end Go.Proofs.YtlndhdimamnnlaaGreatDoor

/- The listed tables of this layer's rows, read off the row's list: they lie in memory as the plain functions have them, and stay. No function of the program. -/
namespace Go.Proofs.YtlndhdimamnnlaaGreatDoor
open Go.RowKit Go.Lib Go.Shelf

/-- All the listed tables. -/
theorem menv_laidW {W : World} (h : laidMetH Tryz.prog Rows.mimeWrapsUptoRow.laid W) (M : Int) (hM : W.cell? ⟨1, 0, none⟩ = some (.int .i64 M)) : MEnv W := by
  rw [MakeChecks.laidMetH_plain _ _ _ (by kernel_rfl)] at h
  have f1 : FoldTabs W := ⟨asc_laid (laidMet.reads h (List.mem_of_getElem? (i := 4) (by rw [← asc_same]; kernel_rfl))), orb_laid (laidMet.reads h (List.mem_of_getElem? (i := 5) (by rw [← orb_same]; kernel_rfl))), case_laid (laidMet.reads h (List.mem_of_getElem? (i := 7) (by kernel_rfl)))⟩
  have f2 : Lib.Utf8Tabs 6 7 W := utf8_laid (laidMet.reads h (List.mem_of_getElem? (i := 8) (by kernel_rfl))) (laidMet.reads h (List.mem_of_getElem? (i := 3) (by kernel_rfl)))
  have f3 : HowTab W := hows_laid (laidMet.reads h (List.mem_of_getElem? (i := 6) (by kernel_rfl)))
  have f4 := pow_laid (laidMet.reads h (List.mem_of_getElem? (i := 2) (by kernel_rfl)))
  refine ⟨fun w' hb => ⟨f3.below hb, f1.below hb, ?_⟩, fun w' hb => ⟨f3.below hb, ⟨M, (hb.cell (p := ⟨1, 0, none⟩) (World.block_lt_of_cell? W _ hM)).trans hM⟩, Go.Joins.tab_stays (show Tryz.prog.globalNamed "internal/strconv.uint64pow10" = some 5 by kernel_rfl) f4 hb (Nat.le_refl _)⟩⟩
  exact ⟨fun c hc => (hb.cell (p := ⟨6, c, none⟩) (World.block_lt_of_cell? W _ (f2.1 c hc))).trans (f2.1 c hc), fun i hi => ⟨(hb.cell (p := ⟨7, 2 * i, none⟩) (World.block_lt_of_cell? W _ (f2.2 i hi).1)).trans (f2.2 i hi).1, (hb.cell (p := ⟨7, 2 * i + 1, none⟩) (World.block_lt_of_cell? W _ (f2.2 i hi).2)).trans (f2.2 i hi).2⟩⟩
end Go.Proofs.YtlndhdimamnnlaaGreatDoor

/- What a list of texts that came in may weigh, where the reading has a bound: the bytes of all, and how many they are. No function of the program. -/
namespace Go.Proofs.YtlndhdimamnnlaaGreatDoor
open Go.RowKit

theorem bulk_strs {H : Type} (F : Nat → ByteArray) : ∀ (l : List Nat), Rows.uptoBulkAll (H := H) (l.map fun i => .lit (.string (F i).data.toList)) = Lib.lens ((l.map F).map (·.data.toList)) + l.length
  | [] => by simp [Rows.uptoBulkAll, Lib.lens]
  | i :: l => by
    have ih := bulk_strs (H := H) F l
    simp only [List.map_cons, Rows.uptoBulkAll, Rows.uptoBulk, Lib.lens, List.sum_cons, List.length_cons] at ih ⊢
    omega
/-- A list of texts that came in, and its weight. -/
theorem strs_open2 {H : Type} {enc : TypeId × Value → H} {W : World} {base : Nat} {spare : Nat → Bool} {held : Bool} {fuel : Nat} {a0 : Option Addr} {len cap : Nat} {x : DataW H × List MemPlace}
    (h : DataW.trod enc Tryz.prog W base spare held fuel 41 [.slice a0 len cap] = some x) :
    ∃ l : List ByteArray, l.length = len ∧ len ≤ cap ∧ cap ≤ maxLen ∧ (a0 = none → len = 0 ∧ cap = 0) ∧ SRow W a0 l ∧ SLen l ∧ Lib.lens (l.map (·.data.toList)) + l.length ≤ Rows.uptoBulk x.1 := by
  rcases Go.Deep.open_strs Tryz.underlying41 Tryz.underlying9 (by kernel_rfl) h with ⟨hcs, _⟩ | ⟨a, l, c, m, F, hcs, _, hl, hm, hmm, hx, hF⟩
  · simp at hcs
    obtain ⟨rfl, rfl, rfl⟩ := hcs
    exact ⟨[], rfl, Nat.le_refl _, by decide, fun _ => ⟨rfl, rfl⟩, fun h => absurd rfl h, (fun f hf => by cases hf), by simp [Lib.lens]⟩
  · simp at hcs
    obtain ⟨rfl, rfl, rfl⟩ := hcs
    have hlm : len ≤ m := by rw [hmm]; split <;> omega
    refine ⟨(List.range len).map F, by simp, hl, hm, (fun h => by cases h), fun hne => ?_, fun f hf => ?_, ?_⟩
    · have hpos : 0 < len := by
        rcases Nat.eq_zero_or_pos len with e | e
        · subst e; exact absurd rfl hne
        · exact e
      obtain ⟨b, o, spot⟩ := a
      have hspot : spot = none := by simpa [Addr.add] using World.cell?_spot (hF 0 (by omega)).1
      subst hspot
      refine ⟨b, o, rfl, fun i hi => ?_⟩
      have hi' : i < len := by simpa using hi
      have e1 : ((List.range len).map F).getD i default = F i := by simp [List.getD_eq_getElem?_getD, hi']
      have h1 := (hF i (by omega)).1
      rw [Addr.add_lit] at h1
      rw [e1]
      exact h1
    · obtain ⟨i, hi, rfl⟩ := List.mem_map.1 hf
      exact (hF i (Nat.lt_of_lt_of_le (by simpa using hi) hlm)).2
    · have := bulk_strs (H := H) F (List.range len)
      rw [hx]
      simp only [Rows.uptoBulk]
      simp only [List.length_map, List.length_range] at this ⊢
      omega
end Go.Proofs.YtlndhdimamnnlaaGreatDoor

/- What the closings of this seat's rows share: the builder with the world's shape kept; the cell of internal/bytealg.MaxLen. -/
namespace Go.Proofs.YtlndhdimamnnlaaGreatDoor
open Go.ChangeShapes Go.WideShapes Go.ChangeAt Go.RowKit
set_option linter.unusedVariables false

theorem own : ownKnob Tryz.prog.godebug = none := by kernel_rfl
theorem laidOut : laidOutB Tryz.prog = true := by kernel_rfl

/-- The builder 'and' with the world's shape kept. -/
theorem handed_and_shaped {H : Type} {enc : TypeId × Value → H} {a : Assume} {C : Checked} {os : Os} {f : FuncId} {fn : Func} {s : ChangeSpec} {conds : List PathCond} {apart fresh handsOn again : Bool} {X : World → Array Value → Prop}
    (hX : ∀ (w w' : World) (args : Array Value), w.heap = w'.heap → X w args → X w' args)
    (own : ownKnob C.prog.godebug = none) (started : os.Started) (noInit : C.prog.inits.idxOf? f = none) (hfn : C.prog.funcs[f]? = some fn)
    (witness : ∃ (w : World) (tape : Tape) (i : Input), w.os = os ∧ (w.forCall tape i).Shaped C.prog ∧ i.vars = [] ∧ Input.okWide C.prog (w.forCall tape i) .any w.heap.size f i ∧
      ((s.pre enc C.prog fn conds apart (w.forCall tape i).memory i.args ∧ X (w.forCall tape i).memory i.args) ∧ sizedMet enc C.prog fn (OpenSpec.ofChange s) apart (w.forCall tape i).memory i.args) ∧ a.holds C.prog (lone (Frame.enter C.prog f i.args .normal) [] (w.forCall tape i)))
    (contract : ∀ (W : World) (base : Nat) (args : Array Value) (ds gs : List (DataW H)) (before : List MemPlace),
      (∀ (j : Nat) t v, fn.params[j]? = some t → args[j]? = some v → Value.okWide C.prog W .any base t v) →
      DataW.Whole enc C.prog fn.params.toList s.vars apart W args.toList ds gs before → X W args → W.ShapedOpen C.prog →
      Calls C.prog f args W fun e W' => ∃ v, e = .returned v ∧ s.post enc C.prog fn apart fresh handsOn again W args v W') :
    ReturnsInHanded a C os f .any (fun w args => (s.pre enc C.prog fn conds apart w args ∧ X w args) ∧ sizedMet enc C.prog fn (OpenSpec.ofChange s) apart w args) (s.post enc C.prog fn apart fresh handsOn again) := by
  refine returnsInHanded_of_calls own started noInit witness ?_
  intro w tape i _ hsh _ hok hpre hholds
  obtain ⟨_, _, _, fn', hfn', _, _, _, _, hval⟩ := hok
  have e : fn' = fn := Option.some.inj (hfn'.symm.trans hfn)
  subst e
  obtain ⟨⟨⟨ds, gs, before, hw, hc⟩, hx⟩, hz⟩ := hpre
  have hw' := DataW.Whole.of_heap (w' := w.forCall tape i) (by rfl) hw
  refine (contract (w.forCall tape i) w.heap.size i.args ds gs before hval hw' (hX _ _ _ (by rfl) hx) hsh).mono fun e W' ⟨v, he, hp⟩ => ?_
  subst he
  exact ChangeSpec.post_blind hp

theorem sized_of_heap {H : Type} {enc : TypeId × Value → H} {P : Program} {fn : Func} {s : OpenSpec} {apart : Bool} {w w' : World} {args : Array Value} (hh : w.heap = w'.heap) (h : sizedMet enc P fn s apart w args) : sizedMet enc P fn s apart w' args := by
  obtain ⟨h1, ds, gs, before, hw, h2⟩ := h
  exact ⟨h1, ds, gs, before, DataW.Whole.of_heap hh hw, h2⟩

/-- The same, with what the arguments weigh kept besides. -/
theorem handed_sized {H : Type} {enc : TypeId × Value → H} {a : Assume} {C : Checked} {os : Os} {f : FuncId} {fn : Func} {s : ChangeSpec} {conds : List PathCond} {apart fresh handsOn again : Bool} {X : World → Array Value → Prop}
    (hX : ∀ (w w' : World) (args : Array Value), w.heap = w'.heap → X w args → X w' args)
    (own : ownKnob C.prog.godebug = none) (started : os.Started) (noInit : C.prog.inits.idxOf? f = none) (hfn : C.prog.funcs[f]? = some fn)
    (witness : ∃ (w : World) (tape : Tape) (i : Input), w.os = os ∧ (w.forCall tape i).Shaped C.prog ∧ i.vars = [] ∧ Input.okWide C.prog (w.forCall tape i) .any w.heap.size f i ∧
      ((s.pre enc C.prog fn conds apart (w.forCall tape i).memory i.args ∧ X (w.forCall tape i).memory i.args) ∧ sizedMet enc C.prog fn (OpenSpec.ofChange s) apart (w.forCall tape i).memory i.args) ∧ a.holds C.prog (lone (Frame.enter C.prog f i.args .normal) [] (w.forCall tape i)))
    (contract : ∀ (W : World) (base : Nat) (args : Array Value) (ds gs : List (DataW H)) (before : List MemPlace),
      (∀ (j : Nat) t v, fn.params[j]? = some t → args[j]? = some v → Value.okWide C.prog W .any base t v) →
      DataW.Whole enc C.prog fn.params.toList s.vars apart W args.toList ds gs before → X W args → sizedMet enc C.prog fn (OpenSpec.ofChange s) apart W args → W.ShapedOpen C.prog →
      Calls C.prog f args W fun e W' => ∃ v, e = .returned v ∧ s.post enc C.prog fn apart fresh handsOn again W args v W') :
    ReturnsInHanded a C os f .any (fun w args => (s.pre enc C.prog fn conds apart w args ∧ X w args) ∧ sizedMet enc C.prog fn (OpenSpec.ofChange s) apart w args) (s.post enc C.prog fn apart fresh handsOn again) := by
  refine returnsInHanded_of_calls own started noInit witness ?_
  intro w tape i _ hsh _ hok hpre hholds
  obtain ⟨_, _, _, fn', hfn', _, _, _, _, hval⟩ := hok
  have e : fn' = fn := Option.some.inj (hfn'.symm.trans hfn)
  subst e
  obtain ⟨⟨⟨ds, gs, before, hw, hc⟩, hx⟩, hz⟩ := hpre
  have hw' := DataW.Whole.of_heap (w' := w.forCall tape i) (by rfl) hw
  refine (contract (w.forCall tape i) w.heap.size i.args ds gs before hval hw' (hX _ _ _ (by rfl) hx) (sized_of_heap (by rfl) hz) hsh).mono fun e W' ⟨v, he, hp⟩ => ?_
  subst he
  exact ChangeSpec.post_blind hp

theorem maxLen_cell {W : World} (h : W.ShapedOpen Tryz.prog) : ∃ m, W.cell? ⟨1, 0, none⟩ = some (.int .i64 m) :=
  cell_of_shapedOpen_int (P := Tryz.prog) (g := 1) (t := 3) (zero := #[.int .i64 0]) h (of_decide_eq_true (by kernel_rfl)) (by kernel_rfl) rfl (by kernel_rfl) (by kernel_rfl) Tryz.underlying3
end Go.Proofs.YtlndhdimamnnlaaGreatDoor

/- There is an input that fits, at a world of one's own making whose shape is known: for a row that lists variables that hold slices. No function of the program. -/
namespace Go.Proofs.YtlndhdimamnnlaaGreatDoor
open Go.RowKit

theorem witness_row_zip {H : Type} {enc : TypeId × Value → H} {C : Checked} {os : Os} {f : FuncId} {fn : Func} {s : OpenSpec} {conds : List PathCond} {apart : Bool} {laid : List (String × DataW Unit)} (modest : Bool) (w0 : World) (args : Array Value) (hos : w0.os = os)
    (hsh : (w0.forCall (fun _ _ => 0) ⟨#[], args, []⟩).Shaped C.prog)
    (hok : Input.okWideB C.prog (w0.forCall (fun _ _ => 0) ⟨#[], args, []⟩) f ⟨#[], args, []⟩ = true)
    (hrow : s.preRow enc C.prog fn conds apart laid (w0.forCall (fun _ _ => 0) ⟨#[], args, []⟩).memory args) :
    ∃ (w : World) (tape : Tape) (i : Input), w.os = os ∧ (w.forCall tape i).Shaped C.prog ∧ i.vars = [] ∧ Input.okWide C.prog (w.forCall tape i) .any w.heap.size f i ∧
      s.preRow enc C.prog fn conds apart laid (w.forCall tape i).memory i.args ∧ ({ modest := modest } : Assume).holds C.prog (lone (Frame.enter C.prog f i.args .normal) [] (w.forCall tape i)) :=
  ⟨w0, fun _ _ => 0, ⟨#[], args, []⟩, hos, hsh, (Input.okWide_of_okWideB (base := 0) hok).1, (Input.okWide_of_okWideB hok).2, hrow, by
    simp only [Assume.holds]
    exact ⟨by simp, by simp, fun _ => Modest.zero, by simp, by simp⟩⟩
end Go.Proofs.YtlndhdimamnnlaaGreatDoor

/- The listed tables of unicode and unicode/utf8, read off a row's list: they lie in memory as the plain functions have them, in each world above. No function of the program. -/
import Derived.Test.YtgnlebbifcmpjaaGreatDoorXbundlegoals8
import Derived.Lib.LaidCase
import Derived.Lib.LaidU8T
import Derived.Lib.LaidTab
import Derived.LaidByTextLater
import Derived.Test.YtgnlebbifcmpjaaGreatDoorXbundlegoals30
import Derived.ChangeSlices
import Derived.Deep.SlicePairs
import Derived.Test.YtgnlebbifcmpjaaGreatDoorRows
import Derived.HandedShaped
import Derived.Shelf.Vars
import Derived.Lay
import Derived.SevenTiedAt
import Derived.Stop.Joined
import Derived.WalkKit
import Derived.ProofKit
import Derived.OpenShut
import Derived.ShutString
import Derived.ChangeOld
import Derived.Below
namespace Go.Proofs.YtgnlebbifcmpjaaGreatDoor
open Go.RowKit Go.Lib Go.Shelf

theorem utf8_laidL {w : World} (h3 : VarReads Tryz.prog w "unicode/utf8.first" firstData) (h4 : VarReads Tryz.prog w "unicode/utf8.acceptRanges" acceptData) : Lib.Utf8Tabs 1 2 w :=
  utf8Tabs_of_readsT (ρ := Tryz.lays159_ren) { Tryz.lays159 with } ⟨by kernel_rfl, by kernel_rfl, by kernel_rfl, by kernel_rfl, by kernel_rfl, by kernel_rfl, by kernel_rfl⟩ h3 h4
theorem case_laidL {w : World} (h : VarReads Tryz.prog w "unicode.CaseRanges" caseData) : CaseVar 3 caseA w :=
  caseVar_of_reads (ρ := Tryz.lays159_ren) { Tryz.lays159 with } Tryz.lays159.t206 ⟨by kernel_rfl, by kernel_rfl, by kernel_rfl, by kernel_rfl, by kernel_rfl, by kernel_rfl⟩ h
theorem lenv_laid {W : World} (h : laidMetH Tryz.prog [("unicode/utf8.acceptRanges", Rows.laid_unicode_utf8_acceptRanges), ("unicode.CaseRanges", Rows.laid_unicode_CaseRanges), ("unicode/utf8.first", Rows.laid_unicode_utf8_first)] W) (m : Int) (hm : W.cell? ⟨0, 0, none⟩ = some (.int .i64 m)) : LEnv W := by
  rw [MakeChecks.laidMetH_plain _ _ _ (by kernel_rfl)] at h
  have h1 := utf8_laidL (laidMet.reads h (List.mem_of_getElem? (i := 2) (by kernel_rfl))) (laidMet.reads h (List.mem_of_getElem? (i := 0) (by kernel_rfl)))
  have h2 := case_laidL (laidMet.reads h (List.mem_of_getElem? (i := 1) (by kernel_rfl)))
  intro W' hb
  exact ⟨⟨m, (hb.cell (p := ⟨0, 0, none⟩) (World.block_lt_of_cell? W _ hm)).trans hm⟩, CaseVar_below h2 hb, Utf8Tabs_below h1 hb⟩
end Go.Proofs.YtgnlebbifcmpjaaGreatDoor

/- What a part that came in reads as: a part that lies in memory. -/
namespace Go.Proofs.YtgnlebbifcmpjaaGreatDoor
open Go.ChangeShapes Go.WideShapes Go.ChangeAt Go.RowKit

theorem KAt.up {w : World} : ∀ (f : Nat) (a : Option Addr) (l : List PT), KAt w f a l → KAt w (f + 1) a l
  | 0, a, l, h => fun hne => absurd h hne
  | f + 1, a, l, h => fun hne => by
    obtain ⟨b, o, e, hc⟩ := h hne
    refine ⟨b, o, e, fun i hi => ?_⟩
    obtain ⟨pb, cb, pk, ck, h1, h2⟩ := hc i hi
    exact ⟨pb, cb, pk, ck, h1, h2.1, h2.2.1, h2.2.2.1, h2.2.2.2.1, KAt.up f _ _ h2.2.2.2.2⟩

theorem part_under : ∃ f0 f1 f2 f3 f4 f5 f6 : Field, Tryz.prog.underlying 25 = some (.struct #[f0, f1, f2, f3, f4, f5, f6]) ∧
    (f0.offset = 0 ∧ f1.offset = 1 ∧ f2.offset = 2 ∧ f3.offset = 3 ∧ f4.offset = 4 ∧ f5.offset = 5 ∧ f6.offset = 6) ∧
    (f0.type = 9 ∧ f1.type = 9 ∧ f2.type = 9 ∧ f3.type = 9 ∧ f4.type = 3 ∧ f5.type = 22 ∧ f6.type = 23) :=
  ⟨_, _, _, _, _, _, _, Tryz.underlying25, ⟨rfl, rfl, rfl, rfl, rfl, rfl, rfl⟩, ⟨rfl, rfl, rfl, rfl, rfl, rfl, rfl⟩⟩

/-- The bytes of a slice that came in. -/
theorem bytes_open {H : Type} {enc : TypeId × Value → H} {W : World} {held : Bool} {fuel : Nat} {cs : List Value} {x : DataW H × List MemPlace}
    (h : DataW.trod enc Tryz.prog W 0 (fun _ => true) held fuel 22 cs = some x) :
    ∃ (a : Option Addr) (c : Nat) (L : List UInt8), cs = [.slice a L.length c] ∧ L.length ≤ c ∧ c ≤ maxLen ∧ (a = none → c = 0) ∧ BRow W a L := by
  rcases open_ints Tryz.underlying22 Tryz.underlying5 (by kernel_rfl) h with ⟨hcs, _⟩ | ⟨a, l, c, zs, hcs, _, hl, hm, hz, _, hcell, hwz⟩
  · exact ⟨none, 0, [], hcs, Nat.le_refl _, by decide, fun _ => rfl, fun h => absurd rfl h⟩
  · obtain ⟨L, e, h1, h2, h3, h4⟩ := isRow_bytes (w := W) (a := some a) (len := l) (cap := c) (zs := zs) (.inr ⟨_, rfl, hl, hm, by simpa using hz, hcell, hwz⟩)
    subst e
    exact ⟨some a, c, L, hcs, h1, h2, (fun h => by cases h), h4⟩

set_option maxRecDepth 100000 in
/-- A part that came in, cell by cell. -/
theorem part_cells {H : Type} {enc : TypeId × Value → H} {W : World} {held : Bool} : ∀ (fuel : Nat) (cs : List Value) (x : DataW H × List MemPlace),
    DataW.trod enc Tryz.prog W 0 (fun _ => true) held fuel 25 cs = some x →
    ∃ (p : PT) (pb : Option Addr) (cb : Nat) (pk : Option Addr) (ck : Nat), cs = [.string p.ty, .string p.cs, .string p.id, .string p.loc, .int .i64 p.how, .slice pb p.body.length cb, .slice pk p.kids.length ck] ∧ PHeld W fuel p pb cb pk ck := by
  intro fuel
  induction fuel using Nat.strongRecOn with
  | _ fuel ih =>
    intro cs x h
    obtain ⟨f0, f1, f2, f3, f4, f5, f6, hu, ⟨o0, o1, o2, o3, o4, o5, o6⟩, ⟨t0, t1, t2, t3, t4, t5, t6⟩⟩ := part_under
    obtain ⟨xs, n, hfu, _, hlen, hxl, hf⟩ := DataW.trod_struct hu h
    have hcf : Tryz.prog.cellsOf 25 = 7 := by kernel_rfl
    have cs1 : Tryz.prog.cellsOf 9 = 1 := by kernel_rfl
    have ci1 : Tryz.prog.cellsOf 3 = 1 := by kernel_rfl
    have cb1 : Tryz.prog.cellsOf 22 = 1 := by kernel_rfl
    have cp1 : Tryz.prog.cellsOf 23 = 1 := by kernel_rfl
    rw [hcf] at hlen
    match xs, hxl, cs, hlen with
    | [y0, y1, y2, y3, y4, y5, y6], _, [v0, v1, v2, v3, v4, v5, v6], _ =>
      have g0 := hf 0 f0 rfl
      have g1 := hf 1 f1 rfl
      have g2 := hf 2 f2 rfl
      have g3 := hf 3 f3 rfl
      have g4 := hf 4 f4 rfl
      have g5 := hf 5 f5 rfl
      have g6 := hf 6 f6 rfl
      rw [t0, o0, cs1] at g0
      rw [t1, o1, cs1] at g1
      rw [t2, o2, cs1] at g2
      rw [t3, o3, cs1] at g3
      rw [t4, o4, ci1] at g4
      rw [t5, o5, cb1] at g5
      rw [t6, o6, cp1] at g6
      simp only [List.drop_zero, List.drop_succ_cons, List.take_succ_cons, List.take_zero, List.getElem?_cons_zero, List.getElem?_cons_succ] at g0 g1 g2 g3 g4 g5 g6
      obtain ⟨s0, e0, _, l0⟩ := DataW.trod_string Tryz.underlying9 g0
      obtain ⟨s1, e1, _, l1⟩ := DataW.trod_string Tryz.underlying9 g1
      obtain ⟨s2, e2, _, l2⟩ := DataW.trod_string Tryz.underlying9 g2
      obtain ⟨s3, e3, _, l3⟩ := DataW.trod_string Tryz.underlying9 g3
      obtain ⟨z, e4, _, hz⟩ := DataW.trod_int Tryz.underlying3 g4
      obtain ⟨pb, cb, body, e5, b1, b2, b3, b4⟩ := bytes_open g5
      have hz2 : -9223372036854775808 ≤ z ∧ z ≤ 9223372036854775807 := by
        simp only [Lit.wf, Bool.and_eq_true, decide_eq_true_eq] at hz
        exact hz
      have hbl : body.length ≤ maxLen := Nat.le_trans b1 b2
      rcases DataW.trod_slice Tryz.underlying23 g6 with ⟨e6, _⟩ | ⟨a, len, cap, elems, rest, m, hm, e6, _, _, hlc, hcm, hel, hev, _, _⟩
      · refine ⟨⟨s0, s1, s2, s3, z, body, []⟩, pb, cb, none, 0, ?_, ⟨l0, l1, l2, l3, hz2.1, hz2.2, hbl, Nat.zero_le _⟩, ⟨b1, b2, b3⟩, b4, ⟨Nat.le_refl _, by decide, fun _ => rfl⟩, KAt.nil _ _ _⟩
        rw [(List.cons.inj e0).1, (List.cons.inj e1).1, (List.cons.inj e2).1, (List.cons.inj e3).1, (List.cons.inj e4).1, (List.cons.inj e5).1, (List.cons.inj e6).1]
        rfl
      · have hspot : 0 < len → a.spot = none := fun hpos => by
          have h1 := hev 0 hpos
          rw [hcf, List.getElem?_eq_getElem (by omega)] at h1
          obtain ⟨ce, hce, hte⟩ := Option.bind_eq_some_iff.1 h1
          obtain ⟨q, qb, qc, qk, qd, e, hq⟩ := ih m (by omega) ce _ hte
          obtain ⟨_, _, hcc⟩ := World.cells?_some hce
          subst e
          have := hcc 0 (by omega)
          simpa [Addr.add] using World.cell?_spot (this.trans rfl)
        have each : ∀ i, i < len → ∃ q : PT, PAt W m a.block (a.off + i * 7) q := fun i hi => by
          have h1 := hev i hi
          rw [hcf, List.getElem?_eq_getElem (by omega)] at h1
          obtain ⟨ce, hce, hte⟩ := Option.bind_eq_some_iff.1 h1
          obtain ⟨q, qb, qc, qk, qd, e, hq⟩ := ih m (by omega) ce _ hte
          obtain ⟨_, _, hcc⟩ := World.cells?_some hce
          subst e
          have hs := hspot (by omega)
          obtain ⟨b, o, spot⟩ := a
          simp only at hs
          subst hs
          refine ⟨q, qb, qc, qk, qd, ?_, hq⟩
          have hc : ∀ j, j < 7 → W.cell? ⟨b, o + i * 7 + j, none⟩ = [Value.string q.ty, .string q.cs, .string q.id, .string q.loc, .int .i64 q.how, .slice qb q.body.length qc, .slice qk q.kids.length qd][j]? := fun j hj => by
            have := hcc j hj
            rw [Addr.add_lit, Addr.add_lit] at this
            exact this
          exact ⟨hc 0 (by omega), hc 1 (by omega), hc 2 (by omega), hc 3 (by omega), hc 4 (by omega), hc 5 (by omega), hc 6 (by omega)⟩
        haveI : Inhabited PT := ⟨pt0⟩
        obtain ⟨Q, hQ⟩ := Go.Deep.choose_lt each
        refine ⟨⟨s0, s1, s2, s3, z, body, (List.range len).map Q⟩, pb, cb, some a, cap, ?_, ⟨l0, l1, l2, l3, hz2.1, hz2.2, hbl, ?_⟩, ⟨b1, b2, b3⟩, b4, ⟨?_, hcm, fun h => by cases h⟩, ?_⟩
        · rw [(List.cons.inj e0).1, (List.cons.inj e1).1, (List.cons.inj e2).1, (List.cons.inj e3).1, (List.cons.inj e4).1, (List.cons.inj e5).1, (List.cons.inj e6).1]
          simp
        · simp; exact Nat.le_trans hlc hcm
        · simp; exact hlc
        · rw [hfu, hm]
          refine KAt.up _ _ _ fun hne => ?_
          have hpos : 0 < len := by
            rcases Nat.eq_zero_or_pos len with e | e
            · subst e; exact absurd rfl hne
            · exact e
          have hs := hspot hpos
          obtain ⟨b, o, spot⟩ := a
          simp only at hs
          subst hs
          refine ⟨b, o, rfl, fun i hi => ?_⟩
          have hi' : i < len := by simpa using hi
          have e1 : ((List.range len).map Q).getD i pt0 = Q i := by simp [List.getD_eq_getElem?_getD, hi']
          show PAt W m b (o + i * 7) (((List.range len).map Q).getD i pt0)
          rw [e1]
          exact hQ i hi'

set_option maxRecDepth 100000 in
/-- A part that came in by value. -/
theorem part_open {H : Type} {enc : TypeId × Value → H} {W : World} {base : Nat} {held : Bool} {fuel : Nat} {v : Value} {x : DataW H × List MemPlace}
    (hv : Value.okWide Tryz.prog W .any base 25 v) (h : DataW.trod enc Tryz.prog W 0 (fun _ => true) held fuel 25 v.cells.toList = some x) :
    ∃ (p : PT) (pb : Option Addr) (cb : Nat) (pk : Option Addr) (ck F : Nat), v = .agg #[.string p.ty, .string p.cs, .string p.id, .string p.loc, .int .i64 p.how, .slice pb p.body.length cb, .slice pk p.kids.length ck] ∧ PHeld W F p pb cb pk ck := by
  obtain ⟨cs, rfl, hsz⟩ := okWide_struct Tryz.underlying25 hv
  obtain ⟨p, pb, cb, pk, ck, e, hp⟩ := part_cells fuel _ x h
  refine ⟨p, pb, cb, pk, ck, fuel, ?_, hp⟩
  congr 1
  apply Array.toList_inj.1
  exact e
end Go.Proofs.YtgnlebbifcmpjaaGreatDoor

/- What the closings of this seat's rows share: the builder with the world's shape kept; the cell of internal/bytealg.MaxLen. -/
namespace Go.Proofs.YtgnlebbifcmpjaaGreatDoor
open Go.ChangeShapes Go.WideShapes Go.ChangeAt Go.RowKit
set_option linter.unusedVariables false

theorem own : ownKnob Tryz.prog.godebug = none := by kernel_rfl
theorem laidOut : laidOutB Tryz.prog = true := by kernel_rfl

/-- The builder 'and' with the world's shape kept. -/
theorem handed_and_shaped {H : Type} {enc : TypeId × Value → H} {a : Assume} {C : Checked} {os : Os} {f : FuncId} {fn : Func} {s : ChangeSpec} {conds : List PathCond} {apart fresh handsOn again : Bool} {X : World → Array Value → Prop}
    (hX : ∀ (w w' : World) (args : Array Value), w.heap = w'.heap → X w args → X w' args)
    (own : ownKnob C.prog.godebug = none) (started : os.Started) (noInit : C.prog.inits.idxOf? f = none) (hfn : C.prog.funcs[f]? = some fn)
    (witness : ∃ (w : World) (tape : Tape) (i : Input), w.os = os ∧ (w.forCall tape i).Shaped C.prog ∧ i.vars = [] ∧ Input.okWide C.prog (w.forCall tape i) .any w.heap.size f i ∧
      ((s.pre enc C.prog fn conds apart (w.forCall tape i).memory i.args ∧ X (w.forCall tape i).memory i.args) ∧ sizedMet enc C.prog fn (OpenSpec.ofChange s) apart (w.forCall tape i).memory i.args) ∧ a.holds C.prog (lone (Frame.enter C.prog f i.args .normal) [] (w.forCall tape i)))
    (contract : ∀ (W : World) (base : Nat) (args : Array Value) (ds gs : List (DataW H)) (before : List MemPlace),
      (∀ (j : Nat) t v, fn.params[j]? = some t → args[j]? = some v → Value.okWide C.prog W .any base t v) →
      DataW.Whole enc C.prog fn.params.toList s.vars apart W args.toList ds gs before → X W args → W.ShapedOpen C.prog →
      Calls C.prog f args W fun e W' => ∃ v, e = .returned v ∧ s.post enc C.prog fn apart fresh handsOn again W args v W') :
    ReturnsInHanded a C os f .any (fun w args => (s.pre enc C.prog fn conds apart w args ∧ X w args) ∧ sizedMet enc C.prog fn (OpenSpec.ofChange s) apart w args) (s.post enc C.prog fn apart fresh handsOn again) := by
  refine returnsInHanded_of_calls own started noInit witness ?_
  intro w tape i _ hsh _ hok hpre hholds
  obtain ⟨_, _, _, fn', hfn', _, _, _, _, hval⟩ := hok
  have e : fn' = fn := Option.some.inj (hfn'.symm.trans hfn)
  subst e
  obtain ⟨⟨⟨ds, gs, before, hw, hc⟩, hx⟩, hz⟩ := hpre
  have hw' := DataW.Whole.of_heap (w' := w.forCall tape i) (by rfl) hw
  refine (contract (w.forCall tape i) w.heap.size i.args ds gs before hval hw' (hX _ _ _ (by rfl) hx) hsh).mono fun e W' ⟨v, he, hp⟩ => ?_
  subst he
  exact ChangeSpec.post_blind hp

theorem sized_of_heap {H : Type} {enc : TypeId × Value → H} {P : Program} {fn : Func} {s : OpenSpec} {apart : Bool} {w w' : World} {args : Array Value} (hh : w.heap = w'.heap) (h : sizedMet enc P fn s apart w args) : sizedMet enc P fn s apart w' args := by
  obtain ⟨h1, ds, gs, before, hw, h2⟩ := h
  exact ⟨h1, ds, gs, before, DataW.Whole.of_heap hh hw, h2⟩

/-- The same, with what the arguments weigh kept besides. -/
theorem handed_sized {H : Type} {enc : TypeId × Value → H} {a : Assume} {C : Checked} {os : Os} {f : FuncId} {fn : Func} {s : ChangeSpec} {conds : List PathCond} {apart fresh handsOn again : Bool} {X : World → Array Value → Prop}
    (hX : ∀ (w w' : World) (args : Array Value), w.heap = w'.heap → X w args → X w' args)
    (own : ownKnob C.prog.godebug = none) (started : os.Started) (noInit : C.prog.inits.idxOf? f = none) (hfn : C.prog.funcs[f]? = some fn)
    (witness : ∃ (w : World) (tape : Tape) (i : Input), w.os = os ∧ (w.forCall tape i).Shaped C.prog ∧ i.vars = [] ∧ Input.okWide C.prog (w.forCall tape i) .any w.heap.size f i ∧
      ((s.pre enc C.prog fn conds apart (w.forCall tape i).memory i.args ∧ X (w.forCall tape i).memory i.args) ∧ sizedMet enc C.prog fn (OpenSpec.ofChange s) apart (w.forCall tape i).memory i.args) ∧ a.holds C.prog (lone (Frame.enter C.prog f i.args .normal) [] (w.forCall tape i)))
    (contract : ∀ (W : World) (base : Nat) (args : Array Value) (ds gs : List (DataW H)) (before : List MemPlace),
      (∀ (j : Nat) t v, fn.params[j]? = some t → args[j]? = some v → Value.okWide C.prog W .any base t v) →
      DataW.Whole enc C.prog fn.params.toList s.vars apart W args.toList ds gs before → X W args → sizedMet enc C.prog fn (OpenSpec.ofChange s) apart W args → W.ShapedOpen C.prog →
      Calls C.prog f args W fun e W' => ∃ v, e = .returned v ∧ s.post enc C.prog fn apart fresh handsOn again W args v W') :
    ReturnsInHanded a C os f .any (fun w args => (s.pre enc C.prog fn conds apart w args ∧ X w args) ∧ sizedMet enc C.prog fn (OpenSpec.ofChange s) apart w args) (s.post enc C.prog fn apart fresh handsOn again) := by
  refine returnsInHanded_of_calls own started noInit witness ?_
  intro w tape i _ hsh _ hok hpre hholds
  obtain ⟨_, _, _, fn', hfn', _, _, _, _, hval⟩ := hok
  have e : fn' = fn := Option.some.inj (hfn'.symm.trans hfn)
  subst e
  obtain ⟨⟨⟨ds, gs, before, hw, hc⟩, hx⟩, hz⟩ := hpre
  have hw' := DataW.Whole.of_heap (w' := w.forCall tape i) (by rfl) hw
  refine (contract (w.forCall tape i) w.heap.size i.args ds gs before hval hw' (hX _ _ _ (by rfl) hx) (sized_of_heap (by rfl) hz) hsh).mono fun e W' ⟨v, he, hp⟩ => ?_
  subst he
  exact ChangeSpec.post_blind hp

theorem maxLen_cell {W : World} (h : W.ShapedOpen Tryz.prog) : ∃ m, W.cell? ⟨0, 0, none⟩ = some (.int .i64 m) :=
  cell_of_shapedOpen_int (P := Tryz.prog) (g := 0) (t := 3) (zero := #[.int .i64 0]) h (of_decide_eq_true (by kernel_rfl)) (by kernel_rfl) rfl (by kernel_rfl) (by kernel_rfl) Tryz.underlying3
end Go.Proofs.YtgnlebbifcmpjaaGreatDoor

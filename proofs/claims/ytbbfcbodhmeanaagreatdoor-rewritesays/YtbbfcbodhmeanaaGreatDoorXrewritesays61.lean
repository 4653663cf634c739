
import Derived.Test.YtbbfcbodhmeanaaGreatDoorXrewritesays16
import Derived.SizedLaws
import Derived.Lib.LaidCase
import Derived.Lib.LaidU8T
import Derived.Lib.LaidTab
import Derived.LaidByTextLater
import Derived.HandedShaped
import Derived.Shelf.Vars
import Derived.Lay
import Derived.SevenTiedAt
import Derived.Stop.Joined
import Derived.ShutString
import Derived.ChangeOld
namespace Go.Proofs.YtbbfcbodhmeanaaGreatDoor
open Go.ChangeShapes Go.WideShapes Go.ChangeAt Go.RowKit
theorem nam_under:∃ f0 f1:Field,Tryz.prog.underlying 56 = some (.struct #[f0,f1])∧f0.offset = 0∧f1.offset = 1∧f0.type = 3∧f1.type = 9 :=
 ⟨_,_,Tryz.underlying56,rfl,rfl,rfl,rfl⟩
theorem names_open {H:Type} {enc:TypeId × Value→H} {W:World} {base:Nat} {spare:Nat→Bool} {held:Bool} {fuel:Nat} {a0:Option Addr} {len cap:Nat} {x:DataW H × List MemPlace}
  (h:DataW.trod enc Tryz.prog W base spare held fuel 48 [.slice a0 len cap] = some x) :
  ∃ l:List NM,l.length = len∧len≤cap∧cap≤maxLen∧(a0 = none→len = 0∧cap = 0)∧NmRow W a0 l∧NLen l:=by
 obtain ⟨f0,f1,hu,o0,o1,t0,t1⟩:=nam_under
 rcases Go.Deep.open_slice_pairs Tryz.underlying48 hu (by kernel_rfl) o0 o1 (by rw [t0];kernel_rfl) (by rw [t1];kernel_rfl) h with ⟨hcs,_⟩ | ⟨a,l,c,m,n,V0,V1,D0,D1,P0,P1,hcs,_,hl,hm,hmm,_,hx⟩
 ·simp at hcs
  obtain ⟨rfl,rfl,rfl⟩:=hcs
  exact ⟨[],rfl,Nat.le_refl _,by decide,fun _=>⟨rfl,rfl⟩,fun h=>absurd rfl h,by decide,fun f hf=>by cases hf⟩
 ·simp at hcs
  obtain ⟨rfl,rfl,rfl⟩:=hcs
  have hlm:len≤m:=by rw [hmm];split <;> omega
  have each:∀ i,i < len→∃ f:NM,W.cell? (a.add (i * 2)) = some (.int .i64 f.1)∧W.cell? (a.add (i * 2 + 1)) = some (.string f.2)∧-9223372036854775808≤f.1∧f.1≤9223372036854775807∧f.2.size≤maxLen:=fun i hi=>by
   obtain ⟨h1,h2,h3,h4⟩:=hx i (by omega)
   rw [t0] at h3
   rw [t1] at h4
   obtain ⟨s,e1,_,s1⟩:=DataW.trod_int Tryz.underlying3 h3
   obtain ⟨t,e2,_,s2⟩:=DataW.trod_string Tryz.underlying9 h4
   simp at e1 e2
   have hs:-9223372036854775808≤s∧s≤9223372036854775807:=by
    simp only [Lit.wf,Bool.and_eq_true,decide_eq_true_eq] at s1
    exact s1
   exact ⟨(s,t),by rw [h1,e1],by rw [h2,e2],hs.1,hs.2,s2⟩
  obtain ⟨F,hF⟩:=Go.Deep.choose_lt each
  refine ⟨(List.range len).map F,by simp,hl,hm,(fun h=>by cases h),fun hne=>?_,by simp;omega,fun f hf=>?_⟩
  ·have hpos:0 < len:=by
    rcases Nat.eq_zero_or_pos len with e | e
    ·subst e;exact absurd rfl hne
    ·exact e
   obtain ⟨b,o,spot⟩:=a
   have hspot:spot = none:=by simpa [Addr.add] using World.cell?_spot (hF 0 hpos).1
   subst hspot
   refine ⟨b,o,rfl,fun i hi=>?_⟩
   have hi':i < len:=by simpa using hi
   have e1:((List.range len).map F).getD i nm0 = F i:=by simp [List.getD_eq_getElem?_getD,hi']
   have h1:=(hF i hi').1
   have h2:=(hF i hi').2.1
   rw [Addr.add_lit] at h1 h2
   rw [e1]
   exact ⟨h1,by rw [Nat.add_assoc];exact h2⟩
  ·obtain ⟨i,hi,rfl⟩:=List.mem_map.1 hf
   exact (hF i (by simpa using hi)).2.2
end Go.Proofs.YtbbfcbodhmeanaaGreatDoor



namespace Go.Proofs.YtbbfcbodhmeanaaGreatDoor
open Go.RowKit Go.Lib Go.Shelf
theorem utf8_laidL {w : World} (h3 : VarReads Tryz.prog w "unicode/utf8.first" firstData) (h4 : VarReads Tryz.prog w "unicode/utf8.acceptRanges" acceptData) : Lib.Utf8Tabs 1 2 w :=
 utf8Tabs_of_readsT (ρ:=Tryz.lays159_ren) { Tryz.lays159 with } ⟨by kernel_rfl,by kernel_rfl,by kernel_rfl,by kernel_rfl,by kernel_rfl,by kernel_rfl,by kernel_rfl⟩ h3 h4
theorem case_laidL {w : World} (h : VarReads Tryz.prog w "unicode.CaseRanges" caseData) : CaseVar 3 caseA w :=
 caseVar_of_reads (ρ:=Tryz.lays159_ren) { Tryz.lays159 with } Tryz.lays159.t206 ⟨by kernel_rfl,by kernel_rfl,by kernel_rfl,by kernel_rfl,by kernel_rfl,by kernel_rfl⟩ h
theorem lenv_laid {W : World} (h : laidMetH Tryz.prog [("unicode/utf8.acceptRanges", Rows.laid_unicode_utf8_acceptRanges), ("unicode.CaseRanges", Rows.laid_unicode_CaseRanges), ("unicode/utf8.first", Rows.laid_unicode_utf8_first)] W) (m : Int) (hm : W.cell? ⟨0, 0, none⟩ = some (.int .i64 m)) : LEnv W := by
 rw [MakeChecks.laidMetH_plain _ _ _ (by kernel_rfl)] at h
 have h1:=utf8_laidL (laidMet.reads h (List.mem_of_getElem? (i:=2) (by kernel_rfl))) (laidMet.reads h (List.mem_of_getElem? (i:=0) (by kernel_rfl)))
 have h2:=case_laidL (laidMet.reads h (List.mem_of_getElem? (i:=1) (by kernel_rfl)))
 intro W' hb
 exact ⟨⟨m,(hb.cell (p:=⟨0,0,none⟩) (World.block_lt_of_cell? W _ hm)).trans hm⟩,CaseVar_below h2 hb,Utf8Tabs_below h1 hb⟩
end Go.Proofs.YtbbfcbodhmeanaaGreatDoor



namespace Go.Proofs.YtbbfcbodhmeanaaGreatDoor
open Go.ChangeShapes Go.WideShapes Go.ChangeAt Go.RowKit
set_option linter.unusedVariables false
theorem own:ownKnob Tryz.prog.godebug = none:=by kernel_rfl
theorem laidOut:laidOutB Tryz.prog = true:=by kernel_rfl
theorem sized_of_heap {H:Type} {enc:TypeId × Value→H} {P:Program} {fn:Func} {s:OpenSpec} {apart:Bool} {w w':World} {args:Array Value} (hh:w.heap = w'.heap) (h:sizedMet enc P fn s apart w args):sizedMet enc P fn s apart w' args:=by
 obtain ⟨h1,ds,gs,before,hw,h2⟩:=h
 exact ⟨h1,ds,gs,before,DataW.Whole.of_heap hh hw,h2⟩
theorem handed_sized {H:Type} {enc:TypeId × Value→H} {a:Assume} {C:Checked} {os:Os} {f:FuncId} {fn:Func} {s:ChangeSpec} {conds:List PathCond} {apart fresh handsOn again:Bool} {X:World→Array Value→Prop}
  (hX:∀ (w w':World) (args:Array Value),w.heap = w'.heap→X w args→X w' args)
  (own:ownKnob C.prog.godebug = none) (started:os.Started) (noInit:C.prog.inits.idxOf? f = none) (hfn:C.prog.funcs[f]? = some fn)
  (witness:∃ (w:World) (tape:Tape) (i:Input),w.os = os∧(w.forCall tape i).Shaped C.prog∧i.vars = []∧Input.okWide C.prog (w.forCall tape i) .any w.heap.size f i ∧
   ((s.pre enc C.prog fn conds apart (w.forCall tape i).memory i.args∧X (w.forCall tape i).memory i.args)∧sizedMet enc C.prog fn (OpenSpec.ofChange s) apart (w.forCall tape i).memory i.args)∧a.holds C.prog (lone (Frame.enter C.prog f i.args .normal) [] (w.forCall tape i)))
  (contract:∀ (W:World) (base:Nat) (args:Array Value) (ds gs:List (DataW H)) (before:List MemPlace),
   (∀ (j:Nat) t v,fn.params[j]? = some t→args[j]? = some v→Value.okWide C.prog W .any base t v) →
   DataW.Whole enc C.prog fn.params.toList s.vars apart W args.toList ds gs before→X W args→sizedMet enc C.prog fn (OpenSpec.ofChange s) apart W args→W.ShapedOpen C.prog →
   Calls C.prog f args W fun e W'=>∃ v,e = .returned v∧s.post enc C.prog fn apart fresh handsOn again W args v W') :
  ReturnsInHanded a C os f .any (fun w args=>(s.pre enc C.prog fn conds apart w args∧X w args)∧sizedMet enc C.prog fn (OpenSpec.ofChange s) apart w args) (s.post enc C.prog fn apart fresh handsOn again):=by
 refine returnsInHanded_of_calls own started noInit witness ?_
 intro w tape i _ hsh _ hok hpre hholds
 obtain ⟨_,_,_,fn',hfn',_,_,_,_,hval⟩:=hok
 have e:fn' = fn:=Option.some.inj (hfn'.symm.trans hfn)
 subst e
 obtain ⟨⟨⟨ds,gs,before,hw,hc⟩,hx⟩,hz⟩:=hpre
 have hw':=DataW.Whole.of_heap (w':=w.forCall tape i) (by rfl) hw
 refine (contract (w.forCall tape i) w.heap.size i.args ds gs before hval hw' (hX _ _ _ (by rfl) hx) (sized_of_heap (by rfl) hz) hsh).mono fun e W' ⟨v,he,hp⟩=>?_
 subst he
 exact ChangeSpec.post_blind hp
theorem maxLen_cell {W:World} (h:W.ShapedOpen Tryz.prog):∃ m,W.cell? ⟨0,0,none⟩ = some (.int .i64 m) :=
 cell_of_shapedOpen_int (P:=Tryz.prog) (g:=0) (t:=3) (zero:=#[.int .i64 0]) h (of_decide_eq_true (by kernel_rfl)) (by kernel_rfl) rfl (by kernel_rfl) (by kernel_rfl) Tryz.underlying3
end Go.Proofs.YtbbfcbodhmeanaaGreatDoor


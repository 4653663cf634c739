/- The law RewriteOnly answers true for every part and all names, and leaves its arguments as they were; conditions: the listed tables of the library hold what their texts say, as the card has it. -/
import Derived.Test.YtbbfcbodhmeanaaGreatDoorXrewriteonly39
import Derived.Test.YtbbfcbodhmeanaaGreatDoorXrewriteonly40
import Derived.Test.YtbbfcbodhmeanaaGreatDoorTie
import Derived.Test.YtbbfcbodhmeanaaGreatDoorCards
namespace Go.Proofs.YtbbfcbodhmeanaaGreatDoor.rewriteOnly
open Go.ChangeShapes Go.WideShapes Go.ChangeAt Go.RowKit
open Go.ChangeMaps (open_string shut_string)
set_option linter.unusedVariables false
set_option maxRecDepth 100000 in
theorem lifted (os:Os) (started:os.Started) (H:Type) (enc:TypeId × Value→H) :
  ReturnsInHanded {} Tryz.checked os 7 .any (fun w args=>(Rows.rewriteOnlySpec.pre enc Tryz.prog Tryz.f7 Rows.rewriteOnlyRow.domain false w args∧laidMetH Tryz.prog Rows.rewriteOnlyRow.laid w)∧sizedMet enc Tryz.prog Tryz.f7 (OpenSpec.ofChange Rows.rewriteOnlySpec) false w args)
   (Rows.rewriteOnlySpec.post enc Tryz.prog Tryz.f7 false true false false):=by
 refine handed_sized (C:=Tryz.checked) (X:=fun w _=>laidMetH Tryz.prog Rows.rewriteOnlyRow.laid w) (fun _ _ _ hh h=>h.of_heap hh) own started (by kernel_rfl) Tryz.func7
  (ChangeSpec.witness_shaped (enc:=enc) (C:=Tryz.checked) (os:=os) (X:=fun w _=>laidMetH Tryz.prog Rows.rewriteOnlyRow.laid w) false (World.laidAll Tryz.prog os Rows.rewriteOnlyRow.laid) #[.agg #[.string ByteArray.empty,.string ByteArray.empty,.string ByteArray.empty,.string ByteArray.empty,.int .i64 0,.slice none 0 0,.slice none 0 0],.slice none 0 0] 8 (World.laidAll_os _ _ _)
   (World.shaped_of_ZipB (by kernel_rfl) (by kernel_rfl)) (by kernel_rfl) (by kernel_rfl) (by kernel_rfl)
   (by rw [MakeChecks.laidMetH_plain _ _ _ (by kernel_rfl)];exact laidMet_laidAll _ (by kernel_rfl) (by kernel_rfl))) ?_
 intro W base args ds gs before hval0 hW hL hz hsh
 have hval:∀ (j:Nat) t v,Tryz.f7.params[j]? = some t→args[j]? = some v→Value.okWide Tryz.prog W .any base t v:=hval0
 have hW':=hW
 obtain ⟨p,q,hA0,hV,rfl,hfz,hnd⟩:=hW
 have hA:DataW.TrodAll enc Tryz.prog W 0 (fun _=>true) true Tryz.f7.params.toList args.toList ds p:=hA0
 rw [Tryz.params7] at hA hval
 obtain ⟨v0,vs0,d0,ds0,p0,q0,hargs,rfl,rfl,h0,tl0⟩:=trodAll_cons hA
 obtain ⟨v1,vs1,d1,ds1,p1,q1,rfl,rfl,rfl,h1,tl1⟩:=trodAll_cons tl0
 obtain ⟨rfl,rfl,rfl⟩:=trodAll_nil tl1
 obtain rfl:args = #[v0,v1]:=by cases args;simp_all
 obtain ⟨rfl,rfl⟩:=trodVars_none hV
 have k0:=h0
 have lt0:∀ x ∈ p0,x.block < W.heap.size:=by obtain ⟨m,hm⟩:=k0;exact DataW.trod_lt m _ _ _ hm
 obtain ⟨P0,pb0,cb0,pk0,ck0,F0,rfl,g0⟩:∃ (p:PT) (pb:Option Addr) (cb:Nat) (pk:Option Addr) (ck F:Nat),v0 = .agg #[.string p.ty,.string p.cs,.string p.id,.string p.loc,.int .i64 p.how,.slice pb p.body.length cb,.slice pk p.kids.length ck]∧PHeld W F p pb cb pk ck:=by
  obtain ⟨fuel,hf⟩:=h0
  exact part_open (hval 0 25 v0 rfl rfl) hf
 have k1:=h1
 have lt1:∀ x ∈ p1,x.block < W.heap.size:=by obtain ⟨m,hm⟩:=k1;exact DataW.trod_lt m _ _ _ hm
 obtain ⟨a1,len1,cap1,rfl⟩:=okWide_slice Tryz.underlying48 (hval 1 48 v1 rfl rfl)
 obtain ⟨L1,e1,c1,m1,n1,r1,l1⟩:∃ l:List NM,l.length = len1∧len1≤cap1∧cap1≤maxLen∧(a1 = none→len1 = 0∧cap1 = 0)∧NRow W a1 l∧NLen l:=by
  obtain ⟨fuel,hf⟩:=h1
  exact names_open hf
 clear hA0 hval0
 obtain ⟨m,hm⟩:=maxLen_cell hsh
 refine (only_any P0 pb0 cb0 pk0 ck0 F0 a1 len1 cap1 L1 e1.symm l1 W (lenv_laid hL m hm) g0 r1).mono fun e W' ⟨he,bel⟩=>?_
 subst he
 exact ⟨_,rfl,_,_,_,[],_,[],hW',trodAll_mk1 (shut_bool Tryz.underlying4 _),(trodAll_cons_mk (Below.trod laidOut (by kernel_rfl) (of_decide_eq_true (by kernel_rfl)) k0 bel lt0) (trodAll_cons_mk (Below.trod laidOut (by kernel_rfl) (of_decide_eq_true (by kernel_rfl)) k1 bel lt1) trodAll_mk0)),rfl,bel.frame _,fun h=>by cases h⟩
theorem over:Rows.rewriteOnlyRow.holds Tryz.pinned (OpenSpec.ofChange Rows.rewriteOnlySpec) :=
 OpenClaim.holds_of_wide 7 Tryz.f7 rfl rfl rfl rfl rfl rfl rfl ⟨rfl,rfl,rfl,rfl,rfl⟩ rfl rfl rfl rfl rfl (by kernel_rfl) Tryz.func7 (by kernel_rfl)
  (of_decide_eq_true (by kernel_rfl)) (by unfold Func.isWrapper;first | (rw [if_pos (by decide +kernel)];kernel_rfl) | (rw [if_neg (by decide +kernel)];exact ⟨rfl,rfl⟩))
  (fun os started H enc _=>lifted os started H enc)
theorem card:Rows.RewriteOnlyCardSaid :=
 Claim7.holds_tied_plain_at .later [] [.data,.pinned,.pinned] true Rows.rewriteOnlyCard.stood.harness Rows.rewriteOnlyCard.stood.looks over (fun _ h=>by cases h) (by kernel_rfl) (fun _ h=>by cases h) rewriteOnly_row_tie rfl ⟨rfl,rfl⟩ (by kernel_rfl) rfl
  (fun f fn hf hfn=>by
   obtain rfl:f = 7:=Option.some.inj ((show Tryz.prog.funcNamed Rows.rewriteOnlyRow.func = some 7 by kernel_rfl).symm.trans hf) |>.symm
   obtain rfl:fn = Tryz.f7:=(Option.some.inj (Tryz.func7.symm.trans hfn)).symm
   exact ⟨by kernel_rfl,fun j t ht=>by
    rw [Tryz.params7] at ht
    have hm:t ∈ [25,48]:=by simpa using Array.mem_of_getElem? ht
    have hall:([25,48].all fun u=>!Tryz.prog.wantsStandIn u) = true:=by kernel_rfl
    exact (show Tryz.prog.wantsStandIn t = false by
     rw [List.all_eq_true] at hall
     simpa using hall t hm)⟩)
  (by kernel_rfl)
end Go.Proofs.YtbbfcbodhmeanaaGreatDoor.rewriteOnly
namespace Go.Proofs.YtbbfcbodhmeanaaGreatDoor
theorem rewriteOnly_holds:Rows.RewriteOnlyCardSaid:=rewriteOnly.card
#print axioms rewriteOnly_holds
end Go.Proofs.YtbbfcbodhmeanaaGreatDoor


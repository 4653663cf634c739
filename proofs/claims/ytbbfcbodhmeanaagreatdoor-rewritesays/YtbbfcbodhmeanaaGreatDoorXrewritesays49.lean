/- The law RewriteSays answers true for every part, all names and every number, and leaves its arguments as they were; conditions: the listed tables of the library hold what their texts say, as the card has it. -/
import Derived.Test.YtbbfcbodhmeanaaGreatDoorXrewritesays48
import Derived.Test.YtbbfcbodhmeanaaGreatDoorTie
import Derived.Test.YtbbfcbodhmeanaaGreatDoorCards
set_option maxHeartbeats 8000000
set_option maxRecDepth 1000000
namespace Go.Proofs.YtbbfcbodhmeanaaGreatDoor.rewriteSays
open Go.ChangeShapes Go.WideShapes Go.ChangeAt Go.RowKit
open Go.ChangeMaps (open_string shut_string)
set_option linter.unusedVariables false
theorem aKd(os:Os)(f:os.Started)(H:Type)(enc:TypeId×Value->H):
  ReturnsInHanded {} checked os 5 .any (λw args=>(Rows.rewriteSaysSpec.pre enc prog f5 Rows.rewriteSaysRow.domain false w args/\laidMetH prog Rows.rewriteSaysRow.laid w)/\sizedMet enc prog f5 (OpenSpec.ofChange Rows.rewriteSaysSpec) false w args)
   (Rows.rewriteSaysSpec.post enc prog f5 false true false false):=by
 refine aH8 (C:=checked) (X:=λw _=>laidMetH prog Rows.rewriteSaysRow.laid w) (λ_ _ _ hh h=>h.of_heap hh) own f (by kernel_rfl) func5
  (ChangeSpec.witness_shaped (enc:=enc) (C:=checked) (os:=os) (X:=λw _=>laidMetH prog Rows.rewriteSaysRow.laid w) false (World.laidAll prog os Rows.rewriteSaysRow.laid) #[.agg (jP ByteArray.empty ByteArray.empty ByteArray.empty ByteArray.empty 0 none 0 0 none 0 0),.slice none 0 0,.int .i64 0] 8 (World.laidAll_os _ _ _)
   (World.shaped_of_ZipB (by kernel_rfl) (by kernel_rfl)) (by kernel_rfl) (by kernel_rfl) (by kernel_rfl)
   (by rw[MakeChecks.laidMetH_plain _ _ _ (by kernel_rfl)];exact laidMet_laidAll _ (by kernel_rfl) (by kernel_rfl))) ?_
 intro W base args ds gs o d Z hL hz D
 have b:∀(j:Nat) t v,f5.params[j]?=some t->args[j]?=some v->Value.okWide prog W .any base t v:=d
 have z:=Z
 obtain⟨p,q,n,hV,rfl,ad,ae⟩:=Z
 have Y:DataW.TrodAll enc prog W 0 (λ_=>true) true f5.params.toList args.toList ds p:=n
 rw[params5]at Y b
 obtain⟨P,af,d0,aa,p0,q0,A,rfl,rfl,T,M⟩:=trodAll_cons Y
 obtain⟨v1,ag,d1,ab,p1,q1,rfl,rfl,rfl,U,N⟩:=trodAll_cons M
 obtain⟨v2,ah,d2,ac,p2,q2,rfl,rfl,rfl,V,O⟩:=trodAll_cons N
 obtain⟨rfl,rfl,rfl⟩:=trodAll_nil O
 obtain rfl:args=#[P,v1,v2]:=by cases args;simp_all
 obtain⟨rfl,rfl⟩:=trodVars_none hV
 have k0:=T
 have E:∀x∈p0,x.block<W.heap.size:=by obtain⟨m,i⟩:=k0;exact DataW.trod_lt m _ _ _ i
 obtain⟨P0,J,s,L,y,F0,rfl,g0⟩:∃(p:PT) (pb:jO) (R:Nat) (pk:jO) (S F:Nat),P=.agg (jP p.ty p.cs p.id p.loc p.how pb p.body.length R pk p.kids.length S)/\aA3 W F p pb R pk S:=by
  obtain⟨k,B⟩:=T
  exact aMJ (b 0 25 P rfl rfl) B
 have k1:=U
 have G:∀x∈p1,x.block<W.heap.size:=by obtain⟨m,i⟩:=k1;exact DataW.trod_lt m _ _ _ i
 obtain⟨r,c,a,rfl⟩:=okWide_slice underlying48 (b 1 48 v1 rfl rfl)
 obtain⟨L1,e1,c1,m1,n1,r1,l1⟩:∃l:List NM,l.length=c/\c<=a/\a<=maxLen/\(r=none->c=0/\a=0)/\aAV W r l/\aAS l:=by
  obtain⟨k,B⟩:=U
  exact aLs B
 have k2:=V
 have I:∀x∈p2,x.block<W.heap.size:=by obtain⟨m,i⟩:=k2;exact DataW.trod_lt m _ _ _ i
 obtain⟨z2,rfl,rfl,rfl,w2⟩:=open_int underlying3 (b 2 3 v2 rfl rfl) V
 clear n d
 obtain⟨m,i⟩:=aK9 D
 refine(aLI P0 J s L y F0 r c a L1 z2 e1.symm l1 W (aJ2 hL m i) g0 r1).mono λe W' ⟨he,g⟩=>?_
 subst he
 exact⟨_,rfl,_,_,_,[],_,[],z,trodAll_mk1 (shut_bool underlying4 _),(trodAll_cons_mk (Below.trod aJw (by kernel_rfl) (jbl (by kernel_rfl)) k0 g E) (trodAll_cons_mk (Below.trod aJw (by kernel_rfl) (jbl (by kernel_rfl)) k1 g G) (trodAll_cons_mk (Below.trod aJw (by kernel_rfl) (jbl (by kernel_rfl)) k2 g I) trodAll_mk0))),rfl,g.frame _,λh=>by cases h⟩
theorem aL7:Rows.rewriteSaysRow.holds Tryz.pinned (OpenSpec.ofChange Rows.rewriteSaysSpec):=
 OpenClaim.holds_of_wide 5 f5 rfl rfl rfl rfl rfl rfl rfl ⟨rfl,rfl,rfl,rfl,rfl⟩ rfl rfl rfl rfl rfl (by kernel_rfl) func5 (by kernel_rfl)
  (jbl (by kernel_rfl)) (by unfold Func.isWrapper;first|(rw[jo (by decide+kernel)];kernel_rfl)|(rw[jh (by decide+kernel)];exact⟨rfl,rfl⟩))
  (λos a H enc _=>aKd os a H enc)
theorem card:Rows.RewriteSaysCardSaid:=
 Claim7.holds_tied_plain_at .later [] [.data,.pinned,.pinned] true Rows.rewriteSaysCard.stood.harness Rows.rewriteSaysCard.stood.looks aL7 (λ_ h=>by cases h) (by kernel_rfl) (λ_ h=>by cases h) rewriteSays_row_tie rfl ⟨rfl,rfl⟩ (by kernel_rfl) rfl
  (λf d g b=>by
   obtain rfl:f=5:=jI ((show prog.funcNamed Rows.rewriteSaysRow.func=some 5 by kernel_rfl).symm.trans g)|>.symm
   obtain rfl:d=f5:=(jI (func5.symm.trans b)).symm
   exact⟨by kernel_rfl,λj t c=>by
    rw[params5]at c
    have i:t∈[25,48,3]:=by simpa using Array.mem_of_getElem? c
    have a:([25,48,3].all λu=>!prog.wantsStandIn u)=true:=by kernel_rfl
    exact(show prog.wantsStandIn t=false by
     rw[jR]at a
     simpa using a t i)⟩)
  (by kernel_rfl)
end Go.Proofs.YtbbfcbodhmeanaaGreatDoor.rewriteSays
namespace Go.Proofs.YtbbfcbodhmeanaaGreatDoor
open Go.Proofs.Tryz
theorem rewriteSays_holds:Rows.RewriteSaysCardSaid:=rewriteSays.card
#print axioms rewriteSays_holds
end Go.Proofs.YtbbfcbodhmeanaaGreatDoor

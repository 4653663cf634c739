import Derived.Test.YtbbfcbodhmeanaaGreatDoorXrewritesays37
import Derived.Lib.CountLaws
set_option maxHeartbeats 8000000
set_option maxRecDepth 1000000
namespace Go.Proofs.YtbbfcbodhmeanaaGreatDoor
open Go.Proofs.Tryz
open Go.RowKit
def aCB:List PT->Nat
 |[]=>0
 |x::l=>if aEb x=0 then aCB l else aEb x
theorem aCD:∀L:List (PT×Int),aCB (L.map (·.1))=aGO L
 |[]=>rfl
 |x::L=>by rw[jdm,aCB,aGO,aCD L]
def aDU(p:PT):Nat:=if lev 3 p=true/\(aTg 3 p).length<=12 then aCB (aG3 3 p)else 2
theorem aDV(p:PT):aDU p=(aNh p).1:=by
 have c:=aNr p
 unfold aDU aNh
 by_cases b:lev 3 p=true
 ·rw[aTi 3 p b 4 (by omega)]at c
  by_cases a:(aTg 3 p).length<=12
  ·rw[jo ⟨b,a⟩,c,jo ⟨b,a⟩]
   simp only
   have e:aCB (aG3 3 p)=aGO ((aTg 3 p).map (abs 0 (-1))):=by
    rw[<-aCD,jcm,<-aTh]
    rfl
   rw[e]
   split
   ·assumption
   ·rfl
  ·rw[jh (λh=>a h.2),c,jh (λh=>a h.2)]
 ·rw[jh (λh=>b h.1),c,jh (λh=>b h.1)]
theorem aFL(s:jA)(h:s.data.toList≠[]):s.toList.isEmpty=false:=by
 rw[jj]
 cases b:s.data.toList with
 |nil=>exact absurd b h
 |cons a l=>rfl
theorem aFP(s:jA)(h:s.data.toList=[]):s=jz:=by
 apply jbv;apply jbj.1;exact h
theorem aOJ(F:Nat)(p:PT)(pb:jO)(cb:Nat)(pk:jO)(ck:Nat)(w:World)(hH:aA3 w F p pb cb pk ck)(hT:∀w',jb w w'->Lib.Utf8Tabs 1 2 w'):
  Calls prog 10 #[.agg (jP p.ty p.cs p.id p.loc p.how pb p.body.length cb pk p.kids.length ck)] w (jG (.int .i64 (aDU p:Nat)) w):=by
 obtain⟨N,ae⟩:∃N,w.alloc (.cells (jP p.ty p.cs p.id p.loc p.how pb p.body.length cb pk p.kids.length ck) 25)=N:=⟨_,rfl⟩
 have f:jb w N:=by rw[<-ae];exact ja _ _
 have HB:Hid (∀w',jb N w'->w'.cell? (jx w.heap.size 0)=some (.string p.ty)/\w'.cell? (jx w.heap.size 1)=some (.string p.cs)/\w'.cell? (jx w.heap.size 2)=some (.string p.id)/\w'.cell? (jx w.heap.size 3)=some (.string p.loc)/\w'.cell? (jx w.heap.size 4)=some (.int .i64 p.how)/\w'.cell? (jx w.heap.size 5)=some (.slice pb p.body.length cb)/\w'.cell? (jx w.heap.size 6)=some (.slice pk p.kids.length ck)):=λw' hb=>by
  rw[<-ae]at hb
  obtain⟨m0,m1,m2,m3,m4,m5,m6,_⟩:=aK4 hb w.heap.size rfl
  exact⟨m0,m1,m2,m3,m4,m5,m6⟩
 have CS:Hid (∀w',jb N w'->Calls prog 43 #[.agg (jP p.ty p.cs p.id p.loc p.how pb p.body.length cb pk p.kids.length ck),.int .i64 3] w' λe v=>e=.returned (.tuple #[.int .i64 ((aQs 3 p).1:Nat),.int .i64 ((aQs 3 p).2:Nat)])/\jb w' v):=λw' hb=>aQw 3 F p pb cb pk ck 3 w' rfl (by decide) (hH.below (f.trans (hb.mono f.size)))
 have CF:Hid (lev 3 p=true/\(aTg 3 p).length<=12->∀w',jb N w'->Calls prog 44 #[.agg (jP p.ty p.cs p.id p.loc p.how pb p.body.length cb pk p.kids.length ck)] w' λe v=>aAx F (aG3 3 p) w' e v):=λh w' hb=>aG6 3 F p pb cb pk ck w' h.1 (by rw[<-aTh,jD];omega) (hH.below (f.trans (hb.mono f.size)))
 have HT:Hid (∀w',jb N w'->Lib.Utf8Tabs 1 2 w'):=λw' hb=>hT w' (f.trans (hb.mono f.size))
 have aL:=aQt 3 p
 obtain⟨ac,ao⟩:=aQA 3 (by decide) p
 have HY:Hid (lev 3 p=true/\(aTg 3 p).length<=12->aDU p=aCB (aG3 3 p)):=λh=>by rw[aDU,jo h]
 have aj:Hid (¬(lev 3 p=true/\(aTg 3 p).length<=12)->aDU p=2):=λh=>by rw[aDU,jh h]
 have ai:Hid (lev 3 p=true/\(aTg 3 p).length<=12->(aG3 3 p).length<=12):=λh=>by rw[<-aTh,jD];exact h.2
 obtain⟨u0,u1,u2,u3,u4,u5,u6⟩:=HB.out N (jr _ _)
 by_cases R:lev 3 p=true/\(aTg 3 p).length<=12
 ·obtain⟨e1,e2⟩:=ac R
  have aN:(aQs 3 p).1<=12:=by rw[e1];exact R.2
  have ah:Hid (∀w',jb N w'->Calls prog 44 #[.agg (jP p.ty p.cs p.id p.loc p.how pb p.body.length cb pk p.kids.length ck)] w' λe v=>aAx F (aG3 3 p) w' e v):=CF.out R
  have HR:Hid (aDU p=aCB (aG3 3 p)):=HY.out R
  have aA:=ai.out R
  clear ac ao HY aj ai CF R e1 hH hT aL
  generalize (aQs 3 p).1=s1 at*
  generalize (aQs 3 p).2=s2 at*
  generalize aDU p=m at*
  obtain⟨L,hL⟩:∃L,aG3 3 p=L:=⟨_,rfl⟩
  rw[hL]at ah HR aA
  clear hL
  generalize p.body.length=nb at*
  generalize p.kids.length=nk at*
  have z1:decide ((12:Int)<(s1:Int))=false:=by simp;omega
  have z2:decide ((3:Int)<(s2:Int))=false:=by simp;omega
  go_enter func10,ntmps10
  go_wp2_with fail
  refine(CS.out N (jr _ _)).mono ?_
  rintro e w2 ⟨rfl,U⟩
  obtain⟨v0,v1,v2,v3,v4,v5,v6⟩:=HB.out w2 U
  clear CS u0 u1 u2 u3 u4 u5 u6 ae
  go_wp2_with fail
  refine(ah.out w2 U).mono ?_
  rintro e w3 ⟨q,c,rfl,ag,aQ,aI,aP,aC,-⟩
  have V:=U.trans (ag.mono U.size)
  obtain⟨n,hn⟩:∃n,L.length=n:=⟨_,rfl⟩
  have HN:Hid _:=hn
  rw[hn]at aA aI
  simp only[hn]
  have HK:Hid (∀k,k<n->∃b o,q=some (jx b o)/\PAt w3 F b (o+k*7) (L.getD k pt0)):=λk hk=>by
   obtain⟨b,o,e1,e2⟩:=aC.each (λe=>by rw[e]at hn;simp at hn;omega)
   exact⟨b,o,e1,e2 k (by omega)⟩
  clear ah v0 v1 v2 v3 v4 v5 v6 aC hn ag U
  go_wp2_with fail
  go_loopw[22] (λiv wr=>∃k:Nat,k<=n/\iv=.int .i64 k/\jb w3 wr/\Hid (m=aCB (L.drop k))) (λiv _=>n-(intOf iv).toNat)
  case atStart=>exact⟨0,jy _,rfl,jr _ _,HR⟩
  case round=>
   obtain⟨k,hk,rfl,aa,HD⟩:=hrel
   have aK:=aa.size
   by_cases aF:k<n
   ·have aJ:(k:Int)<(n:Int):=by omega
    obtain⟨b,o,rfl,hP⟩:=HK.out k aF
    have aD:k<L.length:=by rw[HN.out];exact aF
    have az:L.drop k=L.getD k pt0::L.drop (k+1):=by
     rw[jE aD]
     simp[List.getD_eq_getElem?_getD,List.getElem?_eq_getElem aD]
    rw[az,aCB]at HD
    obtain⟨x,hx⟩:∃x,L.getD k pt0=x:=⟨_,rfl⟩
    rw[hx]at HD hP
    have r:Hid (aEb x=0->m=aCB (L.drop (k+1))):=λh=>by rw[HD.out,jo h]
    have d:Hid (∀a,aEb x=a->a≠0->m=a):=λa h h0=>by rw[HD.out,jh (by rw[h];exact h0),h]
    obtain⟨a1,a2,a3,a4,hC,ap⟩:=hP.below aa
    obtain⟨l0,l1,l2,l3,l4,l5,l6,l7⟩:=ap.1
    unfold maxLen at l6 l7
    obtain⟨d0,d1,d2,d3,d4,d5,d6⟩:=hC
    have aO:b<wr.heap.size:=ji wr _ d0
    have A:Hid (aSK x=false->aEb x=1):=λh=>by rw[aEb,jo h]
    have D:Hid (aSK x=true->(x.how<0\/2<x.how)->aEb x=3):=λh h2=>by rw[aEb,jh (by rw[h];decide),jo h2]
    have I:Hid (aSK x=true->¬(x.how<0\/2<x.how)->4000<x.body.length->aEb x=2):=λh h2 h3=>by rw[aEb,jh (by rw[h];decide),jh h2,jo h3]
    have y:Hid (aSK x=true->¬(x.how<0\/2<x.how)->¬4000<x.body.length->aHf x=false->aEb x=4):=λh h2 h3 h4=>by rw[aEb,jh (by rw[h];decide),jh h2,jh h3,jo h4]
    have E:Hid (aSK x=true->¬(x.how<0\/2<x.how)->¬4000<x.body.length->aHf x=true->aEb x=0):=λh h2 h3 h4=>by rw[aEb,jh (by rw[h];decide),jh h2,jh h3,jh (by rw[h4];decide)]
    have HX:Hid (aSK x=(aTE x.ty.data.toList&&(x.cs.data.toList.isEmpty||aS4 x.cs.data.toList)&&aVe x.id.data.toList&&aVe x.loc.data.toList)):=rfl
    have j:Hid (aHf x=if aK5 x.ty.data.toList then !x.kids.isEmpty&&x.body.isEmpty&&decide (x.how=0)&&x.cs.data.toList.isEmpty else x.kids.isEmpty):=rfl
    have CM:Hid (∀w',Calls prog 45 #[.string x.ty] w' λe v=>e=.returned (.bool (aK5 x.ty.data.toList))/\v=w'):=λw'=>aPl x.ty w' l0
    have CT:Hid (∀w',jb N w'->Calls prog 46 #[.string x.ty] w' λe v=>e=.returned (.bool (aTE x.ty.data.toList))/\jb w' v):=λw' hb=>aPL x.ty w' l0 (λv aG=>HT.out v (hb.trans (aG.mono hb.size)))
    have CC:Hid (∀w',Calls prog 47 #[.string x.cs] w' λe v=>e=.returned (.bool (aS4 x.cs.data.toList))/\v=w'):=λw'=>aS5 x.cs w' l1
    have G:Hid (∀w',Calls prog 48 #[.string x.id] w' λe v=>e=.returned (.bool (aVe x.id.data.toList))/\v=w'):=λw'=>aPN x.id w' l2
    have H:Hid (∀w',Calls prog 48 #[.string x.loc] w' λe v=>e=.returned (.bool (aVe x.loc.data.toList))/\v=w'):=λw'=>aPN x.loc w' l3
    clear hx hP ap az HD HK
    obtain⟨ty,cs,id,S,C,l,kids⟩:=x
    simp only at d0 d1 d2 d3 d4 d5 d6 A D I y E HX j CM CT CC G H l4 l5 l6 l7
    have aw:=(jr wr.heap.size wr).alloc (jf _) (.cells (jP ty cs id S C a1 l.length a2 a3 kids.length a4) 25)
    have av:jb N _:=(V.trans (aa.mono V.size)).trans (aw.mono (by have:=V.size;omega))
    go_wp2_with fail
    refine(CM.out _).mono ?_
    rintro e wx ⟨rfl,M⟩
    have t:=M.symm
    subst t
    go_wp2_with fail
    refine(CT.out _ av).mono ?_
    rintro e w5 ⟨rfl,aq⟩
    obtain⟨m0,m1,m2,m3,m4,m5,m6,-,-,-,ar⟩:=aK4 aq wr.heap.size rfl
    have Y:jb w3 w5:=aa.trans (ar.mono aK)
    have g:jb N w5:=V.trans (Y.mono V.size)
    clear CM CT d0 d1 d2 d3 d4 d5 d6 aq av aw
    cases ht:aTE ty.data.toList
    ·have i:Hid (m=1):=d.out 1 (A.out (by rw[HX.out,ht];rfl)) (by decide)
     clear r d A I D y E HX j G H CC ht
     go_wp2_with fail
     go_ret
     exact⟨by rw[i.out];rfl,f.trans (g.mono f.size)⟩
    ·rw[ht]at HX
     by_cases ay:cs.data.toList=[]
     ·have ax:=aFP cs ay
      subst ax
      have z:Hid (aSK ⟨ty,jz,id,S,C,l,kids⟩=(aVe id.data.toList&&aVe S.data.toList)):=by unfold Hid;rw[HX.out];rfl
      clear HX ht CC
      go_wp2_with fail
      refine(G.out _).mono ?_
      rintro e wx ⟨rfl,M⟩
      have t:=M.symm
      subst t
      cases hi:aVe id.data.toList
      ·have i:Hid (m=1):=d.out 1 (A.out (by rw[z.out,hi];rfl)) (by decide)
       clear r d A I D y E j G H z hi
       go_wp2_with fail
       go_ret
       exact⟨by rw[i.out];rfl,f.trans (g.mono f.size)⟩
      ·rw[hi]at z
       go_wp2_with fail
       refine(H.out _).mono ?_
       rintro e wx ⟨rfl,M⟩
       have t:=M.symm
       subst t
       cases hj:aVe S.data.toList
       ·have i:Hid (m=1):=d.out 1 (A.out (by rw[z.out,hj];rfl)) (by decide)
        clear r d A I D y E j G H z hi hj
        go_wp2_with fail
        go_ret
        exact⟨by rw[i.out];rfl,f.trans (g.mono f.size)⟩
       ·have s:Hid (aSK ⟨ty,jz,id,S,C,l,kids⟩=true):=by unfold Hid;rw[z.out,hj];rfl
        clear z hi hj
        by_cases hh:C<0
        ·have i:Hid (m=3):=d.out 3 (D.out s.out (.inl hh)) (by decide)
         clear r d A I D y E j G H s
         go_wp2_with fail
         go_ret
         exact⟨by rw[i.out];rfl,f.trans (g.mono f.size)⟩
        ·by_cases an:2<C
         ·have i:Hid (m=3):=d.out 3 (D.out s.out (.inr an)) (by decide)
          clear r d A I D y E j G H s
          go_wp2_with fail
          go_ret
          exact⟨by rw[i.out];rfl,f.trans (g.mono f.size)⟩
         ·by_cases B:4000<l.length
          ·have am:(4000:Int)<(l.length:Int):=by omega
           have i:Hid (m=2):=d.out 2 (I.out s.out (by omega) B) (by decide)
           clear r d A I D y E j G H s
           go_wp2_with fail
           go_ret
           exact⟨by rw[i.out];rfl,f.trans (g.mono f.size)⟩
          ·have am:¬((4000:Int)<(l.length:Int)):=by omega
           cases hM:aK5 ty.data.toList
           ·rw[hM]at j
            by_cases P:kids.length=0
            ·have J:kids=[]:=js.1 P
             have X:¬((0:Int)<(kids.length:Int)):=by omega
             have aE:decide ((0:Int)<(kids.length:Int))=false:=by simp;omega
             have Z:Hid (m=aCB (L.drop (k+1))):=r.out (E.out s.out (by omega) B (by rw[j.out,J];rfl))
             clear r
             clear d A I D y E j G H
             go_wp2_with fail
             go_roundw
             case rel=>exact⟨k+1,by omega,by go_num,Y,Z⟩
             case measure=>simp[intOf];omega
            ·have X:(0:Int)<(kids.length:Int):=by omega
             have i:Hid (m=4):=d.out 4 (y.out s.out (by omega) B (by rw[j.out];cases kids<;>simp_all)) (by decide)
             clear r d A I D y E j G H
             go_wp2_with fail
             go_ret
             exact⟨by rw[i.out];rfl,f.trans (g.mono f.size)⟩
           ·rw[hM]at j
            by_cases P:kids.length=0
            ·have J:kids=[]:=js.1 P
             have X:((kids.length:Int)==0)=true:=by simp[P]
             have i:Hid (m=4):=d.out 4 (y.out s.out (by omega) B (by rw[j.out,J];rfl)) (by decide)
             clear r d A I D y E j G H
             go_wp2_with fail
             go_ret
             exact⟨by rw[i.out];rfl,f.trans (g.mono f.size)⟩
            ·have X:((kids.length:Int)==0)=false:=by rw[jg];omega
             have W:kids.isEmpty=false:=by cases kids<;>simp_all
             by_cases ak:l.length=0
             ·have T:l=[]:=js.1 ak
              have ab:decide ((0:Int)<(l.length:Int))=false:=by simp;omega
              by_cases O:C=0
              ·subst O
               have Z:Hid (m=aCB (L.drop (k+1))):=r.out (E.out s.out (by omega) B (by rw[j.out,W,T];rfl))
               clear r
               clear d A I D y E j G H
               go_wp2_with fail
               go_roundw
               case rel=>exact⟨k+1,by omega,by go_num,Y,Z⟩
               case measure=>simp[intOf];omega
              ·have aH:(C !=0)=true:=by simpa using O
               have aB:(C==0)=false:=by rw[jg];exact O
               have i:Hid (m=4):=d.out 4 (y.out s.out (by omega) B (by rw[j.out,W,T];simp[O])) (by decide)
               clear r d A I D y E j G H
               go_wp2_with fail
               go_ret
               exact⟨by rw[i.out];rfl,f.trans (g.mono f.size)⟩
             ·have ab:(0:Int)<(l.length:Int):=by omega
              have al:l.isEmpty=false:=by cases l<;>simp_all
              have i:Hid (m=4):=d.out 4 (y.out s.out (by omega) B (by rw[j.out,W,al];rfl)) (by decide)
              clear r d A I D y E j G H
              go_wp2_with fail
              go_ret
              exact⟨by rw[i.out];rfl,f.trans (g.mono f.size)⟩
     ·have ax:=aFL cs ay
      have af:cs.data.toList.isEmpty=false:=by cases hq:cs.data.toList<;>simp_all
      go_wp2_with fail
      refine(CC.out _).mono ?_
      rintro e wx ⟨rfl,M⟩
      have t:=M.symm
      subst t
      cases ad:aS4 cs.data.toList
      ·have i:Hid (m=1):=d.out 1 (A.out (by rw[HX.out,ad,af];rfl)) (by decide)
       clear r d A I D y E HX j G H CC ht ad
       go_wp2_with fail
       go_ret
       exact⟨by rw[i.out];rfl,f.trans (g.mono f.size)⟩
      ·have z:Hid (aSK ⟨ty,cs,id,S,C,l,kids⟩=(aVe id.data.toList&&aVe S.data.toList)):=by unfold Hid;rw[HX.out,ad];simp
       clear HX ht CC ad
       go_wp2_with fail
       refine(G.out _).mono ?_
       rintro e wx ⟨rfl,M⟩
       have t:=M.symm
       subst t
       cases hi:aVe id.data.toList
       ·have i:Hid (m=1):=d.out 1 (A.out (by rw[z.out,hi];rfl)) (by decide)
        clear r d A I D y E j G H z hi
        go_wp2_with fail
        go_ret
        exact⟨by rw[i.out];rfl,f.trans (g.mono f.size)⟩
       ·rw[hi]at z
        go_wp2_with fail
        refine(H.out _).mono ?_
        rintro e wx ⟨rfl,M⟩
        have t:=M.symm
        subst t
        cases hj:aVe S.data.toList
        ·have i:Hid (m=1):=d.out 1 (A.out (by rw[z.out,hj];rfl)) (by decide)
         clear r d A I D y E j G H z hi hj
         go_wp2_with fail
         go_ret
         exact⟨by rw[i.out];rfl,f.trans (g.mono f.size)⟩
        ·have s:Hid (aSK ⟨ty,cs,id,S,C,l,kids⟩=true):=by unfold Hid;rw[z.out,hj];rfl
         clear z hi hj
         by_cases hh:C<0
         ·have i:Hid (m=3):=d.out 3 (D.out s.out (.inl hh)) (by decide)
          clear r d A I D y E j G H s
          go_wp2_with fail
          go_ret
          exact⟨by rw[i.out];rfl,f.trans (g.mono f.size)⟩
         ·by_cases an:2<C
          ·have i:Hid (m=3):=d.out 3 (D.out s.out (.inr an)) (by decide)
           clear r d A I D y E j G H s
           go_wp2_with fail
           go_ret
           exact⟨by rw[i.out];rfl,f.trans (g.mono f.size)⟩
          ·by_cases B:4000<l.length
           ·have am:(4000:Int)<(l.length:Int):=by omega
            have i:Hid (m=2):=d.out 2 (I.out s.out (by omega) B) (by decide)
            clear r d A I D y E j G H s
            go_wp2_with fail
            go_ret
            exact⟨by rw[i.out];rfl,f.trans (g.mono f.size)⟩
           ·have am:¬((4000:Int)<(l.length:Int)):=by omega
            cases hM:aK5 ty.data.toList
            ·rw[hM]at j
             by_cases P:kids.length=0
             ·have J:kids=[]:=js.1 P
              have X:¬((0:Int)<(kids.length:Int)):=by omega
              have aE:decide ((0:Int)<(kids.length:Int))=false:=by simp;omega
              have Z:Hid (m=aCB (L.drop (k+1))):=r.out (E.out s.out (by omega) B (by rw[j.out,J];rfl))
              clear r
              clear d A I D y E j G H
              go_wp2_with fail
              go_roundw
              case rel=>exact⟨k+1,by omega,by go_num,Y,Z⟩
              case measure=>simp[intOf];omega
             ·have X:(0:Int)<(kids.length:Int):=by omega
              have i:Hid (m=4):=d.out 4 (y.out s.out (by omega) B (by rw[j.out];cases kids<;>simp_all)) (by decide)
              clear r d A I D y E j G H
              go_wp2_with fail
              go_ret
              exact⟨by rw[i.out];rfl,f.trans (g.mono f.size)⟩
            ·rw[hM]at j
             by_cases P:kids.length=0
             ·have J:kids=[]:=js.1 P
              have X:((kids.length:Int)==0)=true:=by simp[P]
              have i:Hid (m=4):=d.out 4 (y.out s.out (by omega) B (by rw[j.out,J];rfl)) (by decide)
              clear r d A I D y E j G H
              go_wp2_with fail
              go_ret
              exact⟨by rw[i.out];rfl,f.trans (g.mono f.size)⟩
             ·have X:((kids.length:Int)==0)=false:=by rw[jg];omega
              have W:kids.isEmpty=false:=by cases kids<;>simp_all
              by_cases ak:l.length=0
              ·have T:l=[]:=js.1 ak
               have ab:decide ((0:Int)<(l.length:Int))=false:=by simp;omega
               by_cases O:C=0
               ·subst O
                have i:Hid (m=4):=d.out 4 (y.out s.out (by omega) B (by rw[j.out,W,T,af];rfl)) (by decide)
                clear r d A I D y E j G H
                go_wp2_with fail
                go_ret
                exact⟨by rw[i.out];rfl,f.trans (g.mono f.size)⟩
               ·have aH:(C !=0)=true:=by simpa using O
                have aB:(C==0)=false:=by rw[jg];exact O
                have i:Hid (m=4):=d.out 4 (y.out s.out (by omega) B (by rw[j.out,W,T];simp[O])) (by decide)
                clear r d A I D y E j G H
                go_wp2_with fail
                go_ret
                exact⟨by rw[i.out];rfl,f.trans (g.mono f.size)⟩
              ·have ab:(0:Int)<(l.length:Int):=by omega
               have al:l.isEmpty=false:=by cases l<;>simp_all
               have i:Hid (m=4):=d.out 4 (y.out s.out (by omega) B (by rw[j.out,W,al];rfl)) (by decide)
               clear r d A I D y E j G H
               go_wp2_with fail
               go_ret
               exact⟨by rw[i.out];rfl,f.trans (g.mono f.size)⟩
   ·have aJ:¬((k:Int)<(n:Int)):=by omega
    have i:Hid (m=0):=by unfold Hid;rw[HD.out,jC (by rw[HN.out];omega)];rfl
    clear HD HK
    go_wp2_with fail
    go_ret
    exact⟨by rw[i.out];rfl,f.trans ((V.trans (aa.mono V.size)).mono f.size)⟩
 ·have aM:=ao R
  have HR:Hid (aDU p=2):=aj.out R
  clear ac ao HY aj ai CF R hH hT
  generalize (aQs 3 p).1=s1 at*
  generalize (aQs 3 p).2=s2 at*
  generalize aDU p=m at*
  go_enter func10,ntmps10
  go_wp2_with fail
  refine(CS.out N (jr _ _)).mono ?_
  rintro e w2 ⟨rfl,U⟩
  clear CS u0 u1 u2 u3 u4 u5 u6 ae
  by_cases h1:12<s1
  ·have z1:(12:Int)<(s1:Int):=by omega
   go_wp2_with fail
   go_ret
   exact⟨by rw[HR.out];rfl,f.trans (U.mono f.size)⟩
  ·have z1:decide ((12:Int)<(s1:Int))=false:=by simp;omega
   have z2:(3:Int)<(s2:Int):=by omega
   go_wp2_with fail
   go_ret
   exact⟨by rw[HR.out];rfl,f.trans (U.mono f.size)⟩
theorem aLB{l:jB}(h:Lib.indexByte l 35=-1):aLy l=l:=by
 have c:=Lib.indexByte_none h
 unfold aLy
 cases d:aEM 35 l with
 |none=>rfl
 |some x=>
  obtain⟨a,b⟩:=x
  have e:=(aEO 35 l a b d).1
  exact absurd (by rw[e];simp) (c a.length)
theorem aLC{l:jB}{i:Nat}(h:Lib.indexByte l 35=i):aLy l=l.take i:=by
 obtain⟨b,f⟩:=Lib.indexByte_some h
 have n:i<l.length:=(jN.1 b).1
 have e:l=l.take i++35::l.drop (i+1):=by
  have:=jE n
  have g:l[i]=35:=(jN.1 b).2
  rw[g]at this
  rw[<-this,jaq]
 have j:∀c∈l.take i,c≠35:=by
  intro c m
  obtain⟨k,o,rfl⟩:=jdq m
  rw[jF]at o
  have:=f k (by omega)
  rw[List.getElem_take]
  intro d
  rw[jc (by omega),d]at this
  exact this rfl
 unfold aLy
 have a:=aEN 35 (l.take i) (l.drop (i+1)) j
 rw[<-e]at a
 rw[a]
theorem aQ5(s:jA):∃t,Lib.splitB ⟨#[35]⟩ 0 (Lib.countB s ⟨#[35]⟩) s=tx8 (aLy s.data.toList)::t:=by
 have e1:Lib.indexB s ⟨#[35]⟩=Lib.indexByte s.data.toList 35:=Lib.index_one _ _
 rcases (by have:=Lib.indexByte_ge s.data.toList 35;omega:Lib.indexByte s.data.toList 35=-1\/0<=Lib.indexByte s.data.toList 35)with h|h
 ·rw[Lib.splitB_miss _ _ _ _ (e1.trans h),aLB h]
  exact⟨[],rfl⟩
 ·obtain⟨i,a⟩:∃i:Nat,Lib.indexByte s.data.toList 35=i:=⟨_,(Int.toNat_of_nonneg h).symm⟩
  rw[Lib.countB_hit s ⟨#[35]⟩ i (by decide) (e1.trans a),Nat.add_comm,Lib.splitB_hit _ _ _ s i (e1.trans a),aLC a]
  refine⟨_,jab (·::_) ?_⟩
  apply jbv
  apply Array.ext'
  rw[aTy,jcd,Lib.extract_from_zero]
theorem aLE(s:jA)(o:s.size<=4000)(w:World)(k:aAP w):
  Calls prog 56 #[.string s] w λe w'=>e=.returned (.string (tx8 (aLy s.data.toList)))/\jb w w':=by
 obtain⟨m,b⟩:=k
 have C:=strings_Split s ⟨#[35]⟩ m w (by omega) b (by decide)
 obtain⟨t,f⟩:=aQ5 s
 rw[f]at C
 obtain⟨n,c⟩:∃n,Lib.countB s ⟨#[35]⟩+1=n:=⟨_,rfl⟩
 have l:0<n:=by omega
 rw[c]at C
 have j:(((tx8 (aLy s.data.toList)::t).map Value.string).toArray)[0]?=some (.string (tx8 (aLy s.data.toList))):=by simp
 generalize ((tx8 (aLy s.data.toList)::t).map Value.string).toArray=i at*
 generalize tx8 (aLy s.data.toList)=R at*
 clear f c
 have g:Hid (Calls _ _ _ _ _):=C
 clear C
 have d:(0:Int)<(n:Int):=by omega
 go_enter func56,ntmps56
 go_wp2_with fail
 refine g.out.mono ?_
 rintro e p ⟨rfl,rfl⟩
 have a:(w.alloc (.cells i 9)).cell? ⟨w.heap.size,0,none⟩=some (.string R):=by rw[aDe (aDi w _) 0];exact j
 go_wp2_with fail
 go_ret
 exact⟨rfl,ja _ _⟩
theorem aHB(l:jB):(tx8 l).toList.isEmpty=l.isEmpty:=by rw[jj];rfl
theorem aHA(s:jA):s.toList.isEmpty=s.data.toList.isEmpty:=by rw[jj]
theorem aHC(a b:jB):((tx8 a).toList==(tx8 b).toList)=(a==b):=by rw[jj,jj];rfl
theorem aKa(w:World)(hM:∀W,Below w.heap.size w W->aAP W)(wb wo n cw G Y k:Nat)(hk:k<n)(loc:ByteArray)(wk LE:List UInt8)(hwk:wk.length<=120)(hLE:LE.length<=120)(hy:w.cell? ⟨Y,3,none⟩=some (.string loc))(hw:w.cell? ⟨wb,wo+k,none⟩=some (.string (tx8 wk)))(hg:w.cell? ⟨G,4,none⟩=some (.string (tx8 LE)))(c0 c1 c2 c3 c4 c7 c8 c9 c10 c11 c12 c13 c14 c18 c19 c20 c21 c22 c23 c24 c25 c26 c27 c28 c29 c30 c31 c32 c33 c34 c35 c36 c37 c38 c39 c40 c41 c42 c43 c44 c45 c46 c47 c48 c49 c50 c51 c52 c53 c54 c55 c56 c57 c58 c59 c60 c61 c62 c63 c64 c65 c66 c67 c68 c69 c70 c71 c72 c73 c74 c75 c76 c77 c78 c79 c80 c81 c82 c83 c84 c85 c86 c87 c88 c89 c90 c91 c92 c93 c94 c95 c96 c97 c98 c99 c100 c101 c102 c103 c104 c105 c106 c107 c108 c109 c110 c111 c112 c113 c114 c115 c116 c117 c118 c119 c120 c121 c122 c123 c124 c125 c126 c127 c128 c129 c130:Value)(Q:Exit->Act->World->Prop)
  (hexit:∀u80 u81 u82 u83 u84 u85 u86 u87 u88 u89 u90 u91 u92 u93 u94 u95 u96 u97 u98 u99 u100 u101 u102:Value,∀w':World,Below w.heap.size w w'->Q .normal ⟨(c0::c1::c2::c3::c4::.slice (some ⟨wb,wo,none⟩) n cw::.func (Fn.func 56) #[] #[]::c7::c8::c9::c10::c11::c12::c13::c14::.pointer (some ⟨G,0,none⟩)::.int .i64 (k:Int)::.pointer (some ⟨Y,0,none⟩)::.bool (!loc.data.toList.isEmpty&&!wk.isEmpty&&(aLy wk==aLy LE))::c19::c20::c21::c22::c23::c24::c25::c26::c27::c28::c29::c30::c31::c32::c33::c34::c35::c36::c37::c38::c39::c40::c41::c42::c43::c44::c45::c46::c47::c48::c49::c50::c51::c52::c53::c54::c55::c56::c57::c58::c59::c60::c61::c62::c63::c64::c65::c66::c67::c68::c69::c70::c71::c72::c73::c74::c75::c76::c77::c78::c79::u80::u81::u82::u83::u84::u85::u86::u87::u88::u89::u90::u91::u92::u93::u94::u95::u96::u97::u98::u99::u100::u101::u102::c103::c104::c105::c106::c107::c108::c109::c110::c111::c112::c113::c114::c115::c116::c117::c118::c119::c120::c121::c122::c123::c124::c125::c126::c127::c128::c129::c130::[]).toArray,[]⟩ w'):
  Code.wp prog (aOP f14 22) Q ⟨(c0::c1::c2::c3::c4::.slice (some ⟨wb,wo,none⟩) n cw::.func (Fn.func 56) #[] #[]::c7::c8::c9::c10::c11::c12::c13::c14::.pointer (some ⟨G,0,none⟩)::.int .i64 (k:Int)::.pointer (some ⟨Y,0,none⟩)::c18::c19::c20::c21::c22::c23::c24::c25::c26::c27::c28::c29::c30::c31::c32::c33::c34::c35::c36::c37::c38::c39::c40::c41::c42::c43::c44::c45::c46::c47::c48::c49::c50::c51::c52::c53::c54::c55::c56::c57::c58::c59::c60::c61::c62::c63::c64::c65::c66::c67::c68::c69::c70::c71::c72::c73::c74::c75::c76::c77::c78::c79::c80::c81::c82::c83::c84::c85::c86::c87::c88::c89::c90::c91::c92::c93::c94::c95::c96::c97::c98::c99::c100::c101::c102::c103::c104::c105::c106::c107::c108::c109::c110::c111::c112::c113::c114::c115::c116::c117::c118::c119::c120::c121::c122::c123::c124::c125::c126::c127::c128::c129::c130::[]).toArray,[]⟩ w:=by
 have HX:Hid _:=hexit
 clear hexit
 conv=>arg 2;whnf
 have C1:Hid (∀W,Below w.heap.size w W->Calls prog 56 #[.string (tx8 wk)] W λe w'=>e=.returned (.string (tx8 (aLy wk)))/\Below w.heap.size w w'):=λW hW=>(aLE (tx8 wk) (by rw[aTA];omega) W (hM W hW)).mono λe w' h=>⟨h.1,hW.trans (h.2.mono hW.size)⟩
 have C2:Hid (∀W,Below w.heap.size w W->Calls prog 56 #[.string (tx8 LE)] W λe w'=>e=.returned (.string (tx8 (aLy LE)))/\Below w.heap.size w w'):=λW hW=>(aLE (tx8 LE) (by rw[aTA];omega) W (hM W hW)).mono λe w' h=>⟨h.1,hW.trans (h.2.mono hW.size)⟩
 have hki:(k:Int)<(n:Int):=by omega
 have e1:=aHA loc
 have e2:=aHB wk
 have hYl:Y<w.heap.size:=World.block_lt_of_cell? w _ hy
 have hWl:wb<w.heap.size:=World.block_lt_of_cell? w _ hw
 have hGl:G<w.heap.size:=World.block_lt_of_cell? w _ hg
 have f0:∀W,Below w.heap.size w W->W.cell? ⟨Y,3,none⟩=some (.string loc):=λW h=>(h.cell (p:=⟨Y,3,none⟩) hYl).trans hy
 have f1:∀W,Below w.heap.size w W->W.cell? ⟨wb,wo+k,none⟩=some (.string (tx8 wk)):=λW h=>(h.cell (p:=⟨wb,wo+k,none⟩) hWl).trans hw
 have f2:∀W,Below w.heap.size w W->W.cell? ⟨G,4,none⟩=some (.string (tx8 LE)):=λW h=>(h.cell (p:=⟨G,4,none⟩) hGl).trans hg
 have hb0:Below w.heap.size w w.drew:=(Below.refl _ _).drew
 cases h1:loc.data.toList.isEmpty with
 |true=>
  rw[h1]at e1 HX
  clear C1 C2 h1 e2 f1 f2
  go_region
  exact HX.out _ _ _ _ _ _ _ _ _ _ _ _ _ _ _ _ _ _ _ _ _ _ _ _ hb0
 |false=>
  rw[h1]at e1 HX
  cases h2:wk.isEmpty with
  |true=>
   rw[h2]at e2 HX
   clear C1 C2 h1 h2 f2
   go_region
   exact HX.out _ _ _ _ _ _ _ _ _ _ _ _ _ _ _ _ _ _ _ _ _ _ _ _ hb0
  |false=>
   rw[h2]at e2 HX
   have e3:=aHC (aLy wk) (aLy LE)
   obtain⟨T1,hT1⟩:∃T,tx8 (aLy wk)=T:=⟨_,rfl⟩
   obtain⟨T2,hT2⟩:∃T,tx8 (aLy LE)=T:=⟨_,rfl⟩
   rw[hT1]at C1 e3
   rw[hT2]at C2 e3
   have HXX:Hid (∀u80 u81 u82 u83 u84 u85 u86 u87 u88 u89 u90 u91 u92 u93 u94 u95 u96 u97 u98 u99 u100 u101 u102:Value,∀w':World,Below w.heap.size w w'->Q .normal ⟨(c0::c1::c2::c3::c4::.slice (some ⟨wb,wo,none⟩) n cw::.func (Fn.func 56) #[] #[]::c7::c8::c9::c10::c11::c12::c13::c14::.pointer (some ⟨G,0,none⟩)::.int .i64 (k:Int)::.pointer (some ⟨Y,0,none⟩)::.bool (!false&&!false&&(aLy wk==aLy LE))::c19::c20::c21::c22::c23::c24::c25::c26::c27::c28::c29::c30::c31::c32::c33::c34::c35::c36::c37::c38::c39::c40::c41::c42::c43::c44::c45::c46::c47::c48::c49::c50::c51::c52::c53::c54::c55::c56::c57::c58::c59::c60::c61::c62::c63::c64::c65::c66::c67::c68::c69::c70::c71::c72::c73::c74::c75::c76::c77::c78::c79::u80::u81::u82::u83::u84::u85::u86::u87::u88::u89::u90::u91::u92::u93::u94::u95::u96::u97::u98::u99::u100::u101::u102::c103::c104::c105::c106::c107::c108::c109::c110::c111::c112::c113::c114::c115::c116::c117::c118::c119::c120::c121::c122::c123::c124::c125::c126::c127::c128::c129::c130::[]).toArray,[]⟩ w'):=HX.out
   generalize (aLy wk==aLy LE)=B1 at*
   clear h1 h2 hT1 hT2 HX
   go_region_held3 (λW=>Below w.heap.size w W) (first|assumption|exact hb0) (first
    |(go_at_call 56;refine(C1.out _ ?_).mono ?_;(first|assumption|exact hb0);rintro e w1 ⟨rfl,hb1⟩)
    |(go_at_call 56;refine(C2.out _ ?_).mono ?_;(first|assumption|exact hb0);rintro e w2 ⟨rfl,hb2⟩))
   exact HXX.out _ _ _ _ _ _ _ _ _ _ _ _ _ _ _ _ _ _ _ _ _ _ _ _ (by assumption)
end Go.Proofs.YtbbfcbodhmeanaaGreatDoor

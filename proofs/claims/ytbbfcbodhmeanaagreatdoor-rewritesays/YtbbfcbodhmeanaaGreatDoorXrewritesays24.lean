import Derived.Test.YtbbfcbodhmeanaaGreatDoorXrewritesays23
import Derived.Lib.MapU
import Derived.Lib.TrimUEq
import Derived.Lib.TrimAscii
import Derived.Lib.RuneBytes
set_option maxHeartbeats 8000000
set_option maxRecDepth 1000000
namespace Go.Proofs.YtbbfcbodhmeanaaGreatDoor
open Go.Proofs.Tryz
open Go.RowKit
abbrev aHm(XB:Nat):Nat->Prop:=λx=>XB<=x
abbrev doF(T0 nb:Nat):Value:=.func (Fn.func 64) #[] #[.pointer (some (jx T0 0)),.pointer (some (jx nb 0))]
theorem aFK(w0:World)(HE:aAI w0)(T0 X s r:Nat)(m:Nat->List jA)(bA:w0.heap.size<=X)(bE:X<=s)(bD:s<r):∀(f:Nat) (p:PT) (b o lo q k:Nat) (pb:jO) (cb:Nat) (D:jO) (A:Nat) (c:Array Value) (W:World),
  lev f p=true->k+(aG3 f p).length<=12->X<=b->b≠s->b<r->X<=lo->q<=r->¬(lo<=b/\b<q)->¬(lo<=s/\s<q)->jb w0 W->r<=W.heap.size->aBy T0 X m W->aAX W s (k:Int)->W.heap[b]?=some (.cells c 25)->c[o+5]?=some (.slice pb p.body.length cb)->c[o+6]?=some (.slice D p.kids.length A)->InB (BK (aHm r) lo q D p.kids) pb->aA4 (λa l=>RT W (aHm r) f lo q a A l) W p pb cb D A->
  Calls prog 63 #[.pointer (some (jx b o)),doF T0 s] W λe w'=>aAo W b o s lo q (aHm r) f (aFH m f p k) D A e w':=by
 intro f
 induction f with
 |zero=>intro p b o lo q k pb cb D A c W hl;rw[lev]at hl;cases hl
 |succ f ih=>
  intro p b o lo q k pb cb D A c W hl aw aQ ax aR aZ aV ag aj hW aN hT hN hB h5 h6 hI hH
  rw[aJ7,jR]at hl
  rw[aG4,jm]at aw
  obtain⟨aL,aS,aT,aY,af⟩:=hH
  have af:RT W (aHm r) (f+1) lo q D A p.kids:=af
  have CD:Hid (Calls prog 64 #[.pointer (some (jx b o)),.pointer (some (jx T0 0)),.pointer (some (jx s 0))] W λe w'=>aAm W b o s k (BK (aHm r) lo q D p.kids) (aGb (m k) p.body) e w'):=aFj w0 HE T0 X s m bA bE b o k ax (by omega) p.body pb p.body.length cb rfl aS (BK (aHm r) lo q D p.kids) hI (λx d=>by
   have z:(lo<=x/\x<q)\/r<=x:=d.out
   rcases z with z|z
   ·exact⟨λe=>aj (by rw[<-e];exact z),λe=>ag (by rw[<-e];exact z)⟩
   ·exact⟨by omega,by omega⟩) W hW hT hN c hB h5 aT
  have U:Hid ((aGb (m k) p.body).2≠0->aFH m (f+1) p k=((aGb (m k) p.body).2,p,k+1)):=λh=>by rw[aFH,jo h]
  have V:Hid ((aGb (m k) p.body).2=0->aFH m (f+1) p k=((aFC (aFH m f) p.kids (k+1)).1,{p with body:=(aGb (m k) p.body).1,kids:=(aFC (aFH m f) p.kids (k+1)).2.1},(aFC (aFH m f) p.kids (k+1)).2.2)):=λh=>by rw[aFH,jh (by rw[h];simp)]
  generalize aGb (m k) p.body=R1 at*
  obtain⟨B1,E1⟩:=R1
  simp only at U V
  have aP:b<W.heap.size:=(jl.1 hB).1
  by_cases aK:E1=0
  ·subst aK
   have a8:=V.out rfl
   have az:Hid (∀e v,aAm W b o s k (BK (aHm r) lo q D p.kids) (B1,0) e v->e=.returned (.int .i64 0)/\aAX v s ((k+1:Nat):Int)/\Tch W v (λx=>x=b\/x=s\/(lo<=x/\x<q))/\v.cell? (jx b (o+6))=some (.slice D p.kids.length A)/\RT v (aHm r) (f+1) lo q D A p.kids/\jb w0 v/\aBy T0 X m v/\r<=v.heap.size/\b<v.heap.size/\∃C B,v.heap[b]?=(W.setCell (jx b (o+5)) (.slice C B1.length B)).heap[b]?/\aAe v C B1/\(B1.length<=B/\B<=maxLen/\(C=none->B=0))/\InB (BK (aHm r) lo q D p.kids) C):=by
    rintro e v ⟨he,h1,h2,h3⟩
    obtain⟨C,B,g1,g2,g3,g4⟩:=h3 rfl
    have ae:=g1
    rw[aP5 hB]at ae
    refine⟨he,h1,h2.mono (λx _ d=>by rcases d with d|d;exact .inl d;exact .inr (.inl d)),?_,RT.move (f+1) lo q D A p.kids (λx d hl=>h2.block x hl (λhy=>?_)) af,h2.under hW (by omega) (λx d=>by rcases d with d|d<;>omega),hT.tch h2 (λx d=>by rcases d with d|d<;>omega),j1 aN h2.size,jcb aP h2.size,C,B,g1,g2,g3,λa ha=>?_⟩
    ·rw[aDe ae (o+6),jba (by omega)]
     exact h6
    ·have z:(lo<=x/\x<q)\/r<=x:=d
     rcases hy with hy|hy
     ·rcases z with z|z
      ·exact ag (by rw[<-hy];exact z)
      ·omega
     ·rcases z with z|z
      ·exact aj (by rw[<-hy];exact z)
      ·omega
    ·rcases g4 a ha with g|g
     ·exact g
     ·exact .inr (show r<=a.block by omega)
   have a5:Hid (aA5 p):=aL
   have a4:Hid _:=aY
   have an:Hid _:=a8
   have bw:Hid (∀x∈p.kids,lev f x=true):=hl
   have a3:Hid (∀(p:PT) (b o lo q k:Nat) (pb:jO) (cb:Nat) (D:jO) (A:Nat) (c:Array Value) (W:World),lev f p=true->k+(aG3 f p).length<=12->X<=b->b≠s->b<r->X<=lo->q<=r->¬(lo<=b/\b<q)->¬(lo<=s/\s<q)->jb w0 W->r<=W.heap.size->aBy T0 X m W->aAX W s (k:Int)->W.heap[b]?=some (.cells c 25)->c[o+5]?=some (.slice pb p.body.length cb)->c[o+6]?=some (.slice D p.kids.length A)->InB (BK (aHm r) lo q D p.kids) pb->aA4 (λa l=>RT W (aHm r) f lo q a A l) W p pb cb D A->Calls prog 63 #[.pointer (some (jx b o)),doF T0 s] W λe w'=>aAo W b o s lo q (aHm r) f (aFH m f p k) D A e w'):=ih
   have bq:Hid _:=aw
   have a2:Hid (X<=b/\b≠s/\b<r/\X<=lo/\q<=r/\¬(lo<=b/\b<q)/\¬(lo<=s/\s<q)):=⟨aQ,ax,aR,aZ,aV,ag,aj⟩
   clear a8 U V aL aS aT aY af hl aw hW aN hT hN hB h5 h6 hI ih HE aQ ax aR aZ aV ag aj aP
   obtain⟨n,hn⟩:∃n,p.kids.length=n:=⟨_,rfl⟩
   have HN:Hid _:=hn
   have bJ:n<=9223372036854775807:=by have:=a5.out.2.2.2.2.2.2.2;unfold maxLen at this;omega
   generalize aFH m (f+1) p k=aa at*
   go_enter func63,ntmps63
   go_wp2_with fail
   refine CD.out.mono ?_
   rintro e v hD
   obtain⟨rfl,bj,bn,aU,aA,bc,bb,bd,be,C,B,ae,bm,bf,bh⟩:=az.out e v hD
   rw[hn]at aU
   have ar:Hid (Tch W v (λx=>x=b\/x=s\/(lo<=x/\x<q))):=bn
   have ao:Hid (aAX v s ((k+1:Nat):Int)):=bj
   have M:Hid (jb w0 v/\aBy T0 X m v/\r<=v.heap.size/\b<v.heap.size):=⟨bc,bb,bd,be⟩
   have aD:Hid _:=ae
   have E:Hid (aAe v C B1/\(B1.length<=B/\B<=maxLen/\(C=none->B=0))/\InB (BK (aHm r) lo q D p.kids) C):=⟨bm,bf,bh⟩
   have aG:Hid (RT v (aHm r) (f+1) lo q D A p.kids):=aA
   have a1:Hid _:=aU
   clear hD az CD bj bn aA bc bb bd be ae bm bf bh hn
   have a9:∀(l:List PT),l.length=n->aA5 {p with body:=B1,kids:=l}:=λl hl=>by
    obtain⟨l1,l2,l3,l4,l5,l6,l7,l8⟩:=a5.out
    exact⟨l1,l2,l3,l4,l5,l6,j1 E.out.2.1.1 E.out.2.1.2.1,by show l.length<=maxLen;rw[hl,<-HN.out];exact l8⟩
   have aF:Hid (∀(l:List PT),l.length=n->aA5 {p with body:=B1,kids:=l}):=a9
   clear a9
   by_cases aX:n=0
   ·subst aX
    have bi:p.kids=[]:=js.1 HN.out
    have H:Hid (aAo W b o s lo q (aHm r) (f+1) aa D A (.returned (.int .i64 0)) v):=by
     unfold Hid
     rw[an.out,bi]
     refine⟨rfl,ar.out,λ_=>⟨ao.out,C,B,aD.out,(λa ha=>(E.out.2.2 a ha).imp_left λh=>⟨h.1,h.2.1,λd=>absurd rfl d⟩),aF.out [] rfl,E.out.2.1,E.out.1,?_,RT.nil _ _ _ _ _ _ _⟩⟩
     have:=a4.out
     exact⟨jy _,this.2.1,this.2.2⟩
    clear bi an aF aG a3 a1 aD E ao ar M
    go_wp2_with fail
    go_loopw[19] (λiv wr=>iv=.int .i64 0/\wr=v) (λ_ _=>0)
    case atStart=>exact⟨rfl,rfl⟩
    case round=>
     obtain⟨rfl,bG⟩:=hrel
     have bo:=bG.symm
     subst bo
     go_wp2_with fail
     go_ret
     exact H.out
   ·have bk:p.kids≠[]:=λe=>aX (by rw[<-HN.out,e];rfl)
    obtain⟨g,Y,bF,L,J,hY,ak,bl,bg⟩:=aG.out bk
    subst bF
    rw[HN.out]at ak
    have ay:Hid (aAn (aHm r) f lo q s g n A (k+1) v [] Y v):=⟨Tch.refl _ _,ao.out,ak,bl,bg⟩
    have a6:Hid _:=hY
    have HG:Hid (lo<=g/\g<q):=⟨L,J⟩
    clear L J hY ak bl bg bk aG ao
    go_wp2_with fail
    clear aU
    go_loopw[19] (λiv wr=>∃(i kk:Nat) (N Yr:List PY3),i<=n/\iv=.int .i64 i/\Hid (N.length=i)/\Hid (Yr.map (·.1.1)=p.kids.drop i)/\Hid (kk+((p.kids.drop i).flatMap (aG3 f)).length<=12)/\Hid (aFC (aFH m f) p.kids (k+1)=((aFC (aFH m f) (p.kids.drop i) kk).1,N.map (·.1.1)++(aFC (aFH m f) (p.kids.drop i) kk).2.1,(aFC (aFH m f) (p.kids.drop i) kk).2.2))/\Hid (aAn (aHm r) f lo q s g n A kk v N Yr wr)) (λiv _=>n-(intOf iv).toNat)
    case atStart=>exact⟨0,k+1,[],Y,jy _,rfl,rfl,a6,by unfold Hid;have:=bq.out;rw[jbc];omega,by unfold Hid;rw[jbc];rfl,ay⟩
    case round=>
     obtain⟨i,kk,N,Yr,bI,rfl,Z,ad,aE,am,t⟩:=hrel
     clear ay a6
     obtain⟨cT,cn,cX,a7,aJ,av,ab⟩:=a2.out
     obtain⟨L,J⟩:=HG.out
     have c6:wr.cell? (jx b (o+6))=some (.slice (some (jx g 0)) n A):=by
      rw[jbw (show wr.heap[b]?=v.heap[b]? from t.out.tch.block b M.out.2.2.2 (λd=>by rcases d with d|d;exact cn d;exact av ⟨by omega,d.2⟩))]
      exact a1.out
     by_cases bB:i<n
     ·have bC:(i:Int)<(n:Int):=by omega
      have aW:i<p.kids.length:=by rw[HN.out];exact bB
      have G:p.kids.drop i=p.kids[i]::p.kids.drop (i+1):=jE aW
      obtain⟨y,I,O⟩:∃y I,Yr=y::I:=by
       cases O:Yr with
       |nil=>have:=ad.out;rw[O,G]at this;cases this
       |cons y I=>exact⟨y,I,rfl⟩
      subst O
      have al:y.1.1=p.kids[i]/\I.map (·.1.1)=p.kids.drop (i+1):=by
       have:=ad.out
       rw[G,jdm]at this
       injection this with h1 h2
       exact⟨h1,h2⟩
      have ai:lev f y.1.1=true:=bw.out _ (by rw[al.1];exact jQ aW)
      have aB:kk+(aG3 f y.1.1).length+((p.kids.drop (i+1)).flatMap (aG3 f)).length<=12:=by have:=aE.out;rw[G,jbm,je,<-al.1]at this;omega
      have F:=am.out
      rw[G,<-al.1]at F
      obtain⟨q1,q2,q3,q4,q5⟩:=t.out.each y (by simp)
      obtain⟨ac,ah⟩:∃ac,wr.heap[g]?=some (.cells ac 25):=by
       rcases t.out.own.2 with⟨e,_⟩|⟨g',cap,ac,e,_,e3,_⟩
       ·cases e
       ·cases e
        exact⟨ac,e3⟩
      have aO:∀j u,(pzc y.1)[j]?=some u->j<7->ac[i*7+j]?=some u:=λj u hj h7=>by
       rw[<-aDe ah (i*7+j),t.out.own.cellAt (i*7+j) (by omega)]
       refine aOr _ i y.1 ?_ j u hj
       rw[jbg,jS (by rw[jD,Z.out];exact jf _),jD,Z.out,jbh]
       rfl
      have a0:∀x,(x=s\/(g<=x/\x<q))->X<=x:=λx d=>by rcases d with d|d<;>omega
      have aI:Hid (Calls prog 63 #[.pointer (some ⟨g,i*7,none⟩),doF T0 s] wr λe w'=>aAo wr g (i*7) s y.2.1 y.2.2 (aHm r) f (aFH m f y.1.1 kk) y.1.2.2.1 y.1.2.2.2 e w'):=a3.out y.1.1 g (i*7) y.2.1 y.2.2 kk y.1.2.1.1 y.1.2.1.2 y.1.2.2.1 y.1.2.2.2 ac wr ai (by omega) (by omega) (λe=>ab (by rw[<-e];exact⟨L,J⟩)) (by omega) (by omega) (by omega) (by omega) (λh=>ab ⟨by omega,by omega⟩) (t.out.tch.under M.out.1 (by have:=M.out.2.2.1;omega) (λx d=>by have:=a0 x d;omega)) (j1 M.out.2.2.1 t.out.tch.size) (M.out.2.1.tch t.out.tch a0) t.out.num ah (aO 5 _ rfl (by decide)) (aO 6 _ rfl (by decide)) q4 q5
      have aq:Hid (∀e w2,(aFH m f y.1.1 kk).1=0->aAo wr g (i*7) s y.2.1 y.2.2 (aHm r) f (aFH m f y.1.1 kk) y.1.2.2.1 y.1.2.2.2 e w2->∃y':PY3,y'.1.1=(aFH m f y.1.1 kk).2.1/\aAn (aHm r) f lo q s g n A (aFH m f y.1.1 kk).2.2 v (N++[y']) I w2):=λe w2 h0 hP=>t.out.step r rfl aJ bD ab L J m e h0 (by rw[Z.out];exact hP)
      have aH:Hid (∀w2,Tch wr w2 (λx=>x=g\/x=s\/(y.2.1<=x/\x<y.2.2))->Tch W w2 (λx=>x=b\/x=s\/(lo<=x/\x<q))):=λw2 ht=>(ar.out.trans (t.out.tch.mono λx _ d=>by rcases d with d|d;exact .inr (.inl d);exact .inr (.inr ⟨by omega,d.2⟩))).trans (ht.mono λx _ d=>by
       rcases d with d|d|d
       ·exact .inr (.inr ⟨by omega,by omega⟩)
       ·exact .inr (.inl d)
       ·exact .inr (.inr ⟨by omega,by omega⟩))
      have T:Hid ((aFH m f y.1.1 kk).1=0->(aFH m f y.1.1 kk).2.2+((p.kids.drop (i+1)).flatMap (aG3 f)).length<=12):=λh0=>by rw[aFI m f y.1.1 kk ai h0];exact aB
      have bz:Hid _:=al.2
      have ap:Hid ((aFH m f y.1.1 kk).1=0->aFC (aFH m f) p.kids (k+1)=((aFC (aFH m f) (p.kids.drop (i+1)) (aFH m f y.1.1 kk).2.2).1,(N.map (·.1.1)++[(aFH m f y.1.1 kk).2.1])++(aFC (aFH m f) (p.kids.drop (i+1)) (aFH m f y.1.1 kk).2.2).2.1,(aFC (aFH m f) (p.kids.drop (i+1)) (aFH m f y.1.1 kk).2.2).2.2)):=λh0=>by rw[F,aFG _ _ _ _ h0,jJ];rfl
      have S:Hid ((aFH m f y.1.1 kk).1≠0->aa.1=(aFH m f y.1.1 kk).1):=λh0=>by rw[an.out,F,aFD _ _ _ _ h0]
      clear G al ai aB F q1 q2 q3 q4 q5 ah aO a0 t ad aE am aW L J cT cn cX a7 aJ av ab
      generalize aFH m f y.1.1 kk=R at*
      obtain⟨RE,RP,RK⟩:=R
      simp only at aq T ap S
      go_wp2_with fail
      refine aI.out.mono ?_
      rintro e w2 hP
      obtain⟨he,aM,_⟩:=id hP
      simp only at he
      subst he
      by_cases h0:RE=0
      ·subst h0
       obtain⟨y',bp,hst⟩:=aq.out _ w2 rfl hP
       have bx:Hid (aAn (aHm r) f lo q s g n A RK v (N++[y']) I w2):=hst
       have br:Hid (aFC (aFH m f) p.kids (k+1)=((aFC (aFH m f) (p.kids.drop (i+1)) RK).1,(N++[y']).map (·.1.1)++(aFC (aFH m f) (p.kids.drop (i+1)) RK).2.1,(aFC (aFH m f) (p.kids.drop (i+1)) RK).2.2)):=by
        unfold Hid
        rw[ap.out rfl,jbg]
        simp only[jdm,List.map_nil,bp]
       have bt:Hid ((N++[y']).length=i+1):=by unfold Hid;rw[je,Z.out];rfl
       have bs:Hid (RK+((p.kids.drop (i+1)).flatMap (aG3 f)).length<=12):=T.out rfl
       clear hP aM hst bp aq aI T ap S aH
       go_wp2_with fail
       go_roundw
       case rel=>exact⟨i+1,RK,N++[y'],I,by omega,by go_num,bt,bz,bs,br,bx⟩
       case measure=>simp[intOf];omega
      ·have hz:((RE:Int)==0)=false:=by rw[jg];omega
       have bH:¬(RE:Int)=0:=by omega
       have hR:=S.out h0
       have H:Hid (aAo W b o s lo q (aHm r) (f+1) aa (some (jx g 0)) A (.returned (.int .i64 (RE:Int))) w2):=⟨by rw[hR],aH.out w2 aM,λh=>absurd (hR.symm.trans h) h0⟩
       clear hP aM aq aI T ap S aH hR
       go_wp2_with fail
       go_ret
       exact H.out
     ·have bC:¬(i:Int)<(n:Int):=by omega
      obtain rfl:i=n:=by omega
      have G:p.kids.drop i=[]:=jC (by rw[HN.out];exact jf _)
      have F:=am.out
      rw[G,aFC]at F
      simp only[j6]at F
      have O:Yr=[]:=by
       have:=ad.out
       rw[G]at this
       exact List.map_eq_nil_iff.1 this
      have H:Hid (aAo W b o s lo q (aHm r) (f+1) aa (some (jx g 0)) A (.returned (.int .i64 0)) wr):=by
       unfold Hid
       rw[an.out,F]
       have P:(N.map (·.1.1)).length=i:=by rw[jD,Z.out]
       have aC:p.kids≠[]:=λe=>aX (by rw[<-HN.out,e];rfl)
       refine⟨rfl,ar.out.trans (t.out.tch.mono λx _ d=>by rcases d with d|d;exact .inr (.inl d);exact .inr (.inr ⟨by omega,d.2⟩)),λ_=>⟨t.out.num,C,B,?_,(λa ha=>(E.out.2.2 a ha).imp_left λh=>⟨h.1,h.2.1,λ_=>h.2.2 aC⟩),aF.out _ P,E.out.2.1,?_,?_,λ_=>⟨g,N,rfl,L,J,rfl,?_,?_,?_⟩⟩⟩
       ·rw[t.out.tch.block b M.out.2.2.2 (λd=>by rcases d with d|d;exact cn d;exact av ⟨by omega,d.2⟩)]
        exact aD.out
       ·refine aAe.move (Q:=λx=>¬(x=s\/(g<=x/\x<q))) (λx d hl=>t.out.tch.block x hl d) E.out.1 (λa ha d=>?_)
        rcases E.out.2.2 a ha with h|h
        ·have hg:=h.2.2 aC g rfl
         rcases d with d|d
         ·exact ab (by rw[<-d];exact⟨h.1,h.2.1⟩)
         ·omega
        ·have h':r<=a.block:=h
         rcases d with d|d<;>omega
       ·show(N.map (·.1.1)).length<=A/\_
        rw[P,<-HN.out]
        exact a4.out
       ·show wr.ownsRow lo _ 7 (.slice _ (N.map (·.1.1)).length A) (N.map (·.1.1)).length _
        rw[P]
        have:=t.out.own
        rw[O,j6]at this
        exact this
       ·have:=t.out.pw
        rw[O,j6]at this
        exact this
       ·intro y hy
        exact t.out.each y (jcs _ hy)
      clear G F O am ad Z aE t L J cT cn cX a7 aJ av ab
      go_wp2_with fail
      go_ret
      exact H.out
  ·have hz:((E1:Int)==0)=false:=by rw[jg];omega
   have bH:¬(E1:Int)=0:=by omega
   have HF:Hid (∀e v,aAm W b o s k (BK (aHm r) lo q D p.kids) (B1,E1) e v->e=.returned (.int .i64 (E1:Int))/\aAo W b o s lo q (aHm r) (f+1) (aFH m (f+1) p k) D A (.returned (.int .i64 (E1:Int))) v):=by
    rintro e v ⟨he,h1,h2,_⟩
    rw[U.out aK]
    exact⟨he,rfl,h2.mono (λx _ d=>by rcases d with d|d;exact .inl d;exact .inr (.inl d)),λh=>absurd h aK⟩
   generalize aFH m (f+1) p k=aa at*
   clear U V aL aS aT aY af hl aw hW aN hT hN hB h5 h6 hI ih HE aQ ax aR aZ aV ag aj aP
   go_enter func63,ntmps63
   go_wp2_with fail
   refine CD.out.mono ?_
   rintro e v hD
   obtain⟨rfl,hP⟩:=HF.out e v hD
   have HP:Hid (aAo W b o s lo q (aHm r) (f+1) aa D A (.returned (.int .i64 (E1:Int))) v):=hP
   clear hD hP HF CD
   go_wp2_with fail
   go_ret
   exact HP.out
end Go.Proofs.YtbbfcbodhmeanaaGreatDoor
namespace Go.Proofs.YtbbfcbodhmeanaaGreatDoor
open Go.Proofs.Tryz
open Go.RowKit Go.WideMaps Go.Maps
theorem aLv(a:jO)(n c:Nat)(l:List NM)(en:n=l.length)(parts:Int)(hl:aAS l)(w:World)(hr:aAV w a l):
  Calls prog 24 #[.slice a n c,.int .i64 parts] w λe w'=>e=.returned (.int .i64 (aDT parts (-1) [] l:Nat))/\jb w w':=by
 have ao:n<=9223372036854775807:=by have:=hl.1;unfold maxLen at this;omega
 have S:Hid (aBk (w.alloc (.map #[] 0)) w.heap.size 0 []):=aPV w
 have HN:Hid _:=en
 have HL:Hid (aAS l):=hl
 have HR:Hid (aAV w a l):=hr
 have CM:Hid (∀(s:jA) W,s.size<=maxLen->Calls prog 69 #[.string s] W (jG (.bool (aLa s.data.toList)) W)):=λs W hs=>aLd s hs W
 obtain⟨g,A⟩:∃r,aDT parts (-1) [] l=r:=⟨_,rfl⟩
 have G:Hid _:=A
 rw[A]
 clear A hr hl en
 have am:=@run_makeMap prog
 go_enter func24,ntmps24
 go_wp2_with fail
 clear am
 have U:jb w (w.alloc (.map #[] 0)):=ja _ _
 go_loopw[6,12] (λlv iv wr=>∃(k:Nat) (f:Int) (seen:List jB),k<=n/\iv=.int .i64 k/\lv=.int .i64 f/\seen.length=k/\Hid (jb w wr)/\Hid (aBk wr w.heap.size seen.length seen)/\Hid (aDT parts f seen (l.drop k)=g)) (λ_ iv _=>n-(intOf iv).toNat)
 case atStart=>exact⟨0,-1,[],jy _,rfl,rfl,rfl,U,S,G⟩
 case round=>
  obtain⟨k,f,seen,hk,rfl,rfl,an,R,HS,Z⟩:=hrel
  clear S G U
  by_cases aj:k<n
  ·have al:(k:Int)<(n:Int):=by omega
   have q:k<l.length:=by rw[<-HN.out];exact aj
   obtain⟨b,o,rfl,hc⟩:=(HR.out.below R.out) (λe=>by rw[e]at q;simp at q)
   obtain⟨d0,d1⟩:=hc k q
   obtain⟨ag,ah,F⟩:=HL.out.at k q
   have d:Hid _:=Z.out.symm.trans (aDZ parts f seen l k q)
   clear hc Z q
   generalize l.getD k nm0=x at*
   obtain⟨m,s⟩:=x
   simp only at d0 d1 ag ah F d
   obtain⟨M,C⟩:∃W,W=wr.alloc (.cells #[.int .i64 m,.string s] 56):=⟨_,rfl⟩
   have N:jb wr M:=by rw[C];exact ja _ _
   have kx:M.heap[wr.heap.size]?=some (.cells #[.int .i64 m,.string s] 56):=by rw[C];exact aDi _ _
   have V:aBk M w.heap.size seen.length seen:=HS.out.move (N.block _ HS.out.lt)
   have H:jb w M:=R.out.trans (N.mono R.out.size)
   have T:Hid _:=C
   have z:Hid _:=kx
   have L:Hid (aBk M w.heap.size seen.length seen):=V
   have t:Hid _:=H
   have ak:w.heap.size<wr.heap.size:=HS.out.lt
   clear C N kx V H R HS
   obtain⟨Y,hY⟩:∃Y,wr.heap.size=Y:=⟨_,rfl⟩
   go_upto_region 6 with fail
   rw[<-T.out]
   rw[hY]at z ak
   have z0:M.cell? (jx Y 0)=some (.int .i64 m):=(aDe z.out 0).trans rfl
   have z1:M.cell? (jx Y 1)=some (.string s):=(aDe z.out 1).trans rfl
   clear d0 d1 T
   by_cases h1:m<0
   ·have ad:decide (m<0)=true:=by simpa using h1
    have v:Hid (g=5):=by unfold Hid;rw[d.out,jo (Or.inl h1)]
    clear d
    go_wp2_with fail
    go_ret
    refine⟨?_,t.out⟩
    rw[v.out]
    rfl
   ·have ad:decide (m<0)=false:=by simpa using h1
    by_cases h2:parts<=m
    ·have ae:decide (parts<=m)=true:=by simpa using h2
     have v:Hid (g=5):=by unfold Hid;rw[d.out,jo (Or.inr h2)]
     clear d
     go_wp2_with fail
     go_ret
     refine⟨?_,t.out⟩
     rw[v.out]
     rfl
    ·have ae:decide (parts<=m)=false:=by simpa using h2
     have P:Hid (∀W,Calls prog 69 #[.string s] W (jG (.bool (aLa s.data.toList)) W)):=λW=>CM.out s W F
     rw[jh (by omega)]at d
     go_wp2_with fail
     refine(P.out _).mono ?_
     rintro e w2 ⟨rfl,D⟩
     have X:=aDj z.out D
     have J:Hid (aBk w2 w.heap.size seen.length seen):=L.out.move (D.block _ L.out.lt)
     have p:Hid _:=t.out.trans (D.mono t.out.size)
     have y:Hid _:=X
     clear z0 z1 z L t P D X
     cases E:aLa s.data.toList with
     |false=>
      have v:Hid (g=1):=by unfold Hid;rw[d.out,jo E]
      clear d E
      go_wp2_with fail
      go_ret
      refine⟨?_,p.out⟩
      rw[v.out]
      rfl
     |true=>
      rw[jh (by rw[E];simp)]at d
      clear E
      have z0:w2.cell? (jx Y 0)=some (.int .i64 m):=(aDe y.out 0).trans rfl
      have z1:w2.cell? (jx Y 1)=some (.string s):=(aDe y.out 1).trans rfl
      have ai:=J.out.look s F
      cases i:seen.contains s.data.toList with
      |true=>
       have v:Hid (g=6):=by unfold Hid;rw[d.out,jo (Or.inl i)]
       have ap:=aEJ i
       have ar:(0:Int)<((seen.count s.data.toList:Nat):Int):=by omega
       clear d i
       generalize seen.count s.data.toList=aq at*
       go_wp2_with fail
       go_ret
       refine⟨?_,p.out⟩
       rw[v.out]
       rfl
      |false=>
       have B:=aEG i
       rw[B]at ai
       by_cases h3:m<=f
       ·have af:decide (m<=f)=true:=by simpa using h3
        have v:Hid (g=6):=by unfold Hid;rw[d.out,jo (Or.inr h3)]
        clear d i
        go_wp2_with fail
        go_ret
        refine⟨?_,p.out⟩
        rw[v.out]
        rfl
       ·have af:decide (m<=f)=false:=by simpa using h3
        have ab:Hid (aDT parts m (s.data.toList::seen) (l.drop (k+1))=g):=by unfold Hid;rw[d.out,jh (by rw[i];simp;omega)]
        obtain⟨w7,av,I,O⟩:=J.out.put s F (by have:=HL.out.1;have:=HN.out;omega) 1 (by rw[B];rfl) (by omega)
        have k7:w7.heap[Y]?=some (.cells #[.int .i64 m,.string s] 56):=by
         rw[O.block Y (jl.1 y.out).1 (by intro e;have:=jI e;omega)]
         exact y.out
        have y0:w7.cell? (jx Y 0)=some (.int .i64 m):=(aDe k7 0).trans rfl
        have aa:Hid (jb w w7):=p.out.grown O p.out.size (λj hj=>by have:=jI hj;omega)
        have ac:Hid (aBk w7 w.heap.size (s.data.toList::seen).length (s.data.toList::seen)):=I
        clear d i B I O k7 J p y
        go_wp2_with fail
        go_roundw
        case rel=>exact⟨k+1,m,s.data.toList::seen,by omega,by go_num,rfl,by rw[jm,an],aa,ac,ab⟩
        case measure=>simp[intOf];omega
  ·have al:¬(k:Int)<(n:Int):=by omega
   have v:Hid (g=0):=by
    have h:=Z.out
    rw[jC (by rw[<-HN.out];omega),aDT]at h
    exact h.symm
   clear Z
   go_wp2_with fail
   go_ret
   refine⟨?_,R.out⟩
   rw[v.out]
   rfl
end Go.Proofs.YtbbfcbodhmeanaaGreatDoor
namespace Go.Proofs.YtbbfcbodhmeanaaGreatDoor
theorem aGU(a:Nat->PT->Bool):∀(l:List PT) (k:Nat),-1<=aGT a k l/\aGT a k l<(k:Int)+l.length\/aGT a k l=-1
 |[],k=>Or.inr rfl
 |p::l,k=>by
  rw[aGT]
  split
  ·left;simp;omega
  ·rcases aGU a l (k+1)with h|h
   ·left;simp;omega
   ·right;exact h
theorem aGE(l:List PT)(b:List jB)(a:jB):-1<=aGC l b a/\(aGC l b a<(l.length:Int)\/aGC l b a=-1):=by
 unfold aGC
 split
 ·exact⟨by omega,Or.inr rfl⟩
 ·split
  ·rcases aGU (aLU ((aLy a).drop 4)) l 0 with h|h<;>omega
  ·rcases aGU (aLV b (aLy a)) l 0 with h|h<;>omega
theorem aLz(c:UInt8)(r:jB)(h:c≠35):aLy (c::r)≠[]:=by
 unfold aLy
 rw[aEM,jh h]
 cases aEM 35 r<;>simp
theorem aLA(a b:jB)(h:aJT a b≠[]):aLy (aJT a b)≠[]:=by
 unfold aJT at h⊢
 by_cases f:(aMw a).2≠0
 ·rw[jo f]at h;exact absurd rfl h
 by_cases g:(aMw b).2≠0
 ·rw[jh f,jo g]at h;exact absurd rfl h
 by_cases i:(aJG (aMw a).1 (aMw b).1).2≠0
 ·rw[jh f,jh g,jo i]at h;exact absurd rfl h
 have j:(aJG (aMw a).1 (aMw b).1).2=0:=by simpa using i
 rw[jh f,jh g,jh i]
 obtain⟨d,m,-,-⟩:=aJQ j
 generalize (aJG (aMw a).1 (aMw b).1).1=x at*
 have n:aNT x=(aR7 x,0):=by unfold aNT;rw[jo d]
 rw[n]
 simp only
 have k:aVm x=true:=by
  unfold aDW at d
  split at d
  ·cases d
  ·split at d
   ·cases d
   ·rename_i hh;simpa using hh
 cases l:x.sch with
 |nil=>rw[l]at m;simp at m
 |cons c r=>
  have o:c≠35:=by
   rintro rfl
   unfold aVm at k
   rw[l]at k
   simp[aPU,aI1]at k
  unfold aR7
  rw[l]
  show aLy (c::_)≠[]
  exact aLz c _ o
def aBM(ah:jB):jB:=if ah=[]then aLG else ah
def meR(ah:jB)(p:PT):jB:=if p.loc.data.toList=[]then aBM ah else aJT (aBM ah) p.loc.data.toList
def aU4:Nat->PT->jB->List jB
 |0,_,_=>[]
 |f+1,p,ah=>meR ah p::p.kids.flatMap λk=>aU4 f k (meR ah p)
theorem aU5(f:Nat)(p:PT)(a:jB):aU4 (f+1) p a=meR a p::p.kids.flatMap λk=>aU4 f k (meR a p):=by rw[aU4]
theorem aLe(a:jB)(p:PT)(h:a.length<=120):(aBM a).length<=120/\(meR a p).length<=120:=by
 have b:(aBM a).length<=120:=by
  unfold aBM
  split
  ·decide
  ·exact h
 refine⟨b,?_⟩
 unfold meR
 split
 ·exact b
 ·exact aJU _ _
def ahW(wh:List jB)(inn:Int):jB:=if inn<0 then []else wh.getD inn.toNat []
theorem aRd(b:List jB)(p:PT)(a:Int):aRa b (p,a)=meR (ahW b a) p:=by
 have h:aHn b a=aBM (ahW b a):=by
  unfold aHn aBM ahW
  by_cases h:a<0
  ·rw[jo h,jo h,jo rfl]
  ·rw[jh h,jh h]
 unfold aRa meR
 simp only
 rw[h]
theorem aBK{b r:List jB}{n:Nat}(h:b.length=n)(a:jB):ahW (b++a::r) (n:Int)=a:=by
 unfold ahW
 rw[jh (by omega),jco,jd,jS (by omega),h,jbh]
 rfl
theorem aU9:∀(f:Nat) (l:List (PT×Int)) (p:PT) (a:Nat) (b:Int) (m:List (PT×Int)),put f l p a b=some m->aU0 m=aU0 l++aU4 f p (ahW (aU0 l) b)
 |0,_,_,_,_,_,h=>by cases h
 |f+1,l,p,a,b,m,h=>by
  rw[put]at h
  split at h
  ·cases h
  ·rw[aU5]
   have o:aU0 (l++[(p,b)])=aU0 l++[meR (ahW (aU0 l) b) p]:=by rw[aU3,aRd]
   generalize meR (ahW (aU0 l) b) p=i at*
   have s:∀(g:List PT) (c:List (PT×Int)) (r:List jB),aU0 c=aU0 l++i::r->g.foldl (λj k=>j.bind λm=>put f m k (a+1) l.length) (some c)=some m->aU0 m=aU0 l++i::(r++g.flatMap λk=>aU4 f k i):=by
    intro g
    induction g with
    |nil=>
     intro c r n d
     simp only[List.foldl_nil,jac]at d
     subst d
     simpa using n
    |cons k g y=>
     intro c r n d
     rw[jbx,jdj]at d
     cases q:put f c k (a+1) l.length with
     |none=>rw[q,aHd]at d;cases d
     |some v=>
      rw[q]at d
      have t:=aU9 f c k (a+1) l.length v q
      rw[n,aBK (aU2 l) i]at t
      have x:=y v (r++aU4 f k i) (by rw[t];simp) d
      rw[x]
      simp
   have:=s p.kids (l++[(p,b)]) [] (by rw[o]) h
   simpa using this
theorem aU8(p:PT)(h:(aNh p).1=0):aU0 (aNh p).2=aU4 4 p []:=by
 unfold aNh at h⊢
 cases a:put 4 [] p 1 (-1)with
 |none=>rw[a]at h;cases h
 |some l=>
  rw[a]at h
  simp only at h⊢
  split
  ·have:=aU9 4 [] p 1 (-1) l a
   simpa [aU0,ahW] using this
  ·rename_i b
   rw[jh b]at h
   exact absurd h b
def aJl:List Int:=[99,101,102,104,114,115]
def aPt(x:Lib.CaseRow):Bool:=decide (x.2.1<128)||(if x.delta 1>1114111 then decide (116<=x.1)else decide (0<=(x.1:Int)+x.delta 1)&&aJl.all λk=>decide (k<(x.1:Int)+x.delta 1)||decide ((x.2.1:Int)+x.delta 1<k))
theorem aPw:Lib.caseT.all aPt=true:=by decide+kernel
theorem aKC(T:Array Lib.CaseRow)(r:Int)(a:128<=r):∀(f lo b i:Nat),Lib.lookupIdx T r f lo b=some i->∃x∈T.toList,T.getD i (0,0,0,0,0)=x/\(x.1:Int)<=r/\r<=(x.2.1:Int)
 |0,_,_,_,h=>by cases h
 |f+1,lo,b,i,h=>by
  unfold Lib.lookupIdx at h
  split at h
  ·split at h
   ·rename_i c
    injection h with h
    subst h
    by_cases d:(lo+b)/2<T.size
    ·refine⟨T[(lo+b)/2],by simp,by simp[Array.getD,d],?_⟩
     have e:T.getD ((lo+b)/2) (0,0,0,0,0)=T[(lo+b)/2]:=by simp[Array.getD,d]
     rw[e]at c
     exact c
    ·have e:T.getD ((lo+b)/2) (0,0,0,0,0)=(0,0,0,0,0):=by simp[Array.getD,d]
     rw[e]at c
     have:=c.2
     simp at this
     omega
   ·split at h
    ·exact aKC T r a f _ _ i h
    ·exact aKC T r a f _ _ i h
  ·cases h
theorem aKO(r:Int)(h:128<=r):0<=Lib.toLowerU r/\∀k∈aJl,Lib.toLowerU r≠k:=by
 unfold Lib.toLowerU
 rw[jh (by omega)]
 unfold Lib.toR Lib.lookupGo
 cases f:Lib.lookupIdx Lib.caseA r (Lib.caseA.size+1) 0 Lib.caseA.size with
 |none=>
  refine⟨by simp;omega,λk b=>?_⟩
  simp only[Option.map_none]
  simp[aJl]at b
  omega
 |some i=>
  obtain⟨x,g,e,l,m⟩:=aKC Lib.caseA r h _ _ _ i f
  simp only[jcz,e]
  have d:x∈Lib.caseT:=by simpa [Lib.caseA] using g
  have a:=jR.1 aPw x d
  unfold aPt at a
  rw[jed]at a
  rcases a with a|a
  ·have:=jbl a
   omega
  ·unfold Lib.convertR
   split at a
   ·rename_i c
    rw[jo c]
    have:=jbl a
    refine⟨by omega,λk b=>?_⟩
    simp[aJl]at b
    omega
   ·rename_i c
    rw[jh c]
    rw[j7,jR]at a
    have j:=jbl a.1
    refine⟨by omega,λk b=>?_⟩
    have:=a.2 k b
    rw[jed,jam,jam]at this
    omega
theorem aE8(c:UInt8)(t:jB)(h:128<=c.toNat):128<=(Lib.decodeL (c::t)).1:=by
 rw[Lib.decodeL_N]
 show 128<=(Lib.decodeN _ c.toNat _ _ _).1
 unfold Lib.decodeN
 grind
theorem aFR(x:Int)(h:128<=x):∃b t,Lib.encodeRune x=b::t/\128<=b.toNat:=by
 unfold Lib.encodeRune
 by_cases c:x<=2047
 ·rw[Lib.encodeRuneZ_two h c]
  refine⟨_,_,rfl,?_⟩
  show 128<=((192+x/64).toNat%256)
  omega
 ·by_cases d:(2048<=x/\x<55296)\/(57343<x/\x<=65535)
  ·rw[Lib.encodeRuneZ_three d]
   refine⟨_,_,rfl,?_⟩
   show 128<=((224+x/4096).toNat%256)
   omega
  ·by_cases a:65536<=x/\x<=1114111
   ·rw[Lib.encodeRuneZ_four a.1 a.2]
    refine⟨_,_,rfl,?_⟩
    show 128<=((240+x/262144).toNat%256)
    omega
   ·rw[Lib.encodeRuneZ_bad (by omega)]
    exact⟨239,_,rfl,by decide⟩
theorem aKP(c:UInt8)(h:c.toNat<128):0<=Lib.toLowerU (c.toNat:Int)/\Lib.encodeRune (Lib.toLowerU (c.toNat:Int))=[aKI c]:=by
 have e:Lib.toLowerU (c.toNat:Int)=((aKI c).toNat:Int):=by
  unfold Lib.toLowerU aKI aI4
  rw[jo (by omega)]
  by_cases a:65<=c.toNat/\c.toNat<=90
  ·rw[jo (by omega),jo (by simp[a])]
   have:(c+32).toNat=c.toNat+32:=by rw[jec];show(c.toNat+32)%256=_;omega
   omega
  ·rw[jh (by omega),jh (by simp;omega)]
 have b:(aKI c).toNat<128:=by
  unfold aKI aI4
  split
  ·rename_i a
   simp at a
   have:(c+32).toNat=c.toNat+32:=by rw[jec];show(c.toNat+32)%256=_;omega
   omega
  ·exact h
 refine⟨by omega,?_⟩
 rw[e,Lib.encodeRune,Lib.encodeRuneZ_one (by omega) (by omega)]
 simp
theorem aJm(c:UInt8)(h:(c.toNat:Int)∈aJl):c.toNat<128:=by simp[aJl]at h;omega
theorem aKL:∀(n:Nat) (l K:jB),l.length<=n->(∀c∈K,(c.toNat:Int)∈aJl)->(Lib.mapGoD Lib.toLowerU n l=K↔aQJ l=K)
 |0,l,K,hn,_=>by
  obtain rfl:l=[]:=js.1 (by omega)
  exact jeq
 |n+1,[],K,_,_=>by rw[Lib.mapGoD,jo rfl];exact jeq
 |n+1,c::t,K,hn,hK=>by
  rw[Lib.mapGoD,jh (by simp)]
  by_cases d:c.toNat<128
  ·rw[Lib.decodeL_ascii c t d,jo (aKP c d).1,(aKP c d).2]
   show aKI c::Lib.mapGoD Lib.toLowerU n t=K↔aKI c::aQJ t=K
   cases K with
   |nil=>simp
   |cons k K=>
    have p:=aKL n t K (by simpa using hn) (λx m=>hK x (by simp[m]))
    rw[jcn,jcn,p]
  ·have r:=aE8 c t (by omega)
   have f:=aKO ((Lib.decodeL (c::t)).1:Int) (by omega)
   rw[jo f.1]
   have e:aQJ (c::t)=aKI c::aQJ t:=rfl
   have i:128<=(aKI c).toNat:=by
    unfold aKI aI4
    rw[jh (by simp;omega)]
    omega
   constructor
   ·intro h
    exfalso
    generalize Lib.toLowerU ((Lib.decodeL (c::t)).1:Int)=y at*
    by_cases o:128<=y
    ·obtain⟨b,u,a,q⟩:=aFR y o
     rw[a]at h
     have:=aJm b (hK b (by rw[<-h];simp))
     omega
    ·have a:Lib.encodeRune y=[UInt8.ofNat y.toNat]:=by
      rw[Lib.encodeRune,Lib.encodeRuneZ_one f.1 (by omega)]
      rfl
     rw[a]at h
     have g:=hK (UInt8.ofNat y.toNat) (by rw[<-h];simp)
     have j:((UInt8.ofNat y.toNat).toNat:Int)=y:=by
      have:(UInt8.ofNat y.toNat).toNat=y.toNat%256:=rfl
      omega
     rw[j]at g
     exact f.2 y g rfl
   ·intro h
    exfalso
    rw[e]at h
    have:=aJm (aKI c) (hK (aKI c) (by rw[<-h];simp))
    omega
theorem aKK(l:jB):Lib.toLowerD l=aIg↔aQJ l=aIg:=aKL l.length l aIg (jf _) (by decide)
theorem aKN(l:jB):Lib.toLowerD l=aQ8↔aQJ l=aQ8:=aKL l.length l aQ8 (jf _) (by decide)
def aAK(a b:List jB):Prop:=(aIg∈a↔aIg∈b)/\(aQ8∈a↔aQ8∈b)
theorem aLh{a b:List jB}(h:aAK a b){x y:jB}(i:x=aIg↔y=aIg)(j:x=aQ8↔y=aQ8)(v:Option LK):aLf a x v=aLf b y v:=by
 unfold aLf
 cases v with
 |none=>rfl
 |some k=>
  simp only
  by_cases f:x=aIg
  ·have d:=i.1 f
   subst f d
   have:a.contains aIg=b.contains aIg:=by rw[jW];simpa using h.1
   rw[this]
  ·by_cases c:x=aQ8
   ·have d:=j.1 c
    subst c d
    have:a.contains aQ8=b.contains aQ8:=by rw[jW];simpa using h.2
    rw[this]
   ·have d:¬y=aIg:=λe=>f (i.2 e)
    have g:¬y=aQ8:=λe=>c (j.2 e)
    rw[jh (λe=>e.2.elim f c),jh (λe=>e.2.elim d g)]
theorem aKg{a b:List jB}(h:aAK a b){x y:jB}(c:x=aIg↔y=aIg)(d:x=aQ8↔y=aQ8):aAK (x::a) (y::b):=by
 unfold aAK at*
 simp only[jad]
 exact⟨by rw[h.1,@eq_comm _ aIg x,c,@eq_comm _ aIg y],by rw[h.2,@eq_comm _ aQ8 x,d,@eq_comm _ aQ8 y]⟩
theorem aRU:∀(n:Nat) (a b:List jB) (s:jB),aAK a b->aRz Lib.toLowerD n a s=aRz aQJ n b s
 |0,_,_,_,_=>rfl
 |n+1,a,b,s,h=>by
  unfold aRz
  cases s.dropWhile aIt with
  |nil=>rfl
  |cons c t=>
   simp only
   rw[aRU n _ _ _ (aKg h (aKK (aLm (c::t))) (aKN (aLm (c::t)))),aLh h (aKK (aLm (c::t))) (aKN (aLm (c::t)))]
theorem aM4(s:jB):aMT Lib.toLowerD s=aMT aQJ s:=by
 unfold aMT aRD
 rw[aRU _ [] [] _ ⟨jeq,jeq⟩,aRU _ [] [] _ ⟨jeq,jeq⟩]
theorem aGy:∀(n:Nat) (a:List LK) (s:jB),aGw Lib.toLowerD n a s=aGw aQJ n a s
 |0,_,_=>rfl
 |n+1,a,s=>by
  unfold aGw
  rw[aM4,aGy n]
theorem aGJ(s:jB):aGz Lib.toLowerD s=aGz aQJ s:=by
 unfold aGz
 rw[aGy]
end Go.Proofs.YtbbfcbodhmeanaaGreatDoor

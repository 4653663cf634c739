import Derived.Test.YtbbfcbodhmeanaaGreatDoorXrewritesays21
import Derived.Test.YtbbfcbodhmeanaaGreatDoorXrewritesays13
set_option maxHeartbeats 8000000
set_option maxRecDepth 1000000
namespace Go.Proofs.YtbbfcbodhmeanaaGreatDoor
open Go.Proofs.Tryz
open Go.RowKit
theorem aBR(p:PT)(pb:jO)(cb:Nat)(pk:jO)(ck F:Nat)(w:World)(hH:aA3 w F p pb cb pk ck):
  Calls prog 33 #[.agg (jP p.ty p.cs p.id p.loc p.how pb p.body.length cb pk p.kids.length ck)] w λe w'=>aAc w (aNh p) e w':=by
 have CC:Hid (∀w',jb w w'->Calls prog 73 #[.agg (jP p.ty p.cs p.id p.loc p.how pb p.body.length cb pk p.kids.length ck)] w' λe Z=>aAj w' (aNh p) e Z):=λw' hb=>aD5 p pb cb pk ck F w' (hH.below hb)
 have ay:=aNk p
 have an:Hid (∀x∈(aNh p).2,aEb x.1=0):=aNj p
 generalize aNh p=R at*
 clear hH
 obtain⟨i0,hi,aN,aO,aP⟩:=jao aIJ
 go_enter func33,ntmps33
 go_wp2_with fail
 refine(CC.out _ (ja _ _)).mono ?_
 rintro e l ⟨aw,h1,h2⟩
 have A:=((jr _ w).alloc (jf _) _).trans (aw.mono (by simp))
 by_cases hr:R.1=0
 ·obtain⟨q,c,X,rfl,H,hX⟩:=h2 hr
  have aE:Hid _:=hr
  clear h1 h2 hr CC aw
  obtain⟨n,hn⟩:∃n,R.2.length=n:=⟨_,rfl⟩
  have HN:Hid _:=hn
  rw[hn]at H ay
  simp only[hn]
  have HE:Hid (∀k,k<n->∃(g:Nat) (b o:Nat) (y:PT×Int),q=some (jx g 0)/\R.2[k]?=some y/\l.cell? ⟨g,k*2,none⟩=some (.pointer (some (jx b o)))/\l.cell? ⟨g,k*2+1,none⟩=some (.int .i64 y.2)/\∃f,PAt l f b o y.1):=λk hk=>aNg H hX hn.symm k hk
  clear H hX hn
  go_wp2_with fail
  go_loopw[6,20] (λov iv wr=>∃(k:Nat) (q6:jO) (n6 c6:Nat) (Y:List PY),k<=n/\iv=.int .i64 k/\ov=.slice q6 n6 c6/\jb l wr/\Hid (wr.ownsRow l.heap.size 25 7 (.slice q6 n6 c6) k (pav Y))/\Hid (aAg wr l.heap.size Y)/\Hid (Y.map (·.1)=(R.2.take k).map λx=>x.1.alone)) (λ_ iv _=>n-(intOf iv).toNat)
  case atStart=>exact⟨0,none,0,0,[],jy _,rfl,rfl,jr _ _,jT _ _ _ _,(λy M=>by cases M),rfl⟩
  case round=>
   obtain⟨k,q6,n6,c6,Y,hk,rfl,rfl,C,HO,HB,HY⟩:=hrel
   have aC:=C.size
   by_cases aJ:k<n
   ·have aK:(k:Int)<(n:Int):=by omega
    obtain⟨g,b,o,y,rfl,M,ak,al,f,av⟩:=HE.out k aJ
    have ax:=(C.cell (ji l _ ak)).trans ak
    have ad:=(C.cell (ji l _ al)).trans al
    have G:y.1.body.length<=4000:=aEc _ (an.out y (jav M))
    have HT:Hid ((R.2.take (k+1)).map (λx=>x.1.alone)=(R.2.take k).map (λx=>x.1.alone)++[y.1.alone]):=by
     unfold Hid
     rw[jan,M]
     simp
    obtain⟨W,ag,aR,aG,hC,hH⟩:=av.below C
    have ao:Hid (aA5 y.1):=hH.1
    have t:Hid (∀w',jb wr w'->aAe w' W y.1.body):=λw' hb=>hH.2.2.1.under hb
    clear ak al HE M av hH an
    obtain⟨z,hz⟩:∃z,y.2=z:=⟨_,rfl⟩
    rw[hz]at ad
    clear hz
    obtain⟨⟨ty,cs,id,E,D,a,kids⟩,aU⟩:=y
    obtain⟨d0,d1,d2,d3,d4,d5,d6⟩:=hC
    simp only at d0 d1 d2 d3 d4 d5 d6 G t
    obtain⟨m,U⟩:∃m,a.length=m:=⟨_,rfl⟩
    have ap:Hid _:=U.symm
    have CB:Hid (∀w',jb wr w'->Calls prog 74 #[.slice W m ag] w' λe Z=>∃q c,e=.returned (.slice q m c)/\Z.ownsRow w'.heap.size 5 1 (.slice q m c) m (bv a)/\jb w' Z):=λw' hb=>aCL W a m ag U.symm w' (t.out w' hb) (by omega)
    rw[U]at d5 G
    obtain⟨nk,aA⟩:∃nk,kids.length=nk:=⟨_,rfl⟩
    rw[aA]at d6
    clear U aA t
    have aS:b<wr.heap.size:=ji wr _ d0
    have aj:jb wr ((wr.alloc (.cells #[Value.pointer (some (jx b o)),.int .i64 z] 117)).alloc (.cells #[Value.string ty,.string cs,.string id,.string E,.int .i64 D,.slice W m ag,.slice aR nk aG] 25)):=(ja _ _).alloc (by simp) _
    go_wp2_with fail
    refine(CB.out _ aj).mono ?_
    rintro e w2 ⟨P,O,rfl,aB,ai⟩
    obtain⟨m0,m1,m2,m3,m4,m5,m6,m7,m8,m9,aQ⟩:=aK4 ai (wr.heap.size+1) (by simp)
    have ac:jb wr w2:=aj.trans (ai.mono (by simp;omega))
    have B:jb wr ((w2.setCell (jx (wr.heap.size+1) 5) (.slice P m O)).setCell (jx (wr.heap.size+1) 6) (.slice none 0 0)):=(ac.setCell (by simp) _).setCell (by simp) _
    have I:=aMm HO.out B
    have af:((w2.setCell (jx (wr.heap.size+1) 5) (.slice P m O)).setCell (jx (wr.heap.size+1) 6) (.slice none 0 0)).ownsRow l.heap.size 5 1 (.slice P m O) m (bv a):=
     aMs (aMp (aMp aB _ _ (by simp)) _ _ (by simp)) (by simp;omega)
    have aT:l.heap.size<=w2.heap.size:=j1 aC ac.size
    obtain⟨s,d⟩:∃s,(w2.setCell (jx (wr.heap.size+1) 5) (.slice P m O)).setCell (jx (wr.heap.size+1) 6) (.slice none 0 0)=s:=⟨_,rfl⟩
    have aM:s.heap.size=w2.heap.size:=by rw[<-d];simp
    have k0:s.cell? (jx (wr.heap.size+1) 0)=some (.string ty):=by rw[<-d,aP7 (i:=6) (j:=0) (by decide),aP7 (i:=5) (j:=0) (by decide)];exact m0
    have k1:s.cell? (jx (wr.heap.size+1) 1)=some (.string cs):=by rw[<-d,aP7 (i:=6) (j:=1) (by decide),aP7 (i:=5) (j:=1) (by decide)];exact m1
    have k2:s.cell? (jx (wr.heap.size+1) 2)=some (.string id):=by rw[<-d,aP7 (i:=6) (j:=2) (by decide),aP7 (i:=5) (j:=2) (by decide)];exact m2
    have k3:s.cell? (jx (wr.heap.size+1) 3)=some (.string E):=by rw[<-d,aP7 (i:=6) (j:=3) (by decide),aP7 (i:=5) (j:=3) (by decide)];exact m3
    have k4:s.cell? (jx (wr.heap.size+1) 4)=some (.int .i64 D):=by rw[<-d,aP7 (i:=6) (j:=4) (by decide),aP7 (i:=5) (j:=4) (by decide)];exact m4
    have k5:s.cell? (jx (wr.heap.size+1) 5)=some (.slice P m O):=by rw[<-d,aP7 (i:=6) (j:=5) (by decide)];exact jch _ _ _ m5
    have k6:s.cell? (jx (wr.heap.size+1) 6)=some (.slice none 0 0):=by rw[<-d];exact jch _ _ _ ((aP7 (i:=5) (j:=6) (by decide)).trans m6)
    have S:Hid (aAg s l.heap.size Y):=λy M=>⟨(HB.out y M).1,(HB.out y M).2.1,by rw[<-d];exact aMm (HB.out y M).2.2 B⟩
    have aa:Hid (s.ownsRow l.heap.size 5 1 (.slice P m O) m (bv a)):=by unfold Hid;rw[<-d];exact af
    have T:Hid (s.ownsRow l.heap.size 25 7 (.slice q6 n6 c6) k (pav Y)):=by unfold Hid;rw[<-d];exact I
    have ar:Hid (jb wr s):=by unfold Hid;rw[<-d];exact B
    clear aB af I B HB HO ai aQ aj CB d0 d1 d2 d3 d4 d5 d6 ax ad
    go_wp2_with (at_builtin;refine jX _ rfl (.tmp 33) (.tmp 35) 23 rfl l.heap.size 25 i0 (.agg (jP jz jz jz jz 0 none 0 0 none 0 0)) 7 120 underlying23 hi aN aO aP rfl (by decide) _ _ _ rfl (T.out.alloc _) (jx w2.heap.size 0) 1 1 [.string ty,.string cs,.string id,.string E,.int .i64 D,.slice P m O,.slice none 0 0] rfl rfl ?c1 ?c2 ?c3 ?c4 ?c5 ?_)
    case c1=>exact aDM _ [_,_,_,_,_,_,_] _ _ aM.symm
    case c2=>intro u hu;simp at hu;rcases hu with rfl|rfl|rfl|rfl|rfl|rfl|rfl<;>rfl
    case c3=>unfold maxLen;omega
    case c4=>omega
    case c5=>simp;omega
    intro v9 w9 J am _
    have ab:jb l s:=C.trans (ar.out.mono aC)
    have aH:jb l w9:=(ab.alloc ab.size _).grown am (by simp;omega) (λj hj=>(T.out.lt j hj).1)
    have N:∀{n:Nat} {v:Value} {xs:List Value},s.ownsRow l.heap.size 5 1 v n xs->w9.ownsRow l.heap.size 5 1 v n xs:=λh=>(h.alloc _).kept am (aMn h T.out (by decide))
    have R9:Hid (w9.ownsRow l.heap.size 25 7 v9 (k+1) (pav (Y++[(⟨ty,cs,id,E,D,a,[]⟩,P,O)]))):=by unfold Hid;rw[aMR,<-ap.out];exact J
    have aD:Hid (aAg w9 l.heap.size (Y++[(⟨ty,cs,id,E,D,a,[]⟩,P,O)])):=λy M=>by
     rcases jY.1 M with h|h
     ·exact⟨(S.out y h).1,(S.out y h).2.1,N (S.out y h).2.2⟩
     ·obtain rfl:=List.mem_singleton.1 h
      obtain⟨l0,l1,l2,l3,l4,l5,l6,_⟩:=ao.out
      refine⟨rfl,⟨l0,l1,l2,l3,l4,l5,l6,jy _⟩,?_⟩
      simp only[<-ap.out]
      exact N aa.out
    have aF:Hid ((Y++[((⟨ty,cs,id,E,D,a,[]⟩,P,O):PY)]).map (·.1)=(R.2.take (k+1)).map λx=>x.1.alone):=by unfold Hid;rw[HT.out,jbg,HY.out];rfl
    clear J am T HT S aa N
    obtain⟨q9,c9,rfl⟩:=aMi R9.out
    go_wp2_with fail
    go_roundw
    case rel=>exact⟨k+1,q9,k+1,c9,_,by omega,by go_num,rfl,aH,R9,aD,aF⟩
    case measure=>simp[intOf];omega
   ·have aK:¬((k:Int)<(n:Int)):=by omega
    obtain rfl:k=n:=by omega
    have ah:Y.length=k:=by
     have:=jab List.length HY.out
     rw[jD,jD,jF,HN.out]at this
     omega
    have R9:wr.ownsRow l.heap.size 25 7 (.slice q6 n6 c6) Y.length (pav Y):=by rw[ah];exact HO.out
    obtain⟨q9,c9,e9,az,aI,ae,L⟩:=aMf R9 HB.out
    injection e9 with e1 e2 e3
    subst e1 e2 e3
    rw[HY.out,jK (by rw[HN.out];omega)]at L
    rw[ah]at az ae⊢
    have aq:Hid (KAt wr 1 q6 (R.2.map λx=>x.1.alone)):=L
    clear L R9 HE HO HB HY ah
    go_wp2_with fail
    go_ret2
    refine⟨A.trans (C.mono A.size),λh=>absurd aE.out h,λ_=>⟨q6,c6,?_,?_,aI,λh=>(ae h).2,aq.out⟩⟩
    ·simp only[HN.out];rfl
    ·rw[HN.out];exact az
 ·obtain rfl:=h1 hr
  clear h1 h2 CC
  have aL:(((R.1:Nat):Int)==0)=false:=by rw[jg];omega
  obtain⟨r,V⟩:∃r,R.1=r:=⟨_,rfl⟩
  have HR:Hid _:=V
  rw[V]at aL hr
  simp only[V]
  clear V
  go_wp2_with fail
  go_ret2
  exact⟨A,λ_=>by rw[HR.out];rfl,λh=>absurd (HR.out.symm.trans h) hr⟩
theorem aN7(f:Nat)(i:∀l m p a b,l.length<=12->(∀x∈l,x.2<12)->b<12->put f l p a b=some m->∀x∈m,x.2<12)(a:Nat)(b:Int)(g:b<12):∀(c:List PT) (l m:List (PT×Int)),l.length<=12->(∀x∈l,x.2<12)->aN6 f a b l c=some m->∀x∈m,x.2<12
 |[],l,m,_,hl,h=>by rw[aN9]at h;cases h;exact hl
 |k::c,l,m,h12,hl,h=>by
  cases d:put f l k a b with
  |none=>rw[aOa f a b l k c d]at h;cases h
  |some n=>
   rw[aOb f a b l n k c d]at h
   exact aN7 f i a b g c n m (aOk f l n k a b h12 d).2 (i l n k a b h12 hl g d) h
theorem aOj:∀(f:Nat) (l m:List (PT×Int)) (p:PT) (a:Nat) (b:Int),l.length<=12->(∀x∈l,x.2<12)->b<12->put f l p a b=some m->∀x∈m,x.2<12
 |0,_,_,_,_,_,_,_,_,h=>by rw[put]at h;cases h
 |f+1,l,m,p,a,b,h12,hl,hi,h=>by
  by_cases d:l.length=12\/3<a
  ·rw[aOm f l p a b d]at h;cases h
  ·rw[aOi f l p a b d]at h
   refine aN7 f (aOj f) (a+1) l.length (by omega) p.kids (l++[(p,b)]) m (by rw[je];simp;omega) (λx c=>?_) h
   rcases jY.1 c with c|c
   ·exact hl x c
   ·simp at c;rw[c];exact hi
theorem aNp(p:PT):∀x∈(aNh p).2,x.2<12:=by
 unfold aNh
 cases h:put 4 [] p 1 (-1)with
 |none=>simp
 |some l=>
  simp only
  split
  ·exact aOj 4 [] l p 1 (-1) (by simp) (by simp) (by decide) h
  ·simp
def ShB(w:World)(g:Nat)(q:jO)(n c:Nat)(wh:List jB):Prop:=∃cs,w.heap[g]?=some (.cells cs 77)/\cs.size=13/\cs[0]?=some (.slice q n c)/\∀i,i<12->cs[1+i]?=some (.string (tx8 (wh.getD i [])))
theorem ShB.below{w w':World}{g:Nat}{q:jO}{n c:Nat}{a:List jB}(h:ShB w g q n c a)(f:jb w w'):ShB w' g q n c a:=by
 obtain⟨cs,b,d⟩:=h
 exact⟨cs,aDj b f,d⟩
theorem ShB.set{w:World}{g:Nat}{q:jO}{n c:Nat}{d a:List jB}(h:ShB w g q n c d)(k:Nat)(p:k<12)(t:jB)(o:∀i,i<12->a.getD i []=if i=k then t else d.getD i []):ShB (w.setCell (jx g (1+k)) (.string (tx8 t))) g q n c a:=by
 obtain⟨cs,f,j,l,m⟩:=h
 refine⟨cs.setIfInBounds (1+k) (.string (tx8 t)),aP9 f _,by simpa using j,?_,λi b=>?_⟩
 ·rw[jba (by omega)];exact l
 ·rw[o i b]
  by_cases e:i=k
  ·subst e
   rw[jo rfl,jbu (by omega)]
  ·rw[jh e,jba (by omega)]
   exact m i b
theorem ShB.text{w:World}{g:Nat}{q:jO}{n c:Nat}{b:List jB}(h:ShB w g q n c b)(i:Nat)(f:i<12):w.cell? (jx g (1+i))=some (.string (tx8 (b.getD i [])))/\w.frozen? (jx g (1+i))=false:=by
 obtain⟨cs,a,j,k,d⟩:=h
 exact⟨by rw[aDe a];exact d i f,aDg a _⟩
theorem ShB.at{w:World}{g:Nat}{q:jO}{c:Nat}{L:List PT}{b:List jB}(h:ShB w g q L.length c b)(a:L.length<=12)(j:L.length<=c/\c<=maxLen)(k:KAt w 1 q L)(l:∀x∈b,x.length<=120):SAt w g q c L b:=by
 obtain⟨cs,d,m,f,i⟩:=h
 exact⟨⟨cs,d,f,i⟩,a,j,k,l⟩
theorem aVa(l:List (PT×Int))(k:Nat)(a:k<l.length):aU0 (l.take (k+1))=aU0 (l.take k)++[aRa (aU0 (l.take k)) (l.getD k (pt0,0))]:=by
 rw[jan,jc a,jd,jc a]
 exact aU3 _ _
theorem aU7(l:List (PT×Int))(k:Nat)(a:k<=l.length):(aU0 (l.take k)).length=k:=by rw[aU2,jF];omega
theorem aHw(a:List jB)(t:jB)(i:Nat):(a++[t]).getD i []=if i=a.length then t else a.getD i []:=by
 rw[jd,jd]
 by_cases e:i=a.length
 ·subst e;simp
 ·rw[jh e]
  by_cases h:i<a.length
  ·rw[jbk h]
  ·rw[List.getElem?_eq_none (by simp;omega),List.getElem?_eq_none (by omega)]
def aBl(w:World)(r:Nat×List (PT×Int))(e:Ending)(w':World):Prop:=
 jb w w'/\(r.1≠0->e=.returned (.tuple #[.pointer none,.int .i64 (r.1:Int)]))/\
 (r.1=0->∃g q c,e=.returned (.tuple #[.pointer (some (jx g 0)),.int .i64 0])/\w.heap.size<=g/\SAt w' g q c (r.2.map λx=>x.1.alone) (aU0 r.2))
theorem aBV(l:List (PT×Int))(k:Nat)(a:k<l.length):(l.map λx=>x.1.alone).getD k pt0=(l.getD k (pt0,0)).1.alone:=by
 simp[List.getD_eq_getElem?_getD,List.getElem?_eq_getElem a]
theorem aIw(l:List (PT×Int))(k:Nat)(a:k<l.length):(l.map (·.2)).getD k 0=(l.getD k (pt0,0)).2:=by
 simp[List.getD_eq_getElem?_getD,List.getElem?_eq_getElem a]
theorem sh0(i:Nat)(a:i<12)(q:jO)(n c:Nat):(#[Value.slice q n c,.string jz,.string jz,.string jz,.string jz,.string jz,.string jz,.string jz,.string jz,.string jz,.string jz,.string jz,.string jz]:Array Value)[1+i]?=some (.string (tx8 ((aU0 ([]:List (PT×Int))).getD i []))):=by
 match i,a with
 |0,_=>rfl
 |1,_=>rfl
 |2,_=>rfl
 |3,_=>rfl
 |4,_=>rfl
 |5,_=>rfl
 |6,_=>rfl
 |7,_=>rfl
 |8,_=>rfl
 |9,_=>rfl
 |10,_=>rfl
 |11,_=>rfl
theorem aEd{p:PT}(h:aEb p=0):p.loc.data.toList.length<=120:=by
 unfold aEb at h
 split at h
 ·cases h
 ·rename_i b
  have:aSK p=true:=by simpa using b
  unfold aSK at this
  rw[j7]at this
  have a:=this.2
  unfold aVe at a
  rw[j7]at a
  exact jbl a.1
theorem aQg(p:PT)(pb:jO)(T:Nat)(pk:jO)(U F:Nat)(w:World)(hM:aAP w)(hH:aA3 w F p pb T pk U):
  Calls prog 39 #[.agg (jP p.ty p.cs p.id p.loc p.how pb p.body.length T pk p.kids.length U)] w λe w'=>aBl w (aNh p) e w':=by
 have CA:Hid (∀W,jb w W->Calls prog 33 #[.agg (jP p.ty p.cs p.id p.loc p.how pb p.body.length T pk p.kids.length U)] W λe w'=>aAc W (aNh p) e w'):=λW z=>aBR p pb T pk U F W (hH.below z)
 have CI:Hid (∀W,jb w W->Calls prog 79 #[.agg (jP p.ty p.cs p.id p.loc p.how pb p.body.length T pk p.kids.length U)] W λe w'=>aBF W (aNh p) e w'):=λW z=>aVc p pb T pk U F W (hH.below z)
 have HM:Hid (∀W,jb w W->aAP W):=λW z=>hM.below z
 have ah:=aNk p
 have aM:Hid (∀x∈(aNh p).2,x.2<12):=aNp p
 have aK:Hid (∀x∈(aNh p).2,aEb x.1=0):=aNj p
 generalize aNh p=R at*
 clear hM hH
 obtain⟨W1,V⟩:∃W,W=w.alloc (.cells (jP p.ty p.cs p.id p.loc p.how pb p.body.length T pk p.kids.length U) 25):=⟨_,rfl⟩
 have Z:jb w W1:=by rw[V];exact ja _ _
 have aG:W1.heap[w.heap.size]?=some (.cells (jP p.ty p.cs p.id p.loc p.how pb p.body.length T pk p.kids.length U) 25):=by rw[V];exact aDi _ _
 generalize p.body.length=nb at*
 generalize p.kids.length=nk at*
 generalize p.how=hw at*
 go_enter func39,ntmps39
 go_wp2_with fail
 rw[<-V]
 clear V
 refine(CA.out _ Z).mono ?_
 rintro e w2 ⟨ai,N,G⟩
 have r:jb w w2:=Z.trans (ai.mono Z.size)
 have s:=aDj aG ai
 clear ai aG Z CA
 by_cases h0:R.1=0
 ·obtain⟨q,c,rfl,al,aD,aV,aI⟩:=G h0
  clear N G
  have d0:w2.cell? (jx w.heap.size 0)=some (.string p.ty):=(aDe s 0).trans rfl
  have d1:w2.cell? (jx w.heap.size 1)=some (.string p.cs):=(aDe s 1).trans rfl
  have d2:w2.cell? (jx w.heap.size 2)=some (.string p.id):=(aDe s 2).trans rfl
  have d3:w2.cell? (jx w.heap.size 3)=some (.string p.loc):=(aDe s 3).trans rfl
  have d4:w2.cell? (jx w.heap.size 4)=some (.int .i64 hw):=(aDe s 4).trans rfl
  have d5:w2.cell? (jx w.heap.size 5)=some (.slice pb nb T):=(aDe s 5).trans rfl
  have d6:w2.cell? (jx w.heap.size 6)=some (.slice pk nk U):=(aDe s 6).trans rfl
  go_wp2_with fail
  refine(CI.out _ r).mono ?_
  rintro e d ⟨aj,N,G⟩
  obtain⟨qi,ci,rfl,aO,aY,aZ,aF⟩:=G h0
  have j:jb w d:=r.trans (aj.mono r.size)
  have af:Hid (KAt d 1 q (R.2.map λx=>x.1.alone)):=KAt.below aj _ _ _ aI
  have aL:Hid (aAE d qi (R.2.map (·.2))):=aF
  clear N G CI s aj r aI aF d0 d1 d2 d3 d4 d5 d6
  obtain⟨n,hn⟩:∃n,R.2.length=n:=⟨_,rfl⟩
  have HN:Hid _:=hn
  rw[hn]at ah al aO⊢
  have HR:Hid _:=h0
  clear hn h0
  go_wp2_with fail
  go_loopw[31] (λiv wr=>∃k:Nat,k<=n/\iv=.int .i64 k/\jb d wr/\Hid (ShB wr d.heap.size q n c (aU0 (R.2.take k)))) (λiv _=>n-(intOf iv).toNat)
  case atStart=>exact⟨0,jy _,rfl,ja _ _,⟨_,aDi _ _,rfl,rfl,λi hi=>sh0 i hi q n c⟩⟩
  case round=>
   obtain⟨k,hk,rfl,E,HB⟩:=hrel
   have a1:=E.size
   by_cases aP:k<n
   ·have aQ:(k:Int)<(n:Int):=by omega
    have l:k<R.2.length:=by rw[HN.out];exact aP
    obtain⟨b,o,rfl,B⟩:=KAt.each (KAt.below E _ _ _ af.out) (λe=>by have h:=jab List.length e;rw[jD,jag]at h;omega)
    obtain⟨xb,an,xk,ao,⟨c0,c1,c2,c3,c4,c5,c6⟩,-⟩:=B k (by rw[jD];exact l)
    rw[aBV R.2 k l]at c0 c1 c2 c3 c4 c5 c6
    obtain⟨S,oi,rfl,aE⟩:=aL.out (λe=>by have h:=jab List.length e;rw[jD,jag]at h;omega)
    have ab:=aE k (by rw[jD];exact l)
    rw[aIw R.2 k l]at ab
    have ad:S<d.heap.size:=ji d _ ab
    have M:(R.2.getD k (pt0,0)).2<12:=aM.out _ (by rw[jd,jc l];exact jQ l)
    have aU:(R.2.getD k (pt0,0)).1.loc.size<=120:=by
     have h:=aK.out _ (show R.2.getD k (pt0,0)∈R.2 by rw[jd,jc l];exact jQ l)
     have h2:=aEd h
     rw[Lib.size_eq];exact h2
    have HT:Hid (aU0 (R.2.take (k+1))=aU0 (R.2.take k)++[aRa (aU0 (R.2.take k)) (R.2.getD k (pt0,0))]):=aVa R.2 k l
    have ag:Hid ((aU0 (R.2.take k)).length=k):=aU7 R.2 k (by omega)
    have ay:Hid (∀x∈aU0 (R.2.take k),x.length<=120):=aU1 _
    clear B aE l
    generalize aU0 (R.2.take k)=g at*
    have P:Hid (aRa g (R.2.getD k (pt0,0))=if(R.2.getD k (pt0,0)).1.loc.data.toList=[]then aHn g (R.2.getD k (pt0,0)).2 else aJT (aHn g (R.2.getD k (pt0,0)).2) (R.2.getD k (pt0,0)).1.loc.data.toList):=rfl
    generalize aRa g (R.2.getD k (pt0,0))=ST at*
    have e0:(R.2.getD k (pt0,0)).1.alone.loc=(R.2.getD k (pt0,0)).1.loc:=rfl
    rw[e0]at c3
    clear e0
    generalize (R.2.getD k (pt0,0)).2=a at*
    generalize (R.2.getD k (pt0,0)).1.alone.ty=aw at*
    generalize (R.2.getD k (pt0,0)).1.alone.cs=ap at*
    generalize (R.2.getD k (pt0,0)).1.alone.id=aq at*
    generalize (R.2.getD k (pt0,0)).1.alone.how=O at*
    generalize (R.2.getD k (pt0,0)).1.alone.body.length=ar at*
    generalize (R.2.getD k (pt0,0)).1.alone.kids.length=av at*
    generalize (R.2.getD k (pt0,0)).1.loc=D at*
    obtain⟨f,X⟩:∃W,W=wr.alloc (.cells (jP aw ap aq D O xb ar an xk av ao) 25):=⟨_,rfl⟩
    have aa:jb wr f:=by rw[X];exact ja _ _
    have am:f.heap[wr.heap.size]?=some (.cells (jP aw ap aq D O xb ar an xk av ao) 25):=by rw[X];exact aDi _ _
    have m:jb d f:=E.trans (aa.mono E.size)
    have H:Hid (ShB f d.heap.size (some (jx b o)) n c g):=HB.out.below aa
    have ax:Hid (KAt f 1 (some (jx b o)) (R.2.map λx=>x.1.alone)):=KAt.below m _ _ _ af.out
    have aN:d.heap.size<f.heap.size:=by have:=aa.size;have h2:=(jl.1 am).1;omega
    have aX:d.heap.size<wr.heap.size:=by
     obtain⟨cs,h1,-⟩:=HB.out
     exact(jl.1 h1).1
    go_upto_region 11 with fail
    rw[<-X]
    clear X aa c0 c1 c2 c3 c4 c5 c6 HB
    have ak:jb w f:=j.trans (m.mono j.size)
    have k1:∀w',jb f w'->w'.cell? (jx S (oi+k))=some (.int .i64 a):=λw' z=>(z.cell (p:=jx S (oi+k)) (by show S<f.heap.size;have:=m.size;omega)).trans ((m.cell (p:=jx S (oi+k)) ad).trans ab)
    have k2:∀w',jb f w'->w'.cell? (jx d.heap.size (1+k))=some (.string (tx8 (g.getD k []))):=λw' z=>((H.out.below z).text k (by omega)).1
    have k3:∀w',jb f w'->w'.frozen? (jx d.heap.size (1+k))=false:=λw' z=>((H.out.below z).text k (by omega)).2
    have CF:Hid (∀W,jb f W->Calls prog 41 #[.pointer (some (jx d.heap.size 0)),.int .i64 a] W λe w'=>e=.returned (.string (tx8 (aHn g a)))/\w'=W):=λW z=>aHp a M W d.heap.size (some (jx b o)) c (R.2.map λx=>x.1.alone) g (ShB.at (by rw[jD,HN.out];exact H.out.below z) (by rw[jD,HN.out];exact ah) (by rw[jD,HN.out];exact⟨al,aD⟩) (KAt.below z _ _ _ ax.out) ay.out)
    have aT:(k:Int)<12:=by omega
    have a0:(0:Int)<=(k:Int):=by omega
    have t:jb f f:=jr _ _
    have kS:f.cell? (jx S (oi+k))=some (.int .i64 a):=k1 f t
    have C:∀(w':World) (v:Value),w'.cell? (jx S (oi+k))=some (.int .i64 a)->(w'.setCell (jx d.heap.size (1+k)) v).cell? (jx S (oi+k))=some (.int .i64 a):=λw' v h=>by
     rw[jae _ _ _ _ (λe=>by have h9:=jab Addr.block e;simp only at h9;omega)]
     exact h
    have z2:=k2 f t
    have z3:=k3 f t
    clear k1 k2 k3
    go_region_held3 (λw'=>w'.cell? (jx S (oi+k))=some (.int .i64 a)) (first|exact kS|exact C _ _ kS) (first
     |(go_at_call 41;refine(CF.out _ t.drew).mono ?_;rintro e w4 ⟨rfl,aR⟩;have aS:=aR.symm;subst aS))
    obtain⟨y,J⟩:∃W,W=(f.setCell (jx d.heap.size (1+k)) (.string (tx8 (aHn g a)))).drew:=⟨_,rfl⟩
    have A:jb d y:=by rw[J];exact(m.setCell (p:=jx d.heap.size (1+k)) (jf _) _).drew
    have I:Hid (ShB y d.heap.size (some (jx b o)) n c (g++[aHn g a])):=by
     rw[J]
     exact ShB.set H.out k (by omega) (aHn g a) (λi hi=>by rw[aHw,ag.out])
    have aH:y.heap[wr.heap.size]?=some (.cells (jP aw ap aq D O xb ar an xk av ao) 25):=by
     rw[J]
     show(f.setCell (jx d.heap.size (1+k)) (.string (tx8 (aHn g a)))).heap[wr.heap.size]?=_
     rw[jp _ _ _ _ (by show wr.heap.size≠d.heap.size;omega)]
     exact am
    have e3:y.cell? (jx wr.heap.size 3)=some (.string D):=(aDe aH 3).trans rfl
    have aC:jb w y:=j.trans (A.mono j.size)
    have ac:(f.setCell (jx d.heap.size (1+k)) (.string (tx8 (aHn g a)))).drew=y:=J.symm
    rw[ac]
    clear J ac kS C z2 z3 CF am H ax t ak m aN ab ad M
    by_cases hl:D.data.toList=[]
    ·have hE:D.toList.isEmpty=true:=by rw[jj,hl];rfl
     have HX:Hid (ShB y d.heap.size (some (jx b o)) n c (aU0 (R.2.take (k+1)))):=by unfold Hid;rw[HT.out,P.out,jo hl];exact I.out
     clear HT P I hl
     go_wp2_with fail
     go_roundw
     case rel=>exact⟨k+1,by omega,by go_num,A,HX⟩
     case measure=>simp[intOf];omega
    ·have hE:D.toList.isEmpty=false:=by rw[jj];simpa using hl
     have aW:(aHn g a).length<=120:=aHo g ay.out a
     have CL:Hid (∀W,jb w W->Calls prog 12 #[.string (tx8 (aHn g a)),.string D] W λe w'=>e=.returned (.string (tx8 (aJT (aHn g a) D.data.toList)))/\jb W w'):=λW hW=>aDc _ _ (by rw[aTA];unfold maxLen;omega) (by unfold maxLen;omega) W (HM.out W hW)
     have aJ:=I.out.text k (by omega)
     rw[aHw,ag.out,jo rfl]at aJ
     have HX:Hid (∀W',ShB W' d.heap.size (some (jx b o)) n c (g++[aHn g a])->ShB (W'.setCell (jx d.heap.size (1+k)) (.string (tx8 (aJT (aHn g a) D.data.toList)))) d.heap.size (some (jx b o)) n c (aU0 (R.2.take (k+1)))):=λW' h=>by
      rw[HT.out,P.out,jh hl]
      refine ShB.set h k (by omega) _ (λi hi=>?_)
      rw[aHw,aHw,ag.out]
      by_cases e:i=k
      ·rw[jo e,jo e]
      ·rw[jh e,jh e,jh e]
     clear HT P hl
     generalize aJT (aHn g a) D.data.toList=LE at*
     generalize aHn g a=FR at*
     obtain⟨t1,t2⟩:=aJ
     have C:∀(w':World) (v:Value),w'.cell? (jx wr.heap.size 3)=some (.string D)->(w'.setCell (jx d.heap.size (1+k)) v).cell? (jx wr.heap.size 3)=some (.string D):=λw' v h=>by
      rw[jae _ _ _ _ (λe=>by have h9:=jab Addr.block e;simp only at h9;omega)]
      exact h
     have a2:wr.heap.size<y.heap.size:=(jl.1 aH).1
     have t:jb y y:=jr _ _
     go_wp2_with fail
     go_region_with (first
      |(go_at_call 12;refine(CL.out _ aC.drew).mono ?_;rintro e w6 ⟨rfl,aB⟩;have L:jb y w6:=(t.drew).trans (aB.mono (jf _));have ae:Hid (ShB w6 d.heap.size (some (jx b o)) n c (g++[FR])):=I.out.below L;have az:jb d w6:=A.trans (L.mono A.size);have s1:=(L.cell (p:=jx d.heap.size (1+k)) (by show d.heap.size<y.heap.size;omega)).trans t1;have s2:=(ae.out.text k (by omega)).2;clear aB))
     all_goals (
      obtain⟨Wc,Y⟩:∃W,W=w6.setCell (jx d.heap.size (1+k)) (.string (tx8 LE)):=⟨_,rfl⟩
      have aA:jb d Wc:=by rw[Y];exact az.setCell (p:=jx d.heap.size (1+k)) (jf _) _
      have HC:Hid (ShB Wc d.heap.size (some (jx b o)) n c (aU0 (R.2.take (k+1)))):=by unfold Hid;rw[Y];exact HX.out w6 ae.out
      rw[<-Y]
      clear Y ae HX I CL e3 s1 s2 t1 t2 C
      go_wp2_with fail
      go_roundw
      case rel=>exact⟨k+1,by omega,by go_num,aA,HC⟩
      case measure=>simp[intOf];omega)
   ·obtain rfl:k=n:=by omega
    have aQ:¬(k:Int)<(k:Int):=by omega
    go_wp2_with fail
    go_ret2
    refine⟨j.trans (E.mono j.size),λh=>absurd HR.out h,λ_=>⟨d.heap.size,q,c,rfl,j.size,?_⟩⟩
    have hB:=HB.out
    rw[jK (by rw[HN.out];omega)]at hB
    exact ShB.at (by rw[jD,HN.out];exact hB) (by rw[jD,HN.out];exact ah) (by rw[jD,HN.out];exact⟨al,aD⟩) (KAt.below E _ _ _ af.out) (aU1 _)
 ·obtain rfl:=N h0
  clear G CI
  have hz:((R.1:Int)==0)=false:=by rw[jg];omega
  have HR:Hid _:=h0
  clear h0 N
  go_wp2_with fail
  go_ret2
  exact⟨r,λ_=>rfl,λh=>absurd h HR.out⟩
def wtv(wh:List jB):List Value:=wh.map λt=>.string (tx8 t)
theorem aE3(Y:jB)(h:Lib.hasPrefix Y aEi=false)(w:World):Calls prog 81 #[.string (tx8 Y),.string ⟨#[99,105,100,58]⟩] w λe w'=>e=.returned (.tuple #[.string (tx8 Y),.bool false])/\w'=w:=by
 refine(strings_CutPrefix (tx8 Y) ⟨#[99,105,100,58]⟩ w).mono ?_
 rintro e w' ⟨rfl,rfl⟩
 refine⟨?_,rfl⟩
 have e1:Lib.hasPrefix (tx8 Y).data.toList (ByteArray.mk #[99,105,100,58]).data.toList=false:=h
 rw[show Lib.trimPrefix (tx8 Y).data.toList (ByteArray.mk #[99,105,100,58]).data.toList=Y from by unfold Lib.trimPrefix;rw[e1];rfl,e1]
 rfl
theorem aE4(Y:jB)(h:Lib.hasPrefix Y aEi=true)(w:World):Calls prog 81 #[.string (tx8 Y),.string ⟨#[99,105,100,58]⟩] w λe w'=>e=.returned (.tuple #[.string (tx8 (Y.drop 4)),.bool true])/\w'=w:=by
 refine(strings_CutPrefix (tx8 Y) ⟨#[99,105,100,58]⟩ w).mono ?_
 rintro e w' ⟨rfl,rfl⟩
 refine⟨?_,rfl⟩
 have e1:Lib.hasPrefix (tx8 Y).data.toList (ByteArray.mk #[99,105,100,58]).data.toList=true:=h
 rw[show Lib.trimPrefix (tx8 Y).data.toList (ByteArray.mk #[99,105,100,58]).data.toList=Y.drop 4 from by unfold Lib.trimPrefix;rw[e1];rfl,e1]
 rfl
theorem aC9(f:jB)(ab:f.length<=120)(w:World)(g:Nat)(q:jO)(c:Nat)(L:List PT)(l:List jB)(h:SAt w g q c L l):
  Calls prog 42 #[.pointer (some (jx g 0)),.string (tx8 f)] w (jG (.int .i64 (aGC L l f)) w):=by
 have S:=aTz f
 by_cases E:f=[]
 ·have D:Hid (aGC L l f=-1):=by unfold Hid aGC;rw[jo E]
  have hE:(tx8 f).toList.isEmpty=true:=by rw[S,E];rfl
  clear S E
  go_enter func42,ntmps42
  go_wp2_with fail
  go_ret
  exact⟨by rw[D.out];rfl,(ja _ _).alloc (by simp) _⟩
 ·have hE:(tx8 f).toList.isEmpty=false:=by rw[S];simpa using E
  have D:Hid (aGC L l f=if Lib.hasPrefix (aLy f) aEi=true then aGT (aLU ((aLy f).drop 4)) 0 L else aGT (aLV l (aLy f)) 0 L):=by unfold Hid aGC;rw[jh E]
  have CF:Hid (∀W,Calls prog 80 #[.string (tx8 f)] W λe w'=>e=.returned (.string (tx8 (aLy f)))/\jb W w'):=λW=>aDa _ (by rw[aTA];unfold maxLen;omega) W
  have C:Hid (SAt w g q c L l):=h
  clear S E h
  generalize aGC L l f=R at*
  generalize aLy f=T at*
  obtain⟨U,j⟩:∃W,W=(w.alloc (.cells #[.pointer (some (jx g 0))] 71)).alloc (.cells #[.string (tx8 f)] 9):=⟨_,rfl⟩
  have A:jb w U:=by rw[j];exact(ja _ _).alloc (by simp) _
  have M:U.heap.size=w.heap.size+2:=by rw[j];simp
  have k0:U.heap[w.heap.size]?=some (.cells #[.pointer (some (jx g 0))] 71):=by rw[j];exact aDj (aDi w _) (ja _ _)
  have k1:U.heap[w.heap.size+1]?=some (.cells #[.string (tx8 f)] 9):=by rw[j];have:=aDi (w.alloc (.cells #[.pointer (some (jx g 0))] 71)) (.cells #[.string (tx8 f)] 9);rw[World.size_alloc]at this;exact this
  go_enter func42,ntmps42
  go_wp2_with fail
  rw[<-j]
  clear j
  refine(CF.out _).mono ?_
  rintro e W2 ⟨rfl,n⟩
  clear CF
  have k2:=aDj k0 n
  have P:=aDj k1 n
  have r:jb w W2:=A.trans (n.mono A.size)
  have N:=n.size
  rw[M]at N
  clear n k0 k1 A M
  have f3:=aDg P
  have c3:W2.cell? (jx (w.heap.size+1) 0)=some (.string (tx8 f)):=(aDe P 0).trans rfl
  obtain⟨v,i⟩:∃W,W=W2.setCell (jx (w.heap.size+1) 0) (.string (tx8 T)):=⟨_,rfl⟩
  have d:jb w v:=by rw[i];exact r.setCell (p:=jx (w.heap.size+1) 0) (by simp) _
  have X:v.heap[w.heap.size]?=some (.cells #[.pointer (some (jx g 0))] 71):=by rw[i,jp _ _ _ _ (by simp)];exact k2
  have Y:v.heap[w.heap.size+1]?=some (.cells #[.string (tx8 T)] 9):=by rw[i];exact aP9 P _
  have ac:w.heap.size+2<=v.heap.size:=by rw[i];simp[World.setCell];omega
  clear N
  cases V:Lib.hasPrefix T aEi with
  |true=>
   have F:Hid (∀W,Calls prog 81 #[.string (tx8 T),.string ⟨#[99,105,100,58]⟩] W λe w'=>e=.returned (.tuple #[.string (tx8 (T.drop 4)),.bool true])/\w'=W):=λW=>aE4 T V W
   have x:Hid (R=aGT (aLU (T.drop 4)) 0 L):=by unfold Hid;rw[D.out,V,jo rfl]
   have G:Hid (∀(W:World) (O:Nat),jb w W->W.cell? (jx w.heap.size 0)=some (.pointer (some (jx g 0)))->W.cell? (jx O 0)=some (.string (tx8 (T.drop 4)))->Calls prog 82 #[.pointer (some (jx g 0)),.func (Fn.func 83) #[] #[.pointer (some (jx w.heap.size 0)),.pointer (some (jx O 0))]] W λe w'=>e=.returned (.int .i64 (aGT (aLU (T.drop 4)) 0 L))/\jb W w'):=λW O J H I=>
    aGZ _ _ _ W g q c L l (C.out.below J) (λargs W=>by kernel_rfl) (λk Z hk z=>(aLQ k Z g q c L l hk ((C.out.below J).below z) w.heap.size O _ ((z.cell (p:=jx w.heap.size 0) (ji W _ H)).trans H) ((z.cell (p:=jx O 0) (ji W _ I)).trans I)).mono (by rintro e w' ⟨rfl,m,rfl⟩;exact⟨rfl,below_drewN' (jr _ _) m⟩))
   clear D C
   go_wp2_with fail
   rw[<-i]
   clear i k2 P c3 f3 r
   have c5:v.cell? (jx (w.heap.size+1) 0)=some (.string (tx8 T)):=(aDe Y 0).trans rfl
   have c4:v.cell? (jx w.heap.size 0)=some (.pointer (some (jx g 0))):=(aDe X 0).trans rfl
   refine(F.out _).mono ?_
   rintro e t ⟨rfl,rfl⟩
   clear F
   have B:w.heap.size<t.heap.size:=by omega
   go_upto_region 5 with fail
   obtain⟨y,a⟩:∃W,W=t.alloc (.cells #[.string (tx8 (T.drop 4))] 9):=⟨_,rfl⟩
   rw[<-a]
   have c6:y.cell? (jx w.heap.size 0)=some (.pointer (some (jx g 0))):=by rw[a];exact(((jr _ t).alloc (jf _) _).cell (p:=jx w.heap.size 0) B).trans c4
   have c7:y.cell? (jx t.heap.size 0)=some (.string (tx8 (T.drop 4))):=by rw[a];simp
   have b:jb w y:=by rw[a];exact d.alloc d.size _
   clear a d c4 c5 X Y
   go_wp2_with fail
   refine(G.out _ t.heap.size b c6 c7).mono ?_
   rintro e w9 ⟨rfl,o⟩
   have s:jb w w9:=b.trans (o.mono b.size)
   clear G o
   go_wp2_with fail
   go_ret
   exact⟨by rw[x.out];rfl,s⟩
  |false=>
   have F:Hid (∀W,Calls prog 81 #[.string (tx8 T),.string ⟨#[99,105,100,58]⟩] W λe w'=>e=.returned (.tuple #[.string (tx8 T),.bool false])/\w'=W):=λW=>aE3 T V W
   have x:Hid (R=aGT (aLV l T) 0 L):=by unfold Hid;rw[D.out,V,jh (by decide)]
   have G:Hid (∀(W:World),jb w W->W.cell? (jx w.heap.size 0)=some (.pointer (some (jx g 0)))->W.cell? (jx (w.heap.size+1) 0)=some (.string (tx8 T))->Calls prog 82 #[.pointer (some (jx g 0)),.func (Fn.func 84) #[] #[.pointer (some (jx w.heap.size 0)),.pointer (some (jx (w.heap.size+1) 0))]] W λe w'=>e=.returned (.int .i64 (aGT (aLV l T) 0 L))/\jb W w'):=λW J H I=>
    aGZ _ _ _ W g q c L l (C.out.below J) (λargs W=>by kernel_rfl) (λk Z hk z=>aLR k Z g q c L l hk ((C.out.below J).below z) w.heap.size (w.heap.size+1) _ ((z.cell (p:=jx w.heap.size 0) (ji W _ H)).trans H) ((z.cell (p:=jx (w.heap.size+1) 0) (ji W _ I)).trans I))
   clear D C
   go_wp2_with fail
   rw[<-i]
   clear i k2 P c3 f3 r
   have c5:v.cell? (jx (w.heap.size+1) 0)=some (.string (tx8 T)):=(aDe Y 0).trans rfl
   have c4:v.cell? (jx w.heap.size 0)=some (.pointer (some (jx g 0))):=(aDe X 0).trans rfl
   refine(F.out _).mono ?_
   rintro e t ⟨rfl,rfl⟩
   clear F
   have B:w.heap.size<t.heap.size:=by omega
   have aa:w.heap.size+1<t.heap.size:=by omega
   go_upto_region 5 with fail
   obtain⟨y,a⟩:∃W,W=t.alloc (.cells #[.string (tx8 T)] 9):=⟨_,rfl⟩
   rw[<-a]
   have c6:y.cell? (jx w.heap.size 0)=some (.pointer (some (jx g 0))):=by rw[a];exact(((jr _ t).alloc (jf _) _).cell (p:=jx w.heap.size 0) B).trans c4
   have c7:y.cell? (jx (w.heap.size+1) 0)=some (.string (tx8 T)):=by rw[a];exact(((jr _ t).alloc (jf _) _).cell (p:=jx (w.heap.size+1) 0) aa).trans c5
   have b:jb w y:=by rw[a];exact d.alloc d.size _
   clear a d c4 c5 X Y
   go_wp2_with fail
   refine(G.out _ b c6 c7).mono ?_
   rintro e w9 ⟨rfl,o⟩
   have s:jb w w9:=b.trans (o.mono b.size)
   clear G o
   go_wp2_with fail
   go_ret
   exact⟨by rw[x.out];rfl,s⟩
theorem aL3{N:Nat}:∀{l:List LK} {d:Nat},Ord N d l->∀x∈l,x.2.length<=N
 |[],_,_,x,a=>by simp at a
 |y::l,d,h,x,a=>by
  unfold Ord at h
  rcases jad.1 a with rfl|a
  ·omega
  ·exact aL3 h.2.2.2 x a
theorem aGN{b:jB}{l:List LK}(h:aGz aKG b=some l):∀x∈l,(aTW x.2).length<=4000:=λx c=>by
 obtain⟨a,d,f⟩:=aGK aKG b l h
 have g:=aL3 a x c
 have i:=aTY x.2
 omega
def g1v(x:GL):List Value:=[.int .i64 x.part,.int .i64 x.fr,.int .i64 x.tt,.string (tx8 x.text),.string (tx8 x.led),.int .i64 x.find]
def glv(l:List GL):List Value:=l.flatMap g1v
theorem aHz(l:List GL)(x:GL):glv (l++[x])=glv l++g1v x:=by simp[glv]
theorem aIG:(prog.info? 42).map (λi=>(i.zero,i.size,i.bytes))=some (some (.agg #[.int .i64 0,.int .i64 0,.int .i64 0,.string jz,.string jz,.int .i64 0]),6,64):=by kernel_rfl
def aAA(w:World)(r:Nat×List (PT×Int))(e:Ending)(w':World):Prop:=
 jb w w'/\(r.1≠0->e=.returned (.tuple #[.slice none 0 0,.int .i64 (r.1:Int)]))/\
 (r.1=0->match aHM aKG (r.2.map λx=>x.1.alone) (aU0 r.2) 0 (r.2.map λx=>x.1.alone) []with
  |none=>e=.returned (.tuple #[.slice none 0 0,.int .i64 2])
  |some l=>∃v,e=.returned (.tuple #[v,.int .i64 0])/\w'.ownsRow w.heap.size 42 6 v l.length (glv l))
theorem aHQ(b:jB->jB)(l:List PT)(d:List jB)(L:List PT)(k:Nat)(a:List GL)(c:k<L.length)(h:(L.getD k pt0).ty.data.toList≠aIh):aHM b l d k (L.drop k) a=aHM b l d (k+1) (L.drop (k+1)) a:=by
 have e:L.getD k pt0=L[k]:=by rw[jd,jc c];rfl
 rw[e]at h
 rw[jE c,aHM,jh h]
theorem aHP(a:jB->jB)(l:List PT)(c:List jB)(L:List PT)(k:Nat)(b:List GL)(d:k<L.length)(h:(L.getD k pt0).ty.data.toList=aIh):aHM a l c k (L.drop k) b=(aGz a (L.getD k pt0).body).bind λf=>aHM a l c (k+1) (L.drop (k+1)) (b++f.map (aHE l c k (L.getD k pt0).body.length)):=by
 have e:L.getD k pt0=L[k]:=by rw[jd,jc d];rfl
 rw[e]at h⊢
 rw[jE d,aHM,jo h]
 cases aGz a L[k].body<;>rfl
end Go.Proofs.YtbbfcbodhmeanaaGreatDoor

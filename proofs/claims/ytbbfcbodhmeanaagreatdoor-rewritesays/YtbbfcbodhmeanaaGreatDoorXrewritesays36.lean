import Derived.Test.YtbbfcbodhmeanaaGreatDoorXrewritesays34
import Derived.Laws.EntriesVeiled
set_option maxHeartbeats 8000000
set_option maxRecDepth 1000000
namespace Go.Proofs.YtbbfcbodhmeanaaGreatDoor
open Go.Proofs.Tryz
open Go.RowKit
abbrev z7:Array Value:=(jP jz jz jz jz 0 none 0 0 none 0 0)
def aBC(G NB EB f:Nat)(R:PT×Nat×Nat)(W:World)(en:Ending)(w':World):Prop:=
 ∃(qb:jO) (db:Nat) (qk:jO) (dk:Nat),en=.returned (.agg (jP R.1.ty R.1.cs R.1.id R.1.loc R.1.how qb R.1.body.length db qk R.1.kids.length dk))/\Mov NB EB R.2.1 R.2.2 W w'/\aAM G W.heap.size w'.heap.size w' f (R.1,(qb,db),(qk,dk))
structure aAk(W0 W:World)(NB EB A r k e:Nat)(p:PT)(BO:jB)(pk:jO)(n ck:Nat)(bq:jO)(bn bc:Nat)(w':World):Prop where
 mov:Mov NB EB k e W w'
 kA:w'.heap[A]?=some (.cells (jP p.ty p.cs p.id p.loc p.how bq bn bc pk n ck) 25)
 kr:w'.heap[r]?=some (.cells z7 25)
 bl:bn=BO.length
 bb:bn<=bc/\bc<=maxLen/\(bq=none->bc=0)
 body:aAL W0.heap.size (r+1) w'.heap.size w' bq BO
theorem aJz(Z:List PZ)(p:PT)(a:jO)(b:Nat)(c:jO)(d:Nat):pzv (Z++[(p,(a,b),(c,d))])=pzv Z++[.string p.ty,.string p.cs,.string p.id,.string p.loc,.int .i64 p.how,.slice a p.body.length b,.slice c p.kids.length d]:=by rw[aOx];simp[pzv,pzc]
theorem aAk.of{j W:World}{i g A r k e:Nat}{p:PT}{BO:jB}{m:jO}{n l:Nat}{b0:Value}{f:jO}{d c:Nat}{a:World}(t:Mov i g k e W a)(x:a.heap[A]?=some (.cells #[.string p.ty,.string p.cs,.string p.id,.string p.loc,.int .i64 p.how,b0,.slice m n l] 25))(y:a.heap[r]?=some (.cells z7 25))
  (z:W.heap.size=A)(C:A+1=r)(v:i<A/\g<A/\j.heap.size<=A)(q:d=BO.length)(o:d<=c/\c<=maxLen/\(f=none->c=0))(s:aAL j.heap.size (r+1) a.heap.size a f BO):aAk j W i g A r k e p BO m n l f d c (a.setCell (jx A 5) (.slice f d c)):=by
 refine⟨t.set A 5 _ (by omega) (by omega) (by omega),(aP5 x 5 _).trans rfl,?_,q,o,?_⟩
 ·rw[jp _ _ _ _ (show r≠A by omega)]
  exact y
 ·have e:(a.setCell (jx A 5) (.slice f d c)).heap.size=a.heap.size:=by simp[World.setCell]
  rw[e]
  exact s.move λb B=>jp _ _ _ _ (show b≠A by omega)
theorem aAk.ofE{g W:World}{f a A r k e:Nat}{p:PT}{BO:jB}{s:jO}{n q:Nat}{b0:Value}{j:jO}{i d:Nat}{c:World}(l:Nat)(z:Mov f a k e W c)(C:c.heap[A]?=some (.cells #[.string p.ty,.string p.cs,.string p.id,.string p.loc,.int .i64 p.how,b0,.slice s n q] 25))(D:c.heap[r]?=some (.cells z7 25))
  (x:W.heap.size=A)(B:A+1=r)(m:f<A/\a<A/\g.heap.size<=A)(E:g.heap.size<=a)(o:f≠a)(v:i=BO.length)(t:i<=d/\d<=maxLen/\(j=none->d=0))(y:aAL g.heap.size (r+1) c.heap.size c j BO):aAk g W f a A r k l p BO s n q j i d ((c.setCell (jx a 0) (.int .i64 (l:Int))).setCell (jx A 5) (.slice j i d)):=by
 refine aAk.of (b0:=b0) (z.setE l o) ?_ ?_ x B m v t ?_
 ·rw[jp _ _ _ _ (show A≠a by omega)]
  exact C
 ·rw[jp _ _ _ _ (show r≠a by omega)]
  exact D
 ·have e:(c.setCell (jx a 0) (.int .i64 (l:Int))).heap.size=c.heap.size:=by simp[World.setCell]
  rw[e]
  exact y.move λb F=>jp _ _ _ _ (show b≠a by omega)
theorem Mov.put8{f d k e:Nat}{W g:World}(h:Mov f d k e W g)(A r:Nat)(x i j l m n o p:Value)(q:W.heap.size<=A)(c:W.heap.size<=r)(b:f<W.heap.size)(a:d<W.heap.size):Mov f d k e W (put8 g A r x i j l m n o p):=
 ((((((((h.set A 6 x q b a).set r 0 i c b a).set r 1 j c b a).set r 2 l c b a).set r 3 m c b a).set r 4 n c b a).set r 5 o c b a).set r 6 p c b a)
theorem aUQ{G m l f A r S1:Nat}{W wr:World}{p:PT}{BO:jB}{d:jO}{j a:Nat}{q:jO}{n c:Nat}{Z:List PZ}{kk ee:Nat}{R:PT×Nat×Nat}(O:R=({p with body:=BO,kids:=Z.map (·.1)},kk,ee))(J:W.heap.size=A)(hr:A+1=r)(hS:r+1<=S1)(hG:G<=A)(T:m<A/\l<A)(B:Z.length=n)(hn:n<=1000)(t:aA5 p)(S:BO.length<=4000)(x:j=BO.length)(C:j<=a/\a<=maxLen/\(d=none->a=0))
  (N:Mov m l kk ee W wr)(y:wr.ownsRow S1 25 7 (.slice q n c) n (pzv Z))(M:aAN G S1 wr f (Value.slice q n c).ownBlock Z)(L:aAL G (r+1) S1 wr d BO)(hs:S1<=wr.heap.size):
  aBC G m l (f+1) R W (.returned (.agg (jP p.ty p.cs p.id p.loc p.how d j a q n c))) (put8 wr A r (.slice q n c) (.string p.ty) (.string p.cs) (.string p.id) (.string p.loc) (.int .i64 p.how) (.slice d j a) (.slice q n c)):=by
 subst O
 have i:(Z.map (·.1)).length=n:=by rw[jD];exact B
 refine⟨d,a,q,c,?_,N.put8 A r _ _ _ _ _ _ _ _ (by omega) (by omega) (by omega) (by omega),λV P=>?_⟩
 ·show _=Ending.returned (.agg #[_,_,_,_,_,.slice d BO.length a,.slice q (Z.map (·.1)).length c])
  rw[i,<-x]
 ·have v:=aN5 wr A r (.slice q n c) (.string p.ty) (.string p.cs) (.string p.id) (.string p.loc) (.int .i64 p.how) (.slice d j a) (.slice q n c)
  have g:∀b,(b<G\/(r+1<=b/\b<wr.heap.size))->V.heap[b]?=wr.heap[b]?:=λb k=>(P b (by rw[v,J];omega)).trans (aN4 wr A r _ _ _ _ _ _ _ _ b (by omega) (by omega))
  have o:V.ownsRow S1 25 7 (.slice q n c) n (pzv Z):=aMo y (λb k=>g b (.inr (by have:=y.lt b k;omega)))
  obtain⟨q',c',U,E,F,H,I⟩:=aJh (f:=f) o B.symm (λz X=>by
   obtain⟨s,sz,g1,g2,g3,_,D⟩:=M z X
   exact D V λb k=>g b (by omega))
  injection U with hv1 _ hv2
  subst hv1
  subst hv2
  obtain⟨Y,l2,l3,l4,l5,l6,l7,l8⟩:=t
  refine⟨⟨Y,l2,l3,l4,l5,l6,by show BO.length<=maxLen;unfold maxLen;omega,by show(Z.map (·.1)).length<=maxLen;rw[i];unfold maxLen;omega⟩,by show BO.length<=a/\_;rw[<-x];exact C,L V (λb k=>g b (by omega)),by show(Z.map (·.1)).length<=c/\_;rw[i];exact⟨E,F,H⟩,I⟩
theorem aUP(B T:World)(ca:Below B.heap.size B T)(hE:aAI T)(TB mb d a R:Nat)(g:Nat->List jA)(aN:aBz T TB mb g)(cm:T.heap.size<=d)(cf:T.heap.size<=a)(ar:d≠a)(cy:R≠d)(cx:R≠a):∀(f F:Nat) (p:PT) (J:jO) (G:Nat) (H:jO) (L k e:Nat) (W:World),lev f p=true->(∀x∈aG3 f p,x.kids.length<=1000/\x.body.length<=4000)->k+(aG3 f p).length<=1000->aA3 B F p J G H L->aBG T TB d a R k e W->
  Calls prog 67 #[.agg (jP p.ty p.cs p.id p.loc p.how J p.body.length G H p.kids.length L),.pointer (some (jx TB 0)),.pointer (some (jx d 0)),.pointer (some (jx a 0)),.pointer (some (jx R 0))] W
   λen w'=>aBC B.heap.size d a f (aUK g f p k e) W en w':=by
 intro f
 induction f with
 |zero=>intro F p J G H L k e W hl;rw[lev]at hl;cases hl
 |succ f ih=>
  intro F p J G H L k e W hl bU aM hH hW
  rw[aJ7,jR]at hl
  have D:Hid (Below B.heap.size B T):=ca
  obtain⟨i0,hi,cW,cX,cY⟩:=jao aIJ
  obtain⟨ay,bL⟩:=bU p (by rw[aG4];simp)
  have bi:k<=1000:=by omega
  obtain⟨ta,tc,bV⟩:=aN.look k bi
  have bw:=aN.sum k
  have cU:=aN.len k
  have a8:Hid (aUK g (f+1) p k e=({p with body:=(aGb (g k) p.body).1,kids:=(aUF (aUK g f) p.kids (k+1) (aVf e (aGb (g k) p.body).2)).1},(aUF (aUK g f) p.kids (k+1) (aVf e (aGb (g k) p.body).2)).2)):=aUO g f p k e
  have aF:Hid (aGb (g k) p.body=if g k=[]then(p.body,0)else aOd aQJ p.body (tls (g k))):=by unfold Hid aGb;rw[aOf]
  have av:Hid ((aGb (g k) p.body).1.length<=4000):=aGd _ _ bL
  have b1:Hid (∀j,j<=p.kids.length->(aUF (aUK g f) (p.kids.take j) (k+1) (aVf e (aGb (g k) p.body).2)).2.1+((p.kids.drop j).flatMap (aG3 f)).length<=1000):=λj hj=>by
   rw[aUH g f (aUM g f) _ _ _ (λx hx=>hl x (List.mem_of_mem_take hx))]
   have e1:(p.kids.flatMap (aG3 f)).length=((p.kids.take j).flatMap (aG3 f)).length+((p.kids.drop j).flatMap (aG3 f)).length:=by
    conv=>lhs;rw[<-jaq j p.kids,jbz,je]
   rw[aG4,jm]at aM
   omega
  have IH:Hid (∀(F:Nat) (x:PT) (J:jO) (G:Nat) (H:jO) (L k e:Nat) (W:World),x∈p.kids->k+(aG3 f x).length<=1000->aA3 B F x J G H L->aBG T TB d a R k e W->Calls prog 67 #[.agg (jP x.ty x.cs x.id x.loc x.how J x.body.length G H x.kids.length L),.pointer (some (jx TB 0)),.pointer (some (jx d 0)),.pointer (some (jx a 0)),.pointer (some (jx R 0))] W λen w'=>aBC B.heap.size d a f (aUK g f x k e) W en w'):=λF x J G H L k e W hx h2 h3 h4=>ih F x J G H L k e W (hl x hx) (λy hy=>bU y (by rw[aG4];exact jbe _ (jct.2 ⟨x,hx,hy⟩))) h2 h3 h4
  have cG:Hid (p.kids≠[]->∃F' b o,H=some (jx b o)/\∀i,i<p.kids.length->PAt B F' b (o+i*7) (p.kids.getD i pt0)):=λar=>by
   have hk:KAt B F H p.kids:=hH.2.2.2.2
   cases F with
   |zero=>exact absurd hk ar
   |succ F'=>
    obtain⟨b,o,e1,e2⟩:=hk.each ar
    exact⟨F',b,o,e1,λi hi=>e2 i hi⟩
  have cJ:Hid (aA5 p):=hH.1
  have bz:Hid (aAe B J p.body):=hH.2.2.1
  have bX:Hid (p.body.length<=G/\G<=maxLen/\(J=none->G=0)):=hH.2.1
  obtain⟨U,an⟩:∃V,V=(W.alloc (.cells (jP p.ty p.cs p.id p.loc p.how J p.body.length G H p.kids.length L) 25)).alloc (.cells z7 25):=⟨_,rfl⟩
  have bK:Below W.heap.size W U:=by rw[an];exact(ja _ _).alloc (by simp) _
  have bj:U.heap[W.heap.size]?=some (.cells (jP p.ty p.cs p.id p.loc p.how J p.body.length G H p.kids.length L) 25):=by rw[an];exact aDj (aDi W _) (ja _ _)
  have bk:U.heap[W.heap.size+1]?=some (.cells z7 25):=by
   rw[an]
   have:=aDi (W.alloc (.cells (jP p.ty p.cs p.id p.loc p.how J p.body.length G H p.kids.length L) 25)) (.cells z7 25)
   simpa using this
  have cE:U.heap.size=W.heap.size+2:=by rw[an];simp
  have bl:aBG T TB d a R k e U:=hW.below bK
  have cj:Mov d a k e W U:=Mov.of bK hW.nb hW.eb
  have bI:d<W.heap.size:=(jl.1 hW.nb).1
  have bE:a<W.heap.size:=(jl.1 hW.eb).1
  have bF:R<W.heap.size:=(jl.1 hW.fb).1
  have hG:B.heap.size<=W.heap.size:=j1 D.out.size hW.bel.size
  have a9:Hid (∀V,Below T.heap.size T V->V.cell? (jx TB 0)=some (.map (some mb))/\(Instr.lookup 106 (.map (some mb)) (.int .i64 (k:Int)) false).run prog V=.ok (.slice ta (g k).length tc) V/\aBA V ta (g k)):=λV hV=>⟨aN.cell V hV,bV V hV⟩
  have aX:Hid (∀V,Below T.heap.size T V->Calls prog 68 #[.slice J p.body.length G,.slice ta (g k).length tc] V λen w'=>aBa V (aOd aQJ p.body (tls (g k))) en w'):=λV hV=>aPx T hE J p.body.length G p.body rfl bL ta (g k).length tc (g k) rfl (by unfold maxLen;omega) bw V hV (bz.out.under (D.out.trans (hV.mono D.out.size))) (λe=>⟨by have:=hH.2.1.2.2 e;have:=hH.2.1.1;omega,hH.2.1.2.2 e⟩) (bV V hV).2
  obtain⟨n,hn⟩:∃n,p.kids.length=n:=⟨_,rfl⟩
  obtain⟨nb,aS⟩:∃n,p.body.length=n:=⟨_,rfl⟩
  obtain⟨m,hm⟩:∃n,(g k).length=n:=⟨_,rfl⟩
  have HN:Hid (p.kids.length=n):=hn
  have b3:Hid (p.body.length=nb):=aS
  have HM:Hid ((g k).length=m):=hm
  obtain⟨A,hA⟩:∃A,W.heap.size=A:=⟨_,rfl⟩
  obtain⟨r,hr⟩:∃r,A+1=r:=⟨_,rfl⟩
  have HA:Hid (W.heap.size=A):=hA
  have HR:Hid (A+1=r):=hr
  rw[hA]at bj bk cE bI bE bF hG
  rw[hr]at bk
  have bt:U.heap.size=r+1:=by omega
  rw[hn,aS]at bj an
  rw[aS,hm]at aX
  rw[hm]at a9 cU
  rw[hn]at ay
  rw[hn,aS]
  have b7:Hid (U=(W.alloc (.cells (jP p.ty p.cs p.id p.loc p.how J nb G H n L) 25)).alloc (.cells z7 25)):=an
  have cK:Hid (U.heap.size=r+1):=bt
  have az:Hid (U.heap[A]?=some (.cells (jP p.ty p.cs p.id p.loc p.how J nb G H n L) 25)/\U.heap[r]?=some (.cells z7 25)):=⟨bj,bk⟩
  have aJ:Hid (aBG T TB d a R k e U):=bl
  have ae:Hid (aBG T TB d a R k e W):=hW
  have aj:Hid (Mov d a k e W U):=cj
  have C:Hid (d<A/\a<A/\R<A/\B.heap.size<=A):=⟨bI,bE,bF,hG⟩
  have HG:Hid (T.heap.size<=d/\T.heap.size<=a/\d≠a/\R≠d/\R≠a):=⟨cm,cf,ar,cy,cx⟩
  obtain⟨BO,O⟩:∃b,(aGb (g k) p.body).1=b:=⟨_,rfl⟩
  obtain⟨E1,bg⟩:∃b,aVf e (aGb (g k) p.body).2=b:=⟨_,rfl⟩
  have M:Hid ((aGb (g k) p.body).1=BO):=O
  have E:Hid (aVf e (aGb (g k) p.body).2=E1):=bg
  rw[O,bg]at a8
  rw[O]at av
  rw[bg]at b1
  clear ca O bg hn aS hm hA hr cE bt bj bk an bl cj bI bE bF hG bK ih hl bU aM hH hW bV bw bL hE aN cm cf ar cy cx
  go_enter func67,ntmps67
  go_upto_region 1 with fail
  rw[<-b7.out]
  rw[HA.out,HR.out]
  clear b7
  obtain⟨t0,tl,-⟩:=a9.out U aJ.out.bel
  have n0:U.cell? (jx d 0)=some (.int .i64 (k:Int)):=(aDe aJ.out.nb 0).trans rfl
  go_upto_if 18 with fail
  clear t0 tl n0
  go_cut[10] (λu w'=>u=undef/\∃(bq:jO) (bn X:Nat),Hid (aAk B W d a A r k E1 p BO H n L bq bn X w'))
  case first=>
   obtain⟨bs,bo,cA,br⟩:=C.out
   obtain⟨cM,cg,cn,-,-⟩:=HG.out
   have ad:Hid (d<A/\a<A/\B.heap.size<=A):=⟨bs,bo,br⟩
   have aZ:Hid (B.heap.size<=a/\d≠a):=⟨j1 D.out.size cg,cn⟩
   clear bs bo cA br cM cg cn C HG
   by_cases h0:m=0
   ·have aV:g k=[]:=js.1 (by rw[HM.out];exact h0)
    have aD:aGb (g k) p.body=(p.body,0):=by rw[aF.out,jo aV]
    have bM:p.body=BO:=by rw[<-M.out,aD]
    have ct:e=E1:=by
     rw[<-E.out,aD]
     unfold aVf
     split
     ·rename_i h;exact h
     ·rfl
    have S:Hid (aAk B W d a A r k E1 p BO H n L J nb G U):=by
     refine⟨by rw[<-ct];exact aj.out,az.out.1,az.out.2,by rw[<-bM];exact b3.out.symm,by rw[<-b3.out];exact bX.out,?_⟩
     rw[<-bM]
     exact aAL.old bz.out (D.out.trans (aJ.out.bel.mono D.out.size)) _ _
    subst h0
    clear aV aD bM ct aF M E
    go_wp2_with fail
    go_meet
    exact⟨rfl,J,nb,G,S⟩
   ·have de:(0:Int)<(m:Int):=by omega
    have aV:g k≠[]:=λh=>h0 (by rw[<-HM.out,h];rfl)
    have aD:aGb (g k) p.body=aOd aQJ p.body (tls (g k)):=by rw[aF.out,jh aV]
    rw[aD]at M E
    have aA:Hid ((aOd aQJ p.body (tls (g k))).2≠0->(aOd aQJ p.body (tls (g k))).1=[]):=aOe _ _ _
    have a5:U.cell? (jx A 5)=some (.slice J nb G):=(aDe az.out.1 5).trans rfl
    have bW:Hid (Calls prog 68 #[.slice J nb G,.slice ta m tc] U λen w'=>aBa U (aOd aQJ p.body (tls (g k))) en w'):=aX.out U aJ.out.bel
    generalize aOd aQJ p.body (tls (g k))=RP at*
    obtain⟨RB,RE⟩:=RP
    simp only at M E aA
    clear aV aD h0 aF aX a9
    go_wp2_with fail
    refine bW.out.mono ?_
    intro en w2 h2
    obtain⟨ao,h2⟩:=h2
    have ai:=aDj az.out.1 ao
    have aW:=aDj az.out.2 ao
    have N:Hid (Mov d a k e W w2):=aj.out.then ao
    have I:Hid (w2.heap[A]?=some (.cells (jP p.ty p.cs p.id p.loc p.how J nb G H n L) 25)/\w2.heap[r]?=some (.cells z7 25)):=⟨ai,aW⟩
    have e0:w2.cell? (jx a 0)=some (.int .i64 (e:Int)):=(aDe N.out.eb 0).trans rfl
    have ef:w2.frozen? (jx a 0)=false:=aDg N.out.eb 0
    have a5:w2.cell? (jx A 5)=some (.slice J nb G):=(aDe ai 5).trans rfl
    have af:w2.frozen? (jx A 5)=false:=aDg ai 5
    have cc:¬A=a:=by have:=ad.out;omega
    have b5:∀v,(w2.setCell (jx a 0) v).cell? (jx A 5)=some (.slice J nb G):=λv=>by rw[jae _ _ _ _ (λe=>cc (jab Addr.block e).symm)];exact a5
    have bf:∀v,(w2.setCell (jx a 0) v).frozen? (jx A 5)=false:=λv=>aDg (show(w2.setCell (jx a 0) v).heap[A]?=_ from(jp _ _ _ _ cc).trans ai) 5
    rcases h2 with⟨aO,rfl⟩|⟨bS,v,rfl,ah⟩
    ·have ap:RE≠0:=aO
     have bJ:RB=[]:=aA.out ap
     have O:BO=[]:=by rw[<-M.out];exact bJ
     have HL:Hid (aAL B.heap.size (r+1) w2.heap.size w2 none BO):=by unfold Hid;rw[O];exact aAL.nil _ _ _ _ _
     by_cases he:e=0
     ·have S:Hid (aAk B W d a A r k E1 p BO H n L none 0 0 ((w2.setCell (jx a 0) (.int .i64 (RE:Int))).setCell (jx A 5) (.slice none 0 0))):=by
       rw[<-E.out,he,aVh]
       exact aAk.ofE RE N.out I.out.1 I.out.2 HA.out HR.out ad.out aZ.out.1 aZ.out.2 (by rw[O];rfl) ⟨jf _,by decide,λ_=>rfl⟩ HL.out
      subst he
      clear N I HL O bJ aO ap ai aW ao aA M E ae aj
      go_wp2_with fail
      go_meet
      exact⟨rfl,none,0,0,S⟩
     ·have cO:((e:Int)==0)=false:=by rw[jg];omega
      have cv:¬(e:Int)=0:=by omega
      have S:Hid (aAk B W d a A r k E1 p BO H n L none 0 0 (w2.setCell (jx A 5) (.slice none 0 0))):=by
       rw[<-E.out,aVg he]
       exact aAk.of N.out I.out.1 I.out.2 HA.out HR.out ad.out (by rw[O];rfl) ⟨jf _,by decide,λ_=>rfl⟩ HL.out
      clear N I HL O bJ aO ap ai aW ao aA M E ae aj he
      go_wp2_with fail
      go_meet
      exact⟨rfl,none,0,0,S⟩
    ·have cN:RE=0:=bS
     subst cN
     simp only at ah
     obtain⟨bq,X,rfl,bN,bO,bP,-⟩:=aLL ah
     obtain rfl:RB=BO:=M.out
     have HL:Hid (aAL B.heap.size (r+1) w2.heap.size w2 bq RB):=aAL.new ah rfl (by rw[cK.out];exact jf _)
     have aY:Hid (RB.length<=X/\X<=maxLen/\(bq=none->X=0)):=⟨bN,bO,λe=>(bP e).2⟩
     obtain⟨bn,ag⟩:∃n,RB.length=n:=⟨_,rfl⟩
     by_cases he:e=0
     ·have S:Hid (aAk B W d a A r k E1 p RB H n L bq bn X ((w2.setCell (jx a 0) (.int .i64 0)).setCell (jx A 5) (.slice bq bn X))):=by
       rw[<-E.out,he,aVh]
       exact aAk.ofE 0 N.out I.out.1 I.out.2 HA.out HR.out ad.out aZ.out.1 aZ.out.2 ag.symm (by rw[<-ag];exact aY.out) HL.out
      rw[ag]
      subst he
      clear N I HL bS ai aW ao aA M E ae aj ah bN bO bP aY ag av a8
      go_wp2_with fail
      go_meet
      exact⟨rfl,bq,bn,X,S⟩
     ·have cO:((e:Int)==0)=false:=by rw[jg];omega
      have cv:¬(e:Int)=0:=by omega
      have S:Hid (aAk B W d a A r k E1 p RB H n L bq bn X (w2.setCell (jx A 5) (.slice bq bn X))):=by
       rw[<-E.out,aVg he]
       exact aAk.of N.out I.out.1 I.out.2 HA.out HR.out ad.out ag.symm (by rw[<-ag];exact aY.out) HL.out
      rw[ag]
      clear N I HL bS ai aW ao aA M E ae aj ah bN bO bP aY ag av a8 he
      go_wp2_with fail
      go_meet
      exact⟨rfl,bq,bn,X,S⟩
  case rest=>
  obtain⟨hu,bq,bn,X,S⟩:=hcut
  rw[hu]
  clear hu aF M E az aj aJ aX a9 HM bz bX
  have n0:wc.cell? (jx d 0)=some (.int .i64 (k:Int)):=(aDe S.out.mov.nb 0).trans rfl
  have nf:wc.frozen? (jx d 0)=false:=aDg S.out.mov.nb 0
  have cV:IntKind.i64.wrap ((k:Int)+1)=((k+1:Nat):Int):=by rw[ju];omega
  obtain⟨t,aC⟩:∃V,V=wc.setCell (jx d 0) (.int .i64 ((k+1:Nat):Int)):=⟨_,rfl⟩
  have cl:A≠d:=by have:=C.out;omega
  have cp:r≠d:=by have:=C.out;have:=HR.out;omega
  have cF:t.heap.size=wc.heap.size:=by rw[aC];simp[World.setCell]
  have cD:r+1<=t.heap.size:=by
   have:=(jl.1 S.out.kr).1
   omega
  have aH:Hid (Mov d a (k+1) E1 W t):=by rw[aC];exact S.out.mov.setN (k+1) HG.out.2.2.1
  have a0:Hid (t.heap[A]?=some (.cells (jP p.ty p.cs p.id p.loc p.how bq bn X H n L) 25)/\t.heap[r]?=some (.cells z7 25)):=by
   rw[aC]
   exact⟨(jp _ _ _ _ cl).trans S.out.kA,(jp _ _ _ _ cp).trans S.out.kr⟩
  have bY:Hid (aAL B.heap.size (r+1) t.heap.size t bq BO):=by
   rw[cF,aC]
   exact S.out.body.move λb Y=>jp _ _ _ _ (show b≠d by have:=C.out;have:=HG.out;have:=D.out.size;have:=HR.out;omega)
  have bx:Hid (bn=BO.length/\(bn<=X/\X<=maxLen/\(bq=none->X=0))):=⟨S.out.bl,S.out.bb⟩
  have aK:Hid (aBG T TB d a R (k+1) E1 t):=ae.out.mov aH.out HG.out.1 HG.out.2.1 HG.out.2.2.2.1 HG.out.2.2.2.2
  have aB:Hid (r+1<=t.heap.size):=cD
  have b6:Hid (t=wc.setCell (jx d 0) (.int .i64 ((k:Int)+1))):=aC
  clear aC cl cp cF cD S
  go_upto_region 9 with fail
  rw[<-b6.out]
  clear b6 n0 nf cV
  have a6:t.cell? (jx A 6)=some (.slice H n L):=(aDe a0.out.1 6).trans rfl
  go_wp2_with fail
  clear a6
  have bG:B.heap.size<=t.heap.size:=j1 D.out.size aK.out.bel.size
  go_loopw[10,36] (λov iv wr=>∃(j:Nat) (q:jO) (c:Nat) (Z:List PZ) (kk ee:Nat),j<=n/\iv=.int .i64 j/\ov=.slice q j c/\Hid (Z.length=j)/\Hid (aUF (aUK g f) (p.kids.take j) (k+1) E1=(Z.map (·.1),kk,ee))/\Hid (Mov d a kk ee t wr)/\Hid (wr.ownsRow t.heap.size 25 7 (.slice q j c) j (pzv Z))/\Hid (aAN B.heap.size t.heap.size wr f (Value.slice q j c).ownBlock Z)) (λ_ iv _=>n-(intOf iv).toNat)
  case atStart=>exact⟨0,none,0,[],k+1,E1,jy _,rfl,rfl,rfl,rfl,Mov.of (jr _ _) aH.out.nb aH.out.eb,jT _ _ _ _,λz hz=>by cases hz⟩
  case round=>
   obtain⟨j,q,c,Z,kk,ee,hj,rfl,rfl,bd,aL,ab,HO,HL⟩:=hrel
   by_cases cP:j<n
   ·have cQ:(j:Int)<(n:Int):=by omega
    have ac:j<p.kids.length:=by rw[HN.out];exact cP
    obtain⟨F',bp,op,cR,cr⟩:=cG.out (λe=>by rw[e]at ac;simp at ac)
    subst cR
    have ax:aBG T TB d a R kk ee wr:=aK.out.mov ab.out HG.out.1 HG.out.2.1 HG.out.2.2.2.1 HG.out.2.2.2.2
    have b4:=cr j ac
    have aR:p.kids.getD j pt0∈p.kids:=by simp[List.getD_eq_getElem?_getD,List.getElem?_eq_getElem ac]
    have cs:p.kids.drop j=p.kids.getD j pt0::p.kids.drop (j+1):=by
     rw[jE ac,jd,jc ac]
     rfl
    have aP:kk+(aG3 f (p.kids.getD j pt0)).length<=1000:=by
     have h:=b1.out j (by rw[HN.out];exact hj)
     rw[aL.out,cs,jbm,je]at h
     simp only at h
     omega
    have aw:Hid (aUF (aUK g f) (p.kids.take (j+1)) (k+1) E1=(Z.map (·.1)++[(aUK g f (p.kids.getD j pt0) kk ee).1],(aUK g f (p.kids.getD j pt0) kk ee).2)):=by
     unfold Hid
     have e:p.kids.take (j+1)=p.kids.take j++[p.kids.getD j pt0]:=by
      rw[jan,jc ac,jd,jc ac]
      rfl
     rw[e,aUJ,aL.out]
    obtain⟨l,cq⟩:∃l,p.kids.getD j pt0=l:=⟨_,rfl⟩
    rw[cq]at b4 aR aP aw
    obtain⟨a1,a2,a3,a4,ce,ch⟩:=b4
    obtain⟨d0,d1,d2,d3,d4,d5,d6⟩:=ce.below (D.out.trans (ax.bel.mono D.out.size))
    obtain⟨Wk,bh⟩:∃V,V=wr.alloc (.cells (jP l.ty l.cs l.id l.loc l.how a1 l.body.length a2 a3 l.kids.length a4) 25):=⟨_,rfl⟩
    have aq:Below wr.heap.size wr Wk:=by rw[bh];exact ja _ _
    have bi:Wk.heap[wr.heap.size]?=some (.cells (jP l.ty l.cs l.id l.loc l.how a1 l.body.length a2 a3 l.kids.length a4) 25):=by rw[bh];exact aDi wr _
    have be:Hid (Calls prog 67 #[.agg (jP l.ty l.cs l.id l.loc l.how a1 l.body.length a2 a3 l.kids.length a4),.pointer (some (jx TB 0)),.pointer (some (jx d 0)),.pointer (some (jx a 0)),.pointer (some (jx R 0))] Wk λen w'=>aBC B.heap.size d a f (aUK g f l kk ee) Wk en w'):=IH.out F' l a1 a2 a3 a4 kk ee Wk aR aP ch (ax.below aq)
    have bA:Hid (Mov d a kk ee t Wk):=ab.out.then aq
    have a7:Hid (Wk.ownsRow t.heap.size 25 7 (.slice q j c) j (pzv Z)):=aMm HO.out aq
    have b2:Hid (aAN B.heap.size t.heap.size Wk f (Value.slice q j c).ownBlock Z):=HL.out.move aq.size (λb Y _=>aq.block b Y) bG
    have bb:Hid (Wk=wr.alloc (.cells (jP l.ty l.cs l.id l.loc l.how a1 l.body.length a2 a3 l.kids.length a4) 25)):=bh
    have aG:Hid (Wk.heap[wr.heap.size]?=some (.cells (jP l.ty l.cs l.id l.loc l.how a1 l.body.length a2 a3 l.kids.length a4) 25)):=bi
    have b0:Hid (Wk.heap[R]?=some (.cells #[FnR TB d a R] 45)):=(ax.below aq).fb
    clear cr cq ch ce aR bh aq bi HO HL ab ac cs aP ax aL
    generalize aUK g f l kk ee=R1 at*
    obtain⟨P,k1,e1⟩:=R1
    simp only at aw
    obtain⟨m1,cB⟩:∃m,l.body.length=m:=⟨_,rfl⟩
    obtain⟨m2,cC⟩:∃m,l.kids.length=m:=⟨_,rfl⟩
    rw[cB]at d5 bb be aG
    rw[cC]at d6 bb be aG
    clear cB cC
    go_upto_region 12 with fail
    rw[<-bb.out]
    clear bb d0 d1 d2 d3 d4 d5 d6
    obtain⟨B1,cd⟩:∃b,wr.heap.size=b:=⟨_,rfl⟩
    rw[cd]at aG⊢
    clear cd
    obtain⟨z0,z1,z2,z3,z4,z5,z6,zf⟩:=aLK aG.out
    have cw:Wk.cell? (jx R 0)=some (FnR TB d a R):=(aDe b0.out 0).trans rfl
    go_wp2_with fail
    refine be.out.mono ?_
    rintro en w4 ⟨qb,db,qk,dk,rfl,am,ci⟩
    have bT:t.heap.size<=Wk.heap.size:=bA.out.size
    have cS:t.heap.size<=w4.heap.size:=j1 bT am.size
    have ak:Hid (Mov d a k1 e1 t w4):=bA.out.trans am
    have bH:d<t.heap.size:=by have:=C.out;have:=aB.out;have:=HR.out;omega
    have bD:a<t.heap.size:=by have:=C.out;have:=aB.out;have:=HR.out;omega
    have aI:Hid (w4.ownsRow t.heap.size 25 7 (.slice q j c) j (pzv Z)):=aMo a7.out (λb Y=>by have:=a7.out.lt b Y;exact am.block b this.2 (by omega) (by omega))
    have bB:Hid (aAN B.heap.size t.heap.size w4 f (Value.slice q j c).ownBlock (Z++[(P,(qb,db),(qk,dk))])):=by
     have h1:aAN B.heap.size t.heap.size w4 f (Value.slice q j c).ownBlock Z:=b2.out.move am.size (λb Y h=>am.block b Y (by have:=HG.out;have:=D.out.size;omega) (by have:=HG.out;have:=D.out.size;omega)) bG
     intro z hz
     rcases jY.1 hz with h|h
     ·exact h1 z h
     ·obtain rfl:z=(P,(qb,db),(qk,dk)):=by simpa using h
      exact⟨Wk.heap.size,w4.heap.size,bT,am.size,jf _,λb Y=>.inl (a7.out.lt b Y).2,ci⟩
    have bC:Hid (pzv (Z++[(P,(qb,db),(qk,dk))])=pzv Z++[.string P.ty,.string P.cs,.string P.id,.string P.loc,.int .i64 P.how,.slice qb P.body.length db,.slice qk P.kids.length dk]):=aJz Z P qb db qk dk
    have b8:Hid ((Z++[(P,(qb,db),(qk,dk))]).length=j+1):=by unfold Hid;rw[je,bd.out];rfl
    have b9:Hid (aUF (aUK g f) (p.kids.take (j+1)) (k+1) E1=((Z++[(P,(qb,db),(qk,dk))]).map (·.1),k1,e1)):=by unfold Hid;rw[aw.out,jbg];rfl
    generalize Z++[(P,(qb,db),(qk,dk))]=Z2 at*
    obtain⟨l1,bQ⟩:∃m,P.body.length=m:=⟨_,rfl⟩
    obtain⟨l2,bR⟩:∃m,P.kids.length=m:=⟨_,rfl⟩
    simp only
    rw[bQ,bR]
    rw[bQ,bR]at bC
    clear bQ bR z0 z1 z2 z3 z4 z5 z6 zf cw be bA a7 b2 aG b0 am ci aw bd bT
    go_wp2_with (at_builtin;refine wpList_append_lies _ rfl (.tmp 40) (.tmp 44) 23 rfl t.heap.size 25 i0 (.agg (jP jz jz jz jz 0 none 0 0 none 0 0)) 7 120 underlying23 hi cW cX cY rfl (by decide) _ _ _ rfl (aI.out.alloc _) (jx w4.heap.size 0) 1 1 [.string P.ty,.string P.cs,.string P.id,.string P.loc,.int .i64 P.how,.slice qb l1 db,.slice qk l2 dk] rfl rfl ?c1 ?c2 (by decide) ?c3 ?c4 ?c5 (w4.heap.size+1) ?c6 ?_)
    case c1=>exact aDM _ [_,_,_,_,_,_,_] _ _ (by simp)
    case c2=>intro u hu;simp at hu;rcases hu with rfl|rfl|rfl|rfl|rfl|rfl|rfl<;>rfl
    case c3=>unfold maxLen;omega
    case c4=>omega
    case c5=>simp;omega
    case c6=>simp
    intro g9 c9 w9 aT aE aQ cz
    have cT:w4.heap.size+1<=w9.heap.size:=by have:=aE.size;simp at this;omega
    have aa:∀b,b<w4.heap.size->(Value.slice q j c).ownBlock≠some b->w9.heap[b]?=w4.heap[b]?:=λb Y ar=>by
     rw[aE.block b (by simp;omega) (λe=>ar e.symm),j9 _ _ _ Y]
    have cI:Hid (Mov d a k1 e1 t w9):=by
     have aU:∀b,(Value.slice q j c).ownBlock=some b->t.heap.size<=b:=λb Y=>(aI.out.lt b Y).1
     refine⟨aE.os.trans ak.out.os,aE.tape.trans ak.out.tape,aE.output.trans ak.out.output,by omega,λb Y hn he=>?_,?_,?_⟩
     ·exact(aa b (by omega) (λe=>by have:=aU b e;omega)).trans (ak.out.block b Y hn he)
     ·exact(aa d (by omega) (λe=>by have:=aU d e;omega)).trans ak.out.nb
     ·exact(aa a (by omega) (λe=>by have:=aU a e;omega)).trans ak.out.eb
    have cH:Hid (aAN B.heap.size t.heap.size w9 f (Value.slice (some (jx g9 0)) (j+1) c9).ownBlock Z2):=by
     have h1:aAN B.heap.size t.heap.size w9 f (Value.slice q j c).ownBlock Z2:=bB.out.move (by omega) (λb Y h=>aa b Y (λe=>by rcases h with h|h;have:=(aI.out.lt b e).1;omega;exact h.2 e)) bG
     intro z hz
     obtain⟨s,sz,h2,h3,h4,h5,h6⟩:=bB.out z hz
     obtain⟨s',df,c7,c8,da,dc,dd⟩:=h1 z hz
     refine⟨s,sz,h2,h3,by omega,λb Y=>?_,h6.move λb Y=>aa b (by omega) (λe=>by have:=(aI.out.lt b e).1;have:=h5 b e;omega)⟩
     have e':g9=b:=by simpa [Value.ownBlock] using Y
     rcases aQ with h|h
     ·exact h5 b (by rw[h,e'])
     ·omega
    have R9:Hid (w9.ownsRow t.heap.size 25 7 (.slice (some (jx g9 0)) (j+1) c9) (j+1) (pzv Z2)):=by unfold Hid;rw[bC.out];exact aT
    clear aT aE aQ cz aI bB ak bC cS cT aa bH bD
    go_wp2_with fail
    go_roundw
    case rel=>exact⟨j+1,some (jx g9 0),c9,Z2,k1,e1,by omega,by go_num,rfl,b8,b9,cI,R9,cH⟩
    case measure=>simp[intOf];omega
   ·have cQ:¬((j:Int)<(n:Int)):=by omega
    obtain rfl:j=n:=by omega
    have bm:p.kids.take j=p.kids:=jK (by rw[HN.out];exact jf _)
    have bH:d<t.heap.size:=by have:=C.out;have:=aB.out;have:=HR.out;omega
    have bD:a<t.heap.size:=by have:=C.out;have:=aB.out;have:=HR.out;omega
    have al:A<t.heap.size/\A≠d/\A≠a/\r<t.heap.size/\r≠d/\r≠a:=by have:=C.out;have:=aB.out;have:=HR.out;omega
    have kA:wr.heap[A]?=some (.cells (jP p.ty p.cs p.id p.loc p.how bq bn X H j L) 25):=(ab.out.block A al.1 al.2.1 al.2.2.1).trans a0.out.1
    have kR:wr.heap[r]?=some (.cells z7 25):=(ab.out.block r al.2.2.2.1 al.2.2.2.2.1 al.2.2.2.2.2).trans a0.out.2
    obtain⟨z0,z1,z2,z3,z4,z5,z6,zf⟩:=aLK kA
    obtain⟨r0,r1,r2,r3,r4,r5,r6,rf⟩:=aLK kR
    have cZ:¬r=A:=by have:=HR.out;omega
    have cL:¬A=r:=by have:=HR.out;omega
    have bZ:Hid (aBC B.heap.size d a (f+1) (aUK g (f+1) p k e) W (.returned (.agg (jP p.ty p.cs p.id p.loc p.how bq bn X q j c))) (put8 wr A r (.slice q j c) (.string p.ty) (.string p.cs) (.string p.id) (.string p.loc) (.int .i64 p.how) (.slice bq bn X) (.slice q j c))):=by
     refine aUQ (BO:=BO) (Z:=Z) (S1:=t.heap.size) (kk:=kk) (ee:=ee) ?_ HA.out HR.out aB.out C.out.2.2.2 ⟨C.out.1,C.out.2.1⟩ bd.out ay cJ.out av.out bx.out.1 bx.out.2 (aH.out.trans ab.out) HO.out HL.out (bY.out.move λb Y=>ab.out.block b (by omega) (by have:=C.out;have:=HG.out;have:=D.out.size;have:=HR.out;omega) (by have:=C.out;have:=HG.out;have:=D.out.size;have:=HR.out;omega)) ab.out.size
     have h:=aL.out
     rw[bm]at h
     rw[a8.out,h]
    clear kA kR bm bH bD al bd aL ab HO HL a0 bY bx aK aH
    go_wp2_with fail
    refine jt (v:=.agg (jP p.ty p.cs p.id p.loc p.how bq bn X q j c)) ?_ rfl bZ.out
    rw[aO5 rfl]
    go_simp
theorem aPb(p:UInt8->Bool)(g:Nat)(s:jA)(w:World)(A:s.size<=1000000000)(m:∀c:UInt8,w.cell? ⟨g,c.toNat,none⟩=some (.bool (p c))):
  Calls prog 124 #[.string s,.pointer (some ⟨g,0,none⟩)] w λe w'=>e=.returned (.string ⟨(aFt p s.data.toList).toArray⟩)/\w'=w:=by
 have o:Hid (∀c:UInt8,w.cell? ⟨g,c.toNat,none⟩=some (.bool (p c))):=m
 clear m
 go_enter func124,ntmps124
 go_wp2
 go_loopw[0] (λv wr=>∃t:jA,v=.string t/\t.size<=s.size/\wr=w/\Hid (aFt p t.data.toList=aFt p s.data.toList)) (λv _=>aRf v)
 case atStart=>exact⟨s,rfl,jf _,rfl,rfl⟩
 case round=>
  obtain⟨t,rfl,r,rfl,k⟩:=hrel
  rcases jbo t.size with l|l
  ·go_wp2
   go_ret
   have e:t.data.toList=[]:=js.1 (by rw[<-Lib.size_eq];exact l)
   exact⟨jab Ending.returned (aRk (by rw[<-k.out,e];rfl)),rfl⟩
  ·obtain⟨n,q⟩:∃n,t.size=n+1:=⟨t.size-1,by omega⟩
   obtain⟨c,t8,x,y,z,i⟩:=aCz t n q
   have a:=o.out c
   cases f:p c
   ·have j:Hid (aFt p t.data.toList=t.data.toList):=by unfold Hid;rw[i];exact aFv p _ _ f
    rw[f]at a
    clear i f
    go_wp2_with (go_at_call 161;refine(aIx g c _ rfl false _ a).mono ?_;rintro e w' ⟨rfl,d⟩;have b:=d.symm;subst b)
    go_ret
    exact⟨jab Ending.returned (aRk (by rw[<-k.out,j.out])),rfl⟩
   ·have j:Hid (aFt p t8.data.toList=aFt p t.data.toList):=by unfold Hid;rw[i];exact(aFw p _ _ f).symm
    rw[f]at a
    clear i f
    go_wp2_with (go_at_call 161;refine(aIx g c _ rfl true _ a).mono ?_;rintro e w' ⟨rfl,d⟩;have b:=d.symm;subst b)
    go_roundw
    case rel=>exact⟨t8,rfl,by omega,trivial,j.out.trans k.out⟩
    case measure=>simp[aRf];omega
theorem aJV(p:UInt8->Bool)(g:Nat)(s:jA)(w:World)(m:∀c:UInt8,w.cell? ⟨g,c.toNat,none⟩=some (.bool (p c))):
  Calls prog 123 #[.string s,.pointer (some ⟨g,0,none⟩)] w λe w'=>e=.returned (.string ⟨(s.data.toList.dropWhile p).toArray⟩)/\w'=w:=by
 have o:Hid (∀c:UInt8,w.cell? ⟨g,c.toNat,none⟩=some (.bool (p c))):=m
 clear m
 go_enter func123,ntmps123
 go_wp2
 go_loopw[0] (λv wr=>∃t:jA,v=.string t/\t.size<=s.size/\wr=w/\Hid (t.data.toList.dropWhile p=s.data.toList.dropWhile p)) (λv _=>aRf v)
 case atStart=>exact⟨s,rfl,jf _,rfl,rfl⟩
 case round=>
  obtain⟨t,rfl,r,rfl,k⟩:=hrel
  rcases jbo t.size with l|l
  ·go_wp2
   go_ret
   have e:t.data.toList=[]:=js.1 (by rw[<-Lib.size_eq];exact l)
   exact⟨jab Ending.returned (aRk (by rw[<-k.out,e];rfl)),rfl⟩
  ·obtain⟨n,q⟩:∃n,t.size=n+1:=⟨t.size-1,by omega⟩
   obtain⟨c,t8,x,y,z,i⟩:=aCw t n q
   have a:=o.out c
   cases f:p c
   ·have j:Hid (t.data.toList.dropWhile p=t.data.toList):=by unfold Hid;rw[i,jat,jh (by simp[f])]
    rw[f]at a
    clear i f
    go_wp2_with (go_at_call 161;refine(aIx g c _ rfl false _ a).mono ?_;rintro e w' ⟨rfl,d⟩;have b:=d.symm;subst b)
    go_ret
    exact⟨jab Ending.returned (aRk (by rw[<-k.out,j.out])),rfl⟩
   ·have j:Hid (t8.data.toList.dropWhile p=t.data.toList.dropWhile p):=by unfold Hid;rw[i,jat,jo f]
    rw[f]at a
    clear i f
    go_wp2_with (go_at_call 161;refine(aIx g c _ rfl true _ a).mono ?_;rintro e w' ⟨rfl,d⟩;have b:=d.symm;subst b)
    go_roundw
    case rel=>exact⟨t8,rfl,by omega,trivial,j.out.trans k.out⟩
    case measure=>simp[aRf];omega
theorem aTp(cs:jA)(s:jA)(w:World)(y:s.size<=1000000000)(A:2<=cs.size)(B:cs.size<=1000)(g:∀(j:Nat) (b:UInt8),cs.data.toList[j]?=some b->b.toNat<128):
  Calls prog 70 #[.string s,.string cs] w (jG (.string ⟨(aTn cs.data.toList.contains s.data.toList).toArray⟩) w):=by
 have x:cs.toList.isEmpty=false:=by
  rw[jj]
  cases h:cs.data.toList with
  |nil=>have:=jab List.length h;rw[<-Lib.size_eq]at this;rw[jag]at this;omega
  |cons a b=>rfl
 rcases jbo s.size with q|q
 ·have e:s.data.toList=[]:=js.1 (by rw[<-Lib.size_eq];exact q)
  obtain rfl:s=⟨#[]⟩:=jbv (jbj.1 e)
  clear e q y
  go_enter func70,ntmps70
  go_wp2
  go_ret
  exact⟨rfl,jr _ _⟩
 ·have D:s.toList.isEmpty=false:=by
   rw[jj]
   cases h:s.data.toList with
   |nil=>have:=jab List.length h;rw[<-Lib.size_eq]at this;rw[jag]at this;omega
   |cons a b=>rfl
  have C:((cs.size:Int)==1)=false:=by rw[jg];omega
  have v:=strings_makeASCIISet aVr cs w (by omega) g
  have n:Hid ((Lib.setCells cs.data.toList).size=256):=Lib.setCells_size _
  have o:Hid (∀c:UInt8,(Lib.setCells cs.data.toList)[c.toNat]?=some (.bool (cs.data.toList.contains c))):=λc=>Lib.setCells_at _ c
  have p:Hid ((Lib.setCells cs.data.toList).all (·.oneCell')=true):=Lib.setCells_one _
  generalize Lib.setCells cs.data.toList=d at*
  have k:Hid (Calls prog 122 #[.string cs] w _):=v
  clear v g
  go_enter func70,ntmps70
  go_wp2_with fail
  refine k.out.mono ?_
  rintro e F ⟨rfl,rfl⟩
  clear k
  have l:=n.out
  have t:(storeCells ⟨w.heap.size+1,0,none⟩ d.toList 0).run prog ((w.alloc (.cells d 152)).alloc (.cells zeroCells152 152))=.ok () ((w.alloc (.cells d 152)).alloc (.cells d 152)):=by
   have:=run_storeCells_new (P:=prog) (w.alloc (.cells d 152)) 152 zeroCells152 d (by rw[l];kernel_rfl) (by rw[l];kernel_rfl) p.out
   simpa using this
  have m:Hid (∀c:UInt8,((w.alloc (.cells d 152)).alloc (.cells d 152)).cell? ⟨w.heap.size+1,c.toNat,none⟩=some (.bool (cs.data.toList.contains c))):=λc=>by
   rw[jdn _ _ _ _ (by simp)];exact o.out c
  have r:jb w ((w.alloc (.cells d 152)).alloc (.cells d 152)):=(ja _ _).alloc (by simp) _
  go_wp2_with fail
  clear t
  generalize ((w.alloc (.cells d 152)).alloc (.cells d 152))=z at*
  refine(aPb cs.data.toList.contains (w.heap.size+1) s z y m.out).mono ?_
  rintro e E ⟨rfl,i⟩
  have f:=i.symm
  subst f
  go_wp2_with fail
  refine(aJV cs.data.toList.contains (w.heap.size+1) ⟨(aFt cs.data.toList.contains s.data.toList).toArray⟩ z m.out).mono ?_
  rintro e E ⟨rfl,i⟩
  have f:=i.symm
  subst f
  clear m
  go_wp2
  go_ret
  exact⟨rfl,r⟩
end Go.Proofs.YtbbfcbodhmeanaaGreatDoor

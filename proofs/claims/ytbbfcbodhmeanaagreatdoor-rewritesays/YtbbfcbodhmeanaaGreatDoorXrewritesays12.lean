import Derived.Test.YtbbfcbodhmeanaaGreatDoorXrewritesays11
set_option maxHeartbeats 8000000
set_option maxRecDepth 1000000
namespace Go.Proofs.YtbbfcbodhmeanaaGreatDoor
open Go.Proofs.Tryz
open Go.RowKit
abbrev noB:Nat->Prop:=λ_=>False
def aBE(f:Nat)(p:PT)(w:World)(e:Ending)(w':World):Prop:=
 ∃(pb:jO) (cb:Nat) (pk:jO) (ck:Nat),e=.returned (.agg (jP p.ty p.cs p.id p.loc p.how pb p.body.length cb pk p.kids.length ck))/\jb w w'/\InB (BK noB w.heap.size w'.heap.size pk p.kids) pb/\aA4 (λa l=>RT w' noB f w.heap.size w'.heap.size a ck l) w' p pb cb pk ck
structure aBD(f:Nat)(w:World)(A r B V0 n cc:Nat)(PAC:Array Value)(q2:jO)(body:jB)(qv:jO)(Zo:List PZ)(Y:List PY3)(W:World):Prop where
 bel:Below A w W
 kA:W.heap[A]?=some (.cells PAC 25)
 kR:W.heap[r]?=some (.cells (jP jz jz jz jz 0 none 0 0 none 0 0) 25)
 row:aAe W q2 body
 own:W.ownsRow B 25 7 (.slice qv n cc) n (pzv (Y.map (·.1)++Zo.drop Y.length))
 pw:Y.Pairwise (λx y=>x.2.2<=y.2.1)
 each:∀y∈Y,V0<=y.2.1/\y.2.1<=y.2.2/\y.2.2<=W.heap.size/\InB (BK noB y.2.1 y.2.2 y.1.2.2.1 y.1.1.kids) y.1.2.1.1/\aA4 (λa l=>RT W noB f y.2.1 y.2.2 a y.1.2.2.2 l) W y.1.1 y.1.2.1.1 y.1.2.1.2 y.1.2.2.1 y.1.2.2.2
theorem aIa{w w':World}{f:Nat}{y:PY3}(k:∀b,y.2.1<=b/\b<y.2.2->b<w.heap.size->w'.heap[b]?=w.heap[b]?)(i:InB (BK noB y.2.1 y.2.2 y.1.2.2.1 y.1.1.kids) y.1.2.1.1)(h:aA4 (λa l=>RT w noB f y.2.1 y.2.2 a y.1.2.2.2 l) w y.1.1 y.1.2.1.1 y.1.2.1.2 y.1.2.2.1 y.1.2.2.2):aA4 (λa l=>RT w' noB f y.2.1 y.2.2 a y.1.2.2.2 l) w' y.1.1 y.1.2.1.1 y.1.2.1.2 y.1.2.2.1 y.1.2.2.2:=by
 have d:∀b,(y.2.1<=b/\b<y.2.2)\/noB b->b<w.heap.size->w'.heap[b]?=w.heap[b]?:=λb c j=>k b (by rcases c with c|c;exact c;exact c.elim) j
 obtain⟨m,n,o,p,q⟩:=h
 exact⟨m,n,aAe.move d o (λa g=>(i a g).out),p,RT.move f _ _ _ _ _ d q⟩
theorem aBD.below{f:Nat}{w:World}{A r B g n k:Nat}{d:Array Value}{o:jO}{a:jB}{p:jO}{j:List PZ}{Y:List PY3}{W i:World}(m:aBD f w A r B g n k d o a p j Y W)(x:A<=W.heap.size)(c:jb W i):aBD f w A r B g n k d o a p j Y i:=
 ⟨m.bel.trans (c.mono x),aDj m.kA c,aDj m.kR c,m.row.under c,aMm m.own c,m.pw,λy C=>by
  obtain⟨q,s,t,l,v⟩:=m.each y C
  exact⟨q,s,j1 t c.size,l,aIa (λb _ z=>c.block b z) l v⟩⟩
abbrev aNZ(W:World)(r:Nat)(v0 v1 v2 v3 v4 v5 v6:Value):World:=((((((W.setCell (jx r 0) v0).setCell (jx r 1) v1).setCell (jx r 2) v2).setCell (jx r 3) v3).setCell (jx r 4) v4).setCell (jx r 5) v5).setCell (jx r 6) v6
theorem aN1(W:World)(r:Nat)(c d f g i j k:Value)(b:Nat)(a:b≠r):(aNZ W r c d f g i j k).heap[b]?=W.heap[b]?:=by
 unfold aNZ
 rw[jp _ _ _ _ a,jp _ _ _ _ a,jp _ _ _ _ a,jp _ _ _ _ a,jp _ _ _ _ a,jp _ _ _ _ a,jp _ _ _ _ a]
theorem aN3(W:World)(r:Nat)(a b c d f g i:Value):(aNZ W r a b c d f g i).heap.size=W.heap.size:=by
 unfold aNZ
 simp[World.setCell]
theorem aN0{w W:World}{B r:Nat}(h:Below B w W)(a:B<=r)(b c d f g i j:Value):Below B w (aNZ W r b c d f g i j):=
 j5 (p:=jx r 6) (j5 (p:=jx r 5) (j5 (p:=jx r 4) (j5 (p:=jx r 3) (j5 (p:=jx r 2) (j5 (p:=jx r 1) (j5 (p:=jx r 0) h a _) a _) a _) a _) a _) a _) a _
theorem aN2{W:World}{B e s n r:Nat}{v:Value}{b:List Value}(h:W.ownsRow B e s v n b)(a:r<B)(c d f g i j k:Value):(aNZ W r c d f g i j k).ownsRow B e s v n b:=
 aMp (aMp (aMp (aMp (aMp (aMp (aMp h (jx r 0) _ a) (jx r 1) _ a) (jx r 2) _ a) (jx r 3) _ a) (jx r 4) _ a) (jx r 5) _ a) (jx r 6) _ a
theorem aBD.step{f:Nat}{w:World}{A r B s n E g k lo:Nat}{o:Array Value}{D:jO}{d:jB}{v:List PZ}{Y:List PY3}{W:World}(m:aBD f w A r B s n E o D d (some (jx g 0)) v Y W)(L:A<g)(R:r<g)(hq:∀a,D=some a->a.block<g)(O:g<s)(M:s<=lo)(C:lo<=W.heap.size)(i:Y.length=k)(P:k<v.length)(q:∀y∈Y,y.2.2<=lo)
  (z:PZ)(G:InB (BK noB lo W.heap.size z.2.2.1 z.1.kids) z.2.1.1)(U:aA4 (λa l=>RT W noB f lo W.heap.size a z.2.2.2 l) W z.1 z.2.1.1 z.2.1.2 z.2.2.1 z.2.2.2):
  aBD f w A r B s n E o D d (some (jx g 0)) v (Y++[(z,lo,W.heap.size)]) (W.setCells g (k*7) [.string z.1.ty,.string z.1.cs,.string z.1.id,.string z.1.loc,.int .i64 z.1.how,.slice z.2.1.1 z.1.body.length z.2.1.2,.slice z.2.2.1 z.1.kids.length z.2.2.2]):=by
 have c:∀b,b≠g->(W.setCells g (k*7) [.string z.1.ty,.string z.1.cs,.string z.1.id,.string z.1.loc,.int .i64 z.1.how,.slice z.2.1.1 z.1.body.length z.2.1.2,.slice z.2.2.1 z.1.kids.length z.2.2.2]).heap[b]?=W.heap[b]?:=λb p=>aP2 g _ _ _ b p
 have S:=setCells_size g [.string z.1.ty,.string z.1.cs,.string z.1.id,.string z.1.loc,.int .i64 z.1.how,.slice z.2.1.1 z.1.body.length z.2.1.2,.slice z.2.2.1 z.1.kids.length z.2.2.2] (k*7) W
 refine⟨aP1 (W:=W) (by omega) _ _ _ m.bel,by rw[c A (by omega)];exact m.kA,by rw[c r (by omega)];exact m.kR,aAe.move (Q:=λb=>b<g) (λb p _=>c b (by omega)) m.row (λa N=>hq a N),?_,?_,λy j=>?_⟩
 ·have h:=m.own
  rw[i,jE P]at h
  have t:=aMq z h
  rw[jD,i]at t
  rw[jbg,je,i,jJ]
  exact t
 ·rw[jen]
  refine⟨m.pw,by simp,λx T y j=>?_⟩
  obtain rfl:y=(z,lo,W.heap.size):=by simpa using j
  exact q x T
 ·rw[S]
  rcases jY.1 j with j|j
  ·obtain⟨H,t,I,F,J⟩:=m.each y j
   exact⟨H,t,I,F,aIa (λb p _=>c b (by omega)) F J⟩
  ·obtain rfl:y=(z,lo,W.heap.size):=by simpa using j
   exact⟨M,C,jf _,G,aIa (y:=(z,lo,W.heap.size)) (λb p _=>c b (by have:lo<=b:=p.1;omega)) G U⟩
theorem aVb:∀(f F:Nat) (p:PT) (C:jO) (G:Nat) (i:jO) (B:Nat) (w:World),lev f p=true->(∀x∈aG3 f p,x.kids.length<=1000/\x.body.length<=1000000)->aA3 w F p C G i B->
  Calls prog 62 #[.agg (jP p.ty p.cs p.id p.loc p.how C p.body.length G i p.kids.length B)] w λe w'=>aBE f p w e w':=by
 intro f
 induction f with
 |zero=>intro F p C G i B w hl;rw[lev]at hl;cases hl
 |succ f ih=>
  intro F p C G i B w hl aS hH
  rw[aJ7,jR]at hl
  obtain⟨V,bN⟩:=aS p (by rw[aG4];simp)
  have IH:Hid (∀(F:Nat) (k:PT) (C:jO) (G:Nat) (i:jO) (B:Nat) (w:World),k∈p.kids->aA3 w F k C G i B->Calls prog 62 #[.agg (jP k.ty k.cs k.id k.loc k.how C k.body.length G i k.kids.length B)] w λe w'=>aBE f k w e w'):=λF k C G i B w hk R=>ih F k C G i B w (hl k hk) (λx hx=>aS x (by rw[aG4];exact jbe _ (jct.2 ⟨k,hk,hx⟩))) R
  obtain⟨W1,ab⟩:∃W,W=(w.alloc (.cells (jP p.ty p.cs p.id p.loc p.how C p.body.length G i p.kids.length B) 25)).alloc (.cells (jP jz jz jz jz 0 none 0 0 none 0 0) 25):=⟨_,rfl⟩
  have av:Below w.heap.size w W1:=by rw[ab];exact(ja _ _).alloc (by simp) _
  have ao:W1.heap[w.heap.size]?=some (.cells (jP p.ty p.cs p.id p.loc p.how C p.body.length G i p.kids.length B) 25):=by rw[ab];exact aDj (aDi w _) (ja _ _)
  have ax:W1.heap[w.heap.size+1]?=some (.cells (jP jz jz jz jz 0 none 0 0 none 0 0) 25):=by
   rw[ab]
   have:=aDi (w.alloc (.cells (jP p.ty p.cs p.id p.loc p.how C p.body.length G i p.kids.length B) 25)) (.cells (jP jz jz jz jz 0 none 0 0 none 0 0) 25)
   simpa using this
  have bw:W1.heap.size=w.heap.size+2:=by rw[ab];simp
  have aL:Hid _:=ab
  clear ab
  have a4:Hid (aA5 p):=hH.1
  have aY:Hid (aAe W1 C p.body):=hH.2.2.1.under av
  have bM:∃(F':Nat) (s:List PZ),s.map (·.1)=p.kids/\aAi w i (pzv s)/\∀z∈s,aA3 w F' z.1 z.2.1.1 z.2.1.2 z.2.2.1 z.2.2.2:=by
   have hk:KAt w F i p.kids:=hH.2.2.2.2
   cases F with
   |zero=>
    have e:p.kids=[]:=hk
    exact⟨0,[],by rw[e];rfl,(λh=>absurd rfl h),λz hz=>by cases hz⟩
   |succ F'=>
    obtain⟨Z,U,R,h3⟩:=hk.list
    exact⟨F',Z,U,R,h3⟩
  obtain⟨F',s,aO,bl,bm⟩:=bM
  have a3:Hid (i=none->p.kids.length=0/\B=0):=λe=>by have U:=hH.2.2.2.1.2.2 e;have R:=hH.2.2.2.1.1;exact⟨by omega,U⟩
  have bn:s.length=p.kids.length:=by rw[<-aO,jD]
  obtain⟨n,hn⟩:∃n,p.kids.length=n:=⟨_,rfl⟩
  obtain⟨J,ae⟩:∃n,p.body.length=n:=⟨_,rfl⟩
  obtain⟨A,hA⟩:∃A,w.heap.size=A:=⟨_,rfl⟩
  obtain⟨r,hr⟩:∃r,A+1=r:=⟨_,rfl⟩
  have HN:Hid _:=hn
  have ar:Hid _:=ae.symm
  have HA:Hid _:=hA
  have HR:Hid _:=hr
  rw[hA]at ao ax bw av
  rw[hr]at ax
  have aC:¬r=A:=by omega
  have aJ:Hid (W1.heap.size=r+1):=by unfold Hid;omega
  have bc:Hid _:=aO
  have aN:Hid (n=s.length):=by unfold Hid;rw[bn,hn]
  have bF:Hid (aAi w i (pzv s)):=bl
  have bG:Hid (∀z∈s,aA3 w F' z.1 z.2.1.1 z.2.1.2 z.2.2.1 z.2.2.2):=bm
  have ai:Hid (∀(C:jO) (G:Nat) (i:jO) (B:Nat) (w':World),Below A w w'->InB (BK noB A w'.heap.size i p.kids) C->aA4 (λa l=>RT w' noB (f+1) A w'.heap.size a B l) w' p C G i B->aBE (f+1) p w (.returned (.agg (jP p.ty p.cs p.id p.loc p.how C J G i n B))) w'):=by
   subst hn ae hA
   exact λC G i B w' U R h3=>⟨C,G,i,B,rfl,U,R,h3⟩
  rw[hn,ae]at ao aL
  rw[hn,ae]
  rw[hn]at a3 V
  rw[ae]at bN
  clear hn ae ih hl aS hH aO bn bl bm
  have CB:Hid (Calls prog 74 #[.slice C J G] W1 λe w'=>∃q c,e=.returned (.slice q J c)/\w'.ownsRow W1.heap.size 5 1 (.slice q J c) J (bv p.body)/\Below W1.heap.size W1 w'):=aCL C p.body J G ar.out W1 aY.out (by omega)
  go_enter func62,ntmps62
  go_upto_region 1 with fail
  rw[<-aL.out]
  clear aL bw hA hr aY
  obtain⟨z0,z1,z2,z3,z4,z5,z6,zf⟩:=aLK ao
  have ay:Hid _:=ao
  have az:Hid _:=ax
  have aW:Hid _:=av
  clear ao ax av
  go_wp2_with fail
  refine CB.out.mono ?_
  rintro e w2 ⟨D,c2,rfl,ap,am⟩
  have bI:A<=W1.heap.size:=by have:=aJ.out;have:=HR.out;omega
  have aU:=aDj ay.out am
  have aq:w2.ownsRow W1.heap.size 5 1 (.slice D J c2) p.body.length (bv p.body):=by rw[<-ar.out];exact ap
  obtain⟨bW,bT,e2,bd,be,bf,aH⟩:=aMg aq
  injection e2 with ea eb ec
  subst ea ec
  clear eb
  obtain⟨o,S⟩:∃W,W=w2.setCell (jx A 5) (.slice D J c2):=⟨_,rfl⟩
  have bj:o.heap.size=w2.heap.size:=by rw[S];simp[World.setCell]
  have bs:=aMa ap (jf _)
  have ah:Hid (∀a,D=some a->r<a.block/\a.block<o.heap.size):=λa ha=>by have U:=bs a ha;have R:=aJ.out;omega
  have af:Hid (o.heap[A]?=some (.cells (jP p.ty p.cs p.id p.loc p.how D J c2 i n B) 25)):=by unfold Hid;rw[S];exact(aP5 aU 5 _).trans rfl
  have aA:Hid (o.heap[r]?=some (.cells (jP jz jz jz jz 0 none 0 0 none 0 0) 25)):=by unfold Hid;rw[S,jp _ _ _ _ aC];exact aDj az.out am
  have aX:Hid (Below A w o):=by unfold Hid;rw[S];exact j5 (p:=jx A 5) (aW.out.trans (am.mono bI)) (jf _) _
  have aB:Hid (aAe o D p.body):=aAe.move (Q:=λb=>r<b) (λb hb _=>by rw[S,jp _ _ _ _ (show b≠A by have:=HR.out;omega)]) aH (λa ha=>(ah.out a ha).1)
  have H2:Hid (J<=c2/\c2<=maxLen/\(D=none->c2=0)):=⟨by rw[ar.out];exact bd,be,λe=>(bf e).2⟩
  have a6:Hid _:=S
  have aj:r<o.heap.size:=by have U:=am.size;have R:=aJ.out;omega
  clear z0 z1 z2 z3 z4 z5 z6 zf ap aq aH bs S bj bd be bf ay az aW CB am
  obtain⟨z0,z1,z2,z3,z4,z5,z6,zf⟩:=aLK aU
  clear aU
  go_upto_region 2 with fail
  rw[<-a6.out]
  clear z0 z1 z2 z3 z4 z5 z6 zf a6
  obtain⟨z0,z1,z2,z3,z4,z5,z6,zf⟩:=aLK af.out
  have aD:Below w.heap.size w o:=by rw[HA.out];exact aX.out
  have CP:Hid (Calls prog 115 #[.slice i n B] o λe w'=>∃q c',e=.returned (.slice q n c')/\w'.ownsRow o.heap.size 25 7 (.slice q n c') n (pzv s)/\Below o.heap.size o w'):=aMS i n B s aN.out V o (bF.out.below aD) a3.out
  clear aD
  go_wp2_with fail
  refine CP.out.mono ?_
  rintro e w3 ⟨O,H,rfl,N,ac⟩
  have bJ:A<=o.heap.size:=by have:=HR.out;omega
  have aV:=aDj af.out ac
  obtain⟨P,aa⟩:∃W,W=w3.setCell (jx A 6) (.slice O n H):=⟨_,rfl⟩
  have ak:P.heap.size=w3.heap.size:=by rw[aa];simp[World.setCell]
  have HG:Hid (∀a,O=some a->o.heap.size<=a.block/\a.block<P.heap.size):=λa ha=>by rw[ak];exact aMa N (jf _) a ha
  have aZ:Hid (n<=H/\H<=maxLen/\(O=none->H=0)):=by
   obtain⟨_,_,e,U,R,h3,_⟩:=aMb N
   cases e
   exact⟨U,R,λe=>(h3 e).2⟩
  have HM:Hid (aBD f w A r o.heap.size P.heap.size n H (jP p.ty p.cs p.id p.loc p.how D J c2 O n H) D p.body O s [] P):=by
   have ad:∀b,b≠A->P.heap[b]?=w3.heap[b]?:=λb hb=>by rw[aa];exact jp _ _ _ _ hb
   refine⟨by rw[aa];exact j5 (p:=jx A 6) (aX.out.trans (ac.mono bJ)) (jf _) _,by rw[aa];exact(aP5 aV 6 _).trans rfl,by rw[ad r aC];exact aDj aA.out ac,aAe.move (Q:=λb=>r<b) (λb hb _=>ad b (by have:=HR.out;omega)) (aB.out.under ac) (λa ha=>(ah.out a ha).1),aMo N (λg hg=>ad g (by have:=(N.lt g hg).1;have:=HR.out;omega)),List.Pairwise.nil,λy hy=>by cases hy⟩
  have a7:Hid (o.heap.size<=P.heap.size):=by unfold Hid;rw[ak];exact ac.size
  have a8:Hid _:=aa
  clear N aa ak af aA aB CP ac z0 z1 z2 z3 z4 z5 z6 zf
  obtain⟨z0,z1,z2,z3,z4,z5,z6,zf⟩:=aLK aV
  clear aV
  go_upto_region 3 with fail
  rw[<-a8.out]
  clear z0 z1 z2 z3 z4 z5 z6 zf a8
  have y6:P.cell? (jx A 6)=some (.slice O n H):=(aDe HM.out.kA 6).trans rfl
  have T:Hid _:=aj
  clear aj
  go_wp2_with fail
  clear y6
  go_loopw[16] (λiv wr=>∃(k:Nat) (Y:List PY3),k<=n/\iv=.int .i64 k/\Hid (Y.length=k)/\Hid (Y.map (·.1.1)=p.kids.take k)/\Hid (P.heap.size<=wr.heap.size)/\Hid (aBD f w A r o.heap.size P.heap.size n H (jP p.ty p.cs p.id p.loc p.how D J c2 O n H) D p.body O s Y wr)) (λiv _=>n-(intOf iv).toNat)
  case atStart=>exact⟨0,[],jy _,rfl,rfl,rfl,jf _,HM⟩
  case round=>
   obtain⟨k,Y,hk,rfl,X,aM,aK,d⟩:=hrel
   clear HM
   by_cases aQ:k<n
   ·have bQ:(k:Int)<(n:Int):=by omega
    have an:k<s.length:=by rw[<-aN.out];exact aQ
    obtain⟨g,hg⟩:∃g,O=some (jx g 0):=by
     rcases d.out.own.2 with⟨_,h0⟩|⟨g,cap,bH,e,_⟩
     ·omega
     ·injection e with e1 _ _
      exact⟨g,e1⟩
    subst hg
    obtain⟨aE,aF⟩:o.heap.size<=g/\g<P.heap.size:=HG.out _ rfl
    have L:∀j u,(pzc s[k])[j]?=some u->j<7->wr.cell? ⟨g,k*7+j,none⟩=some u:=λj u hj h7=>by
     rw[d.out.own.cellAt (k*7+j) (by omega)]
     refine aOr _ k s[k] ?_ j u hj
     rw[jS (by rw[jD,X.out];exact jf _),jD,X.out,jbh,jax,jcd,jc an]
    have d0:=L 0 _ rfl (by decide)
    have d1:=L 1 _ rfl (by decide)
    have d2:=L 2 _ rfl (by decide)
    have d3:=L 3 _ rfl (by decide)
    have d4:=L 4 _ rfl (by decide)
    have d5:=L 5 _ rfl (by decide)
    have d6:=L 6 _ rfl (by decide)
    have aT:s[k]∈s:=jQ an
    have bo:Below w.heap.size w wr:=by rw[HA.out];exact d.out.bel
    have bi:=(bG.out _ aT).below bo
    have aG:s[k].1∈p.kids:=by rw[<-bc.out];exact jbi.2 ⟨_,aT,rfl⟩
    have bC:Hid (p.kids.take (k+1)=p.kids.take k++[s[k].1]):=by
     have bq:k<p.kids.length:=by rw[HN.out];exact aQ
     have e:p.kids[k]=s[k].1:=by
      have U:=jab (·[k]?) bc.out
      simp only[jas,jc an,jc bq]at U
      exact(jI U).symm
     unfold Hid
     rw[jan,jc bq,e]
     rfl
    rw[jcd]at d0
    clear L aT bo
    generalize s[k]=z at*
    obtain⟨I,al⟩:∃W,W=wr.alloc (.cells (jP z.1.ty z.1.cs z.1.id z.1.loc z.1.how z.2.1.1 z.1.body.length z.2.1.2 z.2.2.1 z.1.kids.length z.2.2.2) 25):=⟨_,rfl⟩
    have aP:Below wr.heap.size wr I:=by rw[al];exact ja _ _
    have bS:I.heap.size=wr.heap.size+1:=by rw[al];simp
    have bh:A<=wr.heap.size:=jds (jl.1 d.out.kA).1
    have ag:Hid (aBD f w A r o.heap.size P.heap.size n H (jP p.ty p.cs p.id p.loc p.how D J c2 (some (jx g 0)) n H) D p.body (some (jx g 0)) s Y I):=d.out.below bh aP
    have a2:Hid (I.heap[wr.heap.size]?=some (.cells (jP z.1.ty z.1.cs z.1.id z.1.loc z.1.how z.2.1.1 z.1.body.length z.2.1.2 z.2.2.1 z.1.kids.length z.2.2.2) 25)):=by unfold Hid;rw[al];exact aDi _ _
    have a1:Hid (Calls prog 62 #[.agg (jP z.1.ty z.1.cs z.1.id z.1.loc z.1.how z.2.1.1 z.1.body.length z.2.1.2 z.2.2.1 z.1.kids.length z.2.2.2)] I.drew λe w'=>∃yb t yk m,e=.returned (.agg (jP z.1.ty z.1.cs z.1.id z.1.loc z.1.how yb z.1.body.length t yk z.1.kids.length m))/\Below I.heap.size I w'/\(InB (BK noB I.heap.size w'.heap.size yk z.1.kids) yb/\aA4 (λa l=>RT w' noB f I.heap.size w'.heap.size a m l) w' z.1 yb t yk m)):=(IH.out F' z.1 _ _ _ _ I.drew aG ((aA3.below bi aP).below ((jr _ _).drew))).mono λe w' h=>by
     obtain⟨yb,t,yk,m,he,hb,hi,hh⟩:=h
     exact⟨yb,t,yk,m,he,((jr _ I).drew).trans hb,hi,hh⟩
    have bb:Hid _:=al
    have a5:Hid (∀y∈Y,y.2.2<=I.heap.size):=λy hy=>by have:=(d.out.each y hy).2.2.1;omega
    have a9:Hid (P.heap.size<=I.heap.size):=by have:=aK.out;unfold Hid;omega
    have aI:Hid (o.heap.size<=g/\g<P.heap.size):=⟨aE,aF⟩
    have bx:Hid _:=an
    have bA:Hid (∀a,D=some a->a.block<g):=λa ha=>by have:=(ah.out a ha).2;omega
    obtain⟨E,hE⟩:∃E,wr.heap.size=E:=⟨_,rfl⟩
    have bL:E≠g:=by have:=aK.out;omega
    have bK:A≠g:=by have:=T.out;have:=HR.out;omega
    rw[hE]at a2
    clear al aP bS bh bi aG d aE aF an
    go_upto_region 6 with fail
    rw[<-bb.out]
    clear hE d0 d1 d2 d3 d4 d5 d6 bb
    refine aK3 I A E g k n H _ z.1 _ _ _ _ _ _ _ a1.out _ _ ag.out.own aQ ag.out.kA rfl a2.out bK bL _ ?_
    intro bX bY bZ b0 b1 b2 yb t yk m w4 aw aR
    have br:=ag.out.below (by have:=ag.out.bel.size;rw[HA.out]at this;exact this) aw
    have hst:=br.step (k:=k) (lo:=I.heap.size) (by have:=aI.out.1;have:=T.out;have:=HR.out;omega) (by have:=aI.out.1;have:=T.out;omega) bA.out aI.out.2 a9.out aw.size X.out bx.out a5.out (z.1,(yb,t),(yk,m)) aR.1 aR.2
    have bB:Hid (aBD f w A r o.heap.size P.heap.size n H (jP p.ty p.cs p.id p.loc p.how D J c2 (some (jx g 0)) n H) D p.body (some (jx g 0)) s (Y++[((z.1,(yb,t),(yk,m)),I.heap.size,w4.heap.size)]) (w4.setCells g (k*7) [.string z.1.ty,.string z.1.cs,.string z.1.id,.string z.1.loc,.int .i64 z.1.how,.slice yb z.1.body.length t,.slice yk z.1.kids.length m])):=hst
    have bE:Hid ((Y++[((z.1,(yb,t),(yk,m)),I.heap.size,w4.heap.size)]).map (·.1.1)=p.kids.take (k+1)):=by unfold Hid;rw[jbg,aM.out,bC.out];rfl
    have bz:Hid ((Y++[((z.1,(yb,t),(yk,m)),I.heap.size,w4.heap.size)]).length=k+1):=by unfold Hid;rw[je,X.out];rfl
    have bD:Hid (P.heap.size<=(w4.setCells g (k*7) [.string z.1.ty,.string z.1.cs,.string z.1.id,.string z.1.loc,.int .i64 z.1.how,.slice yb z.1.body.length t,.slice yk z.1.kids.length m]).heap.size):=by unfold Hid;rw[setCells_size];have:=a9.out;have:=aw.size;omega
    clear br hst aw aR ag a1
    go_wp2_with fail
    go_roundw
    case rel=>exact⟨k+1,_,by omega,by go_num,bz,bE,bD,bB⟩
    case measure=>simp[intOf];omega
   ·have bQ:¬((k:Int)<(n:Int)):=by omega
    obtain rfl:k=n:=by omega
    have bk:Y.map (·.1.1)=p.kids:=by rw[aM.out,jK (by rw[HN.out];exact jf _)]
    have M:=d.out.own
    rw[X.out,jC (by rw[<-aN.out];exact jf _),j6]at M
    have bg:A<wr.heap.size:=(jl.1 d.out.kA).1
    have bt:r<wr.heap.size:=(jl.1 d.out.kR).1
    have a0:Hid (aBE (f+1) p w (.returned (.agg (jP p.ty p.cs p.id p.loc p.how D J c2 O k H))) (aNZ wr r (.string p.ty) (.string p.cs) (.string p.id) (.string p.loc) (.int .i64 p.how) (.slice D J c2) (.slice O k H))):=by
     have ad:∀b,b≠A->b≠r->(aNZ wr r (.string p.ty) (.string p.cs) (.string p.id) (.string p.loc) (.int .i64 p.how) (.slice D J c2) (.slice O k H)).heap[b]?=wr.heap[b]?:=λb _ R=>aN1 wr r _ _ _ _ _ _ _ b R
     have bV:=HR.out
     have aj:=T.out
     refine ai.out D c2 O H _ (aN0 d.out.bel (by omega) _ _ _ _ _ _ _) (λa ha=>?_) ⟨a4.out,by rw[<-ar.out];exact H2.out,aAe.move (Q:=λb=>r<b) (λb hb _=>ad b (by omega) (by omega)) d.out.row (λa ha=>(ah.out a ha).1),by rw[HN.out];exact aZ.out,λbR=>?_⟩
     ·have U:=ah.out a ha
      rw[aN3]
      have R:=aK.out
      have h3:o.heap.size<=P.heap.size\/O=none:=by
       cases hq:O with
       |none=>exact .inr rfl
       |some b=>exact .inl (by have:=HG.out b hq;omega)
      have h4:=a7.out
      exact .inl ⟨by omega,by omega,λ_ g hg=>by have h5:o.heap.size<=g:=(HG.out _ hg).1;omega⟩
     ·have bU:0<k:=by rw[<-HN.out];exact jbr.2 bR
      obtain⟨g,hg⟩:∃g,O=some (jx g 0):=by
       rcases M.2 with⟨_,h0⟩|⟨g,cap,bH,e,_⟩
       ·omega
       ·injection e with e1 _ _
        exact⟨g,e1⟩
      obtain⟨bp,bO⟩:=HG.out _ hg
      have bP:=(M.lt g (by rw[hg];rfl)).2
      refine⟨g,Y,hg,by simp only at bp;omega,by rw[aN3];exact bP,bk,?_,d.out.pw,λy hy=>?_⟩
      ·rw[HN.out]
       exact aMs (aN2 M (by omega) _ _ _ _ _ _ _) (by omega)
      ·obtain⟨U,R,h3,h4,h5⟩:=d.out.each y hy
       simp only at bp bO
       exact⟨by omega,R,by rw[aN3];exact h3,h4,aIa (λb hb _=>ad b (by omega) (by omega)) h4 h5⟩
    obtain⟨z0,z1,z2,z3,z4,z5,z6,zf⟩:=aLK d.out.kA
    obtain⟨r0,r1,r2,r3,r4,r5,r6,rf⟩:=aLK d.out.kR
    clear M bg bt bk X aM d IH ai
    go_wp2_with fail
    refine jt (v:=.agg (jP p.ty p.cs p.id p.loc p.how D J c2 O k H)) ?_ rfl a0.out
    rw[aO5 rfl]
    go_simp
theorem aDm{w:World}{a:Addr}{l:jB}(h:aAe w (some a) l)(d:Nat):aAe w (some (a.add d)) (l.drop d):=by
 intro c
 obtain⟨b,o,e,f⟩:=h (λe=>by rw[e]at c;simp at c)
 obtain rfl:=jI e
 refine⟨b,o+d,by rw[jaa],λi g=>?_⟩
 rw[jH]at g
 rw[jcf,f (d+i) (by omega)]
 congr 3
 rw[jd,jd,jax]
theorem aGj(x:LK)(a:List LK)(b:List jB)(s:jB):aGe (x::a) ([]::b) s=aGe a b s:=by rw[aGe,jo rfl]
theorem aGp(x:LK)(a:List LK)(t:jB)(b:List jB)(s:jB)(h:t≠[]):aGe (x::a) (t::b) s=s.take (s.length-x.1)++t++aGe a b (s.drop (s.length-x.1+x.2.length)):=by rw[aGe,jh h]
theorem aGh(a:List jB)(s:jB):aGe [] a s=s:=by cases a<;>rfl
theorem aGv(q:Option Addr)(n c:Nat)(b:List UInt8)(en:n=b.length)(hn:n<=4000)(bO:n<=c)(bc:c<=maxLen)(a1:Option Addr)(m c1:Nat)(l:List LK)(em:m=l.length)(bb:c1<=maxLen)(bN:m<=c1)
  (a2:Option Addr)(c2:Nat)(g:List ByteArray)(et:m=g.length)(aY:∀t∈g,t.size<=maxLen)(w:World)(hr:aAe w q b)(hq:q=none->n=0/\c=0)(A:aAH w a1 n l)(hs:aBA w a2 g)(B:Ord n 0 l)(M:∀x∈l,1<=x.1):
  Calls prog 78 #[.slice q n c,.slice a1 m c1,.slice a2 m c2] w λe w'=>aAr w (aGe l (tls g) b) e w':=by
 obtain⟨i0,hi,bk,bm,bn⟩:=jao aIP
 have HR:Hid (∀w',Below w.heap.size w w'->aAe w' q b):=λw' h=>hr.below h
 have HK:Hid (∀w',Below w.heap.size w w'->aAH w' a1 n l):=λw' h=>A.below h
 have HS:Hid (∀w',Below w.heap.size w w'->aBA w' a2 g):=λw' h=>hs.below h
 have HQ:Hid (q=none->n=0/\c=0):=hq
 have HL:Hid (∀x∈l,1<=x.1):=M
 have HT:Hid (∀t∈g,t.size<=maxLen):=aY
 have HE:Hid (m=l.length/\m=g.length/\n=b.length):=⟨em,et,en⟩
 have az:Hid (aAs w n b l (tls g) (m+1) w (.slice none 0 0) 0 0 []):=⟨by omega,jy _,jy _,λh=>by
  cases l with
  |nil=>simp at h
  |cons x l=>have U:=M x (by simp);have h2:=B.1;omega,by simp,B,jr _ _,jT _ _ _ _,rfl⟩
 unfold maxLen at bc bb
 clear hr A hs hq M aY B en em et
 go_enter func78,ntmps78
 go_wp2_with fail
 go_loopg [8,9,14] (m+1) (λgk v dv iv wr=>∃(i d:Nat) (O:List UInt8),iv=.int .i64 i/\dv=.int .i64 d/\Hid (aAs w n b l (tls g) gk wr v i d O))
 case atStart=>exact⟨0,0,[],rfl,rfl,az⟩
 case round=>
  obtain⟨i,d,O,rfl,rfl,C⟩:=hrel
  clear az
  obtain⟨a8,c8,rfl,bD,bE,bF⟩:=aQC C.out.own
  have bi:=C.out.ol
  have bf:=C.out.dn
  have bs:=C.out.few
  have bM:=C.out.il
  have I:=C.out.bel.size
  by_cases aV:i<m
  ·have z:i<l.length:=by rw[<-HE.out.1];exact aV
   have hit:i<g.length:=by rw[<-HE.out.2.1];exact aV
   obtain⟨bl,e1,aR⟩:=HK.out wr C.out.bel (λe=>by rw[e]at z;simp at z)
   obtain⟨bt,ot,e2,aS⟩:=HS.out wr C.out.bel (λe=>by rw[e]at hit;simp at hit)
   subst e1;subst e2
   obtain⟨k0,k1,k2⟩:=aR i z
   have k3:=aS i hit
   have ay:=aFy l i (0,[]) z
   have aX:(tls g).drop i=(g.getD i ⟨#[]⟩).data.toList::(tls g).drop (i+1):=by
    rw[aFy (tls g) i [] (by simp[tls];exact hit)]
    simp[tls,List.getD_eq_getElem?_getD,List.getElem?_eq_getElem hit]
   have a4:(g.getD i ⟨#[]⟩).size<=maxLen:=HT.out _ (by rw[jd,jc hit];exact jQ hit)
   have bS:1<=(l.getD i (0,[])).1:=HL.out _ (by rw[jd,jc z];exact jQ z)
   have B:=C.out.ord
   rw[ay]at B
   obtain⟨o1,o2,o3,o4⟩:=B
   have ar:=C.out.eq
   rw[ay,aX]at ar
   have bw:(i:Int)<(m:Int):=by omega
   have aZ:Hid (∀w',Below w.heap.size w w'->w'.cell? ⟨bt,ot+i,none⟩=some (.string (g.getD i ⟨#[]⟩))):=λw' h=>by
    obtain⟨b5,o5,e5,h5⟩:=HS.out w' h (λe=>by rw[e]at hit;simp at hit)
    obtain⟨rfl,rfl⟩:bt=b5/\ot=o5:=by injection e5 with e5;injection e5 with U h2;exact⟨U,h2⟩
    exact h5 i hit
   clear aR aS ay aX
   generalize l.getD i (0,[])=x at*
   generalize g.getD i ⟨#[]⟩=T at*
   obtain⟨lf,ac⟩:=x
   simp only at*
   unfold maxLen at a4
   have aP:=ji wr _ k0
   have aQ:=ji wr _ k3
   simp only at aP aQ
   have bR:IntKind.i64.wrap ((i:Int)+1)=((i+1:Nat):Int):=by rw[ju];omega
   have S:Hid (Below w.heap.size w wr):=C.out.bel
   have R:Hid (wr.ownsRow w.heap.size 5 1 (.slice a8 O.length c8) O.length (bv O)):=C.out.own
   obtain⟨V2,aM⟩:∃V,V=lba (aTW ac):=⟨_,rfl⟩
   rw[<-aM]at k2
   have r:Hid (aGe l (tls g) b=O++aGe ((lf,ac)::l.drop (i+1)) (T.data.toList::(tls g).drop (i+1)) (b.drop d)):=ar
   obtain⟨F,hF⟩:∃F,F=n-lf:=⟨_,rfl⟩
   obtain⟨E,hE⟩:∃E,E=F+ac.length:=⟨_,rfl⟩
   rw[<-hF]at k0 k1 o2 o4
   rw[<-hE]at k1 o4
   have bI:F<n:=by omega
   have a0:E<=n:=by omega
   have bG:F<=E:=by omega
   have L:Hid (b.length=n):=HE.out.2.2.symm
   have ao:Hid (T.data.toList≠[]->aGe l (tls g) b=(O++(b.drop d).take (F-d)++T.data.toList)++aGe (l.drop (i+1)) ((tls g).drop (i+1)) (b.drop E)):=λh=>by
    have U:(b.drop d).length-lf=F-d:=by rw[jH,L.out];omega
    have h2:d+(F-d+ac.length)=E:=by omega
    rw[r.out,aGp _ _ _ _ _ h]
    simp only[U,jay,h2,jJ]
   have ak:Hid (T.data.toList=[]->aGe l (tls g) b=O++aGe (l.drop (i+1)) ((tls g).drop (i+1)) (b.drop d)):=λh=>by
    rw[r.out,h,aGj]
   have ad:Hid (i+1<l.length->F+ac.length<n):=λh=>by
    have U:=aFy l (i+1) (0,[]) h
    rw[U]at o4
    have h2:=o4.2.1
    have h3:=o4.1
    have h4:1<=(l.getD (i+1) (0,[])).1:=HL.out _ (by rw[jd,jc h];exact jQ h)
    omega
   clear aM ar r
   by_cases aa:T.data.toList=[]
   ·have a6:T.toList.isEmpty=true:=by rw[jj,aa];rfl
    have ap:Hid (aAs w n b l (tls g) (gk-1) (wr.alloc (.cells #[.int .i64 (F:Int),.int .i64 (E:Int),.string V2] 40)) (.slice a8 O.length c8) (i+1) d O):=by
     refine⟨by omega,by omega,bf,λh=>by have:=ad.out h;omega,bi,o4.mono (by omega),S.out.alloc I _,R.out.alloc _,ak.out aa⟩
    clear C aa o4 ao ak ad hF hE
    go_wp2_with fail
    go_roundg (gk-1)
    case measure=>omega
    case rel=>exact⟨i+1,d,O,by go_num,rfl,ap⟩
   ·have a6:T.toList.isEmpty=false:=by
     rw[jj]
     cases hh:T.data.toList with
     |nil=>exact absurd hh aa
     |cons y Y=>rfl
    have aJ:=ao.out aa
    obtain⟨bq,oq,eq,_⟩:=HR.out wr S.out (λe=>by have:=L.out;rw[e]at this;simp at this;omega)
    have aL:=(HR.out wr S.out).part bq oq eq d (F-d)
    subst eq
    have aK:((b.drop d).take (F-d)).length=F-d:=by rw[jF,jH,L.out];omega
    have bK:(d:Int)<=(F:Int):=by omega
    have bH:(F:Int)<=(c:Int):=by omega
    have bp:F<=c:=by omega
    have be:d<c:=by omega
    have G:Hid (aGe l (tls g) b=(O++(b.drop d).take (F-d)++T.data.toList)++aGe (l.drop (i+1)) ((tls g).drop (i+1)) (b.drop E)):=aJ
    have al:Hid (Ord n E (l.drop (i+1))):=o4
    have aj:Hid (i+1<l.length->E<n):=λh=>by have:=ad.out h;omega
    have an:Hid (aAe wr (some ⟨bq,oq+d,none⟩) ((b.drop d).take (F-d))):=aL
    have aD:Hid (((b.drop d).take (F-d)).length=F-d):=aK
    clear C o4 ao ak ad hF hE aJ aL aK
    generalize (b.drop d).take (F-d)=P at*
    have af:Below wr.heap.size wr (wr.alloc (.cells #[.int .i64 (F:Int),.int .i64 (E:Int),.string V2] 40)):=(jr _ _).alloc (jf _) _
    have ah:=aKx wr (.cells #[.int .i64 (F:Int),.int .i64 (E:Int),.string V2] 40)
    go_wp2_with (at_builtin;refine aB4 rfl (.tmp 24) (.tmp 29) rfl w.heap.size _ O rfl (R.out.alloc _) _ _ _ P ?c0 rfl (an.out.below af) ?c1 ?c2 ?c3 ?_)
    case c0=>exact aD.out.symm
    case c1=>intro h;cases h
    case c2=>omega
    case c3=>have:=af.size;omega
    intro v5 w5 f j N av
    have am:Hid (∀k,(Value.slice a8 O.length c8).ownBlock=some k->w.heap.size<=k/\k<wr.heap.size):=R.out.lt
    have ae:Below w.heap.size w w5:=(S.out.alloc I _).grown av (by have:=af.size;omega) (λk A=>(am.out k A).1)
    have ax:w5.heap[wr.heap.size]?=some (.cells #[.int .i64 (F:Int),.int .i64 (E:Int),.string V2] 40):=by
     rw[av.block _ (by simp) (by intro e;have:=(am.out _ e.symm).2;omega)]
     exact ah
    have k5:w5.cell? ⟨bt,ot+i,none⟩=some (.string T):=aZ.out w5 ae
    obtain⟨a5,c5,rfl,bA,bB,bC⟩:=aQC N
    have bx:f.length<=8000:=by rw[j.out,je,aD.out];omega
    rw[<-j.out]at G
    have W:Hid (w5.ownsRow w.heap.size 5 1 (.slice a5 f.length c5) f.length (bv f)):=N
    have aA:Hid (Below w.heap.size w w5):=ae
    have aC:Hid (w5.heap[wr.heap.size]?=_):=ax
    have bj:=ae.size
    have bo:=aKw ax
    clear N av ax af ah k0 k1 k2 k3 am R S ae
    clear j
    have bQ:IntKind.i64.wrap (4000-(f.length:Int))=4000-(f.length:Int):=by rw[ju];omega
    by_cases s:(4000:Int)-(f.length:Int)<(T.size:Int)
    ·have aF:Hid (4000<(aGe l (tls g) b).length):=by
      unfold Hid
      rw[G.out,je,je,<-Lib.size_eq T]
      omega
     clear G W al aj
     go_wp2_with fail
     go_ret2
     exact⟨aA.out,.inl ⟨aF.out,rfl⟩⟩
    ·have bJ:T.size<=4000:=by omega
     have a3:f.length+T.size<=4000:=by omega
     go_wp2_with (at_builtin;refine Lib.wpList_append_own_string _ rfl (.tmp 40) (.tmp 44) 22 9 rfl w.heap.size 5 i0 underlying22 underlying9 hi bk bm bn _ _ _ rfl W.out T rfl ?d1 ?d2 ?d3 ?_)
     case d1=>unfold maxLen;omega
     case d2=>omega
     intro v6 w6 ab aw _
     have Z:Hid (∀k,(Value.slice a5 f.length c5).ownBlock=some k->w.heap.size<=k/\k≠wr.heap.size):=λk A=>by
      refine⟨(W.out.lt k A).1,λe=>?_⟩
      rcases W.out.2 with⟨U,_⟩|⟨gg,cap,bz,U,_,h3,_⟩
      ·injection U with U _ _
       rw[U]at A
       cases A
      ·rw[U]at A
       injection A with A
       have bh:gg=k:=A
       rw[bh,e,aC.out]at h3
       injection h3 with h3
       injection h3 with _ h3
       cases h3
     have aN:Below w.heap.size w w6:=aA.out.grown aw bj (λk A=>(Z.out k A).1)
     have aU:w6.heap[wr.heap.size]?=some (.cells #[.int .i64 (F:Int),.int .i64 (E:Int),.string V2] 40):=by
      rw[aw.block _ bo (by intro e;exact(Z.out _ e.symm).2 rfl)]
      exact aC.out
     obtain⟨d0,d1,d2,df⟩:=aJE aU
     have R6:w6.ownsRow w.heap.size 5 1 v6 (f++T.data.toList).length (bv (f++T.data.toList)):=by
      rw[aDo,je,<-Lib.size_eq T,<-aKV]
      exact ab
     have ap:Hid (aAs w n b l (tls g) (gk-1) w6 v6 (i+1) E (f++T.data.toList)):=
      ⟨by omega,by omega,a0,aj.out,by rw[je,<-Lib.size_eq T];exact a3,al.out,aN,R6,G.out⟩
     clear ab aw Z aN aU R6 G W al aj
     go_wp2_with fail
     go_roundg (gk-1)
     case measure=>omega
     case rel=>exact⟨i+1,E,f++T.data.toList,by go_num,rfl,ap⟩
  ·have bg:i=m:=by have:=HE.out.1;omega
   have bP:¬(i:Int)<(m:Int):=by omega
   have r:Hid (aGe l (tls g) b=O++b.drop d):=by
    unfold Hid
    rw[C.out.eq,bg,HE.out.1,jC (jf _),aGh]
   have S:Hid (Below w.heap.size w wr):=C.out.bel
   have R:Hid (wr.ownsRow w.heap.size 5 1 (.slice a8 O.length c8) O.length (bv O)):=C.out.own
   have L:Hid (b.length=n):=HE.out.2.2.symm
   have aB:Hid ((b.drop d).length=n-d):=by unfold Hid;rw[jH,L.out]
   have aE:Hid (aAe wr q b):=HR.out wr S.out
   clear C
   have bL:(d:Int)<=(n:Int):=by omega
   have br:d<=c:=by omega
   cases q with
   |none=>
    obtain⟨h0,a9⟩:=HQ.out rfl
    have bd:d=0:=by omega
    have aO:b=[]:=js.1 (by rw[L.out];exact h0)
    subst h0 a9 bd
    have ai:Hid (b.drop 0=[]):=by unfold Hid;rw[aO];rfl
    clear aO
    go_wp2_with (at_builtin;refine aB4 rfl (.tmp 49) (.tmp 52) rfl w.heap.size _ O rfl R.out none 0 0 [] rfl rfl (λh=>absurd rfl h) (λ_=>⟨rfl,rfl⟩) (by omega) I ?_)
    intro v7 w7 f j a J
    have H:Below w.heap.size w w7:=S.out.grown J I (λk A=>(R.out.lt k A).1)
    have o:Hid (aGe l (tls g) b=f):=by unfold Hid;rw[r.out,j.out,ai.out,j6]
    obtain⟨a7,c7,rfl,aG,aH,aI⟩:=aQC a
    have ag:f.length<=8000:=by rw[j.out];omega
    have X:Hid (w7.ownsRow w.heap.size 5 1 (.slice a7 f.length c7) f.length (bv f)):=a
    have D:Hid (Below w.heap.size w w7):=H
    clear a J H R S j r
    by_cases s:4000<f.length
    ·have p:(4000:Int)<(f.length:Int):=by omega
     go_wp2_with fail
     go_ret2
     show aAr _ _ _ _
     rw[o.out]
     exact⟨D.out,.inl ⟨s,rfl⟩⟩
    ·have p:¬(4000:Int)<(f.length:Int):=by omega
     go_wp2_with fail
     go_ret2
     show aAr _ _ _ _
     rw[o.out]
     exact⟨D.out,.inr ⟨by omega,_,rfl,X.out⟩⟩
   |some aq=>
    have an:Hid (aAe wr (some (aq.add d)) (b.drop d)):=aDm aE.out d
    clear aE
    by_cases be:d<c
    ·go_wp2_with (at_builtin;refine aB4 rfl (.tmp 49) (.tmp 52) rfl w.heap.size _ O rfl R.out _ _ _ (b.drop d) aB.out.symm rfl an.out (λh=>by cases h) (by omega) I ?_)
     intro v7 w7 f j a J
     have H:Below w.heap.size w w7:=S.out.grown J I (λk A=>(R.out.lt k A).1)
     have o:Hid (aGe l (tls g) b=f):=by unfold Hid;rw[r.out,j.out]
     obtain⟨a7,c7,rfl,aG,aH,aI⟩:=aQC a
     have ag:f.length<=8000:=by rw[j.out];simp only[je];have:=aB.out;omega
     have X:Hid (w7.ownsRow w.heap.size 5 1 (.slice a7 f.length c7) f.length (bv f)):=a
     have D:Hid (Below w.heap.size w w7):=H
     clear a J H R S j r
     by_cases s:4000<f.length
     ·have p:(4000:Int)<(f.length:Int):=by omega
      go_wp2_with fail
      go_ret2
      show aAr _ _ _ _
      rw[o.out]
      exact⟨D.out,.inl ⟨s,rfl⟩⟩
     ·have p:¬(4000:Int)<(f.length:Int):=by omega
      go_wp2_with fail
      go_ret2
      show aAr _ _ _ _
      rw[o.out]
      exact⟨D.out,.inr ⟨by omega,_,rfl,X.out⟩⟩
    ·have aT:d=c:=by omega
     have aW:n=c:=by omega
     have ai:Hid (b.drop d=[]):=by unfold Hid;rw[jC (by rw[L.out];omega)]
     subst aT
     subst aW
     go_wp2_with (at_builtin;refine aB4 rfl (.tmp 49) (.tmp 52) rfl w.heap.size _ O rfl R.out _ _ _ [] ?e0 rfl (λh=>absurd rfl h) (λh=>by cases h) ?e1 I ?_)
     case e1=>omega
     intro v7 w7 f j a J
     have H:Below w.heap.size w w7:=S.out.grown J I (λk A=>(R.out.lt k A).1)
     have o:Hid (aGe l (tls g) b=f):=by unfold Hid;rw[r.out,j.out,ai.out,j6]
     obtain⟨a7,c7,rfl,aG,aH,aI⟩:=aQC a
     have ag:f.length<=8000:=by rw[j.out];omega
     have X:Hid (w7.ownsRow w.heap.size 5 1 (.slice a7 f.length c7) f.length (bv f)):=a
     have D:Hid (Below w.heap.size w w7):=H
     clear a J H R S j r
     by_cases s:4000<f.length
     ·have p:(4000:Int)<(f.length:Int):=by omega
      go_wp2_with fail
      go_ret2
      show aAr _ _ _ _
      rw[o.out]
      exact⟨D.out,.inl ⟨s,rfl⟩⟩
     ·have p:¬(4000:Int)<(f.length:Int):=by omega
      go_wp2_with fail
      go_ret2
      show aAr _ _ _ _
      rw[o.out]
      exact⟨D.out,.inr ⟨by omega,_,rfl,X.out⟩⟩
end Go.Proofs.YtbbfcbodhmeanaaGreatDoor

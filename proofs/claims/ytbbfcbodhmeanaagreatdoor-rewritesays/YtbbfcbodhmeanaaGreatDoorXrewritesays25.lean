import Derived.Test.YtbbfcbodhmeanaaGreatDoorXrewritesays24
set_option maxHeartbeats 8000000
set_option maxRecDepth 1000000
namespace Go.Proofs.YtbbfcbodhmeanaaGreatDoor
open Go.Proofs.Tryz
open Go.RowKit
def aQs:Nat->PT->Nat×Nat
 |0,_=>(0,99)
 |f+1,p=>
  let r:=p.kids.foldl (λ(acc:Option (Nat×Nat)) k=>acc.bind λa=>if 100<a.1+(aQs f k).1\/50<max a.2 (aQs f k).2 then none else some (a.1+(aQs f k).1,max a.2 (aQs f k).2)) (some (1,0))
  match r with
  |none=>(100,99)
  |some a=>(a.1,a.2+1)
def aQm(f:Nat)(acc:Nat×Nat)(ks:List PT):Option (Nat×Nat):=ks.foldl (λ(acc:Option (Nat×Nat)) k=>acc.bind λa=>if 100<a.1+(aQs f k).1\/50<max a.2 (aQs f k).2 then none else some (a.1+(aQs f k).1,max a.2 (aQs f k).2)) (some acc)
theorem aQp(f:Nat):∀c:List PT,c.foldl (λ(b:Option (Nat×Nat)) k=>b.bind λa=>if 100<a.1+(aQs f k).1\/50<max a.2 (aQs f k).2 then none else some (a.1+(aQs f k).1,max a.2 (aQs f k).2)) none=none
 |[]=>rfl
 |_::c=>by rw[jbx];exact aQp f c
theorem aQo(f:Nat)(a:Nat×Nat):aQm f a []=some a:=rfl
theorem aQr(f:Nat)(a:Nat×Nat)(k:PT)(b:List PT)(h:100<a.1+(aQs f k).1\/50<max a.2 (aQs f k).2):aQm f a (k::b)=none:=by
 unfold aQm;rw[jbx,jdj,jo h,aQp]
theorem aQq(f:Nat)(a:Nat×Nat)(k:PT)(b:List PT)(h:¬(100<a.1+(aQs f k).1\/50<max a.2 (aQs f k).2)):aQm f a (k::b)=aQm f (a.1+(aQs f k).1,max a.2 (aQs f k).2) b:=by
 unfold aQm;rw[jbx,jdj,jh h]
def aFT:Option (Nat×Nat)->Nat×Nat
 |none=>(100,99)
 |some a=>(a.1,a.2+1)
theorem aQv(f:Nat)(p:PT):aQs (f+1) p=aFT (aQm f (1,0) p.kids):=by
 rw[aQs]
 unfold aQm aFT
 rfl
theorem aQn(f:Nat):∀(c:List PT) (a b:Nat×Nat),a.1<=100->a.2<=50->aQm f a c=some b->b.1<=100/\b.2<=50
 |[],a,b,h1,h2,h=>by rw[aQo]at h;cases h;exact⟨h1,h2⟩
 |k::c,a,b,h1,h2,h=>by
  by_cases d:100<a.1+(aQs f k).1\/50<max a.2 (aQs f k).2
  ·rw[aQr f a k c d]at h;cases h
  ·rw[aQq f a k c d]at h
   exact aQn f c _ b (by omega) (by omega) h
theorem aQt(f:Nat)(p:PT):(aQs f p).1<=100/\(aQs f p).2<=99:=by
 cases f with
 |zero=>exact⟨jy _,jf _⟩
 |succ f=>
  rw[aQv]
  cases h:aQm f (1,0) p.kids with
  |none=>exact⟨by decide,by decide⟩
  |some a=>
   have:=aQn f p.kids (1,0) a (by decide) (by decide) h
   exact⟨this.1,by show a.2+1<=99;omega⟩
theorem aQw:∀(f F:Nat) (p:PT) (z:jO) (y:Nat) (s:jO) (x:Nat) (c:Int) (w:World),c=(f:Int)->f<=10->aA3 w F p z y s x->
  Calls prog 43 #[.agg (jP p.ty p.cs p.id p.loc p.how z p.body.length y s p.kids.length x),.int .i64 c] w
   λe w'=>e=.returned (.tuple #[.int .i64 ((aQs f p).1:Nat),.int .i64 ((aQs f p).2:Nat)])/\jb w w':=by
 intro f
 induction f with
 |zero=>
  intro F p z y s x c w hl _ N
  subst hl
  clear N
  have HR:Hid (aQs 0 p=(0,99)):=rfl
  go_enter func43,ntmps43
  go_wp2_with fail
  go_ret2
  exact⟨rfl,ja _ _⟩
 |succ f ih=>
  intro F p z y s x c w hl hf N
  have ao:¬c=0:=by omega
  have ar:(c==0)=false:=by rw[jg];omega
  have ap:c<=10:=by omega
  have aq:0<=c:=by omega
  have HR:Hid (aQs (f+1) p=aFT (aQm f (1,0) p.kids)):=aQv f p
  obtain⟨E,D⟩:∃E,w.alloc (.cells (jP p.ty p.cs p.id p.loc p.how z p.body.length y s p.kids.length x) 25)=E:=⟨_,rfl⟩
  have m:jb w E:=by rw[<-D];exact ja _ _
  have x6:E.cell? (jx w.heap.size 6)=some (.slice s p.kids.length x):=by rw[<-D];simp
  have W:p.kids.length<=9223372036854775807:=by have:=N.1.2.2.2.2.2.2.2;unfold maxLen at this;exact this
  have t:Hid (p.kids≠[]->∃J b o,s=some (jx b o)/\∀i,i<p.kids.length->PAt E J b (o+i*7) (p.kids.getD i pt0)):=λC=>by
   have hk:KAt w F s p.kids:=N.2.2.2.2
   cases F with
   |zero=>exact absurd hk C
   |succ J=>
    obtain⟨b,o,e1,e2⟩:=hk.each C
    exact⟨J,b,o,e1,λi hi=>(e2 i hi).below m⟩
  have IH:Hid (∀(F:Nat) (p:PT) (z:jO) (y:Nat) (s:jO) (x:Nat) (w:World),aA3 w F p z y s x->
   Calls prog 43 #[.agg (jP p.ty p.cs p.id p.loc p.how z p.body.length y s p.kids.length x),.int .i64 (c-1)] w λe w'=>e=.returned (.tuple #[.int .i64 ((aQs f p).1:Nat),.int .i64 ((aQs f p).2:Nat)])/\jb w w'):=λF p z y s x w h=>ih F p z y s x (c-1) w (by omega) (by omega) h
  obtain⟨kids,r⟩:∃kids,p.kids=kids:=⟨_,rfl⟩
  rw[r]at HR x6 W t D
  simp only[r]
  obtain⟨n,hn⟩:∃n,kids.length=n:=⟨_,rfl⟩
  have HN:Hid _:=hn
  rw[hn]at x6 W t D
  simp only[hn]
  clear hn r ih N hl
  generalize aQs (f+1) p=l at*
  go_enter func43,ntmps43
  go_wp2_with fail
  go_loopw[4,5,15] (λmv dv iv wr=>∃(k a d:Nat),k<=n/\iv=.int .i64 k/\mv=.int .i64 (a:Int)/\dv=.int .i64 (d:Int)/\a<=100/\d<=50/\jb E wr/\Hid (l=aFT (aQm f (a,d) (kids.drop k)))) (λ_ _ iv _=>n-(intOf iv).toNat)
  case atStart=>exact⟨0,1,0,jy _,rfl,rfl,rfl,by omega,by omega,jr _ _,HR⟩
  case round=>
   obtain⟨k,a,d,hk,rfl,rfl,rfl,ha,hd,B,G⟩:=hrel
   have ad:=B.size
   by_cases X:k<n
   ·have ac:(k:Int)<(n:Int):=by omega
    have C:kids≠[]:=λe=>by have:=HN.out;rw[e]at this;simp at this;omega
    obtain⟨J,bp,op,rfl,S⟩:=t.out C
    have V:k<kids.length:=by rw[HN.out];exact X
    have L:=(S k X).below B
    have U:kids.drop k=kids.getD k pt0::kids.drop (k+1):=by
     rw[jE V]
     simp[List.getD_eq_getElem?_getD,List.getElem?_eq_getElem V]
    rw[U]at G
    obtain⟨g,R⟩:∃g,kids.getD k pt0=g:=⟨_,rfl⟩
    rw[R]at G L
    obtain⟨a1,a2,a3,a4,aa,O⟩:=L
    obtain⟨d0,d1,d2,d3,d4,d5,d6⟩:=aa
    have an:bp<wr.heap.size:=ji wr _ d0
    have H:Hid (∀w',jb wr w'->Calls prog 43 #[.agg (jP g.ty g.cs g.id g.loc g.how a1 g.body.length a2 a3 g.kids.length a4),.int .i64 (c-1)] w' λe al=>e=.returned (.tuple #[.int .i64 ((aQs f g).1:Nat),.int .i64 ((aQs f g).2:Nat)])/\jb w' al):=λw' hb=>IH.out J g a1 a2 a3 a4 w' (O.below hb)
    have av:=aQt f g
    have v:Hid (100<a+(aQs f g).1\/50<max d (aQs f g).2->l=(100,99)):=λh=>by rw[G.out,aQr f (a,d) g _ h];rfl
    have A:Hid (¬(100<a+(aQs f g).1\/50<max d (aQs f g).2)->l=aFT (aQm f (a+(aQs f g).1,max d (aQs f g).2) (kids.drop (k+1)))):=λh=>by rw[G.out,aQq f (a,d) g _ h]
    clear S R O t G U
    generalize (aQs f g).1=s1 at*
    generalize (aQs f g).2=s2 at*
    obtain⟨ak,af,ah,aj,ag,ae,ai⟩:=g
    simp only at d0 d1 d2 d3 d4 d5 d6 H
    generalize ae.length=m1 at*
    generalize ai.length=m2 at*
    have T:=(jr wr.heap.size wr).alloc (jf _) (.cells (jP ak af ah aj ag a1 m1 a2 a3 m2 a4) 25)
    obtain⟨M,P⟩:∃M:Nat,max (d:Int) (s2:Int)=(M:Int)/\M=max d s2:=⟨max d s2,by omega,rfl⟩
    have am:=P.1
    go_wp2_with fail
    refine(H.out _ T).mono ?_
    rintro e w2 ⟨rfl,ab⟩
    have q:jb E w2:=B.trans ((T.trans (ab.mono (by simp))).mono ad)
    clear H
    by_cases hst:100<a+s1
    ·have j:Hid (l=(100,99)):=v.out (.inl hst)
     have Z:(100:Int)<(a:Int)+(s1:Int):=by omega
     clear v A
     go_wp2_with fail
     go_ret2
     exact⟨by rw[j.out];rfl,m.trans (q.mono m.size)⟩
    ·have Z:decide ((100:Int)<(a:Int)+(s1:Int))=false:=by simp;omega
     by_cases Y:50<M
     ·have j:Hid (l=(100,99)):=v.out (.inr (by rw[<-P.2];exact Y))
      have I:(50:Int)<(M:Int):=by omega
      clear v A
      go_wp2_with fail
      go_ret2
      exact⟨by rw[j.out];rfl,m.trans (q.mono m.size)⟩
     ·have j:Hid (l=aFT (aQm f (a+s1,M) (kids.drop (k+1)))):=by unfold Hid;rw[P.2];exact A.out (by rw[<-P.2];omega)
      have I:decide ((50:Int)<(M:Int))=false:=by simp;omega
      clear v A
      go_wp2_with fail
      go_roundw
      case rel=>exact⟨k+1,a+s1,M,by omega,by go_num,by go_num,by first|rfl|(rw[P.2]),by omega,by omega,q,j⟩
      case measure=>simp[intOf];omega
   ·have ac:¬((k:Int)<(n:Int)):=by omega
    have j:Hid (l=(a,d+1)):=by unfold Hid;rw[G.out,jC (by rw[HN.out];omega),aQo];rfl
    clear G t IH
    go_wp2_with fail
    go_ret2
    exact⟨by rw[j.out];first|rfl|simp,m.trans (B.mono m.size)⟩
def aTe(f:Nat)(ks:List PT):Nat:=(ks.map λk=>(aTg f k).length).sum
theorem aH6(f:Nat):∀(b:List PT) (a:List (PT×Option Nat)),(aHY f a b).length=a.length+aTe f b
 |[],a=>by simp[aH4,aTe]
 |k::b,a=>by
  rw[aH1,aH6 f b]
  simp[aTe]
  omega
theorem aTl(f:Nat)(p:PT):(aTg (f+1) p).length=1+aTe f p.kids:=by rw[aTj,aH6];rfl
theorem aQx(f:Nat)(q:f<=3):∀(b:List PT) (a d:Nat),(∀k∈b,(aQs f k).1=(aTg f k).length/\(aQs f k).2<=f)->d<=f->(a+aTe f b<=100->∃D,D<=f/\aQm f (a,d) b=some (a+aTe f b,D))/\(a<=100->100<a+aTe f b->aQm f (a,d) b=none)
 |[],a,d,_,hd=>⟨λ_=>⟨d,hd,rfl⟩,λc m=>by simp[aTe]at m;omega⟩
 |k::b,a,d,h,hd=>by
  obtain⟨c,m⟩:=h k (by simp)
  have o:aTe f (k::b)=(aTg f k).length+aTe f b:=by simp[aTe]
  by_cases n:100<a+(aQs f k).1\/50<max d (aQs f k).2
  ·have i:=aQr f (a,d) k b n
   exact⟨λg=>by rw[o]at g;omega,λ_ _=>i⟩
  ·have i:=aQq f (a,d) k b n
   obtain⟨j,l⟩:=aQx f q b (a+(aQs f k).1) (max d (aQs f k).2) (λx r=>h x (by simp[r])) (by omega)
   rw[i,o,c]
   rw[c]at j l
   refine⟨λg=>?_,λg s=>l (by omega) (by omega)⟩
   obtain⟨D,p,e⟩:=j (by omega)
   exact⟨D,p,by rw[e,jcf]⟩
theorem aQy(f:Nat):∀(c:List PT) (a b:Nat×Nat),aQm f a c=some b->a.1<=b.1/\a.2<=b.2/\∀k∈c,(aQs f k).1<=b.1/\(aQs f k).2<=b.2
 |[],a,b,h=>by rw[aQo]at h;cases h;exact⟨jf _,jf _,λk l=>by cases l⟩
 |k::c,a,b,h=>by
  by_cases d:100<a.1+(aQs f k).1\/50<max a.2 (aQs f k).2
  ·rw[aQr f a k c d]at h;cases h
  ·rw[aQq f a k c d]at h
   obtain⟨g,i,j⟩:=aQy f c _ b h
   simp only at g i
   refine⟨by omega,by omega,λx m=>?_⟩
   rcases jad.1 m with e|e
   ·subst e;exact⟨by omega,by omega⟩
   ·exact j x e
theorem aTf(f:Nat):∀(a:List PT) (k:PT),k∈a->(aTg f k).length<=aTe f a
 |[],k,h=>by cases h
 |x::a,k,h=>by
  have b:aTe f (x::a)=(aTg f x).length+aTe f a:=by simp[aTe]
  rw[b]
  rcases jad.1 h with e|e
  ·subst e;omega
  ·have:=aTf f a k e;omega
theorem aQA:∀(f:Nat),f<=3->∀p:PT,((lev f p=true/\(aTg f p).length<=12)->(aQs f p).1=(aTg f p).length/\(aQs f p).2<=f)/\(¬(lev f p=true/\(aTg f p).length<=12)->12<(aQs f p).1\/3<(aQs f p).2)
 |0,_,p=>⟨(λh=>absurd h.1 (by rw[lev];decide)),λ_=>.inr (by show 3<99;decide)⟩
 |f+1,hf,p=>by
  have m:=aQA f (by omega)
  rw[aQv,aTl,aJ7]
  by_cases a:∀k∈p.kids,lev f k=true/\(aTg f k).length<=12
  ·obtain⟨l,n⟩:=aQx f (by omega) p.kids 1 0 (λk c=>(m k).1 (a k c)) (jy _)
   have o:p.kids.all (lev f)=true:=jR.2 λk c=>(a k c).1
   refine⟨λh=>?_,λh=>?_⟩
   ·obtain⟨D,r,e⟩:=l (by omega)
    rw[e]
    exact⟨rfl,by show D+1<=f+1;omega⟩
   ·have j:12<1+aTe f p.kids:=by
     rcases Nat.lt_or_ge 12 (1+aTe f p.kids)with d|d
     ·exact d
     ·exact absurd ⟨o,d⟩ h
    rcases Nat.lt_or_ge 100 (1+aTe f p.kids)with d|d
    ·rw[n (by omega) d];exact .inl (by show 12<100;decide)
    ·obtain⟨D,_,e⟩:=l d
     rw[e]
     exact .inl j
  ·obtain⟨k,c,i⟩:∃k∈p.kids,¬(lev f k=true/\(aTg f k).length<=12):=by
    rcases Classical.em (∃k∈p.kids,¬(lev f k=true/\(aTg f k).length<=12))with h|h
    ·exact h
    ·exact absurd (λk c=>Classical.not_not.1 λi=>h ⟨k,c,i⟩) a
   have g:¬(p.kids.all (lev f)=true/\1+aTe f p.kids<=12):=λh=>i ⟨jR.1 h.1 k c,by
    have:=aTf f p.kids k c
    omega⟩
   refine⟨λh=>absurd h g,λ_=>?_⟩
   cases q:aQm f (1,0) p.kids with
   |none=>exact .inl (by show 12<100;decide)
   |some b=>
    have:=(aQy f p.kids (1,0) b q).2.2 k c
    rcases (m k).2 i with h|h
    ·exact .inl (by show 12<b.1;omega)
    ·exact .inr (by show 3<b.2+1;omega)
theorem aH2(f:Nat):∀(b:List PT) (a:List (PT×Option Nat)),(∀k∈b,(aTg f k).map (·.1)=aG3 f k)->(aHY f a b).map (·.1)=a.map (·.1)++b.flatMap (aG3 f)
 |[],a,_=>by simp[aH4]
 |k::b,a,h=>by
  rw[aH1,aH2 f b _ (λx c=>h x (by simp[c])),jbg,jcm,jbm,<-h k (by simp),jJ]
  rfl
theorem aTh:∀(f:Nat) (p:PT),(aTg f p).map (·.1)=aG3 f p
 |0,_=>rfl
 |f+1,p=>by rw[aTj,aH2 f p.kids _ (λk _=>aTh f k),aG4];rfl
theorem aJ8:∀(f:Nat) (p:PT),lev f p=true->lev (f+1) p=true
 |0,p,h=>by rw[lev]at h;cases h
 |f+1,p,h=>by
  rw[aJ7,jR]at h⊢
  exact λk a=>aJ8 f k (h k a)
theorem aGY(b:Nat->PT->Bool)(a:∀k p,b k p.alone=b k p):∀(l:List PT) (k:Nat),aGT b k (l.map PT.alone)=aGT b k l
 |[],_=>rfl
 |p::l,k=>by
  rw[jdm,aGT,aGT,aGY b a l,a]
  rfl
theorem aGD(l:List PT)(a:List jB)(t:jB):aGC (l.map PT.alone) a t=aGC l a t:=by
 unfold aGC
 rw[aGY _ (λ_ _=>rfl),aGY _ (λ_ _=>rfl)]
theorem aHF(l:List PT)(a:List jB):aHE (l.map PT.alone) a=aHE l a:=by
 funext i n x
 unfold aHE
 rw[aGD]
theorem aHN(a:jB->jB)(l:List PT)(c:List jB):∀(r:List PT) (k:Nat) (b:List GL),aHM a (l.map PT.alone) c k (r.map PT.alone) b=aHM a l c k r b
 |[],_,_=>by rw[List.map_nil,aHM,aHM]
 |p::r,k,b=>by
  rw[jdm,aHM,aHM,aHF]
  have e1:p.alone.ty=p.ty:=rfl
  have d:p.alone.body=p.body:=rfl
  rw[e1,d,aHN a l c r]
  cases aGz a p.body with
  |none=>rfl
  |some f=>simp only[aHN a l c r]
theorem aHO(l:List PT)(b:List jB):∀(r:List PT) (k:Nat) (a:List GL),aHM aKG l b k r a=aHM aQJ l b k r a
 |[],_,_=>by rw[aHM,aHM]
 |p::r,k,a=>by
  have e:aGz aKG p.body=aGz aQJ p.body:=aGJ p.body
  rw[aHM,aHM,e,aHO l b r]
  cases aGz aQJ p.body with
  |none=>rfl
  |some c=>simp only[aHO l b r]
theorem aNo(p:PT)(h:(aNh p).1=0):lev 4 p=true/\(aG3 4 p).length<=12/\(aNh p).2.map (·.1)=aG3 4 p:=by
 have b:=aNr p
 unfold aNh at h⊢
 by_cases a:lev 3 p=true/\(aTg 4 p).length<=12
 ·rw[jo a]at b
  rw[b]at h⊢
  simp only at h⊢
  by_cases c:aGO ((aTg 4 p).map (abs 0 (-1)))=0
  ·rw[jo c]
   refine⟨aJ8 3 p a.1,by rw[<-aTh,jD];exact a.2,?_⟩
   rw[<-aTh,jcm]
   rfl
  ·rw[jh c]at h
   exact absurd h c
 ·rw[jh a]at b
  rw[b]at h
  cases h
theorem aHW(p:PT)(h:(aNh p).1=0):aHM aKG ((aNh p).2.map λx=>x.1.alone) (aU0 (aNh p).2) 0 ((aNh p).2.map λx=>x.1.alone) []=aHM aQJ (aG3 4 p) (aU4 4 p []) 0 (aG3 4 p) []:=by
 have e:((aNh p).2.map λx=>x.1.alone)=(aG3 4 p).map PT.alone:=by
  rw[<-(aNo p h).2.2,jcm]
  rfl
 rw[e,aU8 p h,aHN,aHO]
def aHR(p:PT):Option (List GL):=aHM aKG ((aNh p).2.map λx=>x.1.alone) (aU0 (aNh p).2) 0 ((aNh p).2.map λx=>x.1.alone) []
def aOw:PT:=⟨jz,jz,jz,jz,0,[],[]⟩
def aLq(p:PT)(ns:List NM):Nat×PT:=
 if(aNh p).1≠0 then((aNh p).1,aOw)
 else if aDT ((aNh p).2.length:Int) (-1) [] ns≠0 then(aDT ((aNh p).2.length:Int) (-1) [] ns,aOw)
 else match aHR p with
  |none=>(2,aOw)
  |some gs=>if(aFH (aSL (aDA ns) gs) 4 p 0).1≠0 then((aFH (aSL (aDA ns) gs) 4 p 0).1,aOw)else(0,(aFH (aSL (aDA ns) gs) 4 p 0).2.1)
theorem aD0(parts:Int):∀(l:List NM) (a:Int) (seen:List jB),aDT parts a seen l=0->∀n∈l,0<=n.1/\n.1<parts
 |[],_,_,_,n,b=>by cases b
 |x::l,a,seen,h,n,b=>by
  rw[aDT]at h
  split at h
  ·cases h
  ·rename_i c
   split at h
   ·cases h
   ·split at h
    ·cases h
    ·rcases jad.1 b with rfl|b
     ·omega
     ·exact aD0 parts l _ _ h n b
def GIn(g:GL):Prop:=(∃m:Nat,m<12/\g.part=(m:Int))/\(g.find<0\/∃q:Nat,q<12/\g.find=(q:Int))
theorem aHG(l:List PT)(a:List jB)(k n:Nat)(x:LK)(c:k<12)(g:l.length<=12):GIn (aHE l a k n x):=by
 refine⟨⟨k,c,rfl⟩,?_⟩
 obtain⟨d,f⟩:=aGE l a (aJT (aHn a k) (aTW x.2))
 show aGC l a (aJT (aHn a k) (aTW x.2))<0\/_
 by_cases b:aGC l a (aJT (aHn a k) (aTW x.2))<0
 ·exact .inl b
 ·exact .inr ⟨(aGC l a (aJT (aHn a k) (aTW x.2))).toNat,by omega,by show aGC l a (aJT (aHn a k) (aTW x.2))=_;omega⟩
theorem aHU(b:jB->jB)(l:List PT)(d:List jB)(f:l.length<=12):∀(r:List PT) (k:Nat) (a G:List GL),k+r.length<=12->(∀g∈a,GIn g)->aHM b l d k r a=some G->∀g∈G,GIn g
 |[],_,a,G,_,ha,h=>by
  rw[aHM,jac]at h
  rw[<-h]
  exact ha
 |p::r,k,a,G,hk,ha,h=>by
  rw[jm]at hk
  rw[aHM]at h
  split at h
  ·cases i:aGz b p.body with
   |none=>rw[i]at h;cases h
   |some j=>
    rw[i]at h
    refine aHU b l d f r (k+1) _ G (by omega) (λg c=>?_) h
    rcases jY.1 c with c|c
    ·exact ha g c
    ·obtain⟨x,_,rfl⟩:=jbi.1 c
     exact aHG l d k _ x (by omega) f
  ·exact aHU b l d f r (k+1) a G (by omega) ha h
theorem aHT(p:PT)(G:List GL)(h:aHR p=some G):(∀g∈G,GIn g)/\G.length<=720:=by
 have c:=aNk p
 have m:((aNh p).2.map λx=>x.1.alone).length<=12:=by rw[jD];exact c
 refine⟨aHU aKG _ _ m _ 0 [] G (by omega) (λg j=>by cases j) h,?_⟩
 have:∀(l:List PT) (i:List jB) (r:List PT) (k:Nat) (a L:List GL),aHM aKG l i k r a=some L->L.length<=a.length+60*r.length:=by
  intro l i r
  induction r with
  |nil=>intro k a L h;rw[aHM,jac]at h;rw[<-h];simp
  |cons p r f=>
   intro k a L h
   rw[aHM]at h
   rw[jm]
   split at h
   ·cases d:aGz aKG p.body with
    |none=>rw[d]at h;cases h
    |some n=>
     rw[d]at h
     have b:=f _ _ _ h
     have o:=(aGK aKG p.body n d).2.1
     rw[je,jD]at b
     omega
   ·have b:=f _ _ _ h
    omega
 have b:=this _ _ _ _ _ _ h
 simp only[jag]at b
 omega
theorem aTD{W:World}{B c:Nat}{a:jO}{d:List jA}(h:W.ownsRow B 9 1 (.slice a d.length c) d.length (aRn d)):aBA W a d/\∀b,a=some b->b.block<W.heap.size:=by
 refine⟨λf=>?_,λb n=>(aMa h (jf _) b n).2⟩
 have l:=h
 rcases h.2 with⟨e,m⟩|⟨g,cap,k,e,_⟩
 ·exact absurd (js.1 m) f
 ·injection e with e1 _ _
  subst e1
  refine⟨g,0,rfl,λi j=>?_⟩
  rw[j0,l.cellAt i (by omega)]
  unfold aRn
  rw[jas,jc j,jd,jc j]
  rfl
theorem aTB{w W V:World}{b:Nat}{d:Nat->List jA}{l:Array Value}{v:Nat->Value}(z:b=W.heap.size)(A:V.heap.size=b+1)(s:V.heap[b]?=some (.cells l 98))(y:∀k,k<W.heap.size->V.heap[k]?=W.heap[k]?)(r:∀i,i<12->l[i]?=some (v i))(o:∀i,i<12->W.ownsRow w.heap.size 9 1 (v i) (d i).length (aRn (d i)))(x:∀i,i<12->(d i).length<=maxLen/\∀t∈d i,t.size<=maxLen):aBy b (b+1) d V:=by
 refine⟨by omega,by omega,⟨l,s,λi j=>?_⟩,x⟩
 obtain⟨a,c,p⟩:=aMi (o i j)
 have m:=o i j
 rw[p]at m
 obtain⟨q,n⟩:=aTD m
 exact⟨a,c,by rw[r i j,p],q.move (λf g=>y _ (n f g)),λf g=>by have:=n f g;omega⟩
def aAR(w w':World)(p:PT)(pb:jO)(cb:Nat)(pk:jO)(ck:Nat):Prop:=∀V:World,(∀b,w.heap.size<=b->b<w'.heap.size->V.heap[b]?=w'.heap[b]?)->aA3 V 4 p pb cb pk ck
theorem aAR.held{w w':World}{p:PT}{c:jO}{a:Nat}{d:jO}{b:Nat}(h:aAR w w' p c a d b):aA3 w' 4 p c a d b:=h w' (λ_ _ _=>rfl)
def aAU(w:World)(R:Nat×PT)(e:Ending)(w':World):Prop:=
 jb w w'/\(R.1≠0->e=.returned (.tuple #[.agg (jP jz jz jz jz 0 none 0 0 none 0 0),.int .i64 (R.1:Int)]))/\
  (R.1=0->∃(pb:jO) (cb:Nat) (pk:jO) (ck:Nat),e=.returned (.tuple #[.agg (jP R.2.ty R.2.cs R.2.id R.2.loc R.2.how pb R.2.body.length cb pk R.2.kids.length ck),.int .i64 0])/\aA3 w' 4 R.2 pb cb pk ck/\aAR w w' R.2 pb cb pk ck)
theorem aSQ(b:Nat->jA)(a:List GL)(i:Nat):aSL b a i=(a.filter (λg=>decide ((i:Int)=g.part))).map (aR4 b):=by
 refine aQX (P:=λa=>aSL b a i=(a.filter (λg=>decide ((i:Int)=g.part))).map (aR4 b)) rfl (λl x c=>?_) a
 rw[aSO,List.filter_append,jbg]
 simp only
 by_cases h:(i:Int)=x.part
 ·rw[jo h,c,List.filter_cons_of_pos (by simpa using h)]
  rfl
 ·rw[jh h,c,List.filter_cons_of_neg (by simpa using h)]
  simp
structure aBb(b c:jB)(l m:List LK)(ts:List jB)(i x y:Nat)(ss:List SG):Prop where
 xl:x<=b.length
 yl:y<=c.length
 bd:b.drop x=aG5 ss
 cd:c.drop y=aG5 (aO2 ss (ts.drop i))
 ld:l.drop i=aJW ss 0
 md:m.drop i=aJW (aO2 ss (ts.drop i)) 0
structure aBc(b c:jB)(xk yk:LK)(t:jB)(x y:Nat):Prop where
 f1:x<=b.length-xk.1
 f2:y<=c.length-yk.1
 e1:xk.1<=b.length
 e2:yk.1<=c.length
 r1:xk.2.length<=xk.1
 r2:yk.2.length<=yk.1
 same:(b.drop x).take (b.length-xk.1-x)=(c.drop y).take (c.length-yk.1-y)
 text:aTW yk.2=if t=[]then aTW xk.2 else t
theorem aOp{b c:jB}{l m:List LK}{f:List jB}{i x y:Nat}{G:List SG}(h:aBb b c l m f i x y G)(R:f.all aNs=true)(O:i<l.length)(P:i<m.length)(A:i<f.length):
  ∃a,aBc b c (l.getD i (0,[])) (m.getD i (0,[])) (f.getD i []) x y/\aBb b c l m f (i+1) (b.length-(l.getD i (0,[])).1+(l.getD i (0,[])).2.length) (c.length-(m.getD i (0,[])).1+(m.getD i (0,[])).2.length) a:=by
 have d:∀{α:Type} (L:List α) (k:Nat) (z:α),k<L.length->L.drop k=L.getD k z::L.drop (k+1):=λL k z h=>by
  rw[jE h]
  simp[List.getD_eq_getElem?_getD,List.getElem?_eq_getElem h]
 have F:=h.ld
 have j:=h.md
 rw[d l i (0,[]) O]at F
 rw[d m i (0,[]) P]at j
 have B:=d f i [] A
 have r:aNs (f.getD i [])=true:=by
  rw[jd,jc A]
  exact jR.1 R _ (jQ A)
 generalize l.getD i (0,[])=n at*
 generalize m.getD i (0,[])=W at*
 generalize f.getD i []=t at*
 obtain⟨g,a,H,E,I,q,J,M,N⟩:=aLx G (f.drop i) n (l.drop (i+1)) t (f.drop (i+1)) F.symm B
 rw[N]at j
 obtain⟨T,C⟩:=j4 j
 have o:=h.bd
 have p:=h.cd
 rw[H]at o
 rw[M]at p
 have U:b.length=x+(g.length+n.1):=by
  have:=jab List.length o
  have S:=h.xl
  rw[jH,je,<-E]at this
  omega
 have V:c.length=y+(g.length+(q++aG5 (aO2 a (f.drop (i+1)))).length):=by
  have:=jab List.length p
  have S:=h.yl
  rw[jH,je]at this
  omega
 subst T
 have e1:b.length-n.1=x+g.length:=by omega
 have D:c.length-(q++aG5 (aO2 a (f.drop (i+1)))).length=y+g.length:=by omega
 have v:q.length<=(q++aG5 (aO2 a (f.drop (i+1)))).length:=by rw[je];omega
 have s:n.2.length<=n.1:=by rw[E,je];omega
 refine⟨a,⟨by omega,by simp only;omega,by omega,by simp only;omega,s,v,?_,?_⟩,⟨by omega,by simp only;omega,?_,?_,I,C⟩⟩
 ·simp only
  rw[e1,D,jdb,jdb,o,p,jci,jci]
 ·simp only
  rw[J]
  split
  ·rfl
  ·exact aT0 t r
 ·rw[e1,jcf,<-jay,o,<-jay,jbd,jbd]
 ·simp only
  rw[D,jcf,<-jay,p,<-jay,jbd,jbd]
theorem aOh(g:jB->jB)(b c:jB)(l:List LK)(d:List jB)(s:aGz g b=some l)(f:aOd g b d=(c,0)):
  d.length=l.length/\c.length<=4000/\∃m,aGz g c=some m/\m.length=l.length/\∀i,i<l.length->aTW (m.getD i (0,[])).2=if d.getD i []=[]then aTW (l.getD i (0,[])).2 else d.getD i []:=by
 unfold aOd at f
 rw[s]at f
 simp only at f
 split at f
 ·injection f with _ h;cases h
 ·rename_i B
  split at f
  ·injection f with _ h;cases h
  ·rename_i C
   split at f
   ·injection f with _ h;cases h
   ·rename_i D
    have v:d.length=l.length:=Decidable.not_not.1 B
    have a:d.all aNs=true:=by simpa using C
    injection f with hc _
    obtain⟨j,e1,q,r,k⟩:=aOo g b l d s v a (by omega)
    rw[hc]at r k D
    obtain⟨m,o⟩:∃m,m=aJW (aO2 j d) 0:=⟨_,rfl⟩
    rw[<-o]at k
    have p:m.length=l.length:=by rw[o,q];exact aO3 j d 0 0
    refine⟨v,by omega,m,k,p,?_⟩
    have A:aBb b c l m d 0 0 0 j:=⟨jy _,jy _,e1,r,q,o⟩
    have n:∀i,i<=l.length->∃x y j,aBb b c l m d i x y j:=by
     intro i
     induction i with
     |zero=>exact λ_=>⟨0,0,j,A⟩
     |succ i F=>
      intro t
      obtain⟨x,y,G,h⟩:=F (by omega)
      obtain⟨H,_,z⟩:=aOp h a (by omega) (by omega) (by omega)
      exact⟨_,_,H,z⟩
    intro i t
    obtain⟨x,y,G,h⟩:=n i (by omega)
    obtain⟨_,E,_⟩:=aOp h a t (by omega) (by omega)
    exact E.text
def Bt(ts:List jA)(x y:PT):Prop:=y.ty=x.ty/\y.cs=x.cs/\y.id=x.id/\y.loc=x.loc/\y.how=x.how/\y.kids.length=x.kids.length/\aGb ts x.body=(y.body,0)
def BtL(tx:Nat->List jA):Nat->List PT->List PT->Prop
 |_,[],[]=>True
 |k,x::l,y::m=>Bt (tx k) x y/\BtL tx (k+1) l m
 |_,_,_=>False
theorem BtL.len{a:Nat->List jA}:∀{l m:List PT} {k:Nat},BtL a k l m->m.length=l.length
 |[],[],_,_=>rfl
 |[],_::_,_,h=>h.elim
 |_::_,[],_,h=>h.elim
 |x::l,y::m,k,h=>by rw[jm,jm,BtL.len h.2]
theorem BtL.app{c:Nat->List jA}:∀{l m:List PT} {k:Nat} {a b:List PT},BtL c k l m->BtL c (k+l.length) a b->BtL c k (l++a) (m++b)
 |[],[],_,_,_,_,h=>h
 |[],_::_,_,_,_,h,_=>h.elim
 |_::_,[],_,_,_,h,_=>h.elim
 |x::l,y::m,k,a,b,h,h'=>⟨h.1,BtL.app h.2 (by rw[show k+1+l.length=k+(x::l).length from by rw[jm];omega];exact h')⟩
theorem BtL.at{a:Nat->List jA}:∀{l m:List PT} {k:Nat},BtL a k l m->∀j,j<l.length->Bt (a (k+j)) (l.getD j pt0) (m.getD j pt0)
 |[],[],_,_,j,hj=>by cases hj
 |[],_::_,_,h,_,_=>h.elim
 |_::_,[],_,h,_,_=>h.elim
 |x::l,y::m,k,h,0,_=>h.1
 |x::l,y::m,k,h,j+1,hj=>by
  have:=BtL.at h.2 j (by simpa using hj)
  rw[show k+1+j=k+(j+1)from by omega]at this
  exact this
theorem aNq(p:PT)(h:(aNh p).1=0):lev 3 p=true/\∀x∈aG3 4 p,aEb x=0:=by
 have b:=aNr p
 unfold aNh at h
 by_cases g:lev 3 p=true/\(aTg 4 p).length<=12
 ·rw[jo g]at b
  rw[b]at h
  simp only at h
  by_cases f:aGO ((aTg 4 p).map (abs 0 (-1)))=0
  ·refine⟨g.1,λx a=>?_⟩
   rw[<-aTh]at a
   obtain⟨y,i,rfl⟩:=jbi.1 a
   have:∀(L:List (PT×Int)),aGO L=0->∀x∈L,aEb x.1=0:=by
    intro L
    induction L with
    |nil=>intro _ x a;cases a
    |cons z L j=>
     intro c x a
     rw[aGO]at c
     split at c
     ·rename_i d
      rcases jad.1 a with rfl|a
      ·exact d
      ·exact j c x a
     ·rename_i d
      exact absurd c d
   exact this _ f _ (jbi.2 ⟨y,i,rfl⟩)
  ·rw[jh f]at h
   exact absurd h f
 ·rw[jh g]at b
  rw[b]at h
  cases h
theorem aGc{f:List jA}{b c:jB}(d:b.length<=4000)(h:aGb f b=(c,0)):c.length<=4000:=by
 unfold aGb at h
 split at h
 ·injection h with h _;rw[<-h];exact d
 ·cases a:aGz aKG b with
  |none=>unfold aOd at h;rw[a]at h;injection h with _ h;cases h
  |some l=>exact(aOh aKG b c l _ a h).2.1
def aGS(v:Int):Nat->List NM->Int
 |_,[]=>-1
 |k,n::l=>if n.1=v then(k:Int)else aGS v (k+1) l
def aR6(ns:List NM)(v:Int):jA:=if aGS v 0 ns<0 then⟨#[]⟩else(ns.getD (aGS v 0 ns).toNat nm0).2
def aUR(ns:List NM)(v:Int)(t:jB):jB:=if aGS v 0 ns<0 then t else(ns.getD (aGS v 0 ns).toNat nm0).2.data.toList
theorem aD1(parts:Int):∀(l:List NM) (c:Int) (seen:List jB),aDT parts c seen l=0->l.Pairwise (λa b=>a.1<b.1)/\∀n∈l,c<n.1/\0<=n.1/\aLa n.2.data.toList=true
 |[],_,_,_=>⟨.nil,λn d=>by cases d⟩
 |x::l,c,seen,h=>by
  rw[aDT]at h
  split at h
  ·cases h
  ·rename_i m
   split at h
   ·cases h
   ·rename_i i
    split at h
    ·cases h
    ·rename_i j
     obtain⟨k,g⟩:=aD1 parts l _ _ h
     refine⟨.cons (λn d=>(g n d).1) k,λn d=>?_⟩
     have f:c<x.1:=by
      by_cases hh:x.1<=c
      ·exact absurd (.inr hh) j
      ·omega
     rcases jad.1 d with rfl|d
     ·exact⟨f,by omega,by simpa using i⟩
     ·exact⟨by have:=(g n d).1;omega,(g n d).2⟩
structure aAZ(ns:List NM)(gi:List GL)(x y:PT):Prop where
 same:y.ty=x.ty/\y.cs=x.cs/\y.id=x.id/\y.loc=x.loc/\y.how=x.how
 aL5:x.ty.data.toList≠aIh->y.body=x.body
 found:x.ty.data.toList=aIh->∃m,aGz aKG y.body=some m/\gi.length=m.length/\aOd aKG x.body (tls (gi.map λg=>aR6 ns g.find))=(y.body,0)/\∀k,k<m.length->aTW (m.getD k (0,[])).2=aUR ns (gi.getD k gl0).find (gi.getD k gl0).text
def aUF(E:PT->Nat->Nat->PT×Nat×Nat):List PT->Nat->Nat->List PT×Nat×Nat
 |[],k,e=>([],k,e)
 |x::l,k,e=>((E x k e).1::(aUF E l (E x k e).2.1 (E x k e).2.2).1,(aUF E l (E x k e).2.1 (E x k e).2.2).2)
def aVf(e e':Nat):Nat:=if e=0 then e' else e
def aUK(tx:Nat->List jA):Nat->PT->Nat->Nat->PT×Nat×Nat
 |0,p,k,e=>(p,k,e)
 |f+1,p,k,e=>({p with body:=(aGb (tx k) p.body).1,kids:=(aUF (aUK tx f) p.kids (k+1) (aVf e (aGb (tx k) p.body).2)).1},(aUF (aUK tx f) p.kids (k+1) (aVf e (aGb (tx k) p.body).2)).2)
theorem aUO(a:Nat->List jA)(f:Nat)(p:PT)(k e:Nat):aUK a (f+1) p k e=({p with body:=(aGb (a k) p.body).1,kids:=(aUF (aUK a f) p.kids (k+1) (aVf e (aGb (a k) p.body).2)).1},(aUF (aUK a f) p.kids (k+1) (aVf e (aGb (a k) p.body).2)).2):=by rw[aUK]
theorem aUJ(E:PT->Nat->Nat->PT×Nat×Nat):∀(l:List PT) (x:PT) (k e:Nat),aUF E (l++[x]) k e=((aUF E l k e).1++[(E x (aUF E l k e).2.1 (aUF E l k e).2.2).1],(E x (aUF E l k e).2.1 (aUF E l k e).2.2).2)
 |[],x,k,e=>rfl
 |y::l,x,k,e=>by rw[jL,aUF,aUJ E l x,aUF];rfl
theorem aVg{e:Nat}(h:e≠0)(a:Nat):aVf e a=e:=jh h
theorem aVh(a:Nat):aVf 0 a=a:=rfl
theorem aUH(a:Nat->List jA)(f:Nat)(b:∀p k e,lev f p=true->(aUK a f p k e).2.1=k+(aG3 f p).length):∀(l:List PT) (k e:Nat),(∀x∈l,lev f x=true)->(aUF (aUK a f) l k e).2.1=k+(l.flatMap (aG3 f)).length
 |[],k,e,_=>rfl
 |x::l,k,e,h=>by
  rw[aUF,jbm,je]
  show(aUF (aUK a f) l _ _).2.1=_
  rw[aUH a f b l _ _ (λy c=>h y (jbe _ c)),b x k e (h x (by simp))]
  omega
theorem aUM(a:Nat->List jA):∀(f:Nat) (p:PT) (k e:Nat),lev f p=true->(aUK a f p k e).2.1=k+(aG3 f p).length
 |0,p,k,e,h=>by rw[lev]at h;cases h
 |f+1,p,k,e,h=>by
  rw[aJ7,jR]at h
  rw[aUO]
  show(aUF (aUK a f) p.kids _ _).2.1=_
  rw[aUH a f (aUM a f) _ _ _ h,aG4,jm]
  omega
theorem aUG(a:Nat->List jA)(f:Nat)(b:∀p k e,e≠0->(aUK a f p k e).2.2=e):∀(l:List PT) (k e:Nat),e≠0->(aUF (aUK a f) l k e).2.2=e
 |[],k,e,_=>rfl
 |x::l,k,e,h=>by
  rw[aUF]
  show(aUF (aUK a f) l _ _).2.2=_
  rw[b x k e h]
  exact aUG a f b l _ e h
theorem aUL(a:Nat->List jA):∀(f:Nat) (p:PT) (k e:Nat),e≠0->(aUK a f p k e).2.2=e
 |0,p,k,e,_=>rfl
 |f+1,p,k,e,h=>by
  rw[aUO,aVg h]
  exact aUG a f (aUL a f) _ _ e h
theorem aUI(a:Nat->List jA)(f:Nat)(d:∀p k,((aFH a f p k).1=0->aUK a f p k 0=((aFH a f p k).2.1,(aFH a f p k).2.2,0))/\((aFH a f p k).1≠0->(aUK a f p k 0).2.2=(aFH a f p k).1)):∀(l:List PT) (k:Nat),((aFC (aFH a f) l k).1=0->aUF (aUK a f) l k 0=((aFC (aFH a f) l k).2.1,(aFC (aFH a f) l k).2.2,0))/\((aFC (aFH a f) l k).1≠0->(aUF (aUK a f) l k 0).2.2=(aFC (aFH a f) l k).1)
 |[],k=>⟨λ_=>rfl,λh=>absurd rfl h⟩
 |x::l,k=>by
  by_cases b:(aFH a f x k).1=0
  ·rw[aFG _ x l k b,aUF,(d x k).1 b]
   have h:=aUI a f d l (aFH a f x k).2.2
   refine⟨λc=>?_,λc=>h.2 c⟩
   simp only
   rw[h.1 c]
  ·rw[aFD _ x l k b,aUF]
   refine⟨λc=>absurd c b,λ_=>?_⟩
   show(aUF (aUK a f) l _ _).2.2=_
   rw[(d x k).2 b]
   exact aUG a f (aUL a f) l _ _ b
theorem aUN(a:Nat->List jA):∀(f:Nat) (p:PT) (k:Nat),((aFH a f p k).1=0->aUK a f p k 0=((aFH a f p k).2.1,(aFH a f p k).2.2,0))/\((aFH a f p k).1≠0->(aUK a f p k 0).2.2=(aFH a f p k).1)
 |0,p,k=>⟨λ_=>rfl,λh=>absurd rfl h⟩
 |f+1,p,k=>by
  rw[aUO,aVh,aFH]
  by_cases c:(aGb (a k) p.body).2=0
  ·rw[jh (by rw[c];simp),c]
   have h:=aUI a f (aUN a f) p.kids (k+1)
   refine⟨λb=>?_,λb=>h.2 b⟩
   simp only at b⊢
   rw[h.1 b]
  ·rw[jo c]
   refine⟨λb=>absurd b c,λ_=>?_⟩
   exact aUG a f (aUL a f) _ _ _ c
def aDw(ns:List NM):Int->jA:=ns.foldl (λc n i=>if i=n.1 then n.2 else c i) (λ_=>jz)
theorem aDz(l:List NM)(n:NM):aDw (l++[n])=λi=>if i=n.1 then n.2 else aDw l i:=by unfold aDw;rw[jdz];rfl
theorem aDx(a:List NM)(i:Nat):aDw a (i:Int)=aDA a i:=by
 refine aQX (P:=λa=>aDw a (i:Int)=aDA a i) rfl (λl x b=>?_) a
 rw[aDz,aDD]
 simp only
 rw[b]
theorem aDy(a:List NM)(v:Int)(d:v<0):(∀n∈a,0<=n.1)->aDw a v=jz:=by
 refine aQX (P:=λa=>(∀n∈a,0<=n.1)->aDw a v=jz) (λ_=>rfl) (λl x c h=>?_) a
 rw[aDz]
 simp only
 rw[jh (λe=>by have:=h x (by simp);omega)]
 exact c (λn b=>h n (jcs _ b))
def aSG(cl:Int->jA)(gs:List GL):Int->List jA:=gs.foldl (λt g i=>if i=g.part then t i++[cl g.find]else t i) (λ_=>[])
theorem aSJ(a:Int->jA)(l:List GL)(g:GL):aSG a (l++[g])=λi=>if i=g.part then aSG a l i++[a g.find]else aSG a l i:=by unfold aSG;rw[jdz];rfl
theorem aSH(b:Int->jA)(a:List GL)(i:Int):(aSG b a i).length<=a.length:=by
 refine aQX (P:=λa=>(aSG b a i).length<=a.length) (jf _) (λl x c=>?_) a
 rw[aSJ]
 simp only
 split
 ·simp;exact c
 ·simp;omega
theorem aSI(a:List NM)(b:List GL)(h:∀n∈a,0<=n.1)(i:Nat):aSG (aDw a) b (i:Int)=aSL (aDA a) b i:=by
 have d:∀g:GL,aDw a g.find=aR4 (aDA a) g:=λg=>by
  unfold aR4
  split
  ·rename_i c
   rw[<-aDx,Int.toNat_of_nonneg c]
  ·exact aDy a _ (by omega) h
 refine aQX (P:=λb=>aSG (aDw a) b (i:Int)=aSL (aDA a) b i) rfl (λl x f=>?_) b
 rw[aSJ,aSO]
 simp only
 rw[f,d]
theorem aDB(parts:Int)(a:List NM)(j:aDT parts (-1) [] a=0)(i:Nat):(aDA a i).size<=30:=by
 have g:=(aD1 parts a (-1) [] j).2
 have:∀l:List NM,(∀n∈l,aLa n.2.data.toList=true)->(aDA l i).size<=30:=by
  intro l
  refine aQX (P:=λl=>(∀n∈l,aLa n.2.data.toList=true)->(aDA l i).size<=30) (λ_=>by show(⟨#[]⟩:ByteArray).size<=30;decide) (λl x k f=>?_) l
  rw[aDD]
  simp only
  split
  ·have d:=f x (by simp)
   rw[Lib.size_eq]
   generalize x.2.data.toList=s at*
   cases s with
   |nil=>simp
   |cons c t=>
    rw[aLb,j7,j7,jam]at d
    rw[jm]
    exact d.1.1
  ·exact k (λn b=>f n (jcs _ b))
 exact this a (λn b=>(g n b).2.2)
theorem aHV(b:jB->jB)(l:List PT)(d:List jB):∀(r:List PT) (k:Nat) (a G:List GL),(∀g∈a,-1<=g.find)->aHM b l d k r a=some G->∀g∈G,-1<=g.find
 |[],_,a,G,h,e=>by
  rw[aHM,jac]at e
  rw[<-e]
  exact h
 |p::r,k,a,G,h,e=>by
  rw[aHM]at e
  split at e
  ·cases f:aGz b p.body with
   |none=>rw[f]at e;cases e
   |some i=>
    rw[f]at e
    refine aHV b l d r (k+1) _ G (λg c=>?_) e
    rcases jY.1 c with c|c
    ·exact h g c
    ·obtain⟨x,_,rfl⟩:=jbi.1 c
     exact(aGE l d (aJT (aHn d k) (aTW x.2))).1
  ·exact aHV b l d r (k+1) a G h e
theorem aHS(p:PT)(G:List GL)(h:aHR p=some G):∀g∈G,GIn g/\-1<=g.find:=λg a=>⟨(aHT p G h).1 g a,aHV _ _ _ _ _ _ _ (λ_ h=>by cases h) h g a⟩
end Go.Proofs.YtbbfcbodhmeanaaGreatDoor

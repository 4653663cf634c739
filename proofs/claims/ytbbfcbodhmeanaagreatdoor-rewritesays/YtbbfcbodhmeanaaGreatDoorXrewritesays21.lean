import Derived.Test.YtbbfcbodhmeanaaGreatDoorXrewritesays20
import Derived.Test.YtbbfcbodhmeanaaGreatDoorXrewritesays11
set_option maxHeartbeats 8000000
set_option maxRecDepth 1000000
namespace Go.Proofs.YtbbfcbodhmeanaaGreatDoor
open Go.Proofs.Tryz
open Go.RowKit
theorem aB3(a:jA)(l:jB)(b:jA)(h:a.data.toList=l):a++b=bar (l++b.data.toList):=by
 apply aCx
 rw[aE7,h]
 rfl
theorem aTI(b u:UV)(v:b.short 120)(J:u.short 120)(w:World):
  Calls prog 95 #[b.v,u.v] w λe w'=>e=.returned ((ofL (aEo b.l u.l)).v)/\jb w w':=by
 obtain⟨l,d,k,a,j,q,i,p⟩:=b
 obtain⟨t,G,s,g,f,n,c,m⟩:=u
 obtain⟨_,_,D,_,_⟩:=v
 obtain⟨_,_,F,_,_⟩:=J
 simp only at D F
 cases G with
 |true=>exact aEs l k a q p t s g n m d j i f c w
 |false=>
  by_cases o:g.data.toList=[]
  ·obtain rfl:=aC2 g o
   cases f with
   |true=>exact aEq l k a q p t s n m d j i c w
   |false=>exact aEr l k a q p t s n m d j i c w
  ·have C:=aC0 g o
   have z:=aNC g o
   have B:=aNK g z
   have E:aEo (UV.l ⟨l,d,k,a,j,q,i,p⟩) (UV.l ⟨t,false,s,g,f,n,c,m⟩)=if aNE g.data.toList then⟨l.data.toList,d,k.data.toList,g.data.toList,f,n.data.toList,c,m.data.toList⟩else if d&&a.data.toList.isEmpty then⟨l.data.toList,d,k.data.toList,47::g.data.toList,f,n.data.toList,c,m.data.toList⟩else⟨l.data.toList,d,k.data.toList,aFg a.data.toList++g.data.toList,f,n.data.toList,c,m.data.toList⟩:=by
    unfold aEo UV.l
    simp only
    rw[jh (by simp),jh (by rw[aI0 g o];simp)]
   rw[E]
   cases y:((g[0].toNat:Int)==47)with
   |true=>
    rw[B,y,jo rfl]
    exact aEw l k a q p t s g n m d j i f c C z y w
   |false=>
    rw[B,y,jh (by simp)]
    have r:∀W,Calls prog 147 #[.string a,.int .u8 47] W λe w'=>e=.returned (.int .i64 (Lib.lastIndexByte a 47))/\w'=W:=λW=>strings_LastIndexByte a 47 (by omega) W
    obtain⟨d1,d2,d3⟩:=aJy a
    have H:a.extract 0 (Lib.lastIndexByte a 47+1).toNat=bar (aFg a.data.toList):=by
     apply aCx
     rw[Lib.extract_data,d3]
     simp[bar]
    have A:(bar (aFg a.data.toList)).size<=1000:=by
     rw[aCK,d3,jF]
     have:=Lib.size_eq a
     omega
    have I:Lib.lastIndexByte a 47+1=(((Lib.lastIndexByte a 47+1).toNat:Nat):Int):=by omega
    cases d with
    |true=>
     by_cases x:a.data.toList=[]
     ·obtain rfl:=aC2 a x
      rw[jo (by rfl)]
      refine(aEp l k q p t s g n m j i f c C z y (by omega) w).mono ?_
      rintro e w' ⟨rfl,v⟩
      refine⟨?_,v⟩
      rw[aB3 ⟨#[47]⟩ [47] g rfl]
      rfl
     ·rw[jh (by rw[aI0 a x];simp)]
      refine(aEv l k a q p t s g n m j i f c C z y (by omega) (by omega) _ _ I d1 _ H A (aC0 a x) r w).mono ?_
      rintro e w' ⟨rfl,v⟩
      refine⟨?_,v⟩
      rw[aB3 (bar (aFg a.data.toList)) _ g rfl]
      rfl
    |false=>
     rw[jh (by simp)]
     refine(aEt l k a q p t s g n m j i f c C z y (by omega) (by omega) _ _ I d1 _ H A r w).mono ?_
     rintro e w' ⟨rfl,v⟩
     refine⟨?_,v⟩
     rw[aB3 (bar (aFg a.data.toList)) _ g rfl]
     rfl
def tot(xs:List jB):Nat:=(xs.map λx=>x.length+1).sum
theorem aS7(a b:List jB):tot (a++b)=tot a+tot b:=by simp[tot]
theorem aS9(a:jB)(b:List jB):tot (a::b)=a.length+1+tot b:=by simp[tot]
theorem aTc:tot []=0:=rfl
theorem aS8(s:jB)(a:List jB):tot (aCA s a)<=tot a:=by
 unfold aCA
 split
 ·rcases jeg a with rfl|⟨l,y,rfl⟩
  ·exact jf _
  ·rw[jeh,jeo,aS7];omega
 ·exact jf _
theorem aTa:∀(c a:List jB),tot (aFn c a)<=tot a+tot c
 |[],a=>by rw[aFn,aTc];omega
 |s::r,a=>by
  rw[aFn,aS9]
  split
  ·have d:=aS8 s a
   have b:=aTa r (if r.isEmpty then aCA s a++[[]]else aCA s a)
   have f:tot (if r.isEmpty then aCA s a++[[]]else aCA s a)<=tot a+1:=by
    split
    ·rw[aS7];show tot (aCA s a)+1<=_;omega
    ·omega
   omega
  ·have b:=aTa r (a++[s])
   rw[aS7,aS9,aTc]at b
   omega
theorem aTb(c:List jB):(aI9 c).length<=tot c:=by
 cases c with
 |nil=>exact jy _
 |cons a t=>
  show(aI7 [47] a t).length<=_
  induction t generalizing a with
  |nil=>rw[aS9];simp[aI7];omega
  |cons b t d=>
   have:=d b
   rw[aS9]
   simp only[aI7,je,jm,jag]
   omega
theorem aTd:∀l:jB,tot (aML l)=l.length+1
 |[]=>rfl
 |c::r=>by
  have a:=aTd r
  unfold aML at a⊢
  rw[aQ3]
  split
  ·rw[aS9];simp only;rw[a];simp;omega
  ·simp only
   rw[aS9]at a⊢
   simp only[jm]
   omega
theorem aT4(p:jB):(aT3 p).length<=p.length+1:=by
 have b:=aTb (aFn (aML p) [])
 have a:=aTa (aML p) []
 rw[aTc,aTd]at a
 unfold aT3
 omega
theorem aEy(b u:UL)(N:Nat)(j:b.sch.length<=N)(k:b.hst.length<=N)(l:b.pth.length<=N)(n:b.qry.length<=N)(d:u.hst.length<=N)(f:u.pth.length<=N)(g:u.qry.length<=N)(i:u.frg.length<=N):
  (aEo b u).sch.length<=N/\(aEo b u).hst.length<=N/\(aEo b u).pth.length<=N+N+1/\(aEo b u).qry.length<=N/\(aEo b u).frg.length<=N:=by
 obtain⟨m,c⟩:=aFh b.pth
 have a:=jab List.length c
 rw[je]at a
 unfold aEo
 repeat' split
 all_goals (refine⟨?_,?_,?_,?_,?_⟩<;>simp only[je,jm]<;>omega)
theorem aUf{w w':World}{e:Ending}(y:UV)(L:Bool)(n:Nat)(a:L=aKe y.l)(c:n=aDW y.l)(h:e=.returned (.tuple #[if L=true then(ofL aLD).v else if n=0 then y.v else(ofL aLD).v,.int .i64 (if L=true then 4 else(n:Int))])/\jb w w'):aBB w (aFU y.l) e w':=by
 obtain⟨rfl,b⟩:=h
 refine⟨?_,b⟩
 subst a c
 unfold aFU aD3
 cases d:aKe y.l with
 |true=>rw[jo rfl,jo rfl,jo rfl];rfl
 |false=>
  by_cases h:aDW y.l=0
  ·simp only[h,jdw,jei,jdl]
   rfl
  ·simp only[h,jdw,jei]
theorem aNP(s:jA)(w:World):Calls prog 59 #[.string s,.string ⟨#[47]⟩] w λe w'=>e=.returned (.bool (aNE s.data.toList))/\w'=w:=by
 refine(strings_HasPrefix s ⟨#[47]⟩ w).mono ?_
 rintro e w' ⟨rfl,rfl⟩
 refine⟨?_,rfl⟩
 rw[show Lib.hasPrefix s.data.toList (ByteArray.mk #[47]).data.toList=aNE s.data.toList from by
  show Lib.hasPrefix s.data.toList [47]=aNE s.data.toList
  cases s.data.toList with
  |nil=>rfl
  |cons a l=>simp[Lib.hasPrefix,List.isPrefixOf,aNE,Bool.beq_comm]]
theorem aTU(b u:UV)(I:b.short maxLen)(hu:u.short maxLen)(w:World)(hM:aAP w):
  Calls prog 51 #[b.v,u.v] w λe w'=>aBB w (aJG b.l u.l) e w':=by
 have G:=λW=>aTG b I W
 have N:=λW=>aTG u hu W
 obtain⟨s,k,z,A,l,B,j,D⟩:=b
 obtain⟨q,p,n,d,c,o,a,m⟩:=u
 unfold aJG
 by_cases E:aDW (UV.l ⟨s,k,z,A,l,B,j,D⟩)=0
 ·by_cases J:aDW (UV.l ⟨q,p,n,d,c,o,a,m⟩)=0
  ·rw[jh (by simpa using E),jh (by simpa using J)]
   rw[E]at G
   rw[J]at N
   have sb:=aDX E
   have su:=aDX J
   by_cases C:s.data.toList=[]
   ·obtain rfl:=aC2 s C
    rw[jo (by rfl)]
    refine(aJO z A B D q n d o m k l j p c a w G N).mono ?_
    rintro e w' ⟨rfl,I⟩
    exact⟨rfl,I⟩
   ·rw[jh (by show¬s.data.toList.isEmpty=true;rw[aI0 s C];simp)]
    obtain⟨R,S,T,U,b5⟩:=sb
    obtain⟨u1,Z,u3,u4,u5⟩:=su
    simp only at R S T U b5 u1 Z u3 u4 u5
    by_cases L:q.data.toList=[]
    ·obtain rfl:=aC2 q L
     have P:=λW=>aTI ⟨s,k,z,A,l,B,j,D⟩ ⟨jz,p,n,d,c,o,a,m⟩ ⟨R,S,T,U,b5⟩ ⟨u1,Z,u3,u4,u5⟩ W
     have O:=aEy (UV.l ⟨s,k,z,A,l,B,j,D⟩) (UV.l ⟨jz,p,n,d,c,o,a,m⟩) 120 (by show s.data.toList.length<=120;rw[<-Lib.size_eq];exact R) (by show z.data.toList.length<=120;rw[<-Lib.size_eq];exact S) (by show A.data.toList.length<=120;rw[<-Lib.size_eq];exact T) (by show B.data.toList.length<=120;rw[<-Lib.size_eq];exact U) (by show n.data.toList.length<=120;rw[<-Lib.size_eq];exact Z) (by show d.data.toList.length<=120;rw[<-Lib.size_eq];exact u3) (by show o.data.toList.length<=120;rw[<-Lib.size_eq];exact u4) (by show m.data.toList.length<=120;rw[<-Lib.size_eq];exact u5)
     have F:aHr (UV.l ⟨s,k,z,A,l,B,j,D⟩) (UV.l ⟨jz,p,n,d,c,o,a,m⟩)=aEo (UV.l ⟨s,k,z,A,l,B,j,D⟩) (UV.l ⟨jz,p,n,d,c,o,a,m⟩):=rfl
     rw[F]
     generalize aEo (UV.l ⟨s,k,z,A,l,B,j,D⟩) (UV.l ⟨jz,p,n,d,c,o,a,m⟩)=Y at*
     obtain⟨y,V,v,r,g,x,f,f1⟩:=Y
     obtain⟨l1,l2,l3,l4,l5⟩:=O
     simp only at l1 l2 l3 l4 l5
     have X:=aT4 r
     have H:=λW (I:jb w W)=>aTR (bar r) W (hM.below I) (by rw[aCK];omega)
     cases V with
     |true=>
      have i:aT1 ⟨y,true,v,r,g,x,f,f1⟩=UV.l ⟨bar y,true,bar v,bar (aT3 r),g,bar x,f,bar f1⟩:=rfl
      rw[i]
      exact(aJI s z A B D n d o m (bar y) (bar v) (bar r) (bar x) (bar f1) (bar (aT3 r)) k l j p c a g f C _ _ w G N P H (λW=>aTV (bar y) (bar v) (bar (aT3 r)) (bar x) (bar f1) true g f W) (λW=>aTG ⟨bar y,true,bar v,bar (aT3 r),g,bar x,f,bar f1⟩ (by unfold maxLen;exact⟨by rw[aCK];omega,by rw[aCK];omega,by rw[aCK];omega,by rw[aCK];omega,by rw[aCK];omega⟩) W)).mono (λe w' h=>aUf ⟨bar y,true,bar v,bar (aT3 r),g,bar x,f,bar f1⟩ _ _ rfl rfl h)
     |false=>
      have M:=λW=>aNP (bar r) W
      rw[aCJ]at M
      cases t:aNE r with
      |true=>
       rw[t]at M
       have i:aT1 ⟨y,false,v,r,g,x,f,f1⟩=UV.l ⟨bar y,false,bar v,bar (aT3 r),g,bar x,f,bar f1⟩:=by unfold aT1;rw[jo (by simp only[t];rfl)];rfl
       rw[i]
       exact(aJK s z A B D n d o m (bar y) (bar v) (bar r) (bar x) (bar f1) (bar (aT3 r)) k l j p c a g f C _ _ w G N P M H (λW=>aTV (bar y) (bar v) (bar (aT3 r)) (bar x) (bar f1) false g f W) (λW=>aTG ⟨bar y,false,bar v,bar (aT3 r),g,bar x,f,bar f1⟩ (by unfold maxLen;exact⟨by rw[aCK];omega,by rw[aCK];omega,by rw[aCK];omega,by rw[aCK];omega,by rw[aCK];omega⟩) W)).mono (λe w' h=>aUf ⟨bar y,false,bar v,bar (aT3 r),g,bar x,f,bar f1⟩ _ _ rfl rfl h)
      |false=>
       rw[t]at M
       have i:aT1 ⟨y,false,v,r,g,x,f,f1⟩=UV.l ⟨bar y,false,bar v,bar r,g,bar x,f,bar f1⟩:=by unfold aT1;rw[jh (by simp only[t];simp)];rfl
       rw[i]
       exact(aJJ s z A B D n d o m (bar y) (bar v) (bar r) (bar x) (bar f1) k l j p c a g f C _ _ w G N P M (λW=>aTV (bar y) (bar v) (bar r) (bar x) (bar f1) false g f W) (λW=>aTG ⟨bar y,false,bar v,bar r,g,bar x,f,bar f1⟩ (by unfold maxLen;exact⟨by rw[aCK];omega,by rw[aCK];omega,by rw[aCK];omega,by rw[aCK];omega,by rw[aCK];omega⟩) W)).mono (λe w' h=>aUf ⟨bar y,false,bar v,bar r,g,bar x,f,bar f1⟩ _ _ rfl rfl h)
    ·have F:aHr (UV.l ⟨s,k,z,A,l,B,j,D⟩) (UV.l ⟨q,p,n,d,c,o,a,m⟩)=UV.l ⟨q,p,n,d,c,o,a,m⟩:=by
      unfold aHr
      rw[jh]
      show¬q.data.toList.isEmpty=true
      rw[aI0 q L];simp
     rw[F]
     have X:=aT4 d.data.toList
     have aa:=Lib.size_eq d
     have H:=λW (I:jb w W)=>aTR d W (hM.below I) (by omega)
     cases p with
     |true=>
      have i:aT1 (UV.l ⟨q,true,n,d,c,o,a,m⟩)=UV.l ⟨q,true,n,bar (aT3 d.data.toList),c,o,a,m⟩:=rfl
      rw[i]
      exact(aJL s z A B D q n d o m (bar (aT3 d.data.toList)) k l j c a C L _ _ w G N H (λW=>aTV q n (bar (aT3 d.data.toList)) o m true c a W) (λW=>aTG ⟨q,true,n,bar (aT3 d.data.toList),c,o,a,m⟩ (by unfold maxLen;exact⟨by simp only;omega,by simp only;omega,by rw[aCK];omega,by simp only;omega,by simp only;omega⟩) W)).mono (λe w' h=>aUf ⟨q,true,n,bar (aT3 d.data.toList),c,o,a,m⟩ _ _ rfl rfl h)
     |false=>
      have M:=λW=>aNP d W
      cases t:aNE d.data.toList with
      |true=>
       rw[t]at M
       have i:aT1 (UV.l ⟨q,false,n,d,c,o,a,m⟩)=UV.l ⟨q,false,n,bar (aT3 d.data.toList),c,o,a,m⟩:=by
        unfold aT1
        rw[jo (by show(false||aNE d.data.toList)=true;rw[t];rfl)]
        rfl
       rw[i]
       exact(aJN s z A B D q n d o m (bar (aT3 d.data.toList)) k l j c a C L _ _ w G N M H (λW=>aTV q n (bar (aT3 d.data.toList)) o m false c a W) (λW=>aTG ⟨q,false,n,bar (aT3 d.data.toList),c,o,a,m⟩ (by unfold maxLen;exact⟨by simp only;omega,by simp only;omega,by rw[aCK];omega,by simp only;omega,by simp only;omega⟩) W)).mono (λe w' h=>aUf ⟨q,false,n,bar (aT3 d.data.toList),c,o,a,m⟩ _ _ rfl rfl h)
      |false=>
       rw[t]at M
       have i:aT1 (UV.l ⟨q,false,n,d,c,o,a,m⟩)=UV.l ⟨q,false,n,d,c,o,a,m⟩:=by
        unfold aT1
        rw[jh (by show¬(false||aNE d.data.toList)=true;rw[t];simp)]
       rw[i]
       exact(aJM s z A B D q n d o m k l j c a C L _ _ w G N M (λW=>aTV q n d o m false c a W) (λW=>aTG ⟨q,false,n,d,c,o,a,m⟩ hu W)).mono (λe w' h=>aUf ⟨q,false,n,d,c,o,a,m⟩ _ _ rfl rfl h)
  ·rw[jh (by simpa using E),jo J]
   rw[E]at G
   refine(aJS s z A B D q n d o m k l j p c a _ J w G N).mono ?_
   rintro e w' ⟨rfl,I⟩
   exact⟨rfl,I⟩
 ·rw[jo E]
  refine(aJP s z A B D q n d o m k l j p c a _ E w G).mono ?_
  rintro e w' ⟨rfl,I⟩
  exact⟨rfl,I⟩
theorem aD4(u:UL):(ofL (aD3 u).1).short maxLen:=by
 unfold aD3
 split
 ·rename_i h
  exact(aDX (u:=ofL u) (by rw[aLP];exact h)).mono (by decide)
 ·show(ofL aLD).short maxLen;unfold UV.short;decide
theorem aMx(s:jB):(ofL (aMw s).1).short maxLen:=by
 have a:(ofL aLD).short maxLen:=by unfold UV.short;decide
 unfold aMw
 split
 ·exact a
 ·unfold aMv
  split
  ·exact aD4 _
  ·split
   ·exact a
   ·exact aD4 _
theorem aJH(b u:UL):(ofL (aJG b u).1).short maxLen:=by
 have a:(ofL aLD).short maxLen:=by unfold UV.short;decide
 unfold aJG
 split
 ·exact a
 ·split
  ·exact a
  ·split
   ·exact a
   ·unfold aFU
    split
    ·exact a
    ·exact aD4 _
theorem aDc(a b:jA)(q:a.size<=maxLen)(r:b.size<=maxLen)(w:World)(o:aAP w):
  Calls prog 12 #[.string a,.string b] w λe w'=>e=.returned (.string (bar (aJT a.data.toList b.data.toList)))/\jb w w':=by
 have m:=λW=>aUd a q W
 have n:=λW=>aUd b r W
 have i:=aMx a.data.toList
 have j:=aMx b.data.toList
 have k:=λW (p:jb w W)=>aTU (ofL (aMw a.data.toList).1) (ofL (aMw b.data.toList).1) i j W (o.below p)
 have l:=λW=>aUg (ofL (aJG (aMw a.data.toList).1 (aMw b.data.toList).1).1) (aJH _ _) W
 rw[aLP]at l
 simp only[aLP]at k
 unfold aJT
 generalize aMw a.data.toList=P at*
 generalize aMw b.data.toList=Q at*
 generalize aJG P.1 Q.1=L at*
 generalize aNT L.1=T at*
 refine(aDd w a b _ _ _ _ _ _ _ _ _ _ _ _ _ _ _ ⟨T.1.toArray⟩ _ _ _ _ _ _ _ _ _ P.2 Q.2 L.2 T.2 m n k l).mono ?_
 rintro e w' ⟨rfl,g⟩
 refine⟨?_,g⟩
 congr 2
 by_cases c:P.2≠0
 ·rw[jo c,jo c];rfl
 ·rw[jh c,jh c]
  by_cases d:Q.2≠0
  ·rw[jo d,jo d];rfl
  ·rw[jh d,jh d]
   by_cases f:L.2≠0
   ·rw[jo f,jo f];rfl
   ·rw[jh f,jh f];rfl
def tx8(l:jB):jA:=⟨l.toArray⟩
theorem aTy(l:jB):(tx8 l).data.toList=l:=rfl
theorem aTA(l:jB):(tx8 l).size=l.length:=by show l.toArray.size=_;simp
structure SAt(w:World)(g:Nat)(q:jO)(c:Nat)(L:List PT)(wh:List jB):Prop where
 blk:∃cs,w.heap[g]?=some (.cells cs 77)/\cs[0]?=some (.slice q L.length c)/\∀i,i<12->cs[1+i]?=some (.string (tx8 (wh.getD i [])))
 few:L.length<=12
 cap:L.length<=c/\c<=maxLen
 kids:KAt w 1 q L
 short:∀x∈wh,x.length<=120
theorem SAt.slice{w:World}{g:Nat}{q:jO}{c:Nat}{L:List PT}{d:List jB}(h:SAt w g q c L d):w.cell? (jx g 0)=some (.slice q L.length c):=by
 obtain⟨cs,a,b,-⟩:=h.blk
 rw[aDe a,b]
theorem SAt.text{w:World}{g:Nat}{q:jO}{c:Nat}{L:List PT}{a:List jB}(h:SAt w g q c L a)(i:Nat)(f:i<12):w.cell? (jx g (1+i))=some (.string (tx8 (a.getD i []))):=by
 obtain⟨cs,b,-,d⟩:=h.blk
 rw[aDe b,d i f]
theorem SAt.lt{w:World}{g:Nat}{q:jO}{c:Nat}{L:List PT}{b:List jB}(h:SAt w g q c L b):g<w.heap.size:=by
 obtain⟨cs,a,-⟩:=h.blk
 exact(jl.1 a).1
theorem SAt.below{w w':World}{g:Nat}{q:jO}{c:Nat}{L:List PT}{b:List jB}(h:SAt w g q c L b)(a:jb w w'):SAt w' g q c L b:=by
 obtain⟨cs,d,f,i⟩:=h.blk
 exact⟨⟨cs,aDj d a,f,i⟩,h.few,h.cap,KAt.below a _ _ _ h.kids,h.short⟩
theorem aUT{a:List jB}(h:∀x∈a,x.length<=120)(i:Nat):(a.getD i []).length<=120:=by
 rw[jd]
 cases b:a[i]? with
 |none=>simp
 |some y=>simpa using h y (jav b)
theorem aTz(l:jB):(tx8 l).toList.isEmpty=l.isEmpty:=by rw[jj,aTy]
theorem aHp(i:Int)(o:i<12)(w:World)(g:Nat)(q:jO)(c:Nat)(L:List PT)(a:List jB)(h:SAt w g q c L a):
  Calls prog 41 #[.pointer (some (jx g 0)),.int .i64 i] w λe w'=>e=.returned (.string (tx8 (aHn a i)))/\w'=w:=by
 by_cases j:i<0
 ·have f:Hid (aHn a i=aLG):=by unfold Hid aHn;rw[jo j]
  clear h
  go_enter func41,ntmps41
  go_wp2
  go_ret
  exact⟨by rw[f.out];rfl,rfl⟩
 ·obtain⟨k,rfl⟩:∃k:Nat,i=(k:Int):=⟨i.toNat,by omega⟩
  have n:k<12:=by omega
  have m:=h.text k n
  clear h
  have d:=aTz (a.getD k [])
  by_cases b:a.getD k []=[]
  ·have f:Hid (aHn a k=aLG):=by unfold Hid aHn;rw[jh j,jo (by simpa using b)]
   rw[b]at m d
   have l:(tx8 []).toList.isEmpty=true:=d
   clear d b
   go_enter func41,ntmps41
   go_wp2
   go_ret
   exact⟨by rw[f.out];rfl,rfl⟩
  ·have f:Hid (aHn a k=a.getD k []):=by unfold Hid aHn;rw[jh j,jh (by simpa using b)];simp
   have l:(tx8 (a.getD k [])).toList.isEmpty=false:=by rw[d];simpa using b
   clear d b
   generalize a.getD k []=t at*
   go_enter func41,ntmps41
   go_wp2
   go_ret
   exact⟨by rw[f.out];rfl,rfl⟩
theorem SAt.part{w:World}{g:Nat}{q:jO}{c:Nat}{L:List PT}{m:List jB}(h:SAt w g q c L m)(k:Nat)(a:k<L.length):
  ∃b o,q=some (jx b o)/\b<w.heap.size/\∃j d l f,aA1 w b (o+k*7) (L.getD k pt0) j d l f/\aA3 w 0 (L.getD k pt0) j d l f:=by
 obtain⟨b,o,e,i⟩:=KAt.each h.kids (λe=>by rw[e]at a;simp at a)
 exact⟨b,o,e,(i k a).lt,i k a⟩
theorem aLQ(k:Nat)(w:World)(g:Nat)(q:jO)(c:Nat)(L:List PT)(z:List jB)(l:k<L.length)(h:SAt w g q c L z)(s r:Nat)(t:jB)(C:w.cell? (jx s 0)=some (.pointer (some (jx g 0))))(D:w.cell? (jx r 0)=some (.string (tx8 t))):
  Calls prog 83 #[.int .i64 (k:Int),.pointer (some (jx s 0)),.pointer (some (jx r 0))] w λe w'=>e=.returned (.bool (aLU t k (L.getD k pt0)))/\∃m,w'=w.drewN m:=by
 obtain⟨b,o,rfl,-,E,A,F,B,⟨-,-,c2,-⟩,-⟩:=h.part k l
 have y:=h.slice
 have j:=h.cap.1
 have v:=h.cap.2
 have i:=h.few
 clear h
 obtain⟨n,p⟩:∃n,L.length=n:=⟨_,rfl⟩
 rw[p]at l y j i
 clear p
 have a:Hid (aLU t k (L.getD k pt0)=(!(L.getD k pt0).id.toList.isEmpty&&((L.getD k pt0).id.toList==(tx8 t).toList))):=by
  unfold Hid aLU
  rw[jj,jj,aTy]
 generalize (L.getD k pt0).id=I at*
 generalize aLU t k (L.getD k pt0)=R at*
 have x:(k:Int)<(n:Int):=by omega
 by_cases d:I.toList.isEmpty=true
 ·have f:Hid (R=false):=by unfold Hid;rw[a.out,d];rfl
  clear a
  go_enter func83,ntmps83
  go_wp2_with fail
  go_quiet (fail)
  go_wp2_with fail
  go_ret
  exact⟨by rw[f.out];rfl,_,rfl⟩
 ·have d:I.toList.isEmpty=false:=by simpa using d
  have f:Hid (R=(I.toList==(tx8 t).toList)):=by unfold Hid;rw[a.out,d];rfl
  clear a
  go_enter func83,ntmps83
  go_wp2_with fail
  go_quiet (fail)
  go_wp2_with fail
  go_ret
  exact⟨by rw[f.out];rfl,_,rfl⟩
theorem aLR(k:Nat)(w:World)(g:Nat)(q:jO)(c:Nat)(L:List PT)(a:List jB)(F:k<L.length)(h:SAt w g q c L a)(v s:Nat)(t:jB)(y:w.cell? (jx v 0)=some (.pointer (some (jx g 0))))(A:w.cell? (jx s 0)=some (.string (tx8 t))):
  Calls prog 84 #[.int .i64 (k:Int),.pointer (some (jx v 0)),.pointer (some (jx s 0))] w λe w'=>e=.returned (.bool (aLV a t k (L.getD k pt0)))/\jb w w':=by
 obtain⟨b,o,rfl,B,pb,V,pk,X,⟨-,-,-,c3,-⟩,-⟩:=h.part k F
 have l:=h.lt
 have D:=h.slice
 have C:=h.cap.1
 have N:=h.cap.2
 have z:=h.few
 have J:=h.text k (by omega)
 have S:(a.getD k []).length<=120:=aUT h.short k
 clear h
 obtain⟨n,H⟩:∃n,L.length=n:=⟨_,rfl⟩
 rw[H]at F D C z
 clear H
 have m:Hid (aLV a t k (L.getD k pt0)=(!(L.getD k pt0).loc.toList.isEmpty&&((tx8 (aLy (a.getD k []))).toList==(tx8 t).toList))):=by
  unfold Hid aLV
  rw[jj,jj,jj,aTy,aTy]
 have E:Hid (∀W,Calls prog 80 #[.string (tx8 (a.getD k []))] W λe w'=>e=.returned (.string (tx8 (aLy (a.getD k []))))/\jb W w'):=λW=>aDa _ (by rw[aTA];unfold maxLen;omega) W
 generalize (L.getD k pt0).loc=I at*
 generalize aLV a t k (L.getD k pt0)=R at*
 generalize aLy (a.getD k [])=M at*
 generalize a.getD k []=U at*
 have P:(k:Int)<(n:Int):=by omega
 have G:(k:Int)<12:=by omega
 have O:(0:Int)<=(k:Int):=by omega
 by_cases r:I.toList.isEmpty=true
 ·have x:Hid (R=false):=by unfold Hid;rw[m.out,r];rfl
  clear m E
  go_enter func84,ntmps84
  go_wp2_with fail
  go_quiet (fail)
  go_wp2_with fail
  go_ret
  exact⟨by rw[x.out];rfl,below_drewN' (jr _ _) _⟩
 ·have r:I.toList.isEmpty=false:=by simpa using r
  have x:Hid (R=((tx8 M).toList==(tx8 t).toList)):=by unfold Hid;rw[m.out,r];rfl
  clear m
  have Y:∀w',jb w w'->w'.cell? (jx v 0)=some (.pointer (some (jx g 0))):=λw' d=>(d.cell (p:=jx v 0) (ji w _ y)).trans y
  have Z:∀w',jb w w'->w'.cell? (jx s 0)=some (.string (tx8 t)):=λw' d=>(d.cell (p:=jx s 0) (ji w _ A)).trans A
  have k3:∀w',jb w w'->w'.cell? (jx g 0)=some (.slice (some (jx b o)) n c):=λw' d=>(d.cell (p:=jx g 0) l).trans D
  have k4:∀w',jb w w'->w'.cell? (jx g (1+k))=some (.string (tx8 U)):=λw' d=>(d.cell (p:=jx g (1+k)) l).trans J
  have k5:∀w',jb w w'->w'.cell? ⟨b,o+k*7+3,none⟩=some (.string I):=λw' d=>(d.cell (p:=⟨b,o+k*7+3,none⟩) B).trans c3
  clear y A D J c3
  have f:jb w w:=jr _ _
  go_enter func84,ntmps84
  go_wp2_with fail
  go_region_held3 (λw'=>jb w w') (first|assumption|exact f.drew) (first
   |(go_at_call 80;refine(E.out _).mono ?_;rintro e T ⟨rfl,i⟩;have j:jb w T:=(f.drew).trans (i.mono (jf _));clear i))
  go_wp2_with fail
  go_ret
  exact⟨by rw[x.out];rfl,j⟩
theorem aGX(a:Nat->PT->Bool)(L:List PT)(k:Nat)(b:k<L.length)(h:¬(aK5 (L.getD k pt0).ty.data.toList=false/\a k (L.getD k pt0)=true)):aGT a k (L.drop k)=aGT a (k+1) (L.drop (k+1)):=by
 have e:L.getD k pt0=L[k]:=by rw[jd,jc b];rfl
 rw[e]at h
 rw[jE b,aGT,jh h]
theorem aGV(b:Nat->PT->Bool)(L:List PT)(k:Nat)(a:k<L.length)(h:aK5 (L.getD k pt0).ty.data.toList=false/\b k (L.getD k pt0)=true):aGT b k (L.drop k)=k:=by
 have e:L.getD k pt0=L[k]:=by rw[jd,jc a];rfl
 rw[e]at h
 rw[jE a,aGT,jo h]
theorem aGZ(F:Nat)(d:Array Value)(f:Nat->PT->Bool)(w:World)(g:Nat)(q:jO)(c:Nat)(L:List PT)(I:List jB)(h:SAt w g q c L I)
  (E:∀(args:Array Value) (W:World),Sem.run prog (callFunc F args) W=.ok (.enter F args) W)
  (m:∀(k:Nat) (W:World),k<L.length->jb w W->Calls prog F (#[.int .i64 (k:Int)]++d) W λe w'=>e=.returned (.bool (f k (L.getD k pt0)))/\jb W w'):
  Calls prog 82 #[.pointer (some (jx g 0)),.func (Fn.func F) #[] d] w (jG (.int .i64 (aGT f 0 L)) w):=by
 have M:Hid (SAt w g q c L I):=h
 have J:Hid (∀(k:Nat) (W:World),k<L.length->jb w W->Calls prog F (#[.int .i64 (k:Int)]++d) W λe w'=>e=.returned (.bool (f k (L.getD k pt0)))/\jb W w'):=m
 have V:=h.slice
 have D:=h.cap.1
 have U:=h.cap.2
 have B:=h.few
 clear h m
 obtain⟨n,s⟩:∃n,L.length=n:=⟨_,rfl⟩
 have y:Hid _:=s
 rw[s]at V D B
 clear s
 obtain⟨R,C⟩:∃R,aGT f 0 L=R:=⟨_,rfl⟩
 have H:Hid _:=C
 rw[C]
 clear C
 go_enter func82,ntmps82
 go_wp2_with fail
 go_loopw[12] (λiv wr=>∃k:Nat,k<=n/\iv=.int .i64 k/\jb w wr/\Hid (aGT f k (L.drop k)=R)) (λiv _=>n-(intOf iv).toNat)
 case atStart=>exact⟨0,jy _,rfl,jr _ _,H⟩
 case round=>
  obtain⟨k,hk,rfl,i,x⟩:=hrel
  clear H
  by_cases l:k<n
  ·have G:(k:Int)<(n:Int):=by omega
   obtain⟨b,o,rfl,T,pb,Z,pk,ck,⟨c0,c1,c2,c3,c4,c5,c6⟩,P⟩:=(M.out.below i).part k (by rw[y.out];exact l)
   have A:Hid (∀W,Calls prog 18 #[.string (L.getD k pt0).ty] W λe w'=>e=.returned (.bool (aK5 (L.getD k pt0).ty.data.toList))/\w'=W):=λW=>aNx _ W
   have v:Hid (∀(W:World),jb w W->Calls prog F (#[.int .i64 (k:Int)]++d) W λe w'=>e=.returned (.bool (f k (L.getD k pt0)))/\jb W w'):=λW S=>J.out k W (by rw[y.out];exact l) S
   have j:Hid (¬(aK5 (L.getD k pt0).ty.data.toList=false/\f k (L.getD k pt0)=true)->aGT f (k+1) (L.drop (k+1))=R):=λs=>by rw[<-aGX f L k (by rw[y.out];exact l) s];exact x.out
   have a:Hid (aK5 (L.getD k pt0).ty.data.toList=false/\f k (L.getD k pt0)=true->R=k):=λs=>by rw[<-x.out];exact aGV f L k (by rw[y.out];exact l) s
   clear P x
   have t:=i.size
   generalize f k (L.getD k pt0)=O at*
   generalize aK5 (L.getD k pt0).ty.data.toList=N at*
   generalize (L.getD k pt0).body.length=nb at*
   generalize (L.getD k pt0).kids.length=nk at*
   generalize (L.getD k pt0).how=hw at*
   generalize (L.getD k pt0).ty=ty at*
   cases N with
   |true=>
    have r:Hid (aGT f (k+1) (L.drop (k+1))=R):=j.out (by simp)
    clear j a
    go_wp2_with fail
    refine(A.out _).mono ?_
    rintro e X ⟨rfl,rfl⟩
    clear A
    go_wp2_with fail
    go_roundw
    case rel=>exact⟨k+1,by omega,by go_num,i.alloc t _,r⟩
    case measure=>simp[intOf];omega
   |false=>
    go_wp2_with fail
    refine(A.out _).mono ?_
    rintro e X ⟨rfl,rfl⟩
    clear A
    go_wp2_with fail
    refine(v.out _ (i.alloc t _)).mono ?_
    rintro e Y ⟨rfl,z⟩
    have p:jb w Y:=(i.alloc t _).trans (z.mono (by simp;omega))
    clear v z
    cases O with
    |true=>
     have r:Hid (R=k):=a.out (by simp)
     clear j a
     go_wp2_with fail
     go_ret
     exact⟨by rw[r.out];rfl,p⟩
    |false=>
     have r:Hid (aGT f (k+1) (L.drop (k+1))=R):=j.out (by simp)
     clear j a
     go_wp2_with fail
     go_roundw
     case rel=>exact⟨k+1,by omega,by go_num,p,r⟩
     case measure=>simp[intOf];omega
  ·have G:¬(k:Int)<(n:Int):=by omega
   have r:Hid (R=-1):=by
    unfold Hid
    rw[<-x.out,jC (by rw[y.out];omega),aGT]
   clear x
   go_wp2_with fail
   go_ret
   exact⟨by rw[r.out];rfl,i⟩
theorem aVc(p:PT)(U:jO)(P:Nat)(V:jO)(S F:Nat)(w:World)(hH:aA3 w F p U P V S):
  Calls prog 79 #[.agg (jP p.ty p.cs p.id p.loc p.how U p.body.length P V p.kids.length S)] w λe w'=>aBF w (aNh p) e w':=by
 have W:Hid (∀w',jb w w'->Calls prog 73 #[.agg (jP p.ty p.cs p.id p.loc p.how U p.body.length P V p.kids.length S)] w' λe aj=>aAj w' (aNh p) e aj):=λw' hb=>aD5 p U P V S F w' (hH.below hb)
 have L:=aNk p
 generalize aNh p=R at*
 clear hH
 obtain⟨i0,hi,ag,ah,ai⟩:=jao aIH
 go_enter func79,ntmps79
 go_wp2_with fail
 refine(W.out _ (ja _ _)).mono ?_
 rintro e d ⟨I,h1,h2⟩
 have a:=((jr _ w).alloc (jf _) _).trans (I.mono (by simp))
 by_cases C:R.1=0
 ·obtain⟨q,c,X,rfl,l,hX⟩:=h2 C
  have Z:Hid _:=C
  clear h1 h2 C W I
  obtain⟨n,O⟩:∃n,R.2.length=n:=⟨_,rfl⟩
  have B:Hid _:=O
  rw[O]at l L
  simp only[O]
  have Y:Hid (∀k,k<n->∃(g:Nat) (b o:Nat) (y:PT×Int),q=some (jx g 0)/\R.2[k]?=some y/\d.cell? ⟨g,k*2,none⟩=some (.pointer (some (jx b o)))/\d.cell? ⟨g,k*2+1,none⟩=some (.int .i64 y.2)/\∃f,PAt d f b o y.1):=λk hk=>aNg l hX O.symm k hk
  clear l hX O
  go_wp2_with fail
  go_loopw[6,19] (λov iv wr=>∃(k:Nat) (D:jO) (T c6:Nat),k<=n/\iv=.int .i64 k/\ov=.slice D T c6/\jb d wr/\Hid (wr.ownsRow d.heap.size 3 1 (.slice D T c6) k (izv ((R.2.take k).map (·.2))))) (λ_ iv _=>n-(intOf iv).toNat)
  case atStart=>exact⟨0,none,0,0,jy _,rfl,rfl,jr _ _,jT _ _ _ _⟩
  case round=>
   obtain⟨k,D,T,c6,hk,rfl,rfl,i,E⟩:=hrel
   have af:=i.size
   by_cases ac:k<n
   ·have ad:(k:Int)<(n:Int):=by omega
    obtain⟨g,b,o,y,rfl,hy,x,A,_⟩:=Y.out k ac
    have ak:=(i.cell (ji d _ x)).trans x
    have J:=(i.cell (ji d _ A)).trans A
    have HT:Hid (izv ((R.2.take (k+1)).map (·.2))=izv ((R.2.take k).map (·.2))++[.int .i64 y.2]):=by
     unfold Hid
     rw[jan,hy]
     simp[izv]
    clear x A Y hy
    obtain⟨z,hz⟩:∃z,y.2=z:=⟨_,rfl⟩
    rw[hz]at J HT
    clear hz
    go_wp2_with (at_builtin;refine jX _ rfl (.tmp 23) (.tmp 26) 124 rfl d.heap.size 3 i0 (.int .i64 0) 1 8 underlying124 hi ag ah ai rfl (by decide) _ _ _ rfl ((E.out.alloc _).alloc _) (jx (wr.heap.size+1) 0) 1 1 [.int .i64 z] rfl rfl (aDH _ _ _ _ (by simp)) (aLY _) ?c3 ?c4 ?c5 ?_)
    case c3=>unfold maxLen;omega
    case c4=>omega
    case c5=>first|omega|(simp;omega)
    intro v9 w9 m M _
    have aa:jb d w9:=((i.alloc af _).alloc (by simp;omega) _).grown M (by simp;omega) (λj hj=>(E.out.lt j hj).1)
    have H:Hid (w9.ownsRow d.heap.size 3 1 v9 (k+1) (izv ((R.2.take (k+1)).map (·.2)))):=by unfold Hid;rw[HT.out,List.map_take];exact m
    clear m M E HT
    obtain⟨q9,c9,rfl⟩:=aMi H.out
    go_wp2_with fail
    go_roundw
    case rel=>exact⟨k+1,q9,k+1,c9,by omega,by go_num,rfl,aa,H⟩
    case measure=>simp[intOf];omega
   ·have ad:¬((k:Int)<(n:Int)):=by omega
    obtain rfl:k=n:=by omega
    have H:wr.ownsRow d.heap.size 3 1 (.slice D T c6) (R.2.map (·.2)).length (izv (R.2.map (·.2))):=by
     have:=E.out
     rw[jK (by rw[B.out];omega)]at this
     rw[jD,B.out]
     exact this
    obtain⟨q9,c9,e9,N,ab,t,v⟩:=aMd H
    injection e9 with e1 e2 e3
    subst e1 e2 e3
    rw[jD,B.out]at N t
    have G:Hid (aAE wr D (R.2.map (·.2))):=v
    simp only[jD,B.out]
    clear v H Y E
    go_wp2_with fail
    go_ret2
    refine⟨a.trans (i.mono a.size),λh=>absurd Z.out h,λ_=>⟨D,c6,?_,?_,ab,λh=>(t h).2,G.out⟩⟩
    ·simp only[B.out];rfl
    ·rw[B.out];exact N
 ·obtain rfl:=h1 C
  clear h1 h2 W
  have ae:(((R.1:Nat):Int)==0)=false:=by rw[jg];omega
  obtain⟨r,s⟩:∃r,R.1=r:=⟨_,rfl⟩
  have HR:Hid _:=s
  rw[s]at ae C
  simp only[s]
  clear s
  go_wp2_with fail
  go_ret2
  exact⟨a,λ_=>by rw[HR.out];rfl,λh=>absurd (HR.out.symm.trans h) C⟩
end Go.Proofs.YtbbfcbodhmeanaaGreatDoor

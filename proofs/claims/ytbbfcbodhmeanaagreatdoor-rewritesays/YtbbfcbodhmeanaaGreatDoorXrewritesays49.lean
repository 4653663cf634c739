import Derived.Test.YtbbfcbodhmeanaaGreatDoorXrewritesays48
import Derived.Test.YtbbfcbodhmeanaaGreatDoorXrewritesays47
import Derived.SizedLaws
import Derived.Lib.LaidCase
import Derived.Lib.LaidU8T
import Derived.Lib.LaidTab
import Derived.LaidByTextLater
import Derived.HandedShaped
import Derived.Shelf.Vars
import Derived.Lay
import Derived.SevenTiedAt
import Derived.Stop.Joined
import Derived.ShutString
import Derived.ChangeOld
set_option maxHeartbeats 8000000
set_option maxRecDepth 1000000
namespace Go.Proofs.YtbbfcbodhmeanaaGreatDoor
open Go.Proofs.Tryz
open Go.RowKit
theorem aAe.nums{w:World}{p:jO}{l:jB}(h:aAe w p l):Row .u8 w p l.length (l.map λc=>((c.toNat:Nat):Int)):=by
 refine⟨by simp,λd=>?_⟩
 obtain⟨b,o,e,f⟩:=h (λe=>d (by rw[e];rfl))
 refine⟨b,o,e,λi a=>?_⟩
 rw[f i a]
 simp[List.getD_eq_getElem?_getD,List.getElem?_eq_getElem a]
theorem aLJ(l m:jB):(l.map λc=>((c.toNat:Nat):Int))=(m.map λc=>((c.toNat:Nat):Int))↔l=m:=by
 constructor
 ·intro h
  have:=jab Lib.bytesOf h
  rwa [aDv,aDv]at this
 ·intro h;rw[h]
theorem aPY(f g:jO)(a b:jB)(n m c d:Nat)(e1:n=a.length)(i:m=b.length)(w:World)(o:n<=maxLen)(l:m<=maxLen)(j:aAe w f a)(k:aAe w g b):
  Calls prog 34 #[.slice f n c,.slice g m d] w λe w'=>e=.returned (.bool (decide (a=b)))/\jb w w':=by
 subst e1 i
 refine(aFZ f g _ _ c d _ _ w o l j.nums k.nums).mono ?_
 rintro e w' ⟨rfl,q,rfl⟩
 refine⟨aO8 ?_,below_drewN' (jr _ _) q⟩
 exact jar.2 (aLJ a b)
theorem aNX(p q:PT):p=q↔p.alone=q.alone/\p.kids=q.kids:=by
 constructor
 ·intro h;subst h;exact⟨rfl,rfl⟩
 ·rintro ⟨a,b⟩
  obtain⟨c,d,f,g,i,j,k⟩:=p
  obtain⟨l,m,n,o,r,s,t⟩:=q
  simp only[PT.alone,PT.mk.injEq]at a
  obtain⟨rfl,rfl,rfl,rfl,rfl,rfl,_⟩:=a
  simp only at b
  subst b
  rfl
theorem aJn(l:List PT)(k:Nat)(h:k<l.length):l.drop k=l.getD k pt0::l.drop (k+1):=by
 rw[jE h]
 simp[List.getD_eq_getElem?_getD,List.getElem?_eq_getElem h]
def aBj(p q:PT)(w:World)(e:Ending)(w':World):Prop:=∃b:Bool,e=.returned (.bool b)/\(b=true↔p=q)/\jb w w'
theorem aPB:∀(F:Nat) (p q:PT) (pb qb:jO) (cb:Nat) (W qk:jO) (ck v t F2:Nat) (w:World),aA3 w F p pb cb W ck->aA3 w F2 q qb v qk t->
  Calls prog 26 #[.agg (jP p.ty p.cs p.id p.loc p.how pb p.body.length cb W p.kids.length ck),.agg (jP q.ty q.cs q.id q.loc q.how qb q.body.length v qk q.kids.length t)] w
   λe w'=>aBj p q w e w':=by
 intro F
 induction F using Nat.strongRecOn with
 |_ F ih=>
  intro p q pb qb cb W qk ck v t F2 w hH C
  obtain⟨g,f⟩:∃g,(w.alloc (.cells (jP p.ty p.cs p.id p.loc p.how pb p.body.length cb W p.kids.length ck) 25)).alloc (.cells (jP q.ty q.cs q.id q.loc q.how qb q.body.length v qk q.kids.length t) 25)=g:=⟨_,rfl⟩
  have d:jb w g:=by rw[<-f];exact(ja _ _).alloc (by simp) _
  have x0:g.cell? (jx w.heap.size 0)=some (.string p.ty):=by rw[<-f];simp
  have x1:g.cell? (jx w.heap.size 1)=some (.string p.cs):=by rw[<-f];simp
  have x2:g.cell? (jx w.heap.size 2)=some (.string p.id):=by rw[<-f];simp
  have x3:g.cell? (jx w.heap.size 3)=some (.string p.loc):=by rw[<-f];simp
  have x4:g.cell? (jx w.heap.size 4)=some (.int .i64 p.how):=by rw[<-f];simp
  have x5:g.cell? (jx w.heap.size 5)=some (.slice pb p.body.length cb):=by rw[<-f];simp
  have x6:g.cell? (jx w.heap.size 6)=some (.slice W p.kids.length ck):=by rw[<-f];simp
  have y0:g.cell? (jx (w.heap.size+1) 0)=some (.string q.ty):=by rw[<-f];simp
  have y1:g.cell? (jx (w.heap.size+1) 1)=some (.string q.cs):=by rw[<-f];simp
  have y2:g.cell? (jx (w.heap.size+1) 2)=some (.string q.id):=by rw[<-f];simp
  have y3:g.cell? (jx (w.heap.size+1) 3)=some (.string q.loc):=by rw[<-f];simp
  have y4:g.cell? (jx (w.heap.size+1) 4)=some (.int .i64 q.how):=by rw[<-f];simp
  have y5:g.cell? (jx (w.heap.size+1) 5)=some (.slice qb q.body.length v):=by rw[<-f];simp
  have y6:g.cell? (jx (w.heap.size+1) 6)=some (.slice qk q.kids.length t):=by rw[<-f];simp
  have J:Hid (Calls prog 34 #[.slice pb p.body.length cb,.slice qb q.body.length v] g λe w'=>e=.returned (.bool (decide (p.body=q.body)))/\jb g w'):=
   aPY pb qb _ _ _ _ cb v rfl rfl g hH.1.2.2.2.2.2.2.1 C.1.2.2.2.2.2.2.1 (hH.2.2.1.under d) (C.2.2.1.under d)
  have s:Hid (∀w',jb g w'->w'.cell? (jx w.heap.size 6)=some (.slice W p.kids.length ck)/\w'.cell? (jx (w.heap.size+1) 6)=some (.slice qk q.kids.length t)):=λw' a=>
   ⟨(a.cell (ji g _ x6)).trans x6,(a.cell (ji g _ y6)).trans y6⟩
  have l:Hid (p.kids≠[]->∃F' b o,F=F'+1/\W=some (jx b o)/\∀i,i<p.kids.length->PAt g F' b (o+i*7) (p.kids.getD i pt0)):=λR=>by
   have hk:KAt w F W p.kids:=hH.2.2.2.2
   cases F with
   |zero=>exact absurd hk R
   |succ F'=>
    obtain⟨b,o,e1,e2⟩:=hk.each R
    exact⟨F',b,o,rfl,e1,λi hi=>(e2 i hi).below d⟩
  have r:Hid (q.kids≠[]->∃F' b o,qk=some (jx b o)/\∀i,i<q.kids.length->PAt g F' b (o+i*7) (q.kids.getD i pt0)):=λR=>by
   have hk:KAt w F2 qk q.kids:=C.2.2.2.2
   cases F2 with
   |zero=>exact absurd hk R
   |succ F'=>
    obtain⟨b,o,e1,e2⟩:=hk.each R
    exact⟨F',b,o,e1,λi hi=>(e2 i hi).below d⟩
  have aS:p.kids.length<=9223372036854775807:=by have:=hH.1.2.2.2.2.2.2.2;unfold maxLen at this;exact this
  have aB:q.kids.length<=9223372036854775807:=by have:=C.1.2.2.2.2.2.2.2;unfold maxLen at this;exact this
  have HE:Hid (p=q↔p.alone=q.alone/\p.kids=q.kids):=aNX p q
  have HA:Hid (aPO p q=true↔p.alone=q.alone):=aPP p q
  have E:Hid (aPO p q=(decide (p.ty.data.toList=q.ty.data.toList)&&decide (p.cs.data.toList=q.cs.data.toList)&&decide (p.id.data.toList=q.id.data.toList)&&decide (p.loc.data.toList=q.loc.data.toList)&&decide (p.how=q.how)&&decide (p.body=q.body))):=rfl
  have j:Hid (aPO p q=false->¬p=q):=λh e=>by
   have:=HA.out.2 (HE.out.1 e).1
   rw[h]at this;cases this
  have IH:Hid (∀m,m<F->∀(p q:PT) (pb qb:jO) (cb:Nat) (W qk:jO) (ck v t F2:Nat) (w:World),aA3 w m p pb cb W ck->aA3 w F2 q qb v qk t->
   Calls prog 26 #[.agg (jP p.ty p.cs p.id p.loc p.how pb p.body.length cb W p.kids.length ck),.agg (jP q.ty q.cs q.id q.loc q.how qb q.body.length v qk q.kids.length t)] w λe w'=>aBj p q w e w'):=ih
  have e0:=aRg p.ty q.ty
  have e1:=aRg p.cs q.cs
  have e2:=aRg p.id q.id
  have e3:=aRg p.loc q.loc
  have e4:(p.how==q.how)=decide (p.how=q.how):=by by_cases h:p.how=q.how<;>simp[h]
  have e5:(p.how !=q.how)=!decide (p.how=q.how):=by by_cases h:p.how=q.how<;>simp[h]
  have e6:p.how=q.how↔decide (p.how=q.how)=true:=by by_cases h:p.how=q.how<;>simp[h]
  clear ih hH C
  generalize decide (p.body=q.body)=B at*
  generalize p.body.length=nb at*
  generalize q.body.length=aY at*
  generalize decide (p.ty.data.toList=q.ty.data.toList)=T0 at*
  generalize decide (p.cs.data.toList=q.cs.data.toList)=T1 at*
  generalize decide (p.id.data.toList=q.id.data.toList)=T2 at*
  generalize decide (p.loc.data.toList=q.loc.data.toList)=T3 at*
  generalize decide (p.how=q.how)=T4 at*
  generalize aPO p q=S at*
  go_enter func26,ntmps26
  cases T0
  ·have x:Hid (¬p=q):=j.out E.out
   clear E j HA HE IH l r s J
   go_wp2_with fail
   go_ret
   exact⟨false,rfl,⟨λh=>(by cases h),λh=>absurd h x.out⟩,d⟩
  cases T1
  ·have x:Hid (¬p=q):=j.out E.out
   clear E j HA HE IH l r s J
   go_wp2_with fail
   go_ret
   exact⟨false,rfl,⟨λh=>(by cases h),λh=>absurd h x.out⟩,d⟩
  cases T2
  ·have x:Hid (¬p=q):=j.out E.out
   clear E j HA HE IH l r s J
   go_wp2_with fail
   go_ret
   exact⟨false,rfl,⟨λh=>(by cases h),λh=>absurd h x.out⟩,d⟩
  cases T3
  ·have x:Hid (¬p=q):=j.out E.out
   clear E j HA HE IH l r s J
   go_wp2_with fail
   go_ret
   exact⟨false,rfl,⟨λh=>(by cases h),λh=>absurd h x.out⟩,d⟩
  cases T4
  ·have e7:¬p.how=q.how:=λh=>by have:=e6.1 h;cases this
   clear e6
   simp only[Bool.not_false]at e5
   have x:Hid (¬p=q):=j.out E.out
   clear E j HA HE IH l r s J
   go_wp2_with fail
   go_ret
   exact⟨false,rfl,⟨λh=>(by cases h),λh=>absurd h x.out⟩,d⟩
  clear e6
  simp only[Bool.not_true]at e5
  cases B
  ·have x:Hid (¬p=q):=j.out E.out
   clear E j HA HE IH l r s
   go_wp2_with fail
   refine J.out.mono ?_
   rintro e w3 ⟨rfl,z⟩
   have A:=d.trans (z.mono d.size)
   clear J
   go_wp2_with fail
   go_ret
   exact⟨false,rfl,⟨λh=>(by cases h),λh=>absurd h x.out⟩,A⟩
  ·have HQ:Hid (p=q↔p.kids=q.kids):=by
    unfold Hid
    rw[HE.out]
    exact⟨λh=>h.2,λh=>⟨HA.out.1 E.out,h⟩⟩
   clear E j HA HE
   obtain⟨n,hn⟩:∃n,p.kids.length=n:=⟨_,rfl⟩
   obtain⟨m,hm⟩:∃m,q.kids.length=m:=⟨_,rfl⟩
   have x:Hid (p.kids.length=n/\q.kids.length=m):=⟨hn,hm⟩
   rw[hn]at aS x6
   rw[hm]at aB y6
   rw[hn,hm]at s f
   rw[hn]at l
   rw[hm]at r
   simp only[hn,hm]
   clear hn hm
   by_cases aG:n=m
   ·subst aG
    have aU:((n:Int) !=(n:Int))=false:=by simp
    go_wp2_with fail
    refine J.out.mono ?_
    rintro e w3 ⟨rfl,z⟩
    have A:=d.trans (z.mono d.size)
    obtain⟨aK,aL⟩:=s.out w3 z
    clear J x6 y6 f x0 x1 x2 x3 x4 x5 y0 y1 y2 y3 y4 y5 e0 e1 e2 e3 e4 e5
    go_wp2_with fail
    go_loopw[60] (λiv wr=>∃k:Nat,k<=n/\iv=.int .i64 k/\jb g wr/\Hid (p=q↔p.kids.drop k=q.kids.drop k)) (λiv _=>n-(intOf iv).toNat)
    case atStart=>exact⟨0,jy _,rfl,z,HQ⟩
    case round=>
     obtain⟨k,hk,rfl,H,HK⟩:=hrel
     have aH:=H.size
     by_cases ac:k<n
     ·have aT:(k:Int)<(n:Int):=by omega
      have aE:p.kids≠[]:=λe=>by have:=x.out.1;rw[e]at this;simp at this;omega
      have aF:q.kids≠[]:=λe=>by have:=x.out.2;rw[e]at this;simp at this;omega
      obtain⟨F',bp,op,aP,rfl,ax⟩:=l.out aE
      obtain⟨aM,N,oq,rfl,ay⟩:=r.out aF
      have aQ:k<p.kids.length:=by rw[x.out.1];exact ac
      have aR:k<q.kids.length:=by rw[x.out.2];exact ac
      have ap:=(ax k ac).below H
      have aq:=(ay k ac).below H
      rw[aJn _ k aQ,aJn _ k aR]at HK
      obtain⟨I,aw⟩:∃I,p.kids.getD k pt0=I:=⟨_,rfl⟩
      obtain⟨G,az⟩:∃G,q.kids.getD k pt0=G:=⟨_,rfl⟩
      rw[aw]at HK ap
      rw[az]at HK aq
      obtain⟨a1,a2,a3,a4,aO,av⟩:=ap
      obtain⟨b1,b2,b3,b4,af,C⟩:=aq
      have ae:∀w',jb wr w'->w'.cell? (jx (w.heap.size+1) 6)=some (.slice (some (jx N oq)) n t):=λw' a=>(s.out w' (H.trans (a.mono aH))).2
      obtain⟨d0,d1,d2,d3,d4,d5,d6⟩:=aO
      have aV:bp<wr.heap.size:=ji wr _ d0
      have aX:w.heap.size+1<wr.heap.size:=ji wr _ (ae wr (jr _ _))
      have aW:N<wr.heap.size:=ji wr _ af.1
      have M:Hid (∀w',jb wr w'->Calls prog 26 #[.agg (jP I.ty I.cs I.id I.loc I.how a1 I.body.length a2 a3 I.kids.length a4),.agg (jP G.ty G.cs G.id G.loc G.how b1 G.body.length b2 b3 G.kids.length b4)] w' λe an=>aBj I G w' e an):=λw' a=>IH.out F' (by omega) I G a1 b1 a2 a3 b3 a4 b2 b4 aM w' (av.below a) (C.below a)
      have y:Hid (∀w',jb wr w'->aA1 w' N (oq+k*7) G b1 b2 b3 b4):=λw' a=>af.below a
      clear ax ay aw az af av C aP l r
      obtain⟨Y,T,V,X,U,aI,aJ⟩:=I
      obtain⟨am,ah,aj,al,ai,ag,ak⟩:=G
      simp only at d0 d1 d2 d3 d4 d5 d6 M y
      obtain⟨m1,aC⟩:∃m1,aI.length=m1:=⟨_,rfl⟩
      obtain⟨m2,aD⟩:∃m2,aJ.length=m2:=⟨_,rfl⟩
      rw[aC]at d5 M
      rw[aD]at d6 M
      clear aC aD
      have ab:jb wr (wr.alloc (.cells (jP Y T V X U a1 m1 a2 a3 m2 a4) 25)):=ja _ _
      obtain⟨c,D⟩:∃c,wr.alloc (.cells (jP Y T V X U a1 m1 a2 a3 m2 a4) 25)=c:=⟨_,rfl⟩
      rw[D]at ab
      have Z:∀w',jb c w'->jb wr w':=λw' a=>ab.trans (a.mono ab.size)
      have f0:∀w',jb c w'->w'.cell? (jx wr.heap.size 0)=some (.string Y):=λw' a=>by rw[<-D]at a;exact(aK4 a wr.heap.size rfl).1
      have f1:∀w',jb c w'->w'.cell? (jx wr.heap.size 1)=some (.string T):=λw' a=>by rw[<-D]at a;exact(aK4 a wr.heap.size rfl).2.1
      have f2:∀w',jb c w'->w'.cell? (jx wr.heap.size 2)=some (.string V):=λw' a=>by rw[<-D]at a;exact(aK4 a wr.heap.size rfl).2.2.1
      have f3:∀w',jb c w'->w'.cell? (jx wr.heap.size 3)=some (.string X):=λw' a=>by rw[<-D]at a;exact(aK4 a wr.heap.size rfl).2.2.2.1
      have f4:∀w',jb c w'->w'.cell? (jx wr.heap.size 4)=some (.int .i64 U):=λw' a=>by rw[<-D]at a;exact(aK4 a wr.heap.size rfl).2.2.2.2.1
      have f5:∀w',jb c w'->w'.cell? (jx wr.heap.size 5)=some (.slice a1 m1 a2):=λw' a=>by rw[<-D]at a;exact(aK4 a wr.heap.size rfl).2.2.2.2.2.1
      have f6:∀w',jb c w'->w'.cell? (jx wr.heap.size 6)=some (.slice a3 m2 a4):=λw' a=>by rw[<-D]at a;exact(aK4 a wr.heap.size rfl).2.2.2.2.2.2.1
      have g6:∀w',jb c w'->w'.cell? (jx (w.heap.size+1) 6)=some (.slice (some (jx N oq)) n t):=λw' a=>ae w' (Z w' a)
      have h0:∀w',jb c w'->w'.cell? ⟨N,oq+k*7,none⟩=some (.string am):=λw' a=>(y.out w' (Z w' a)).1
      have h1:∀w',jb c w'->w'.cell? ⟨N,oq+k*7+1,none⟩=some (.string ah):=λw' a=>(y.out w' (Z w' a)).2.1
      have h2:∀w',jb c w'->w'.cell? ⟨N,oq+k*7+2,none⟩=some (.string aj):=λw' a=>(y.out w' (Z w' a)).2.2.1
      have h3:∀w',jb c w'->w'.cell? ⟨N,oq+k*7+3,none⟩=some (.string al):=λw' a=>(y.out w' (Z w' a)).2.2.2.1
      have h4:∀w',jb c w'->w'.cell? ⟨N,oq+k*7+4,none⟩=some (.int .i64 ai):=λw' a=>(y.out w' (Z w' a)).2.2.2.2.1
      have h5:∀w',jb c w'->w'.cell? ⟨N,oq+k*7+5,none⟩=some (.slice b1 ag.length b2):=λw' a=>(y.out w' (Z w' a)).2.2.2.2.2.1
      have h6:∀w',jb c w'->w'.cell? ⟨N,oq+k*7+6,none⟩=some (.slice b3 ak.length b4):=λw' a=>(y.out w' (Z w' a)).2.2.2.2.2.2
      have ar:Hid (∀w',jb c w'->Calls prog 26 #[.agg (jP Y T V X U a1 m1 a2 a3 m2 a4),.agg (jP am ah aj al ai b1 ag.length b2 b3 ak.length b4)] w' λe an=>aBj ⟨Y,T,V,X,U,aI,aJ⟩ ⟨am,ah,aj,al,ai,ag,ak⟩ w' e an):=λw' a=>M.out w' (Z w' a)
      clear y M ae Z aK aL
      have b0:jb c c:=jr _ _
      have P:jb g c:=H.trans (ab.mono aH)
      go_wp2_with fail
      go_region_held3 (λw'=>jb c w') (first|assumption|exact b0.drew) (first
       |(go_at_call 26;refine(ar.out _ (by first|assumption|exact b0.drew)).mono ?_;rintro e w5 ⟨B5,rfl,ao,aA⟩;have ad:jb c w5:=b0.drew.trans aA))
      have O:jb g w5:=P.trans (ad.mono P.size)
      have aa:Hid _:=ao
      clear f0 f1 f2 f3 f4 f5 f6 g6 h0 h1 h2 h3 h4 h5 h6 ar aA ad ao
      cases B5
      ·have L:Hid (¬p=q):=λe=>by
        have:=(j4 (HK.out.1 e)).1
        have:=aa.out.2 this
        cases this
       clear HK aa
       go_wp2_with fail
       go_ret
       exact⟨false,rfl,⟨λh=>(by cases h),λh=>absurd h L.out⟩,d.trans (O.mono d.size)⟩
      ·have aN:Hid (p=q↔p.kids.drop (k+1)=q.kids.drop (k+1)):=by
        unfold Hid
        rw[HK.out]
        have e:=aa.out.1 rfl
        exact⟨λh=>(j4 h).2,λh=>by rw[e,h]⟩
       clear HK aa
       go_wp2_with fail
       go_roundw
       case rel=>exact⟨k+1,by omega,by go_num,O,aN⟩
       case measure=>simp[intOf];omega
     ·have aT:¬((k:Int)<(n:Int)):=by omega
      have L:Hid (p=q):=by
       unfold Hid
       rw[HK.out,jC (by rw[x.out.1];omega),jC (by rw[x.out.2];omega)]
      clear HK l r IH s
      go_wp2_with fail
      go_ret
      exact⟨true,rfl,⟨λ_=>L.out,λ_=>rfl⟩,d.trans (H.mono d.size)⟩
   ·have aU:((n:Int) !=(m:Int))=true:=by simp;omega
    have L:Hid (¬p=q):=λe=>aG (by rw[<-x.out.1,<-x.out.2,e])
    clear IH l r s HQ
    go_wp2_with fail
    refine J.out.mono ?_
    rintro e w3 ⟨rfl,z⟩
    have A:=d.trans (z.mono d.size)
    have aK:=(z.cell (ji g _ x6)).trans x6
    have aL:=(z.cell (ji g _ y6)).trans y6
    clear J x6 y6 f
    go_wp2_with fail
    go_ret
    exact⟨false,rfl,⟨λh=>(by cases h),λh=>absurd h L.out⟩,A⟩
def aS6(R:Nat×PT):PT:=if R.1=0 then R.2 else aOw
theorem aIb(w:World):aA3 w 4 aOw none 0 none 0:=⟨⟨by decide,by decide,by decide,by decide,by decide,by decide,by decide,by decide⟩,⟨by decide,by decide,λ_=>rfl⟩,λh=>absurd rfl h,⟨by decide,by decide,λ_=>rfl⟩,λh=>absurd rfl h⟩
theorem aLt{w w':World}{R:Nat×PT}{e:Ending}(h:aAU w R e w'):∃(d:jO) (b:Nat) (f:jO) (c:Nat),e=.returned (.tuple #[.agg #[.string (aS6 R).ty,.string (aS6 R).cs,.string (aS6 R).id,.string (aS6 R).loc,.int .i64 (aS6 R).how,.slice d (aS6 R).body.length b,.slice f (aS6 R).kids.length c],.int .i64 (R.1:Int)])/\jb w w'/\aA3 w' 4 (aS6 R) d b f c:=by
 obtain⟨g,i,j⟩:=h
 unfold aS6
 by_cases a:R.1=0
 ·obtain⟨d,b,f,c,k,l,_⟩:=j a
  rw[jo a,a]
  exact⟨d,b,f,c,k,g,l⟩
 ·rw[jh a]
  exact⟨none,0,none,0,i a,g,aIb _⟩
theorem aPp{w w':World}{R:Nat×PT}{e:Ending}(h:aBi w R e w'):∃(d:jO) (b:Nat) (f:jO) (c:Nat),e=.returned (.tuple #[.agg #[.string (aS6 R).ty,.string (aS6 R).cs,.string (aS6 R).id,.string (aS6 R).loc,.int .i64 (aS6 R).how,.slice d (aS6 R).body.length b,.slice f (aS6 R).kids.length c],.int .i64 (R.1:Int)])/\jb w w'/\aA3 w' 4 (aS6 R) d b f c:=by
 obtain⟨g,i,j⟩:=h
 unfold aS6
 by_cases a:R.1=0
 ·obtain⟨d,b,f,c,k,l⟩:=j a
  rw[jo a,a]
  exact⟨d,b,f,c,k,g,l⟩
 ·rw[jh a]
  exact⟨none,0,none,0,i a,g,aIb _⟩
theorem aLI(p:PT)(T:jO)(R:Nat)(U:jO)(S F:Nat)(z:jO)(A O:Nat)(c:List NM)(parts:Int)(en:A=c.length)(t:aAS c)(w:World)(hE:aAI w)(hH:aA3 w F p T R U S)(v:aAV w z c):
  Calls prog 5 #[.agg (jP p.ty p.cs p.id p.loc p.how T p.body.length R U p.kids.length S),.slice z A O,.int .i64 parts] w (jG (.bool true) w):=by
 obtain⟨d,L⟩:∃W,W=w.alloc (.cells (jP p.ty p.cs p.id p.loc p.how T p.body.length R U p.kids.length S) 25):=⟨_,rfl⟩
 have ab:jb w d:=by rw[L];exact ja _ _
 have kW:d.heap[w.heap.size]?=some (.cells (jP p.ty p.cs p.id p.loc p.how T p.body.length R U p.kids.length S) 25):=by rw[L];exact aDi _ _
 have a:∀W,jb d W->jb w W:=λW l=>ab.trans (l.mono ab.size)
 have aj:Hid (∀W,jb d W->jb w W):=a
 have E:Hid _:=kW
 have aa:Hid _:=L
 have CN:Hid (∀W,jb d W->Calls prog 21 #[.agg (jP p.ty p.cs p.id p.loc p.how T p.body.length R U p.kids.length S),.slice z A O] W λe w'=>∃(j:jO) (f:Nat) (k:jO) (g:Nat),e=.returned (.tuple #[.agg #[.string (aS6 (aLq p c)).ty,.string (aS6 (aLq p c)).cs,.string (aS6 (aLq p c)).id,.string (aS6 (aLq p c)).loc,.int .i64 (aS6 (aLq p c)).how,.slice j (aS6 (aLq p c)).body.length f,.slice k (aS6 (aLq p c)).kids.length g],.int .i64 ((aLq p c).1:Int)])/\jb W w'/\aA3 w' 4 (aS6 (aLq p c)) j f k g):=λW l=>(aLr p T R U S F z A O c en t W (hE.below (a W l)) (hH.below (a W l)) (v.below (a W l))).mono λe w' h=>aLt h
 have CQ:Hid (∀W,jb d W->Calls prog 22 #[.agg (jP p.ty p.cs p.id p.loc p.how T p.body.length R U p.kids.length S),.slice z A O] W λe w'=>∃(j:jO) (f:Nat) (k:jO) (g:Nat),e=.returned (.tuple #[.agg #[.string (aS6 (aLq p c)).ty,.string (aS6 (aLq p c)).cs,.string (aS6 (aLq p c)).id,.string (aS6 (aLq p c)).loc,.int .i64 (aS6 (aLq p c)).how,.slice j (aS6 (aLq p c)).body.length f,.slice k (aS6 (aLq p c)).kids.length g],.int .i64 ((aLq p c).1:Int)])/\jb W w'/\aA3 w' 4 (aS6 (aLq p c)) j f k g):=λW l=>(aPq p T R U S F z A O c en t W (hE.below (a W l)) (hH.below (a W l)) (v.below (a W l))).mono λe w' h=>aPp h
 have CR:Hid (∀W,jb d W->Calls prog 23 #[] W (jG (.bool true) W)):=λW l=>aOT W (hE.below (a W l))
 have C1:Hid (∀W,jb d W->Calls prog 24 #[.slice z A O,.int .i64 parts] W λe w'=>e=.returned (.int .i64 (aDT parts (-1) [] c:Nat))/\jb W w'):=λW l=>aLv z A O c en parts t W (v.below (a W l))
 have C2:Hid (∀W,jb d W->Calls prog 25 #[.slice z A O,.int .i64 parts] W λe w'=>e=.returned (.int .i64 (aDT parts (-1) [] c:Nat))/\jb W w'):=λW l=>aPs z A O c en parts t W (v.below (a W l))
 generalize ((aDT parts (-1) [] c:Nat):Int)=CK at*
 obtain⟨q,hq⟩:∃q,aS6 (aLq p c)=q:=⟨_,rfl⟩
 rw[hq]at CN CQ
 generalize ((aLq p c).1:Int)=EE at*
 have CS:Hid (∀(W:World) (j:jO) (f:Nat) (k:jO) (g:Nat) (B:jO) (x:Nat) (C:jO) (y:Nat),aA3 W 4 q j f k g->aA3 W 4 q B x C y->Calls prog 26 #[.agg (jP q.ty q.cs q.id q.loc q.how j q.body.length f k q.kids.length g),.agg (jP q.ty q.cs q.id q.loc q.how B q.body.length x C q.kids.length y)] W (jG (.bool true) W)):=λW j f k g B x C y h1 h2=>(aPB 4 q q j B f k C g x y 4 W h1 h2).mono λe w' ⟨b,he,aA,hb⟩=>⟨by rw[he,aA.2 rfl],hb⟩
 have an:jb d d:=jr _ _
 obtain⟨nb,af⟩:∃n,p.body.length=n:=⟨_,rfl⟩
 obtain⟨nk,ag⟩:∃n,p.kids.length=n:=⟨_,rfl⟩
 obtain⟨mb,ay⟩:∃n,q.body.length=n:=⟨_,rfl⟩
 obtain⟨mk,az⟩:∃n,q.kids.length=n:=⟨_,rfl⟩
 simp only[af,ag,ay,az]at E aa CN CQ CS
 rw[af,ag]
 clear af ag ay az hq L ab kW a hE hH v t en
 go_enter func5,ntmps5
 go_upto_region 1 with fail
 rw[<-aa.out]
 obtain⟨z0,z1,z2,z3,z4,z5,z6,zf⟩:=aLK E.out
 go_wp2_with fail
 refine(CN.out _ an).mono ?_
 rintro e w2 ⟨j,f,k,g,rfl,ac,aw⟩
 clear z0 z1 z2 z3 z4 z5 z6 zf CN aa an
 obtain⟨QB,aq⟩:∃n,w2.heap.size=n:=⟨_,rfl⟩
 obtain⟨V2,I⟩:∃V,V=w2.alloc (.cells (jP q.ty q.cs q.id q.loc q.how j mb f k mk g) 25):=⟨_,rfl⟩
 have r:jb w2 V2:=by rw[I];exact ja _ _
 have ah:Hid (V2.heap[QB]?=some (.cells (jP q.ty q.cs q.id q.loc q.how j mb f k mk g) 25)):=by rw[I,<-aq];exact aDi _ _
 have ap:jb d V2:=ac.trans (r.mono ac.size)
 have ak:Hid (aA3 V2 4 q j f k g):=aw.below r
 have o:Hid _:=ap
 have al:Hid _:=I
 clear I r ap ac aw
 go_upto_region 2 with fail
 rw[<-al.out]
 clear al aq
 obtain⟨z0,z1,z2,z3,z4,z5,z6,zf⟩:=aLK (aDj E.out o.out)
 go_wp2_with fail
 refine(CQ.out _ o.out).mono ?_
 rintro e w3 ⟨B,x,C,y,rfl,ad,ax⟩
 clear z0 z1 z2 z3 z4 z5 z6 zf CQ E
 obtain⟨SB,ar⟩:∃n,w3.heap.size=n:=⟨_,rfl⟩
 obtain⟨V3,J⟩:∃V,V=w3.alloc (.cells (jP q.ty q.cs q.id q.loc q.how B mb x C mk y) 25):=⟨_,rfl⟩
 have s:jb w3 V3:=by rw[J];exact ja _ _
 have m:jb V2 V3:=ad.trans (s.mono ad.size)
 have ai:Hid (V3.heap[SB]?=some (.cells (jP q.ty q.cs q.id q.loc q.how B mb x C mk y) 25)):=by rw[J,<-ar];exact aDi _ _
 have P:Hid _:=aDj ah.out m
 have Y:Hid (aA3 V3 4 q j f k g/\aA3 V3 4 q B x C y):=⟨ak.out.below m,ax.below s⟩
 have D:Hid _:=o.out.trans (m.mono o.out.size)
 have am:Hid _:=J
 clear J s m ad ax ak ah o
 go_upto_region 3 with fail
 rw[<-am.out]
 clear am ar
 go_wp2_with fail
 refine(CR.out _ D.out).mono ?_
 rintro e w4 ⟨rfl,M⟩
 have G:jb d w4:=D.out.trans (M.mono D.out.size)
 clear CR
 go_wp2_with fail
 refine(C1.out _ G).mono ?_
 rintro e w5 ⟨rfl,N⟩
 have H:jb d w5:=G.trans (N.mono G.size)
 clear C1
 go_wp2_with fail
 refine(C2.out _ H).mono ?_
 rintro e w6 ⟨rfl,ae⟩
 have ao:jb d w6:=H.trans (ae.mono H.size)
 have i:jb V3 w6:=M.trans ((N.trans (ae.mono N.size)).mono M.size)
 obtain⟨y0,y1,y2,y3,y4,y5,y6,yf⟩:=aLK (aDj P.out i)
 obtain⟨x0,x1,x2,x3,x4,x5,x6,xf⟩:=aLK (aDj ai.out i)
 have Z:Hid (aA3 w6 4 q j f k g/\aA3 w6 4 q B x C y):=⟨Y.out.1.below i,Y.out.2.below i⟩
 have X:Hid _:=ao
 clear C2 M N ae G H ao i Y P ai D
 go_wp2_with fail
 refine(CS.out w6 j f k g B x C y Z.out.1 Z.out.2).mono ?_
 rintro e w7 ⟨rfl,av⟩
 have HB:Hid (jb w w7):=aj.out _ (X.out.trans (av.mono X.out.size))
 clear av X Z CS y0 y1 y2 y3 y4 y5 y6 yf x0 x1 x2 x3 x4 x5 x6 xf
 go_wp2_with fail
 go_ret
 exact⟨rfl,HB.out⟩
end Go.Proofs.YtbbfcbodhmeanaaGreatDoor
namespace Go.Proofs.YtbbfcbodhmeanaaGreatDoor
open Go.Proofs.Tryz
open Go.ChangeShapes Go.WideShapes Go.ChangeAt Go.RowKit
theorem aLk:∃f0 f1:Field,prog.underlying 56=some (.struct #[f0,f1])/\f0.offset=0/\f1.offset=1/\f0.type=3/\f1.type=9:=
 ⟨_,_,underlying56,rfl,rfl,rfl,rfl⟩
theorem aLs{H:Type}{enc:TypeId×Value->H}{W:World}{base:Nat}{k:Nat->Bool}{r:Bool}{q:Nat}{D:jO}{len cap:Nat}{x:DataW H×List MemPlace}
  (h:DataW.trod enc prog W base k r q 48 [.slice D len cap]=some x):
  ∃l:List NM,l.length=len/\len<=cap/\cap<=maxLen/\(D=none->len=0/\cap=0)/\aAV W D l/\aAS l:=by
 obtain⟨f0,f1,T,V,X,t0,t1⟩:=aLk
 rcases Go.Deep.open_slice_pairs underlying48 T (by kernel_rfl) V X (by rw[t0];kernel_rfl) (by rw[t1];kernel_rfl) h with⟨d,_⟩|⟨a,l,c,m,n,V0,V1,Z,D1,P0,P1,d,_,P,S,G,_,U⟩
 ·simp at d
  obtain⟨rfl,rfl,rfl⟩:=d
  exact⟨[],rfl,jf _,by decide,λ_=>⟨rfl,rfl⟩,λh=>absurd rfl h,by decide,λf E=>by cases E⟩
 ·simp at d
  obtain⟨rfl,rfl,rfl⟩:=d
  have R:len<=m:=by rw[G];split<;>omega
  have p:∀i,i<len->∃f:NM,W.cell? (a.add (i*2))=some (.int .i64 f.1)/\W.cell? (a.add (i*2+1))=some (.string f.2)/\-9223372036854775808<=f.1/\f.1<=9223372036854775807/\f.2.size<=maxLen:=λi C=>by
   obtain⟨z,A,L,M⟩:=U i (by omega)
   rw[t0]at L
   rw[t1]at M
   obtain⟨s,e1,_,O⟩:=DataW.trod_int underlying3 L
   obtain⟨t,J,_,Y⟩:=jdd underlying9 M
   simp at e1 J
   have N:-9223372036854775808<=s/\s<=9223372036854775807:=by
    simp only[Lit.wf,j7,jam]at O
    exact O
   exact⟨(s,t),by rw[z,e1],by rw[A,J],N.1,N.2,Y⟩
  obtain⟨F,B⟩:=Go.Deep.choose_lt p
  refine⟨(List.range len).map F,by simp,P,S,(λh=>by cases h),λI=>?_,by simp;omega,λf E=>?_⟩
  ·have v:0<len:=by
    rcases jbo len with e|e
    ·subst e;exact absurd rfl I
    ·exact e
   obtain⟨b,o,y⟩:=a
   have j:y=none:=by simpa [Addr.add] using World.cell?_spot (B 0 v).1
   subst j
   refine⟨b,o,rfl,λi C=>?_⟩
   have g:i<len:=by simpa using C
   have e1:((List.range len).map F).getD i nm0=F i:=by simp[List.getD_eq_getElem?_getD,g]
   have z:=(B i g).1
   have A:=(B i g).2.1
   rw[jaa]at z A
   rw[e1]
   exact⟨z,by rw[jcf];exact A⟩
  ·obtain⟨i,C,rfl⟩:=jbi.1 E
   exact(B i (by simpa using C)).2.2
end Go.Proofs.YtbbfcbodhmeanaaGreatDoor
namespace Go.Proofs.YtbbfcbodhmeanaaGreatDoor
open Go.Proofs.Tryz
open Go.RowKit Go.Lib Go.Shelf
theorem aUn{w:World}(a:VarReads prog w "unicode/utf8.first" firstData)(b:VarReads prog w "unicode/utf8.acceptRanges" acceptData):Lib.Utf8Tabs 1 2 w:=
 utf8Tabs_of_readsT (ρ:=lays159_ren) {lays159 with} ⟨by kernel_rfl,by kernel_rfl,by kernel_rfl,by kernel_rfl,by kernel_rfl,by kernel_rfl,by kernel_rfl⟩ a b
theorem aDE{w:World}(h:VarReads prog w "unicode.CaseRanges" caseData):CaseVar 3 caseA w:=
 caseVar_of_reads (ρ:=lays159_ren) {lays159 with} lays159.t206 ⟨by kernel_rfl,by kernel_rfl,by kernel_rfl,by kernel_rfl,by kernel_rfl,by kernel_rfl⟩ h
theorem aJ2{W:World}(h:laidMetH prog [("unicode/utf8.acceptRanges",Rows.laid_unicode_utf8_acceptRanges),("unicode.CaseRanges",Rows.laid_unicode_CaseRanges),("unicode/utf8.first",Rows.laid_unicode_utf8_first)] W)(m:Int)(b:W.cell? (jx 0 0)=some (.int .i64 m)):aAI W:=by
 rw[MakeChecks.laidMetH_plain _ _ _ (by kernel_rfl)]at h
 have c:=aUn (laidMet.reads h (jav (i:=2) (by kernel_rfl))) (laidMet.reads h (jav (i:=0) (by kernel_rfl)))
 have d:=aDE (laidMet.reads h (jav (i:=1) (by kernel_rfl)))
 intro f a
 exact⟨⟨m,(a.cell (p:=jx 0 0) (ji W _ b)).trans b⟩,CaseVar_below d a,Utf8Tabs_below c a⟩
end Go.Proofs.YtbbfcbodhmeanaaGreatDoor
namespace Go.Proofs.YtbbfcbodhmeanaaGreatDoor
open Go.Proofs.Tryz
open Go.ChangeShapes Go.WideShapes Go.ChangeAt Go.RowKit
set_option linter.unusedVariables false
theorem own:ownKnob prog.godebug=none:=by kernel_rfl
theorem aJw:laidOutB prog=true:=by kernel_rfl
theorem aQz{H:Type}{enc:TypeId×Value->H}{P:Program}{c:Func}{s:OpenSpec}{a:Bool}{w w':World}{args:Array Value}(hh:w.heap=w'.heap)(h:sizedMet enc P c s a w args):sizedMet enc P c s a w' args:=by
 obtain⟨g,d,f,b,j,i⟩:=h
 exact⟨g,d,f,b,DataW.Whole.of_heap hh j,i⟩
theorem aH8{H:Type}{enc:TypeId×Value->H}{a:Assume}{C:Checked}{os:Os}{f:FuncId}{n:Func}{s:ChangeSpec}{m:List PathCond}{b o g l:Bool}{X:World->Array Value->Prop}
  (M:∀(w w':World) (args:Array Value),w.heap=w'.heap->X w args->X w' args)
  (own:ownKnob C.prog.godebug=none)(p:os.Started)(r:C.prog.inits.idxOf? f=none)(F:C.prog.funcs[f]?=some n)
  (q:∃(w:World) (c:Tape) (i:Input),w.os=os/\(w.forCall c i).Shaped C.prog/\i.vars=[]/\Input.okWide C.prog (w.forCall c i) .any w.heap.size f i/\
   ((s.pre enc C.prog n m b (w.forCall c i).memory i.args/\X (w.forCall c i).memory i.args)/\sizedMet enc C.prog n (OpenSpec.ofChange s) b (w.forCall c i).memory i.args)/\a.holds C.prog (lone (Frame.enter C.prog f i.args .normal) [] (w.forCall c i)))
  (k:∀(W:World) (base:Nat) (args:Array Value) (B E:List (DataW H)) (d:List MemPlace),
   (∀(j:Nat) t v,n.params[j]?=some t->args[j]?=some v->Value.okWide C.prog W .any base t v)->
   DataW.Whole enc C.prog n.params.toList s.vars b W args.toList B E d->X W args->sizedMet enc C.prog n (OpenSpec.ofChange s) b W args->W.ShapedOpen C.prog->
   Calls C.prog f args W λe L=>∃v,e=.returned v/\s.post enc C.prog n b o g l W args v L):
  ReturnsInHanded a C os f .any (λw args=>(s.pre enc C.prog n m b w args/\X w args)/\sizedMet enc C.prog n (OpenSpec.ofChange s) b w args) (s.post enc C.prog n b o g l):=by
 refine returnsInHanded_of_calls own p r q ?_
 intro w c i _ I _ G y A
 obtain⟨_,_,_,D,x,_,_,_,_,z⟩:=G
 have e:D=n:=jI (x.symm.trans F)
 subst e
 obtain⟨⟨⟨B,E,d,P,T⟩,R⟩,S⟩:=y
 have J:=DataW.Whole.of_heap (w':=w.forCall c i) (by rfl) P
 refine(k (w.forCall c i) w.heap.size i.args B E d z J (M _ _ _ (by rfl) R) (aQz (by rfl) S) I).mono λe L ⟨v,N,O⟩=>?_
 subst N
 exact ChangeSpec.post_blind O
theorem aK9{W:World}(h:W.ShapedOpen prog):∃m,W.cell? (jx 0 0)=some (.int .i64 m):=
 cell_of_shapedOpen_int (P:=prog) (g:=0) (t:=3) (zero:=#[.int .i64 0]) h (jbl (by kernel_rfl)) (by kernel_rfl) rfl (by kernel_rfl) (by kernel_rfl) underlying3
end Go.Proofs.YtbbfcbodhmeanaaGreatDoor

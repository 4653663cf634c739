import Derived.Test.YtbbfcbodhmeanaaGreatDoorXrewritesays36
set_option maxHeartbeats 8000000
set_option maxRecDepth 1000000
namespace Go.Proofs.YtbbfcbodhmeanaaGreatDoor
open Go.Proofs.Tryz
open Go.RowKit
theorem aC7(s j:jA)(a:jB)(l:j.data.toList=a)(lo b:Nat)(p o:Int)(e1:p=(lo:Int))(x:o=(b:Int))(w:World)(B:s.size<=1000000):
  Calls prog 88 #[.string s,.int .u8 p,.int .u8 o,.string j] w λe w'=>e=.returned (.bool (aC3 lo b a s.data.toList))/\w'=w:=by
 subst e1 x
 go_enter func88,ntmps88
 go_wp2
 go_loop [12] (λiv=>∃k:Nat,k<=s.size/\iv=.int .i64 k/\Hid (aC3 lo b a (s.data.toList.drop k)=aC3 lo b a s.data.toList)) (λiv=>s.size-(intOf iv).toNat)
 case atStart=>exact⟨0,jy _,rfl,rfl⟩
 case round=>
  obtain⟨k,A,rfl,f⟩:=hrel
  by_cases v:k<s.size
  ·have c:Hid (aC3 lo b a (s.data.toList.drop k)=(inB lo b a s[k]&&aC3 lo b a (s.data.toList.drop (k+1)))):=by unfold Hid;rw[aFs s k v,aC4]
   by_cases y:s[k].toNat<lo
   ·have g:Hid (aC3 lo b a s.data.toList=false):=by
     unfold Hid
     rw[<-f.out,c.out,show inB lo b a s[k]=false from by simp[inB];omega];rfl
    have r:(s[k].toNat:Int)<(lo:Int):=by omega
    clear c f
    go_wp2
    go_ret
    exact⟨by rw[g.out];rfl,rfl⟩
   ·have r:decide ((s[k].toNat:Int)<(lo:Int))=false:=by simp;omega
    by_cases z:b<s[k].toNat
    ·have g:Hid (aC3 lo b a s.data.toList=false):=by
      unfold Hid
      rw[<-f.out,c.out,show inB lo b a s[k]=false from by simp[inB];omega];rfl
     have t:(b:Int)<(s[k].toNat:Int):=by omega
     clear c f
     go_wp2
     go_ret
     exact⟨by rw[g.out];rfl,rfl⟩
    ·have t:decide ((b:Int)<(s[k].toNat:Int))=false:=by simp;omega
     cases q:a.contains s[k]
     ·have g:Hid (aC3 lo b a (s.data.toList.drop (k+1))=aC3 lo b a s.data.toList):=by
       unfold Hid
       rw[<-f.out,c.out,show inB lo b a s[k]=true from by simp only[inB,q];simp;omega];rfl
      clear c f
      go_wp2_with (go_at_call 93;refine(aI5 j a l s[k] _ rfl _).mono ?_;rintro e w' ⟨i,rfl,m,n⟩;rw[q]at m;have d:=n.symm;subst d)
      go_round
      case rel=>exact⟨k+1,by omega,by go_num,g⟩
      case measure=>simp[intOf];omega
     ·have g:Hid (aC3 lo b a s.data.toList=false):=by
       unfold Hid
       rw[<-f.out,c.out,show inB lo b a s[k]=false from by simp only[inB,q];simp];rfl
      clear c f
      go_wp2_with (go_at_call 93;refine(aI5 j a l s[k] _ rfl _).mono ?_;rintro e w' ⟨i,rfl,m,n⟩;rw[q]at m;have d:=n.symm;subst d)
      go_ret
      exact⟨by rw[g.out];rfl,rfl⟩
  ·obtain rfl:k=s.size:=by omega
   have g:Hid (aC3 lo b a s.data.toList=true):=by
    unfold Hid
    rw[<-f.out,jC (by rw[<-Lib.size_eq];exact jf _)];rfl
   clear f
   go_wp2
   go_ret
   exact⟨by rw[g.out];rfl,rfl⟩
def aPS:jB:=[97,98,99,100,101,102,103,104,105,106,107,108,109,110,111,112,113,114,115,116,117,118,119,120,121,122,48,49,50,51,52,53,54,55,56,57,43,45,46]
theorem aPT(c:UInt8):aPS.contains c=aPQ c:=by
 have:∀n:Fin 256,aPS.contains (UInt8.ofNat n.val)=aPQ (UInt8.ofNat n.val):=by decide+kernel
 have h:=this ⟨c.toNat,c.toNat_lt⟩
 simp only[jce]at h
 exact h
theorem aTo(p:UInt8->Bool)(l:jB):(aTn p l).isEmpty=l.all p:=by
 unfold aTn aFt
 rw[jW,List.isEmpty_iff,jR]
 constructor
 ·intro h c d
  have i:∀(m:jB),m.dropWhile p=[]->∀c∈m,p c=true:=λm f c d=>by
   induction m with
   |nil=>cases d
   |cons a m g=>
    rw[jat]at f
    split at f
    ·rename_i n
     rcases jad.1 d with rfl|d
     ·exact n
     ·exact g f d
    ·cases f
  have j:=i _ h
  rcases hd:l.reverse.dropWhile p with _|⟨a,m⟩
  ·exact i _ hd c (by simpa using d)
  ·have k:p a=false:=by
    have:∀(m:jB) (a:UInt8) (t:jB),m.dropWhile p=a::t->p a=false:=λm=>by
     induction m with
     |nil=>intro a t h;cases h
     |cons b m g=>
      intro a t h
      rw[jat]at h
      split at h
      ·exact g a t h
      ·rename_i o;cases h;simpa using o
    exact this _ _ _ hd
   have:=j a (by rw[hd];simp)
   rw[k]at this
   cases this
 ·intro h
  have i:∀(m:jB),(∀c∈m,p c=true)->m.dropWhile p=[]:=λm f=>by
   induction m with
   |nil=>rfl
   |cons a m g=>rw[jat,jo (f a (by simp)),g (λc d=>f c (by simp[d]))]
  rw[i l.reverse (λc d=>h c (by simpa using d))]
  rfl
theorem aPC(s:jA)(w:World)(G:s.size<=1000000):
  Calls prog 101 #[.string s] w (jG (.bool (s.data.toList.isEmpty||aPU s.data.toList)) w):=by
 by_cases f:s.data.toList=[]
 ·obtain rfl:=aC2 s f
  go_enter func101,ntmps101
  go_wp2
  go_ret
  exact⟨rfl,jr _ _⟩
 ·have F:=aC0 s f
  have B:=aNC s f
  have C:(0:Int)<(s.size:Int):=by omega
  have q:Hid ((s.data.toList.isEmpty||aPU s.data.toList)=((decide (97<=s[0].toNat)&&decide (s[0].toNat<=122))&&s.data.toList.all aPQ)):=by
   unfold Hid
   rw[aI0 s f,jcg]
   have e:=aFs s 0 B
   rw[jbc]at e
   unfold aPU
   cases A:s.data.toList with
   |nil=>rw[A]at e;cases e
   |cons a l=>rw[A]at e;cases e;rfl
  have t:=aTp ⟨aPS.toArray⟩ s w (by omega) (by decide) (by decide) (λj b E=>by
   have:∀b∈aPS,b.toNat<128:=by decide
   exact this b (jav E))
  obtain⟨r,i⟩:∃T:jA,T=⟨(aTn (ByteArray.mk aPS.toArray).data.toList.contains s.data.toList).toArray⟩:=⟨_,rfl⟩
  rw[<-i]at t
  have d:r.data.toList.isEmpty=s.data.toList.all aPQ:=by
   rw[i]
   show(aTn aPS.contains s.data.toList).isEmpty=_
   rw[show aPS.contains=aPQ from funext aPT,aTo]
  have g:Hid (Calls prog 70 #[.string s,.string ⟨#[97,98,99,100,101,102,103,104,105,106,107,108,109,110,111,112,113,114,115,116,117,118,119,120,121,122,48,49,50,51,52,53,54,55,56,57,43,45,46]⟩] w (jG (.string r) w)):=t
  clear t i
  cases k:s.data.toList.all aPQ with
  |false=>
   have m:Hid ((s.data.toList.isEmpty||aPU s.data.toList)=false):=by unfold Hid;rw[q.out,k,Bool.and_false]
   rw[k]at d
   have p:r.toList.isEmpty=false:=by rw[jj];exact d
   clear q k d f
   go_enter func101,ntmps101
   go_wp2_with fail
   refine g.out.mono ?_
   rintro e y ⟨rfl,c⟩
   clear g
   go_wp2
   go_ret
   exact⟨by rw[m.out];rfl,c⟩
  |true=>
   rw[k]at d
   have p:=aC2 r (by simpa using d)
   subst p
   have n:decide ((97:Int)<=(s[0].toNat:Int))=decide (97<=s[0].toNat):=jar.2 (by omega)
   have o:decide ((s[0].toNat:Int)<=122)=decide (s[0].toNat<=122):=jar.2 (by omega)
   have m:Hid ((s.data.toList.isEmpty||aPU s.data.toList)=(decide ((97:Int)<=(s[0].toNat:Int))&&decide ((s[0].toNat:Int)<=122))):=by unfold Hid;rw[q.out,k,Bool.and_true,n,o]
   clear q k d f n o
   by_cases z:(97:Int)<=(s[0].toNat:Int)
   ·by_cases x:(s[0].toNat:Int)<=122
    ·go_enter func101,ntmps101
     go_wp2_with fail
     refine g.out.mono ?_
     rintro e y ⟨rfl,c⟩
     clear g
     go_wp2
     go_ret
     exact⟨by rw[m.out];simp[z,x],c⟩
    ·have D:decide ((s[0].toNat:Int)<=122)=false:=jV x
     go_enter func101,ntmps101
     go_wp2_with fail
     refine g.out.mono ?_
     rintro e y ⟨rfl,c⟩
     clear g
     go_wp2
     go_ret
     exact⟨by rw[m.out];simp[x],c⟩
   ·have v:decide ((97:Int)<=(s[0].toNat:Int))=false:=jV z
    go_enter func101,ntmps101
    go_wp2_with fail
    refine g.out.mono ?_
    rintro e y ⟨rfl,c⟩
    clear g
    go_wp2
    go_ret
    exact⟨by rw[m.out,v];rfl,c⟩
def setN:jB:=[97,98,99,100,101,102,103,104,105,106,107,108,109,110,111,112,113,114,115,116,117,118,119,120,121,122,48,49,50,51,52,53,54,55,56,57,46]
theorem aP3(c:UInt8):setN.contains c=aLl c:=by
 have:∀n:Fin 256,setN.contains (UInt8.ofNat n.val)=aLl (UInt8.ofNat n.val):=by decide+kernel
 have h:=this ⟨c.toNat,c.toNat_lt⟩
 simp only[jce]at h
 exact h
theorem aLc(c:UInt8)(t:jB):aLa (c::t)=(decide ((c::t).length<=30)&&(c::t).all aLl&&!decide (c.toNat<97)):=by
 rw[aLb,jm]
 have h:((c::t).all aLl&&aQF c)=((c::t).all aLl&&!decide (c.toNat<97)):=by
  rw[jcv]
  have:∀n:Fin 256,(aLl (UInt8.ofNat n.val)&&aQF (UInt8.ofNat n.val))=(aLl (UInt8.ofNat n.val)&&!decide ((UInt8.ofNat n.val).toNat<97)):=by decide+kernel
  have h:=this ⟨c.toNat,c.toNat_lt⟩
  simp only[jce]at h
  cases a:aLl c
  ·rfl
  ·rw[a]at h
   simp only[jcw]at h⊢
   rw[h]
 cases b:decide (t.length+1<=30)
 ·rfl
 ·rw[jcw,jcw,Bool.and_comm,h]
def aBL(l:List NM)(x:NM):Bool:=l.any λm=>(m.2.data.toList==x.2.data.toList)||decide (x.1<=m.1)
structure AhN(pre:List NM)(last:Int)(seen:List jB):Prop where
 names:∀s,seen.contains s=pre.any (λm=>m.2.data.toList==s)
 high:∀v:Int,0<=v->(v<=last↔∃m∈pre,v<=m.1)
theorem AhN.nil:AhN [] (-1) []:=⟨λ_=>rfl,λv a=>⟨λh=>by omega,λ⟨_,h,_⟩=>by cases h⟩⟩
theorem AhN.ahead{d:List NM}{b:Int}{seen:List jB}(h:AhN d b seen)(x:NM)(f:0<=x.1):aBL d x=true↔(seen.contains x.2.data.toList=true\/x.1<=b):=by
 unfold aBL
 rw[h.names,h.high x.1 f,List.any_eq_true,List.any_eq_true]
 constructor
 ·rintro ⟨m,c,a⟩
  rw[jed,jam]at a
  rcases a with a|a
  ·exact .inl ⟨m,c,a⟩
  ·exact .inr ⟨m,c,a⟩
 ·rintro (⟨m,c,a⟩|⟨m,c,a⟩)
  ·exact⟨m,c,by rw[a];rfl⟩
  ·exact⟨m,c,by rw[j3 a,Bool.or_true]⟩
theorem AhN.next{c:List NM}{a:Int}{seen:List jB}(h:AhN c a seen)(x:NM)(i:¬x.1<=a):AhN (c++[x]) x.1 (x.2.data.toList::seen):=by
 refine⟨λs=>?_,λv g=>?_⟩
 ·rw[List.any_append,jbt,h.names,List.any_cons,List.any_nil,Bool.or_false,Bool.or_comm]
  congr 1
  exact jea
 ·constructor
  ·exact λf=>⟨x,by simp,f⟩
  ·rintro ⟨m,b,d⟩
   rcases jY.1 b with b|b
   ·have:=(h.high v g).2 ⟨m,b,d⟩
    omega
   ·simp at b
    rw[b]at d
    exact d
theorem aBN(l:List NM)(x:NM)(j:Nat)(h:j<l.length):aBL (l.drop j) x=(((l.getD j nm0).2.data.toList==x.2.data.toList)||decide (x.1<=(l.getD j nm0).1)||aBL (l.drop (j+1)) x):=by
 unfold aBL
 rw[jE h,List.any_cons,jd,jc h]
 rfl
abbrev aP0:jA:=⟨#[97,98,99,100,101,102,103,104,105,106,107,108,109,110,111,112,113,114,115,116,117,118,119,120,121,122,48,49,50,51,52,53,54,55,56,57,46]⟩
theorem aPs(a:jO)(n c:Nat)(l:List NM)(en:n=l.length)(parts:Int)(hl:aAS l)(w:World)(hr:aAV w a l):
  Calls prog 25 #[.slice a n c,.int .i64 parts] w λe w'=>e=.returned (.int .i64 (aDT parts (-1) [] l:Nat))/\jb w w':=by
 have aH:n<=9223372036854775807:=by have:=hl.1;unfold maxLen at this;omega
 have HN:Hid _:=en
 have HL:Hid (aAS l):=hl
 have HR:Hid (aAV w a l):=hr
 have CT:Hid (∀(s:jA) W,s.size<=30->Calls prog 70 #[.string s,.string aP0] W (jG (.string ⟨(aTn setN.contains s.data.toList).toArray⟩) W)):=λs W hs=>aTp aP0 s W (by omega) (by decide) (by decide) (λj b hb=>by
   have:∀b∈setN,b.toNat<128:=by decide
   exact this b (jav hb))
 obtain⟨i,H⟩:∃r,aDT parts (-1) [] l=r:=⟨_,rfl⟩
 have O:Hid _:=H
 rw[H]
 clear H hr hl en
 have ah:jb w w:=jr _ _
 go_enter func25,ntmps25
 go_wp2_with fail
 go_loopw[4,10] (λev iv wr=>∃(k:Nat) (z:Int) (seen:List jB),k<=n/\iv=.int .i64 k/\ev=.int .i64 0/\Hid (AhN (l.take k) z seen)/\Hid (jb w wr)/\Hid (aDT parts z seen (l.drop k)=i)) (λ_ iv _=>n-(intOf iv).toNat)
 case atStart=>exact⟨0,-1,[],jy _,rfl,rfl,AhN.nil,ah,O⟩
 case round=>
  obtain⟨k,z,seen,hk,rfl,rfl,HA,HB,HC⟩:=hrel
  clear O ah
  by_cases aE:k<n
  ·have aF:(k:Int)<(n:Int):=by omega
   have A:k<l.length:=by rw[<-HN.out];exact aE
   obtain⟨b,o,hab,hc⟩:=(HR.out.below HB.out) (λe=>by rw[e]at A;simp at A)
   subst hab
   obtain⟨d0,d1⟩:=hc k A
   obtain⟨aB,aC,aG⟩:=HL.out.at k A
   have d:Hid _:=HC.out.symm.trans (aDZ parts z seen l k A)
   have ae:Hid (l.take (k+1)=l.take k++[l.getD k nm0]):=by unfold Hid;rw[jan,jd,jc A];rfl
   have af:Hid ((l.take k).length=k):=by unfold Hid;rw[jF];omega
   have ar:Hid (∀V,jb w V->∀j,j<k->V.cell? ⟨b,o+j*2,none⟩=some (.int .i64 ((l.take k).getD j nm0).1)/\V.cell? ⟨b,o+j*2+1,none⟩=some (.string ((l.take k).getD j nm0).2)):=λV hV j hj=>by
    obtain⟨b',o',ab,az⟩:=(HR.out.below hV) (λe=>by rw[e]at A;simp at A)
    injection ab with ab
    injection ab with h1 h2
    subst h1
    subst h2
    have h:=az j (by omega)
    have e:(l.take k).getD j nm0=l.getD j nm0:=by rw[jd,jcx hj,<-jd]
    rw[e]
    exact h
   clear hc HC A
   generalize l.take k=v at*
   generalize l.getD k nm0=x at*
   obtain⟨m,s⟩:=x
   simp only at d0 d1 aB aC aG d
   obtain⟨L,M⟩:∃W,W=wr.alloc (.cells #[.int .i64 m,.string s] 56):=⟨_,rfl⟩
   have al:jb wr L:=by rw[M];exact ja _ _
   have kx:L.heap[wr.heap.size]?=some (.cells #[.int .i64 m,.string s] 56):=by rw[M];exact aDi _ _
   have P:jb w L:=HB.out.trans (al.mono HB.out.size)
   have ag:Hid _:=M
   have F:Hid _:=kx
   have g:Hid _:=P
   clear M al kx P HB
   obtain⟨Y,hY⟩:∃Y,wr.heap.size=Y:=⟨_,rfl⟩
   go_upto_region 4 with fail
   rw[<-ag.out]
   rw[hY]at F
   have z0:L.cell? ⟨Y,0,none⟩=some (.int .i64 m):=(aDe F.out 0).trans rfl
   have z1:L.cell? ⟨Y,1,none⟩=some (.string s):=(aDe F.out 1).trans rfl
   clear d0 d1 ag hY
   by_cases h1:m<0
   ·have aw:decide (m<0)=true:=by simpa using h1
    have B:Hid (i=5):=by unfold Hid;rw[d.out,jo (Or.inl h1)]
    clear d
    go_wp2_with fail
    go_ret
    refine⟨?_,g.out⟩
    rw[B.out]
    rfl
   ·have aw:decide (m<0)=false:=by simpa using h1
    by_cases h2:parts<=m
    ·have ax:decide (parts<=m)=true:=by simpa using h2
     have B:Hid (i=5):=by unfold Hid;rw[d.out,jo (Or.inr h2)]
     clear d
     go_wp2_with fail
     go_ret
     refine⟨?_,g.out⟩
     rw[B.out]
     rfl
    ·have ax:decide (parts<=m)=false:=by simpa using h2
     rw[jh (by omega)]at d
     by_cases h3:s.data.toList=[]
     ·obtain rfl:=aC2 s h3
      have B:Hid (i=1):=by unfold Hid;rw[d.out];exact jo rfl
      clear d
      go_wp2_with fail
      go_ret
      refine⟨?_,g.out⟩
      rw[B.out]
      rfl
     ·have ao:=aNC s h3
      have aI:¬(s.size:Int)<1:=by omega
      obtain⟨ch,tl,ac⟩:∃ch tl,s.data.toList=ch::tl:=by
       cases h:s.data.toList with
       |nil=>exact absurd h h3
       |cons a t=>exact⟨a,t,rfl⟩
      have R:(s.data.toList).length=s.size:=(Lib.size_eq s).symm
      have p:Hid (aLa s.data.toList=(decide (s.size<=30)&&s.data.toList.all aLl&&!decide (s[0].toNat<97))):=by
       unfold Hid
       have e0:s[0]=ch:=by
        have e:=aFs s 0 ao
        rw[jbc,ac]at e
        exact(j4 e).1.symm
       rw[e0,<-R,ac]
       exact aLc ch tl
      clear ac R h3
      by_cases h4:30<s.size
      ·have ay:(30:Int)<(s.size:Int):=by omega
       have B:Hid (i=1):=by unfold Hid;rw[d.out,jo (by rw[p.out,jV (by omega)];rfl)]
       clear d p
       go_wp2_with fail
       go_ret
       refine⟨?_,g.out⟩
       rw[B.out]
       rfl
      ·have ay:¬(30:Int)<(s.size:Int):=by omega
       rw[j3 (show s.size<=30 by omega),jcw]at p
       have S:=CT.out s L (by omega)
       obtain⟨TT,aa⟩:∃T:jA,T=⟨(aTn setN.contains s.data.toList).toArray⟩:=⟨_,rfl⟩
       rw[<-aa]at S
       have G:TT.data.toList.isEmpty=s.data.toList.all aLl:=by
        rw[aa]
        show(aTn setN.contains s.data.toList).isEmpty=_
        rw[show setN.contains=aLl from funext aP3,aTo]
       have E:Hid (Calls prog 70 #[.string s,.string ⟨#[97,98,99,100,101,102,103,104,105,106,107,108,109,110,111,112,113,114,115,116,117,118,119,120,121,122,48,49,50,51,52,53,54,55,56,57,46]⟩] L (jG (.string TT) L)):=S
       clear S aa
       cases ha:s.data.toList.all aLl with
       |false=>
        have B:Hid (i=1):=by unfold Hid;rw[d.out,jo (by rw[p.out,ha];rfl)]
        rw[ha]at G
        have ak:TT.toList.isEmpty=false:=by rw[jj];exact G
        clear d p ha G
        go_wp2_with fail
        refine E.out.mono ?_
        rintro e N ⟨rfl,q⟩
        have f:Hid _:=g.out.trans (q.mono g.out.size)
        clear q E z0 z1
        go_wp2_with fail
        go_ret
        refine⟨?_,f.out⟩
        rw[B.out]
        rfl
       |true=>
        rw[ha]at G
        have ak:=aC2 TT (by simpa using G)
        subst ak
        rw[ha,jcw]at p
        clear ha G
        by_cases h5:s[0].toNat<97
        ·have aj:(s[0].toNat:Int)<97:=by omega
         have B:Hid (i=1):=by unfold Hid;rw[d.out,jo (by rw[p.out,j3 h5];rfl)]
         clear d p h5
         go_wp2_with fail
         refine E.out.mono ?_
         rintro e N ⟨rfl,q⟩
         have f:Hid _:=g.out.trans (q.mono g.out.size)
         have z1:N.cell? ⟨Y,1,none⟩=some (.string s):=(aDe (aDj F.out q) 1).trans rfl
         clear q E
         go_wp2_with fail
         go_ret
         refine⟨?_,f.out⟩
         rw[B.out]
         rfl
        ·have aj:¬(s[0].toNat:Int)<97:=by omega
         rw[jh (by rw[p.out,jV h5];simp)]at d
         clear p h5
         go_wp2_with fail
         refine E.out.mono ?_
         rintro e N ⟨rfl,q⟩
         have f:Hid _:=g.out.trans (q.mono g.out.size)
         have X:Hid _:=aDj F.out q
         clear q E z0 z1 F g
         have z1:N.cell? ⟨Y,1,none⟩=some (.string s):=(aDe X.out 1).trans rfl
         have I:Hid (aBL v (m,s)=true↔(seen.contains s.data.toList=true\/m<=z)):=HA.out.ahead (m,s) (by simp only;omega)
         go_wp2_with fail
         clear z1 aj
         have ai:jb N N:=jr _ _
         go_loopw[4,47] (λev jv wv=>∃j:Nat,j<=k/\jv=.int .i64 j/\ev=.int .i64 0/\Hid (jb N wv)/\Hid (aBL v (m,s)=aBL (v.drop j) (m,s))) (λ_ jv _=>k-(intOf jv).toNat)
         case atStart=>exact⟨0,jy _,rfl,rfl,ai,rfl⟩
         case round=>
          obtain⟨j,hj,rfl,rfl,D,J⟩:=hrel
          clear ai
          by_cases am:j<k
          ·have aD:(j:Int)<(k:Int):=by omega
           have aJ:(j:Int)<(n:Int):=by omega
           obtain⟨p0,p1⟩:=ar.out wr (f.out.trans (D.out.mono f.out.size)) j am
           have z0:wr.cell? ⟨Y,0,none⟩=some (.int .i64 m):=(aDe (aDj X.out D.out) 0).trans rfl
           have z1:wr.cell? ⟨Y,1,none⟩=some (.string s):=(aDe (aDj X.out D.out) 1).trans rfl
           have C:Hid (aBL v (m,s)=(((v.getD j nm0).2.data.toList==s.data.toList)||decide (m<=(v.getD j nm0).1)||aBL (v.drop (j+1)) (m,s))):=J.out.trans (aBN v (m,s) j (by rw[af.out];exact am))
           clear J
           generalize v.getD j nm0=y at*
           obtain⟨m2,s2⟩:=y
           simp only at p0 p1 C
           cases he:(s2.data.toList==s.data.toList)with
           |true=>
            have aA:(s2.toList==s.toList)=true:=by rw[jj,jj];exact he
            have B:Hid (i=6):=by unfold Hid;rw[d.out,jo (I.out.1 (by rw[C.out,he];rfl))]
            have U:Hid _:=f.out.trans (D.out.mono f.out.size)
            clear C d he
            go_wp2_with fail
            go_quiet (fail)
            go_wp2_with fail
            go_ret
            refine⟨?_,below_drewN' U.out _⟩
            rw[B.out]
            rfl
           |false=>
            have aA:(s2.toList==s.toList)=false:=by rw[jj,jj];exact he
            rw[he,jcg]at C
            clear he
            by_cases h6:m<=m2
            ·have Z:decide (m<=m2)=true:=by simpa using h6
             have B:Hid (i=6):=by unfold Hid;rw[d.out,jo (I.out.1 (by rw[C.out,Z];rfl))]
             have U:Hid _:=f.out.trans (D.out.mono f.out.size)
             clear C d
             go_wp2_with fail
             go_quiet (fail)
             go_wp2_with fail
             go_ret
             refine⟨?_,below_drewN' U.out _⟩
             rw[B.out]
             rfl
            ·have Z:decide (m<=m2)=false:=by simpa using h6
             rw[Z,jcg]at C
             go_wp2_with fail
             go_quiet (fail)
             go_wp2_with fail
             go_roundw
             case rel=>exact⟨j+1,by omega,by go_num,rfl,below_drewN' D.out _,C⟩
             case measure=>simp[intOf];omega
          ·have aD:¬(j:Int)<(k:Int):=by omega
           have an:aBL v (m,s)=false:=by
            rw[J.out,jC (by rw[af.out];omega)]
            rfl
           have ad:¬(seen.contains s.data.toList=true\/m<=z):=λh=>by
            have:=I.out.2 h
            rw[an]at this
            cases this
           have av:Hid (aDT parts m (s.data.toList::seen) (l.drop (k+1))=i):=by unfold Hid;rw[d.out,jh ad]
           have ap:Hid (AhN (l.take (k+1)) m (s.data.toList::seen)):=by
            unfold Hid
            rw[ae.out]
            exact HA.out.next (m,s) (λh=>ad (.inr h))
           have aq:Hid _:=f.out.trans (D.out.mono f.out.size)
           clear an ad d J I HA ae
           go_wp2_with fail
           go_roundw
           case rel=>exact⟨k+1,m,s.data.toList::seen,by omega,by go_num,rfl,ap,aq,av⟩
           case measure=>simp[intOf];omega
  ·have aF:¬(k:Int)<(n:Int):=by omega
   have B:Hid (i=0):=by
    have h:=HC.out
    rw[jC (by rw[<-HN.out];omega),aDT]at h
    exact h.symm
   clear HC
   go_wp2_with fail
   go_ret
   refine⟨?_,HB.out⟩
   rw[B.out]
   rfl
def ba(l:jB):jA:=⟨l.toArray⟩
theorem aCt(l:jB):(ba l).data.toList=l:=rfl
theorem aCy(l:jB):(ba l).size=l.length:=by rw[Lib.size_eq,aCt]
def aPD(x:Int):Int:=if 65<=x/\x<=90 then x+32 else x
theorem aPE(x:Nat)(i:x<=1114111)(w:World):Calls prog 137 #[.int .i32 (x:Int)] w λe w'=>e=.returned (.int .i32 (aPD x))/\w'=w:=by
 by_cases d:65<=x
 ·have b:(65:Int)<=(x:Int):=by omega
  by_cases f:x<=90
  ·have c:(x:Int)<=90:=by omega
   have a:Hid (aPD x=(x:Int)+32):=by unfold Hid aPD;rw[jo ⟨b,c⟩]
   have g:IntKind.i32.wrap ((x:Int)+32)=(x:Int)+32:=by rw[IntKind.wrap_i32];omega
   go_enter func137,ntmps137
   go_wp2
   go_ret
   exact⟨by rw[a.out];rfl,rfl⟩
  ·have c:decide ((x:Int)<=90)=false:=by simp;omega
   have a:Hid (aPD x=(x:Int)):=by unfold Hid aPD;rw[jh (by omega)]
   go_enter func137,ntmps137
   go_wp2
   go_ret
   exact⟨by rw[a.out];rfl,rfl⟩
 ·have b:decide ((65:Int)<=(x:Int))=false:=by simp;omega
  have a:Hid (aPD x=(x:Int)):=by unfold Hid aPD;rw[jh (by omega)]
  go_enter func137,ntmps137
  go_wp2
  go_ret
  exact⟨by rw[a.out];rfl,rfl⟩
theorem aFa(c:UInt8)(l:jB)(h:c.toNat<128):Lib.decodeL (c::l)=(c.toNat,1):=by
 have e:(ByteArray.mk (c::l).toArray).get! 0=c:=rfl
 unfold Lib.decodeL Utf8.decode
 simp only[jcd,e]
 rw[jo h]
theorem aPF(c:UInt8)(h:c.toNat<128):0<=aPD (c.toNat:Int)/\Lib.encodeRune (aPD (c.toNat:Int))=[Lib.lowerB c]:=by
 have a:=aKQ c
 have e:aPD (c.toNat:Int)=((Lib.lowerB c).toNat:Int):=by
  unfold aPD
  by_cases b:65<=c.toNat/\c.toNat<=90
  ·rw[jo b]at a;rw[jo (by omega),a];omega
  ·rw[jh b]at a;rw[jh (by omega),a]
 have d:=aB7 c h
 refine⟨by rw[e];omega,?_⟩
 rw[e,Lib.encodeRune,Lib.encodeRuneZ_one (by omega) (by omega)]
 simp
theorem aK8:∀(n:Nat) (l:jB),l.length<=n->(∀c∈l,c.toNat<128)->Lib.mapGoD aPD n l=aQE l
 |0,l,hn,_=>by
  have:l=[]:=js.1 (by omega)
  subst this;rfl
 |n+1,[],_,_=>by rw[Lib.mapGoD,jo rfl];rfl
 |n+1,c::l,hn,ha=>by
  have a:=ha c (by simp)
  rw[Lib.mapGoD,jh (by simp),aFa c l a,jo (aPF c a).1,(aPF c a).2]
  simp only[List.drop_succ_cons,jbc]
  rw[aK8 n l (by simpa using hn) (λx b=>ha x (by simp[b]))]
  rfl
theorem aPH(l:jB)(w:World)(i:l.length<=1000000)(d:∀c∈l,c.toNat<128)(b:Lib.Utf8Tabs 1 2 w):
  Calls prog 87 #[.string (ba l)] w λe w'=>e=.returned (.string (ba (aQE l)))/\jb w w':=by
 have C:=strings_Map_runes 137 #[] (λargs w=>by kernel_rfl) aPD (ba l) w (by rw[aCy];omega) (λW x f _=>(aPE x f W).mono (λe w' h=>⟨h.1,0,h.2⟩)) (λx f=>by unfold aPD;split<;>omega) b
 have e:Lib.mapD aPD (ba l).data.toList=aQE l:=aK8 _ _ (jf _) d
 rw[e]at C
 have a:Hid (Calls prog 136 #[.func (.func 137) #[] #[],.string (ba l)] w λe w'=>e=.returned (.string (ba (aQE l)))/\jb w w'):=C
 clear C e d b
 go_enter func87,ntmps87
 go_wp2_with fail
 refine a.out.mono ?_
 rintro e j ⟨rfl,g⟩
 clear a
 go_wp2
 go_ret
 exact⟨rfl,g⟩
theorem aS5(s:jA)(w:World)(k:s.size<=maxLen):
  Calls prog 47 #[.string s] w λe w'=>e=.returned (.bool (aS4 s.data.toList))/\w'=w:=by
 unfold maxLen at k
 have a:=Lib.size_eq s
 by_cases i:1<=s.size
 ·have d:(1:Int)<=(s.size:Int):=by omega
  by_cases j:s.size<=30
  ·have f:(s.size:Int)<=30:=by omega
   have b:Hid (aS4 s.data.toList=aC3 33 126 aQ0 s.data.toList):=by unfold Hid aS4;rw[<-a];simp[i,j]
   clear a
   go_enter func47,ntmps47
   go_wp2_with (go_at_call 88;refine(aC7 s _ aQ0 rfl 33 126 _ _ rfl rfl _ (by omega)).mono ?_;rintro e w' ⟨rfl,g⟩;have c:=g.symm;subst c)
   go_ret
   exact⟨by rw[b.out];rfl,rfl⟩
  ·have f:decide ((s.size:Int)<=30)=false:=by simp;omega
   have b:Hid (aS4 s.data.toList=false):=by unfold Hid aS4;rw[<-a];simp;omega
   clear a
   go_enter func47,ntmps47
   go_wp2
   go_ret
   exact⟨by rw[b.out];rfl,rfl⟩
 ·have d:decide ((1:Int)<=(s.size:Int))=false:=by simp;omega
  have b:Hid (aS4 s.data.toList=false):=by unfold Hid aS4;rw[<-a];simp;omega
  clear a
  go_enter func47,ntmps47
  go_wp2
  go_ret
  exact⟨by rw[b.out];rfl,rfl⟩
theorem aR3(l:jB):aK5 l=decide (l.take 10=aLj):=by
 unfold aK5 Lib.hasPrefix
 rw[jW,jap,List.prefix_iff_eq_take]
 simp only[jam]
 exact⟨λh=>h.symm,λh=>h.symm⟩
theorem aPl(s:jA)(w:World)(j:s.size<=maxLen):
  Calls prog 45 #[.string s] w λe w'=>e=.returned (.bool (aK5 s.data.toList))/\w'=w:=by
 unfold maxLen at j
 have a:=Lib.size_eq s
 by_cases g:10<=s.size
 ·have b:(10:Int)<=(s.size:Int):=by omega
  obtain⟨X,i⟩:∃X,s.extract 0 10=X:=⟨_,rfl⟩
  have c:X.data.toList=s.data.toList.take 10:=by rw[<-i,Lib.extract_data];simp
  have d:Hid (aK5 s.data.toList=decide (X.data.toList=aLj)):=by unfold Hid;rw[c];exact aR3 _
  have e1:(X.toList==(⟨#[109,117,108,116,105,112,97,114,116,47]⟩:jA).toList)=decide (X.data.toList=aLj):=by
   rw[jj,jj,jW,jbp,jam];exact jeq
  have f:(X.toList==[109,117,108,116,105,112,97,114,116,47])=decide (X.data.toList=aLj):=by
   rw[jj,jW,jbp,jam];exact jeq
  generalize decide (X.data.toList=aLj)=T at*
  clear c a
  go_enter func45,ntmps45
  go_wp2_with fail
  go_ret
  exact⟨by rw[d.out];first|rfl|(rw[e1];rfl)|(rw[f];rfl)|(simp[e1,f]),rfl⟩
 ·have b:decide ((10:Int)<=(s.size:Int))=false:=by simp;omega
  have d:Hid (aK5 s.data.toList=false):=by
   unfold Hid
   rw[aR3]
   apply jV
   intro h
   have:=jab List.length h
   rw[jF,<-a]at this
   simp[aLj]at this
   omega
  clear a
  go_enter func45,ntmps45
  go_wp2_with fail
  go_ret
  exact⟨by rw[d.out];rfl,rfl⟩
theorem aPN(s:jA)(w:World)(i:s.size<=maxLen):
  Calls prog 48 #[.string s] w λe w'=>e=.returned (.bool (aVe s.data.toList))/\w'=w:=by
 unfold maxLen at i
 have a:=Lib.size_eq s
 by_cases g:s.size<=120
 ·have d:(s.size:Int)<=120:=by omega
  have c:Hid (aVe s.data.toList=aC3 33 126 [34,60,62] s.data.toList):=by unfold Hid aVe aC3;rw[<-a];simp[g];rfl
  have C:Hid (∀w,Calls prog 88 #[.string s,.int .u8 33,.int .u8 126,.string ⟨#[34,60,62]⟩] w λe w'=>e=.returned (.bool (aC3 33 126 [34,60,62] s.data.toList))/\w'=w):=λw=>aC7 s ⟨#[34,60,62]⟩ [34,60,62] rfl 33 126 33 126 rfl rfl w (by omega)
  generalize aC3 33 126 [34,60,62] s.data.toList=V at*
  clear a
  go_enter func48,ntmps48
  go_wp2_with fail
  refine(C.out _).mono ?_
  rintro e w' ⟨rfl,f⟩
  have b:=f.symm
  subst b
  go_wp2_with fail
  go_ret
  exact⟨by rw[c.out];rfl,rfl⟩
 ·have d:decide ((s.size:Int)<=120)=false:=by simp;omega
  have c:Hid (aVe s.data.toList=false):=by unfold Hid aVe;rw[<-a];simp;omega
  clear a
  go_enter func48,ntmps48
  go_wp2_with fail
  go_ret
  exact⟨by rw[c.out];rfl,rfl⟩
theorem aKJ:((List.range 256).all λn=>decide (Lib.lowerB (UInt8.ofNat n)=UInt8.ofNat n)==!upR n)=true:=by decide+kernel
theorem aKM(c:UInt8):Lib.lowerB c=c↔upR c.toNat=false:=by
 have h:=jR.1 aKJ c.toNat (by rw[List.mem_range];exact jem c)
 rw[jce,jbp]at h
 constructor
 ·intro e
  rw[j3 e]at h
  simpa using h.symm
 ·intro e
  rw[e]at h
  simpa using h
theorem aQR:∀l:jB,decide (aQE l=l)=!(l.any λc=>upR c.toNat)
 |[]=>rfl
 |c::l=>by
  have a:=aQR l
  have b:=aKM c
  rw[List.any_cons,jW]
  rw[jW]at a
  have e:aQE (c::l)=Lib.lowerB c::aQE l:=rfl
  rw[e]
  simp only[jam,jcn,Bool.not_or,j7,jde]at a⊢
  rw[a,b]
theorem aPL(s:jA)(w:World)(X:s.size<=maxLen)(z:∀w',jb w w'->Lib.Utf8Tabs 1 2 w'):
  Calls prog 46 #[.string s] w (jG (.bool (aTE s.data.toList)) w):=by
 unfold maxLen at X
 have B:=λw=>strings_Index_one s 47 w
 cases k:aEM 47 s.data.toList with
 |none=>
  have m:Hid (aTE s.data.toList=false):=by unfold Hid aTE;rw[k]
  have C:Hid (∀w,Calls prog 86 #[.string s,.string ⟨#[47]⟩] w λe w'=>e=.returned (.int .i64 (-1))/\w'=w):=λw=>by
   have:=B w
   rwa [aIz,aUW k]at this
  clear k B z
  go_enter func46,ntmps46
  go_wp2_with fail
  refine(C.out _).mono ?_
  rintro e w' ⟨rfl,f⟩
  have b:=f.symm
  subst b
  go_wp2_with fail
  go_ret
  exact⟨by rw[m.out];rfl,jr _ _⟩
 |some x=>
  obtain⟨a,r,Y,G⟩:=aE0 k
  subst Y
  obtain⟨A,R,t,v,H,J,L⟩:=aCs 47 s _ _ (aEO 47 _ _ _ k).1
  have S:=aCx H
  have W:=aCx J
  subst S W
  obtain⟨I,E⟩:∃I,I=A.data.toList.length:=⟨_,rfl⟩
  rw[<-E]at t v L
  have C:Hid (∀w,Calls prog 86 #[.string s,.string ⟨#[47]⟩] w λe w'=>e=.returned (.int .i64 (I:Int))/\w'=w):=λw=>by
   have:=B w
   rw[aIz,aUX k]at this
   rw[E]
   exact this
  have U:(I:Int)<=(s.size:Int):=by omega
  have V:(I:Int)+1<=(s.size:Int):=by omega
  have q:Hid (aTE s.data.toList=(aS4 A.data.toList&&aS4 R.data.toList&&!s.data.toList.any (λc=>decide (65<=c.toNat)&&decide (c.toNat<=90)))):=by unfold Hid aTE;rw[k]
  have p:Hid (∀w,Calls prog 47 #[.string A] w λe w'=>e=.returned (.bool (aS4 A.data.toList))/\w'=w):=λw=>aS5 A w (by unfold maxLen;omega)
  have y:Hid (∀w,Calls prog 47 #[.string R] w λe w'=>e=.returned (.bool (aS4 R.data.toList))/\w'=w):=λw=>aS5 R w (by unfold maxLen;omega)
  have D:Hid (aS4 A.data.toList=true->aS4 R.data.toList=true->s.data.toList.length<=1000000/\∀c∈s.data.toList,c.toNat<128):=λt v=>by
   have l1:A.data.toList.length<=30:=by unfold aS4 at t;simp at t;simpa using t.1.2
   have l2:R.data.toList.length<=30:=by unfold aS4 at v;simp at v;simpa using v.1.2
   refine⟨?_,λc N=>?_⟩
   ·rw[(aEO 47 _ _ _ k).1];simp only[je,jm];omega
   ·rw[(aEO 47 _ _ _ k).1]at N
    rcases jY.1 N with h|h
    ·exact aS2 _ t c h
    ·rcases jad.1 h with h|h
     ·subst h;decide
     ·exact aS2 _ v c h
  clear k G B H J L E
  cases j:aS4 A.data.toList
  ·have m:Hid (aTE s.data.toList=false):=by unfold Hid;rw[q.out,j];rfl
   rw[j]at p
   clear q D y j z
   go_enter func46,ntmps46
   go_wp2_with fail
   refine(C.out _).mono ?_
   rintro e w' ⟨rfl,f⟩
   have b:=f.symm
   subst b
   go_wp2_with fail
   refine(p.out _).mono ?_
   rintro e O ⟨rfl,g⟩
   have d:=g.symm
   subst d
   go_wp2_with fail
   go_ret
   exact⟨by rw[m.out];rfl,jr _ _⟩
  ·cases n:aS4 R.data.toList
   ·have m:Hid (aTE s.data.toList=false):=by unfold Hid;rw[q.out,j,n];rfl
    rw[j]at p
    rw[n]at y
    clear q D j n z
    go_enter func46,ntmps46
    go_wp2_with fail
    refine(C.out _).mono ?_
    rintro e w' ⟨rfl,f⟩
    have b:=f.symm
    subst b
    go_wp2_with fail
    refine(p.out _).mono ?_
    rintro e O ⟨rfl,g⟩
    have d:=g.symm
    subst d
    go_wp2_with fail
    refine(y.out _).mono ?_
    rintro e Z ⟨rfl,o⟩
    have i:=o.symm
    subst i
    go_wp2_with fail
    go_ret
    exact⟨by rw[m.out];rfl,jr _ _⟩
   ·obtain⟨M,l⟩:=D.out j n
    have m:Hid (aTE s.data.toList=decide (aQE s.data.toList=s.data.toList)):=by unfold Hid;rw[q.out,j,n,aQR];rfl
    have P:Hid (Calls prog 87 #[.string s] w λe w'=>e=.returned (.string (ba (aQE s.data.toList)))/\jb w w'):=aPH s.data.toList w M l (z w (jr _ _))
    have e1:((ba (aQE s.data.toList)).toList==s.toList)=decide (aQE s.data.toList=s.data.toList):=by
     rw[jj,jj,jW];simp[ba]
    rw[j]at p
    rw[n]at y
    clear q D j n z M l
    generalize decide (aQE s.data.toList=s.data.toList)=T at*
    generalize ba (aQE s.data.toList)=SM at*
    go_enter func46,ntmps46
    go_wp2_with fail
    refine(C.out _).mono ?_
    rintro e w' ⟨rfl,f⟩
    have b:=f.symm
    subst b
    go_wp2_with fail
    refine(p.out _).mono ?_
    rintro e O ⟨rfl,g⟩
    have d:=g.symm
    subst d
    go_wp2_with fail
    refine(y.out _).mono ?_
    rintro e Z ⟨rfl,o⟩
    have i:=o.symm
    subst i
    go_wp2_with fail
    refine P.out.mono ?_
    rintro e w4 ⟨rfl,F⟩
    go_wp2_with fail
    go_ret
    exact⟨by rw[m.out];first|rfl|(rw[e1];rfl)|simp[e1],F⟩
end Go.Proofs.YtbbfcbodhmeanaaGreatDoor

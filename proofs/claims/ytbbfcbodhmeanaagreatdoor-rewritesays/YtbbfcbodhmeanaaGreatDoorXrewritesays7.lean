import Derived.Test.YtbbfcbodhmeanaaGreatDoorXrewritesays6
import Derived.Laws.ResultCell
set_option maxHeartbeats 8000000
set_option maxRecDepth 1000000
namespace Go.Proofs.YtbbfcbodhmeanaaGreatDoor
theorem aRy(c:UInt8)(t:jB):aRw [60] (60::c::t)=aJ3 c:=by simp[aRw,aH9,List.isPrefixOf]
theorem aJ5{c:UInt8}(h:aJ3 c=true):aIv c=true/\c≠33/\c≠63/\c≠47:=by
 have n:∀x:UInt8,aJ3 x=false->c≠x:=λx k e=>by rw[e,k]at h;cases h
 have b:=n 32 (by decide);have d:=n 9 (by decide);have f:=n 13 (by decide);have g:=n 10 (by decide);have i:=n 12 (by decide)
 have j:=n 62 (by decide);have a:=n 47 (by decide)
 exact⟨by simp[aIv,spB,b,d,f,g,i,j,a],n 33 (by decide),n 63 (by decide),a⟩
theorem aNc(a:jB->jB)(c:UInt8)(t:jB)(h:aJ3 c=true):aMT a (60::c::t)=((aRD a (c::t)).1.getD [],(aRD a (c::t)).2):=by
 obtain⟨_,b,d,_⟩:=aJ5 h
 unfold aMT
 rw[jh (by simp[aEm,List.isPrefixOf,Ne.symm b]),jh (by simp[List.isPrefixOf,Ne.symm b,Ne.symm d]),jo (by rw[aRy,h])]
 rfl
theorem aM9(a:jB->jB)(c:UInt8)(t:jB)(h:aJ3 c=true):aMT a (60::47::c::t)=([],(aRD a (c::t)).2):=by
 unfold aMT
 rw[jh (by simp[aEm,List.isPrefixOf]),jh (by simp[List.isPrefixOf]),jh (by rw[aRy];decide),jo (by simp[aRw,aH9,List.isPrefixOf,h])]
 rfl
theorem aMV(a:jB->jB)(t:jB):aMT a (60::33::45::45::t)=([],aCT aEl t):=by
 unfold aMT
 rw[jo (by simp[aEm,List.isPrefixOf])]
 rfl
def aL5(s:jB):Bool:=match s with
 |a::b::r=>if a=60 then(if b=33\/b=63 then false else if b=47 then !aH9 r else !aJ3 b)else true
 |_=>true
theorem aM7(i:jB->jB)(c:UInt8)(t:jB)(h:aL5 (c::t)=true):aMT i (c::t)=([],t):=by
 by_cases j:c=60
 ·subst j
  cases t with
  |nil=>simp[aMT,aEm,List.isPrefixOf,aRw,aH9]
  |cons d t=>
   simp only[aL5,jdl]at h
   by_cases a:d=33\/d=63
   ·rw[jo a]at h;cases h
   ·rw[jh a]at h
    have b:d≠33:=λe=>a (.inl e)
    have g:d≠63:=λe=>a (.inr e)
    unfold aMT
    rw[jh (by simp[aEm,List.isPrefixOf,Ne.symm b]),jh (by simp[List.isPrefixOf,Ne.symm b,Ne.symm g])]
    by_cases f:d=47
    ·rw[jo f]at h
     subst f
     have l:aH9 t=false:=by simpa using h
     rw[jh (by rw[aRy];decide),jh (by simp[aRw,List.isPrefixOf,l])]
     rfl
    ·rw[jh f]at h
     have k:aJ3 d=false:=by simpa using h
     rw[jh (by rw[aRy,k];decide),jh (by simp[aRw,List.isPrefixOf,Ne.symm f])]
     rfl
 ·simp[aMT,aEm,List.isPrefixOf,aRw,Ne.symm j]
theorem aL6(c:UInt8)(t u:jB)(h:u.take 2=t.take 2):aL5 (c::u)=aL5 (c::t):=by
 match t,u,h with
 |[],[],_=>rfl
 |[],_::_,h=>simp at h
 |_::_,[],h=>simp at h
 |[x],[y],h=>simp at h;subst h;rfl
 |[x],y::z::u,h=>simp at h
 |x::z::t,[y],h=>simp at h
 |x::z::t,y::z'::u,h=>
  simp at h
  obtain⟨rfl,rfl⟩:=h
  rfl
def aA6(low:jB->jB)(s:jB):Prop:=∃segs,s=aG5 segs++(aMT low s).2/\(aMT low s).1=aJW segs (aMT low s).2.length/\
 ∀(segs':List SG) (rest':jB),Rep segs segs'->rest'.take 2=(aMT low s).2.take 2->aMT low (aG5 segs'++rest')=(aJW segs' rest'.length,rest')/\(aG5 segs'++rest').take 2=s.take 2
theorem aRY{r:jB}(h:r.take 2=([]:jB).take 2):r=[]:=by
 cases r with
 |nil=>rfl
 |cons x r=>simp at h
theorem aMY(a:jB->jB)(s:jB)(h:aMT a s=([],[])):aA6 a s:=by
 unfold aA6
 rw[h]
 refine⟨[(false,s)],by simp[aG5],rfl,λc b d g=>?_⟩
 obtain⟨i,rfl,f⟩:=d.lit
 obtain rfl:=f.nil
 obtain rfl:=aRY g
 simp only[aG5,j6]
 exact⟨h,trivial⟩
theorem aM5(c:jB->jB)(a b:UInt8)(x r:jB)(h:∀g,aMT c (a::b::(x++g))=([],g)):aA6 c (a::b::(x++r)):=by
 unfold aA6
 rw[h]
 refine⟨[(false,a::b::x)],by simp[aG5],rfl,λf d i k=>?_⟩
 obtain⟨l,rfl,j⟩:=i.lit
 obtain rfl:=j.nil
 simp only[aG5,j6,jL]
 rw[h]
 exact⟨rfl,by simp⟩
theorem aRF(a:jB->jB)(b X:jB)(f:∀c∈b,aIv c=true)(d:aBm aIv X):aRD a (b++X)=aRz a (X.length+1) [] X:=by
 unfold aRD
 rw[(aTr aIv b X f d).2]
theorem aNe(a:jB->jB)(c:UInt8)(t:jB)(b:c=33\/c=63)(d:aEm.isPrefixOf (60::c::t)=false):aMT a (60::c::t)=([],aCT [62] (60::c::t)):=by
 unfold aMT
 rw[jh (by rw[d];decide),jo (by rcases b with rfl|rfl<;>simp[List.isPrefixOf])]
theorem aEn(c:UInt8)(t r a:jB)(h:aEm.isPrefixOf (60::c::(t++62::r))=false):aEm.isPrefixOf (60::c::(t++62::a))=false:=by
 match t,h with
 |[],_=>simp[aEm,List.isPrefixOf]
 |[x],_=>simp[aEm,List.isPrefixOf]
 |x::y::t,h=>simpa [aEm,List.isPrefixOf] using h
theorem aM6(f:jB->jB)(c:UInt8)(t:jB):aA6 f (c::t):=by
 by_cases n:aL5 (c::t)=true
 ·unfold aA6
  rw[aM7 f c t n]
  refine⟨[(false,[c])],rfl,rfl,λF g P L=>?_⟩
  obtain⟨N,rfl,z⟩:=P.lit
  obtain rfl:=z.nil
  simp only[aG5,j6,jL,jaf]
  simp only at L
  rw[aM7 f c g (by rw[aL6 c t g L];exact n)]
  refine⟨rfl,?_⟩
  have:g.take 1=t.take 1:=by
   have O:=jab (List.take 1) L
   simpa [List.take_take] using O
  simp[this]
 ·have U:c=60:=by
   by_cases e:c=60
   ·exact e
   ·exact absurd (by cases t<;>simp[aL5,e]) n
  subst U
  cases t with
  |nil=>exact absurd rfl n
  |cons d t=>
   by_cases H:d=33\/d=63
   ·by_cases A:aEm.isPrefixOf (60::d::t)=true
    ·obtain⟨u,Y⟩:=jap.1 A
     rw[<-Y]
     show aA6 f (60::33::45::45::u)
     rcases aCW aEl u (by simp[aEl])with⟨_,v⟩|⟨x,p,v⟩
     ·exact aMY f _ (by rw[aMV,v])
     ·have:=aM5 f 60 33 (45::45::(x++aEl)) (aCT aEl u) (λs=>by
       have e:(45::45::(x++aEl))++s=45::45::(x++(aEl++s)):=by simp
       rw[e,aMV,v])
      have e:(45::45::(x++aEl))++aCT aEl u=45::45::u:=by
       conv=>rhs;rw[p]
       simp
      rw[e]at this
      exact this
    ·have m:aEm.isPrefixOf (60::d::t)=false:=Bool.eq_false_iff.2 A
     rcases aCW [62] (60::d::t) (by simp)with⟨_,v⟩|⟨x,p,v⟩
     ·exact aMY f _ (by rw[aNe f d t H m,v])
     ·match x,p,v with
      |[],p,_=>simp at p
      |[a],p,_=>simp at p;rcases H with h|h<;>rw[p.2.1]at h<;>cases h
      |a::b::x,p,v=>
       have O:60=a/\d=b/\t=x++(62::aCT [62] (60::d::t)):=by simpa using p
       obtain⟨rfl,rfl,T⟩:=O
       rw[T]at m⊢
       have:=aM5 f 60 d (x++[62]) (aCT [62] (60::d::t)) (λs=>by
        have e:(x++[62])++s=x++62::s:=by simp
        rw[e,aNe f d _ H (aEn d x _ s m)]
        have:=v s
        simp only[jL,jaf]at this
        rw[this])
       simpa using this
   ·have V:d≠33:=λe=>H (.inl e)
    have W:d≠63:=λe=>H (.inr e)
    by_cases I:d=47
    ·subst I
     cases t with
     |nil=>exact absurd rfl n
     |cons x t=>
      have B:aJ3 x=true:=by
       cases p:aJ3 x with
       |true=>rfl
       |false=>exact absurd (by simp[aL5,aH9,p]) n
      have j:=aTs aIv (x::t)
      have z:=aTq aIv (x::t)
      have hst:=aFB aIv (x::t)
      generalize (x::t).takeWhile aIv=r at j z
      generalize (x::t).dropWhile aIv=X at j hst
      have q:=aM9 f x t B
      rw[<-j,aRF f r X z hst]at q
      cases n:(aRz f (X.length+1) [] X).1 with
      |none=>
       rw[aRV f _ _ _ n]at q
       exact aMY f _ (by rw[<-j];exact q)
      |some l=>
       obtain⟨c1,o,G,E,M,J⟩:=aRW f (X.length+1) [] X l (aRz f (X.length+1) [] X).2 (jej n rfl)
       generalize (aRz f (X.length+1) [] X).2=rest at E M J q
       have D:∃k i,r=k::i/\aJ3 k=true:=by
        cases r with
        |nil=>
         rw[jaf]at j
         have:=hst x (by rw[j];rfl)
         rw[(aJ5 B).1]at this;cases this
        |cons y r=>rw[jL,jcn]at j;exact⟨y,r,rfl,j.1▸B⟩
       obtain⟨k,i,rfl,C⟩:=D
       rw[<-j,E]
       have:=aM5 f 60 47 ((k::i)++aG5 ((false,c1::o)::G)) rest (λs=>by
        have e:((k::i)++aG5 ((false,c1::o)::G))++s=k::(i++(aG5 ((false,c1::o)::G)++s)):=by simp
        rw[e,aM9 f k _ C,<-jL,aRF f (k::i) _ z (aRe hst (by rw[E];rfl))]
        rw[J G s _ (Rep.refl G) (jdk _)])
       simpa using this
    ·have B:aJ3 d=true:=by
      cases p:aJ3 d with
      |true=>rfl
      |false=>exact absurd (by simp[aL5,H,I,p]) n
     have j:=aTs aIv (d::t)
     have z:=aTq aIv (d::t)
     have hst:=aFB aIv (d::t)
     generalize (d::t).takeWhile aIv=r at j z
     generalize (d::t).dropWhile aIv=X at j hst
     have q:=aNc f d t B
     rw[<-j,aRF f r X z hst]at q
     cases n:(aRz f (X.length+1) [] X).1 with
     |none=>
      rw[aRV f _ _ _ n,n]at q
      exact aMY f _ (by rw[<-j];exact q)
     |some l=>
      obtain⟨c1,o,G,E,M,J⟩:=aRW f (X.length+1) [] X l (aRz f (X.length+1) [] X).2 (jej n rfl)
      rw[n]at q
      generalize (aRz f (X.length+1) [] X).2=rest at E M J q
      have D:∃k i,r=k::i/\aJ3 k=true:=by
       cases r with
       |nil=>
        rw[jaf]at j
        have:=hst d (by rw[j];rfl)
        rw[(aJ5 B).1]at this;cases this
       |cons y r=>rw[jL,jcn]at j;exact⟨y,r,rfl,j.1▸B⟩
      obtain⟨k,i,rfl,C⟩:=D
      rw[<-j]
      unfold aA6
      rw[q]
      refine⟨(false,60::k::i)::(false,c1::o)::G,?_,?_,λF g P L=>?_⟩
      ·rw[aG8];simp only;conv=>lhs;rw[E]
       simp
      ·simp only[Option.getD_some];rw[M];rfl
      ·obtain⟨Z,rfl,R⟩:=P.lit
       obtain⟨N,rfl,S⟩:=R.lit
       have e:aG5 ((false,60::k::i)::(false,c1::o)::N)++g=60::k::(i++(aG5 ((false,c1::o)::N)++g)):=by rw[aG8];simp
       rw[e,aNc f k _ C,<-jL,aRF f (k::i) _ z (aRe hst (by rw[E];rfl))]
       rw[J N g _ S (jdk _)]
       exact⟨rfl,by simp⟩
theorem aGL(j:jB->jB):∀(n:Nat) (i:List LK) (s:jB) (L:List LK),s.length<=n->aGw j n i s=some L->
  ∃o,s=aG5 o/\L=i++aJW o 0/\∀(d:List SG) (f:List LK) (p:Nat),Rep o d->f.length=i.length->(aG5 d).length<=p->aGw j p f (aG5 d)=some (f++aJW d 0)/\(aG5 d).take 2=s.take 2
 |0,i,s,L,hs,h=>by
  obtain rfl:s=[]:=js.1 (by omega)
  simp only[aGw,jac]at h
  subst h
  refine⟨[],rfl,by simp[aJW],λd f p r _ _=>?_⟩
  obtain rfl:=r.nil
  cases p<;>simp[aGw,aG5,aJW]
 |n+1,i,[],L,hs,h=>by
  simp only[aGw,jdl,jac]at h
  subst h
  refine⟨[],rfl,by simp[aJW],λd f p r _ _=>?_⟩
  obtain rfl:=r.nil
  cases p<;>simp[aGw,aG5,aJW]
 |n+1,i,c::t,L,hs,h=>by
  have A:=aM3 j c t
  obtain⟨I,M,C,N⟩:=aM6 j c t
  rw[aGw,jh (by simp)]at h
  split at h
  ·cases h
  ·rename_i q
   generalize (aMT j (c::t)).1=H at h C q
   generalize (aMT j (c::t)).2=rest at h M C N A
   obtain⟨J,P,Y,R⟩:=aGL j n (i++H) rest L (by omega) h
   refine⟨I++J,by rw[aG7,<-P];exact M,?_,λd f p r Z D=>?_⟩
   ·rw[Y,C,aJX,P,jJ];rfl
   ·obtain⟨l,g,rfl,v,z⟩:=r.app
    rw[aG7]at D⊢
    obtain⟨_,W⟩:=R g (i++H) _ z rfl (jf _)
    obtain⟨F,G⟩:=N l (aG5 g) v W
    refine⟨?_,G⟩
    have E:∀(a b:List SG) (k m:Nat),Rep a b->(aJW a k).length=(aJW b m).length:=by
     intro a
     induction a with
     |nil=>intro b k m h;rw[h.nil];rfl
     |cons x a V=>
      intro b k m h
      cases b with
      |nil=>exact h.elim
      |cons y b=>
       obtain⟨S,_,_,T⟩:=h
       have:=V b k m T
       simp only[aJW]
       rw[<-S]
       split<;>simp[this]
    cases O:aG5 l++aG5 g with
    |nil=>rw[O]at G;cases t<;>simp at G
    |cons y u=>
     rw[O]at F D
     have B:=aM3 j y u
     obtain⟨m,rfl⟩:∃m,p=m+1:=⟨p-1,by simp at D;omega⟩
     rw[aGw,jh (by simp),F]
     have U:(aJW l (aG5 g).length).length=H.length:=by rw[C];exact(E _ _ _ _ v).symm
     rw[jh (by simp only[je]at q⊢;omega)]
     rw[F]at B
     obtain⟨X,_⟩:=R g (f++aJW l (aG5 g).length) m z (by simp only[je];omega) (by simp only[jm]at D B;omega)
     simp only
     rw[X,aJX,jJ]
     rfl
end Go.Proofs.YtbbfcbodhmeanaaGreatDoor
namespace Go.Proofs.YtbbfcbodhmeanaaGreatDoor
open Go.Proofs.Tryz
open Go.RowKit
def lba(l:jB):jA:=⟨l.toArray⟩
theorem aJA(l:jB):(lba l).data.toList=l:=rfl
theorem aJC(l:jB):(lba l).size=l.length:=by rw[Lib.size_eq,aJA]
theorem aJB{a b:jA}(h:a.data.toList=b.data.toList):a=b:=jbv (jbj.1 h)
def pos(p:jA)(s:jB):Nat:=p.size-s.length
abbrev Suf(p:jA)(s:jB):Prop:=s<:+p.data.toList
theorem Suf.len{p:jA}{s:jB}(h:Suf p s):s.length<=p.size:=by rw[Lib.size_eq];exact h.length_le
theorem Suf.drop{p:jA}{s:jB}(h:Suf p s):p.data.toList.drop (pos p s)=s:=by
 unfold pos
 rw[Lib.size_eq]
 exact(List.suffix_iff_eq_drop.1 h).symm
theorem aNB(p:jA)(s:jB):pos p s<=p.size:=by unfold pos;omega
theorem aND{p:jA}{s a r:jB}(h:Suf p s)(e:a++r=s):pos p r=pos p s+a.length:=by
 have:=h.len
 subst e
 unfold pos
 simp only[je]at this⊢
 omega
theorem aF6{p:jA}{s a r:jB}(h:Suf p s)(e:a++r=s):p.extract (pos p s) (pos p r)=lba a:=by
 have b:=h.drop
 have c:=aND h e
 refine aJB ?_
 rw[c,aJA]
 have e1:(p.extract (pos p s) (pos p s+a.length)).data.toList=((p.data.toList.drop (pos p s)).take a.length):=by
  rw[Lib.extract_data,show pos p s+a.length-pos p s=a.length from by omega]
 rw[e1,b,<-e,jci]
theorem aF5{p:jA}{s:jB}(h:Suf p s):p.extract (pos p s) p.size=lba s:=by
 have:=aF6 h (j6 s)
 have e:pos p ([]:jB)=p.size:=rfl
 rw[e]at this
 exact this
theorem Suf.dw{p:jA}{s:jB}(h:Suf p s)(q:UInt8->Bool):Suf p (s.dropWhile q):=(jbn q).trans h
theorem Suf.dr{p:jA}{s:jB}(h:Suf p s)(n:Nat):Suf p (s.drop n):=(jca n s).trans h
theorem Suf.tl{p:jA}{c:UInt8}{s:jB}(h:Suf p (c::s)):Suf p s:=(jeb c s).trans h
theorem aCX(m s:jB):aCT m s<:+s:=by
 unfold aCT
 split
 ·exact jdp
 ·exact jca _ _
theorem aMP(F:Nat)(a:Array Value)(q:UInt8->Bool)(b:World->Prop)(g:Nat)(p:jA)(s:jB)(d:Suf p s)(w:World)(j:aBf w g p (pos p s))(c:b w)(f:aAd F a q g b)(i:p.size<=4000):
  Calls prog 170 #[.pointer (some (jx g 0)),.func (Fn.func F) #[] a] w λe w'=>e=.returned (.string (lba (s.takeWhile q)))/\aAQ w g (pos p (s.dropWhile q)) w':=by
 have e:=aTs q s
 refine aMO F a q b g p (pos p s) (pos p (s.dropWhile q)) (lba (s.takeWhile q)) w j c f i ?_ (aF6 d e) (aNB _ _)
 rw[d.drop]
 exact aND d e
structure aAJ(w:World):Prop where
 mx:∃m:Int,w.cell? (jx 0 0)=some (.int .i64 m)
 cv:Lib.CaseVar 3 Lib.caseA w
 u8:Lib.Utf8Tabs 1 2 w
def aAI(w0:World):Prop:=∀W,jb w0 W->aAJ W
theorem aCV{p E:jA}{s:jB}(b:Suf p s)(c:¬Lib.index s E.data.toList<0):((pos p s:Nat):Int)+(Lib.index s E.data.toList+(E.size:Int))=(pos p (aCT E.data.toList s):Nat):=by
 have d:=Lib.index_room s E.data.toList (by omega)
 have f:=b.len
 have a:aCT E.data.toList s=s.drop ((Lib.index s E.data.toList).toNat+E.data.toList.length):=by unfold aCT;rw[jh c]
 unfold pos
 rw[a,jH,Lib.size_eq E]
 omega
theorem aMN(v:World)(r:aAI v)(E:jA)(H:E.size<=10)(g:Nat)(p:jA)(s:jB)(j:Suf p s)(w:World)(d:aBf w g p (pos p s))(t:jb v w)(J:p.size<=4000):
  Calls prog 130 #[.pointer (some (jx g 0)),.string E] w λe w'=>e=.returned (.tuple #[])/\aAQ w g (pos p (aCT E.data.toList s)) w':=by
 have F:=d.page
 have G:=d.at_
 have I:=d.frozen 1
 have L:=aF5 j
 have o:Hid (aBf w g p (pos p s)):=d
 have x:=j.len
 have q:Hid (aBd 86 #[.string (lba s),.string E] (.int .i64 (Lib.index s E.data.toList)) w):=λn=>by
  obtain⟨m,B⟩:=(r w t).mx
  exact Calls.quiet_of_same (strings_Index (lba s) E m (w.drewN n) (by rw[aJC];omega) B)
 have z:((pos p s:Nat):Int)<=(p.size:Int):=by have:=aNB p s;omega
 have A:pos p s<=p.size:=aNB p s
 have a:=Lib.index_room s E.data.toList
 by_cases l:Lib.index s E.data.toList<0
 ·have y:aCT E.data.toList s=[]:=by unfold aCT;rw[jo l]
  have f:Hid (pos p (aCT E.data.toList s)=p.size):=by unfold Hid;rw[y];rfl
  have c:¬0<=Lib.index s E.data.toList:=by omega
  generalize Lib.index s E.data.toList=i at q l c
  generalize pos p (aCT E.data.toList s)=m at f
  generalize pos p s=k at*
  clear y d l a j r t
  go_enter func130,ntmps130
  go_wp2_with fail
  go_quiet (first|(go_at_call 86;exact q.out _)|fail)
  go_wp2_with fail
  go_end0
  rw[f.out]
  exact⟨rfl,((aAQ.still o.out).then (aCY (jr _ _) _)).trans aAQ.of_set o.out⟩
 ·have f:Hid (((pos p s:Nat):Int)+(Lib.index s E.data.toList+(E.size:Int))=(pos p (aCT E.data.toList s):Nat)):=aCV j l
  have c:0<=Lib.index s E.data.toList:=by omega
  have b:=a c
  have C:IntKind.i64.wrap (Lib.index s E.data.toList+(E.size:Int))=Lib.index s E.data.toList+(E.size:Int):=by rw[ju];omega
  have D:IntKind.i64.wrap (((pos p s:Nat):Int)+(Lib.index s E.data.toList+(E.size:Int)))=(pos p (aCT E.data.toList s):Nat):=by rw[f.out,ju];have:=aNB p (aCT E.data.toList s);omega
  generalize pos p (aCT E.data.toList s)=m at*
  generalize Lib.index s E.data.toList=i at*
  generalize pos p s=k at*
  clear d l j r t a f b
  go_enter func130,ntmps130
  go_wp2_with fail
  go_quiet (first|(go_at_call 86;exact q.out _)|fail)
  go_wp2_with fail
  refine jt (results_none rfl _ _ _) rfl ?_
  ·exact⟨rfl,((aAQ.still o.out).then (aCY (jr _ _) _)).trans aAQ.of_set o.out⟩
def lkC(p:jA)(s r raw:jB):Array Value:=#[.int .i64 (pos p s:Nat),.int .i64 (pos p r:Nat),.string (lba (aTW raw))]
theorem aBZ(s:jA)(c:s.size<=4000):s.size+Lib.countB s (lba aBY)*(lba [38]).size<=140737488355328:=by
 have b:Lib.countB s (lba aBY)<=s.size+1:=by
  unfold Lib.countB
  have:=Lib.count_le s.data.toList (lba aBY).data.toList
  have:=Lib.size_eq s
  omega
 have a:(lba [38]).size=1:=rfl
 rw[a]
 omega
theorem aO5{c:Func}{p:Tmp}{d:TypeId}(h:c.results=#[.cell p d])(b:Array Value)(P:Program)(w:World):
  (results c b).run P w=
   ((asAddr (b.getD p undef)).run P w).andThen λa f=>(loadVar d a).run P f:=by
 simp only[results,h]
 simp[Sem.run_bind,Result.andThen]
theorem aO7{c:Func}{u p v:Tmp}{d:TypeId}(h:c.results=#[.tmp u,.cell p d,.tmp v])(b:Array Value)(P:Program)(w:World):
  (results c b).run P w=
   ((asAddr (b.getD p undef)).run P w).andThen λa f=>((loadVar d a).run P f).andThen λy g=>.ok (.tuple #[b.getD u undef,y,b.getD v undef]) g:=by
 simp only[results,h]
 simp[Sem.run_bind,Result.andThen]
theorem aJE{W:World}{k:Nat}{t:TypeId}{a b c:Value}(h:W.heap[k]?=some (.cells #[a,b,c] t)):
  W.cell? (jx k 0)=some a/\W.cell? (jx k 1)=some b/\W.cell? (jx k 2)=some c/\∀o,W.frozen? (jx k o)=false:=
 ⟨by simp[World.cell?,h],by simp[World.cell?,h],by simp[World.cell?,h],λo=>by simp[World.frozen?,h]⟩
theorem aKx(W:World)(o:Obj):(W.alloc o).heap[W.heap.size]?=some o:=by
 show(W.heap.push _)[W.heap.size]?=_
 rw[j2,jo rfl]
theorem aKv{W a:World}{k:Nat}{o:Obj}(h:W.heap[k]?=some o)(b:jb W a):a.heap[k]?=some o:=by
 rw[b.block _ (jl.1 h).1];exact h
theorem aKw{W:World}{k:Nat}{o:Obj}(h:W.heap[k]?=some o):k<W.heap.size:=(jl.1 h).1
theorem aAQ.kept{w w':World}{g:Nat}{m:Int}(h:aAQ w g m w'){k:Nat}{o:Obj}(a:w.heap[k]?=some o)(b:k≠g):w'.heap[k]?=some o:=by
 rw[h.block k (aKw a) b];exact a
theorem aAQ.new{w w':World}{g:Nat}{m:Int}(h:aAQ w g m w')(k i:Nat)(b:w.heap.size<=k)(v:Value):aAQ w g m (w'.setCell (jx k i) v):=by
 have a:Below w.heap.size (w.setCell (jx g 1) (.int .i64 m)) w':=h
 exact a.setCell (p:=jx k i) b v
theorem aAQ.alloc{w w':World}{g:Nat}{m:Int}(h:aAQ w g m w')(o:Obj):aAQ w g m (w'.alloc o):=h.then (ja _ _)
theorem aAQ.drewN{w w':World}{g:Nat}{m:Int}(h:aAQ w g m w')(n:Nat):aAQ w g m (w'.drewN n):=h.then (aCY (jr _ _) _)
theorem aKi(o:World)(M:aAI o)(F:Nat)(a:Array Value)(q:UInt8->Bool)(j:World->Prop)(f:∀W v t,j W->j (W.alloc (.cells v t)))(g:Nat)(X:o.heap.size<=g)(p:jA)(s:jB)(H:Suf p s)(w:World)(D:aBf w g p (pos p s))(R:jb o w)(x:j w)(P:aAd F a q g j)(hp:p.size<=4000):
  Calls prog 211 #[.pointer (some (jx g 0)),.func (Fn.func F) #[] a] w λe w'=>e=.returned (.agg (lkC p s (s.dropWhile q) (s.takeWhile q)))/\aAQ w g (pos p (s.dropWhile q)) w':=by
 have C:=D.at_
 have B:Hid (aBf w g p (pos p s)):=D
 have Y:=D.lt
 have I:g≠w.heap.size:=by omega
 have O:Hid (∀W,aBf W g p (pos p s)->j W->Calls prog 170 #[.pointer (some (jx g 0)),.func (Fn.func F) #[] a] W λe w'=>e=.returned (.string (lba (s.takeWhile q)))/\aAQ W g (pos p (s.dropWhile q)) w'):=λW C U=>aMP F a q j g p s H W C U P hp
 have A:(lba (s.takeWhile q)).size<=4000:=by rw[aJC];have:=(jdg (l:=s) q).length_le;have:=H.len;omega
 have J:Hid (∀W,jb o W->Calls prog 216 #[.string (lba (s.takeWhile q)),.string ⟨#[38,97,109,112,59]⟩,.string ⟨#[38]⟩] W λe w'=>e=.returned (.string (lba (aTW (s.takeWhile q))))/\jb W w'):=λW V=>by
  obtain⟨m,Z⟩:=(M W V).mx
  exact strings_ReplaceAll (lba (s.takeWhile q)) ⟨#[38,97,109,112,59]⟩ ⟨#[38]⟩ m W (by omega) Z (by decide) (aBZ _ A)
 have L:Hid _:=R
 have N:Hid (j (w.alloc (.cells #[.int .i64 0,.int .i64 0,.string jz] 40))):=f _ _ _ x
 unfold lkC
 generalize s.takeWhile q=T at*
 generalize pos p (s.dropWhile q)=m at*
 generalize pos p s=k at*
 clear D M R x f P H A
 have c:jb w (w.alloc (.cells #[.int .i64 0,.int .i64 0,.string jz] 40)):=ja _ _
 have i:=aKx w (.cells #[.int .i64 0,.int .i64 0,.string jz] 40)
 go_enter func211,ntmps211
 go_wp2_with fail
 refine(O.out _ (B.out.below c) N.out).mono ?_
 rintro e w1 ⟨rfl,d⟩
 have r:=d.base (L.out.trans (c.mono L.out.size)) X
 have y:=d.kept i (jaz I)
 have E:Hid (aAQ w g m w1):=((aAQ.still B.out).then c).trans d B.out
 clear O N i d c C
 go_wp2_with fail
 refine(J.out _ r).mono ?_
 rintro e S ⟨rfl,b⟩
 have z:=(E.out.then b).rd B.out
 have n:=aKv y b
 have C:=z.at_
 obtain⟨c0,c1,c2,cf⟩:=aJE n
 have G:Hid (aAQ w g m S):=E.out.then b
 have aa:w.heap.size<S.heap.size:=aKw n
 clear E J b z y n r
 go_wp2_with fail
 refine jt (v:=.agg #[.int .i64 k,.int .i64 m,.string (lba (aTW T))]) ?_ rfl ⟨rfl,?_⟩
 ·rw[aO5 rfl]
  go_simp
 ·exact((G.out.new _ _ (jf _) _).new _ _ (jf _) _).new _ _ (jf _) _
end Go.Proofs.YtbbfcbodhmeanaaGreatDoor

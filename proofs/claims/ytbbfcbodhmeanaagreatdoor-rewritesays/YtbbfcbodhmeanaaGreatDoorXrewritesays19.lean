import Derived.Test.YtbbfcbodhmeanaaGreatDoorXrewritesays18
import Derived.Lib.SplitLaws
import Derived.OwnWalk
import Derived.Laws.AppendOwn
set_option maxHeartbeats 8000000
set_option maxRecDepth 1000000
namespace Go.Proofs.YtbbfcbodhmeanaaGreatDoor
open Go.Proofs.Tryz
open Go.RowKit
def aBB(w:World)(r:UL×Nat)(e:Ending)(w':World):Prop:=e=.returned (.tuple #[(ofL r.1).v,.int .i64 (r.2:Int)])/\jb w w'
def bar(l:jB):jA:=⟨l.toArray⟩
theorem aCJ(l:jB):(bar l).data.toList=l:=rfl
theorem aCK(l:jB):(bar l).size=l.length:=by show l.toArray.size=_;simp
theorem aEY(d:UInt8)(l:jB):(aEW d l).1.length<=l.length/\(aEW d l).2.1.length<=l.length:=by
 have:=jab List.length (aEX d l)
 rw[je]at this
 refine⟨by omega,?_⟩
 unfold aEW
 cases a:aEM d l with
 |none=>simp
 |some x=>
  have h:=jab List.length (aEO d l x.1 x.2 a).1
  simp only[je,jm]at h
  simp only
  omega
theorem aUe{w w':World}{e:Ending}(u:UV)(h:e=.returned (.tuple #[if aDW u.l=0 then u.v else(ofL aLD).v,.int .i64 (aDW u.l:Nat)])/\jb w w'):aBB w (aD3 u.l) e w':=by
 obtain⟨rfl,a⟩:=h
 refine⟨?_,a⟩
 unfold aD3
 by_cases h:aDW u.l=0
 ·rw[jo h,jo h,h];rfl
 ·rw[jh h,jh h]
theorem aE5(Y:jB)(h:aNF Y=false)(w:World):Calls prog 81 #[.string (bar Y),.string ⟨#[47,47]⟩] w λe w'=>e=.returned (.tuple #[.string (bar Y),.bool false])/\w'=w:=by
 refine(strings_CutPrefix (bar Y) ⟨#[47,47]⟩ w).mono ?_
 rintro e w' ⟨rfl,rfl⟩
 refine⟨?_,rfl⟩
 have e1:Lib.hasPrefix (bar Y).data.toList (ByteArray.mk #[47,47]).data.toList=false:=(aNQ Y).trans h
 rw[show Lib.trimPrefix (bar Y).data.toList (ByteArray.mk #[47,47]).data.toList=Y from by unfold Lib.trimPrefix;rw[e1];rfl,e1]
 rfl
theorem aE6(Y:jB)(h:aNF Y=true)(w:World):Calls prog 81 #[.string (bar Y),.string ⟨#[47,47]⟩] w λe w'=>e=.returned (.tuple #[.string (bar (Y.drop 2)),.bool true])/\w'=w:=by
 refine(strings_CutPrefix (bar Y) ⟨#[47,47]⟩ w).mono ?_
 rintro e w' ⟨rfl,rfl⟩
 refine⟨?_,rfl⟩
 have e1:Lib.hasPrefix (bar Y).data.toList (ByteArray.mk #[47,47]).data.toList=true:=(aNQ Y).trans h
 rw[show Lib.trimPrefix (bar Y).data.toList (ByteArray.mk #[47,47]).data.toList=Y.drop 2 from by unfold Lib.trimPrefix;rw[e1];rfl,e1]
 rfl
theorem aI6(X:jB)(w:World):Calls prog 93 #[.string (bar X),.int .u8 47] w λe w'=>e=.returned (.int .i64 (aUV 47 X))/\w'=w:=by
 refine(strings_IndexByte (bar X) 47 w).mono ?_
 rintro e w' ⟨rfl,rfl⟩
 refine⟨?_,rfl⟩
 rw[aCJ,show((47:Int).toNat.toUInt8)=47 from rfl,aIz]
theorem aF7(l:jB)(k:Nat):(bar l).extract 0 k=bar (l.take k):=by
 apply aCx
 rw[Lib.extract_data,aCJ,aCJ]
 simp
theorem aF4(l:jB)(k:Nat):(bar l).extract k (bar l).size=bar (l.drop k):=by
 apply aCx
 rw[Lib.extract_data,aCJ,aCJ,aCK]
 exact jK (by rw[jH];exact jf _)
theorem aQh(u:UV)(a:u.sch.size<=120)(b:u.hst.size<=120)(c:u.pth.size<=120)(d:u.qry.size<=120)(f:u.frg.size<=120):u.short maxLen:=by
 unfold maxLen
 exact⟨by omega,by omega,by omega,by omega,by omega⟩
theorem aQK(l:jB):(aQJ l).length=l.length:=by unfold aQJ;rw[jD]
theorem aUl(l:jB)(h:l.length<=120)(w:World):Calls prog 91 #[.string (bar l)] w λe w'=>e=.returned (.string (bar (aQJ l)))/\jb w w':=aUj (bar l) w (by rw[aCK];omega)
theorem aUd(s:jA)(P:s.size<=maxLen)(w:World):
  Calls prog 50 #[.string s] w λe w'=>aBB w (aMw s.data.toList) e w':=by
 by_cases N:120<s.size
 ·refine(aMF s P N w).mono ?_
  rintro e w' ⟨rfl,L⟩
  refine⟨?_,L⟩
  unfold aMw
  rw[jo (by rw[<-Lib.size_eq];exact N)]
  rfl
 ·have i:s.size<=120:=by omega
  have O:s.data.toList.length<=120:=by rw[<-Lib.size_eq];exact i
  unfold aMw
  rw[jh (by omega)]
  obtain⟨R,S⟩:=aEY 35 s.data.toList
  have l:=λW=>aTJ 35 s (bar (aEW 35 s.data.toList).1) (bar (aEW 35 s.data.toList).2.1) (aEW 35 s.data.toList).2.2 rfl (by omega) W
  generalize (aEW 35 s.data.toList).2.2=c at*
  generalize (aEW 35 s.data.toList).2.1=f at*
  generalize (aEW 35 s.data.toList).1=j at*
  obtain⟨T,U⟩:=aEY 63 j
  have m:=λW=>aTJ 63 (bar j) (bar (aEW 63 j).1) (bar (aEW 63 j).2.1) (aEW 63 j).2.2 rfl (by rw[aCK];omega) W
  generalize (aEW 63 j).2.2=d at*
  generalize (aEW 63 j).2.1=g at*
  generalize (aEW 63 j).1=b at*
  have p:=λW=>aTH (bar b) W (by rw[aCK];omega)
  rw[aCJ]at p
  unfold aMv aUY at*
  cases M:aEP b with
  |none=>
   simp only[M]at p⊢
   unfold aIe
   cases D:aNF b with
   |false=>
    rw[jh (by simp)]
    exact(aMz s (bar j) (bar f) (bar b) (bar g) (bar b) c d _ w i l m p (λW=>aE5 b D W) (λW=>aTG ⟨jz,false,jz,bar b,d,bar g,c,bar f⟩ (aQh _ (by show 0<=120;omega) (by show 0<=120;omega) (by rw[aCK];omega) (by rw[aCK];omega) (by rw[aCK];omega)) W)).mono (λe w' h=>aUe ⟨jz,false,jz,bar b,d,bar g,c,bar f⟩ h)
   |true=>
    rw[jo rfl]
    have C:(b.drop 2).length<=120:=by rw[jH];omega
    unfold aES
    have q:=λW=>aI6 (b.drop 2) W
    cases E:aEM 47 (b.drop 2)with
    |none=>
     simp only
     rw[aUW E]at q
     exact(aMy s (bar j) (bar f) (bar b) (bar g) (bar (b.drop 2)) (bar (aQJ (b.drop 2))) c d _ w i l m p (λW=>aE6 b D W) (by rw[aCK];exact C) q (λW=>aUl _ C W) (λW=>aTG ⟨jz,true,bar (aQJ (b.drop 2)),jz,d,bar g,c,bar f⟩ (aQh _ (by show 0<=120;omega) (by rw[aCK,aQK];omega) (by show 0<=120;omega) (by rw[aCK];omega) (by rw[aCK];omega)) W)).mono (λe w' h=>aUe ⟨jz,true,bar (aQJ (b.drop 2)),jz,d,bar g,c,bar f⟩ h)
    |some x=>
     obtain⟨o,G⟩:=x
     simp only
     rw[aUX E]at q
     have n:=(aEO 47 _ _ _ E).1
     have F:=jab List.length n
     simp only[je,jm]at F
     exact(aMA s (bar j) (bar f) (bar b) (bar g) (bar (b.drop 2)) (bar o) (bar (aQJ o)) (bar (47::G)) c d o.length _ w i l m p (λW=>aE6 b D W) (by rw[aCK];exact C) q (by rw[aCK];omega) (by rw[aF7,n,jci]) (by rw[aF4,n,jbd]) (λW=>aUl _ (by omega) W) (λW=>aTG ⟨jz,true,bar (aQJ o),bar (47::G),d,bar g,c,bar f⟩ (aQh _ (by show 0<=120;omega) (by rw[aCK,aQK];omega) (by rw[aCK,jm];omega) (by rw[aCK];omega) (by rw[aCK];omega)) W)).mono (λe w' h=>aUe ⟨jz,true,bar (aQJ o),bar (47::G),d,bar g,c,bar f⟩ h)
  |some y=>
   obtain⟨a,r⟩:=y
   simp only[M]at p⊢
   have B:=aER b a r M
   have J:=jab List.length B
   simp only[je,jm]at J
   have v:(bar b).size<=120:=by rw[aCK];omega
   have I:a.length+1<=(bar b).size:=by rw[aCK];omega
   have z:(bar b).extract 0 a.length=bar a:=by rw[aF7,B,jci]
   have A:(bar b).extract (a.length+1) (bar b).size=bar r:=by
    rw[aF4,B,<-jay,jbd];rfl
   have t:=λW=>aUl a (by omega) W
   have k:=λW=>aUi (bar (aQJ a)) W (by rw[aCK,aQK];omega)
   rw[aCJ]at k
   cases H:aPU (aQJ a)with
   |false=>
    rw[H]at k
    rw[jo rfl]
    refine(aMB s (bar j) (bar f) (bar b) (bar g) (bar a) (bar r) (bar (aQJ a)) c d a.length w i l m p v I z A t k).mono ?_
    rintro e w' ⟨rfl,L⟩
    exact⟨rfl,L⟩
   |true=>
    rw[H]at k
    rw[jh (by simp)]
    unfold aIe
    cases D:aNF r with
    |false=>
     rw[jh (by simp)]
     exact(aMD s (bar j) (bar f) (bar b) (bar g) (bar a) (bar r) (bar (aQJ a)) (bar r) c d a.length _ w i l m p v I z A t k (λW=>aE5 r D W) (λW=>aTG ⟨bar (aQJ a),false,jz,bar r,d,bar g,c,bar f⟩ (aQh _ (by rw[aCK,aQK];omega) (by show 0<=120;omega) (by rw[aCK];omega) (by rw[aCK];omega) (by rw[aCK];omega)) W)).mono (λe w' h=>aUe ⟨bar (aQJ a),false,jz,bar r,d,bar g,c,bar f⟩ h)
    |true=>
     rw[jo rfl]
     have C:(r.drop 2).length<=120:=by rw[jH];omega
     unfold aES
     have q:=λW=>aI6 (r.drop 2) W
     cases E:aEM 47 (r.drop 2)with
     |none=>
      simp only
      rw[aUW E]at q
      exact(aMC s (bar j) (bar f) (bar b) (bar g) (bar a) (bar r) (bar (aQJ a)) (bar (r.drop 2)) (bar (aQJ (r.drop 2))) c d a.length _ w i l m p v I z A t k (λW=>aE6 r D W) (by rw[aCK];exact C) q (λW=>aUl _ C W) (λW=>aTG ⟨bar (aQJ a),true,bar (aQJ (r.drop 2)),jz,d,bar g,c,bar f⟩ (aQh _ (by rw[aCK,aQK];omega) (by rw[aCK,aQK];omega) (by show 0<=120;omega) (by rw[aCK];omega) (by rw[aCK];omega)) W)).mono (λe w' h=>aUe ⟨bar (aQJ a),true,bar (aQJ (r.drop 2)),jz,d,bar g,c,bar f⟩ h)
     |some x=>
      obtain⟨o,G⟩:=x
      simp only
      rw[aUX E]at q
      have n:=(aEO 47 _ _ _ E).1
      have F:=jab List.length n
      simp only[je,jm]at F
      exact(aME s (bar j) (bar f) (bar b) (bar g) (bar a) (bar r) (bar (aQJ a)) (bar (r.drop 2)) (bar o) (bar (aQJ o)) (bar (47::G)) c d a.length o.length _ w i l m p v I z A t k (λW=>aE6 r D W) (by rw[aCK];exact C) q (by rw[aCK];omega) (by rw[aF7,n,jci]) (by rw[aF4,n,jbd]) (λW=>aUl _ (by omega) W) (λW=>aTG ⟨bar (aQJ a),true,bar (aQJ o),bar (47::G),d,bar g,c,bar f⟩ (aQh _ (by rw[aCK,aQK];omega) (by rw[aCK,aQK];omega) (by rw[aCK,jm];omega) (by rw[aCK];omega) (by rw[aCK];omega)) W)).mono (λe w' h=>aUe ⟨bar (aQJ a),true,bar (aQJ o),bar (47::G),d,bar g,c,bar f⟩ h)
def aRl(l:List jA):List Value:=l.map Value.string
def lst(l:List jA):List jB:=l.map λx=>x.data.toList
theorem aRm(l:List jA)(x:jA):aRl (l++[x])=aRl l++[.string x]:=by simp[aRl]
theorem aKU(l:List jA)(x:jA):lst (l++[x])=lst l++[x.data.toList]:=by simp[lst]
theorem aKT(l:List jA):(lst l).length=l.length:=by simp[lst]
theorem aIL:(prog.info? 9).map (λi=>(i.zero,i.size,i.bytes))=some (some (.string jz),1,16):=by kernel_rfl
theorem aMh{w:World}{B e s n:Nat}{v:Value}{b:List Value}(h:w.ownsRow B e s v n b):∃p c,v=.slice p n c:=by
 rcases h.2 with⟨rfl,rfl⟩|⟨g,cap,a,rfl,_⟩
 ·exact⟨none,0,rfl⟩
 ·exact⟨_,_,rfl⟩
theorem aDG(w:World)(v:Value)(t:TypeId)(b:Nat)(a:b=w.heap.size):∀j x,[v][j]?=some x->(w.alloc (.cells #[v] t)).cell? (((jx b 0):Addr).add j)=some x:=by
 subst a
 exact aDL w v t rfl
theorem aMj{w:World}{B e n:Nat}{p:jO}{c:Nat}{i:List Value}(h:w.ownsRow B e 1 (.slice p (n+1) c) (n+1) i):∃g,p=some (jx g 0)/\g<w.heap.size/\n+1<=c:=by
 rcases h.2 with⟨b,_⟩|⟨g,cap,a,f,j,hh,d,_⟩
 ·cases b
 ·cases f
  exact⟨g,rfl,(jl.1 hh).1,d⟩
theorem aJe(c:List jB):Lib.join c [47]=aI9 c:=by
 cases c with
 |nil=>rfl
 |cons a t=>
  rw[Lib.join_cons]
  show _=aI7 [47] a t
  induction t generalizing a with
  |nil=>simp[Lib.joinTail,aI7]
  |cons b t d=>
   rw[aI7,<-d b]
   simp[Lib.joinTail]
theorem aJc(M:Nat)(c:List jB)(h:∀x∈c,x.length<=M):(aI9 c).length<=c.length*(M+1):=by
 cases c with
 |nil=>exact jy _
 |cons a t=>
  show(aI7 [47] a t).length<=_
  induction t generalizing a with
  |nil=>have:=h a (by simp);simp[aI7];omega
  |cons b t g=>
   have i:=h a (by simp)
   have d:=g b (λx f=>h x (by simp at f⊢;exact .inr f))
   simp only[aI7,je,jm,jag]at d⊢
   rw[Nat.add_mul]at d⊢
   rw[Nat.add_mul]at⊢
   omega
theorem aFp(s:jB)(r a:List jB)(h:aIZ s=false):aFn (s::r) a=aFn r (a++[s]):=by rw[aFn,jh (by rw[h];simp)]
theorem aFo(s:jB)(r a:List jB)(h:aIZ s=true):aFn (s::r) a=aFn r (if r.isEmpty then aCA s a++[[]]else aCA s a):=by rw[aFn,jo h]
theorem aKR(a:List jA)(k:Nat)(h:k<a.length):lst (a.drop k)=(a.getD k ByteArray.empty).data.toList::lst (a.drop (k+1)):=by
 rw[jE h,jd,jc h]
 rfl
theorem aKS(a:List jA)(k:Nat):(lst (a.drop k)).isEmpty=decide (a.length<=k):=by
 rw[jW]
 simp[lst]
theorem aFq(b n c:Nat)(s:jA)(M:List jA)(hn:Hid (n=M.length))(aJ:n<=1000)(hx:Hid (∀x∈M,x.size<=1000))(w t:World)(am:jb w t)(aA:b<t.heap.size)
  (CS:Hid (Calls prog 57 #[.string s,.string ⟨#[47]⟩] w λe w'=>e=.returned (.slice (some (jx b 0)) n c)/\w'=t))
  (hc:Hid (∀i,i<n->t.cell? (jx b i)=some (.string (M.getD i ByteArray.empty)))):
  Calls prog 96 #[.string s] w λe w'=>e=.returned (.string (bar (aI9 (aFn (lst M) []))))/\jb w w':=by
 obtain⟨i0,hi,ac,ad,ae⟩:=jao aIL
 obtain⟨o,R⟩:∃o,aFn (lst M) []=o:=⟨_,rfl⟩
 rw[R]
 have al:Hid _:=R
 clear R
 go_enter func96,ntmps96
 go_wp2_with fail
 refine CS.out.mono ?_
 rintro e w' ⟨rfl,aE⟩
 have aw:=aE.symm
 subst aw
 clear CS
 go_wp2_with fail
 go_loopw[4,11] (λlv iv wr=>∃(k:Nat) (p:jO) (m c1:Nat) (d:List jA),k<=n/\iv=.int .i64 k/\lv=.slice p m c1/\m<=k/\Hid (m=d.length)/\jb t wr/\Hid (wr.ownsRow t.heap.size 9 1 (.slice p m c1) m (aRl d))/\Hid (∀x∈d,x.size<=1000)/\Hid (aFn (lst (M.drop k)) (lst d)=o)) (λ_ iv _=>n-(intOf iv).toNat)
 case atStart=>exact⟨0,none,0,0,[],jy _,rfl,rfl,jf _,rfl,jr _ _,jT _ _ _ _,(λx hx=>by cases hx),al⟩
 case round=>
  obtain⟨k,p,m,c1,d,hk,rfl,rfl,aI,C,B,O,Z,N⟩:=hrel
  clear al
  have T:=B.size
  by_cases ar:k<n
  ·have aG:wr.cell? (jx b k)=some (.string (M.getD k ByteArray.empty)):=(B.cell (p:=jx b k) aA).trans (hc.out k ar)
   have ab:k<M.length:=by rw[<-hn.out];exact ar
   have aF:Hid ((M.getD k ByteArray.empty).size<=1000):=hx.out _ (by rw[jd,jc ab];exact jQ ab)
   have ap:=aKR M k ab
   have ah:=aKS M (k+1)
   rw[<-hn.out]at ah
   have HD:Hid _:=ap
   have L:Hid _:=ah
   clear ap ah ab
   generalize M.getD k ByteArray.empty=x at*
   rw[HD.out]at N
   obtain⟨rest,I⟩:∃rest,lst (M.drop (k+1))=rest:=⟨_,rfl⟩
   rw[I]at N L
   have G:Hid _:=I
   clear I
   by_cases h1:x.data.toList=[46]
   ·have ax:x.toList=[46]:=by rw[jj];exact h1
    have ay:¬x.toList=[46,46]:=by rw[jj,h1];decide
    have f:Hid (aFn rest (if rest.isEmpty then lst d++[[]]else lst d)=o):=by
     unfold Hid
     rw[<-N.out,h1,aFo _ _ _ rfl]
     rfl
    clear N h1 HD
    by_cases l:n<=k+1
    ·have S:((k:Int)==(n:Int)-1)=true:=by rw[jbp];omega
     have v:Hid (aFn rest (lst (d++[jz]))=o):=by
      unfold Hid
      rw[<-f.out,L.out,j3 l,jo rfl,aKU]
     have q:=O.out
     clear f L
     go_wp2_with (at_builtin;refine jX _ rfl (.tmp 43) (.tmp 44) 26 rfl t.heap.size 9 i0 (.string jz) 1 16 underlying26 hi ac ad ae rfl (by decide) _ _ _ rfl (q.alloc _) (jx wr.heap.size 0) 1 1 [.string jz] rfl rfl (aDG _ _ _ _ rfl) ?c2 ?c3 ?c4 ?c5 ?_)
     case c2=>first|rfl|(intro u U;simp at U;subst U;rfl)
     case c3=>unfold maxLen;omega
     case c4=>omega
     case c5=>first|omega|(simp;omega)
     intro v9 X a A _
     have H:jb t X:=(B.alloc T _).grown A (by simp;omega) (λj hj=>(q.lt j hj).1)
     obtain⟨W,P,rfl⟩:=aMh a
     have F:Hid (X.ownsRow t.heap.size 9 1 (.slice W (m+1) P) (m+1) (aRl (d++[jz]))):=by unfold Hid;rw[aRm];exact a
     have E:Hid (m+1=(d++[jz]).length):=by unfold Hid;rw[je,<-C.out];rfl
     have D:Hid (∀z∈d++[jz],z.size<=1000):=λz V=>by
      rcases jY.1 V with h|h
      ·exact Z.out z h
      ·simp at h;subst h;exact(by decide)
     clear a A q
     go_wp2_with fail
     go_roundw
     case rel=>exact⟨k+1,W,m+1,P,d++[jz],by omega,by go_num,rfl,by omega,E,H,F,D,by unfold Hid;rw[G.out];exact v⟩
     case measure=>simp[intOf];omega
    ·have S:((k:Int)==(n:Int)-1)=false:=by rw[jg];omega
     have v:Hid (aFn rest (lst d)=o):=by
      unfold Hid
      rw[<-f.out,L.out,jV l,jh (by simp)]
     clear f L
     go_wp2_with fail
     go_roundw
     case rel=>exact⟨k+1,p,m,c1,d,by omega,by go_num,rfl,by omega,C,B,O,Z,by unfold Hid;rw[G.out];exact v⟩
     case measure=>simp[intOf];omega
   ·by_cases Y:x.data.toList=[46,46]
    ·have ax:¬x.toList=[46]:=by rw[jj,Y];decide
     have ay:x.toList=[46,46]:=by rw[jj];exact Y
     by_cases ai:1<m
     ·obtain⟨J,rfl⟩:∃J,m=J+1:=⟨m-1,by omega⟩
      have aH:1<=J:=by omega
      obtain⟨g,rfl,an,aB⟩:=aMj O.out
      rcases jeg d with av|⟨r,y,aq⟩
      ·exact absurd C.out (by rw[av];simp)
      rw[jeh]at aq
      subst aq
      have aa:Hid (J=r.length):=by have:=C.out;rw[je]at this;simp at this;exact this
      have ak:Hid (wr.ownsRow t.heap.size 9 1 (.slice (some (jx g 0)) J c1) J (aRl r)):=by
       have:=O.out
       rw[aRm]at this
       exact ownsRow_pop (by simp[aRl];exact aa.out.symm) this
      have aj:Hid (∀z∈r,z.size<=1000):=λz V=>Z.out z (by simp[V])
      have f:Hid (aFn rest (if rest.isEmpty then lst r++[[]]else lst r)=o):=by
       unfold Hid
       rw[<-N.out,Y,aFo _ _ _ rfl]
       have ag:aCA [46,46] (lst (r++[y]))=lst r:=by
        unfold aCA
        rw[jo (by
         rw[aKT,je,<-aa.out,List.length_singleton,j3 ai]
         rfl),aKU,jeo]
       rw[ag]
      have aD:(1:Int)<((J+1:Nat):Int):=by omega
      clear N Y HD C O Z ai
      by_cases l:n<=k+1
      ·have S:((k:Int)==(n:Int)-1)=true:=by rw[jbp];omega
       have v:Hid (aFn rest (lst (r++[jz]))=o):=by
        unfold Hid
        rw[<-f.out,L.out,j3 l,jo rfl,aKU]
       have q:=ak.out
       clear f L
       go_wp2_with (at_builtin;refine jX _ rfl (.tmp 43) (.tmp 44) 26 rfl t.heap.size 9 i0 (.string jz) 1 16 underlying26 hi ac ad ae rfl (by decide) _ _ _ rfl (q.alloc _) (jx wr.heap.size 0) 1 1 [.string jz] rfl rfl (aDG _ _ _ _ rfl) ?c2 ?c3 ?c4 ?c5 ?_)
       case c2=>first|rfl|(intro u U;simp at U;subst U;rfl)
       case c3=>unfold maxLen;omega
       case c4=>omega
       case c5=>first|omega|(simp;omega)
       intro v9 X a A _
       have H:jb t X:=(B.alloc T _).grown A (by simp;omega) (λj hj=>(q.lt j hj).1)
       obtain⟨W,P,rfl⟩:=aMh a
       have F:Hid (X.ownsRow t.heap.size 9 1 (.slice W (J+1) P) (J+1) (aRl (r++[jz]))):=by unfold Hid;rw[aRm];exact a
       have E:Hid (J+1=(r++[jz]).length):=by unfold Hid;rw[je,<-aa.out];rfl
       have D:Hid (∀z∈r++[jz],z.size<=1000):=λz V=>by
        rcases jY.1 V with h|h
        ·exact aj.out z h
        ·simp at h;subst h;exact(by decide)
       clear a A q
       go_wp2_with fail
       go_roundw
       case rel=>exact⟨k+1,W,J+1,P,r++[jz],by omega,by go_num,rfl,by omega,E,H,F,D,by unfold Hid;rw[G.out];exact v⟩
       case measure=>simp[intOf];omega
      ·have S:((k:Int)==(n:Int)-1)=false:=by rw[jg];omega
       have v:Hid (aFn rest (lst r)=o):=by
        unfold Hid
        rw[<-f.out,L.out,jV l,jh (by simp)]
       clear f L
       go_wp2_with fail
       go_roundw
       case rel=>exact⟨k+1,some (jx g 0),J,c1,r,by omega,by go_num,rfl,by omega,aa,B,ak,aj,by unfold Hid;rw[G.out];exact v⟩
       case measure=>simp[intOf];omega
     ·have f:Hid (aFn rest (if rest.isEmpty then lst d++[[]]else lst d)=o):=by
       unfold Hid
       rw[<-N.out,Y,aFo _ _ _ rfl]
       have ag:aCA [46,46] (lst d)=lst d:=by
        unfold aCA
        rw[jh (by
         rw[aKT,<-C.out,jV ai]
         simp)]
       rw[ag]
      have aD:¬(1:Int)<(m:Int):=by omega
      clear N Y HD
      by_cases l:n<=k+1
      ·have S:((k:Int)==(n:Int)-1)=true:=by rw[jbp];omega
       have v:Hid (aFn rest (lst (d++[jz]))=o):=by
        unfold Hid
        rw[<-f.out,L.out,j3 l,jo rfl,aKU]
       have q:=O.out
       clear f L
       go_wp2_with (at_builtin;refine jX _ rfl (.tmp 43) (.tmp 44) 26 rfl t.heap.size 9 i0 (.string jz) 1 16 underlying26 hi ac ad ae rfl (by decide) _ _ _ rfl (q.alloc _) (jx wr.heap.size 0) 1 1 [.string jz] rfl rfl (aDG _ _ _ _ rfl) ?c2 ?c3 ?c4 ?c5 ?_)
       case c2=>first|rfl|(intro u U;simp at U;subst U;rfl)
       case c3=>unfold maxLen;omega
       case c4=>omega
       case c5=>first|omega|(simp;omega)
       intro v9 X a A _
       have H:jb t X:=(B.alloc T _).grown A (by simp;omega) (λj hj=>(q.lt j hj).1)
       obtain⟨W,P,rfl⟩:=aMh a
       have F:Hid (X.ownsRow t.heap.size 9 1 (.slice W (m+1) P) (m+1) (aRl (d++[jz]))):=by unfold Hid;rw[aRm];exact a
       have E:Hid (m+1=(d++[jz]).length):=by unfold Hid;rw[je,<-C.out];rfl
       have D:Hid (∀z∈d++[jz],z.size<=1000):=λz V=>by
        rcases jY.1 V with h|h
        ·exact Z.out z h
        ·simp at h;subst h;exact(by decide)
       clear a A q
       go_wp2_with fail
       go_roundw
       case rel=>exact⟨k+1,W,m+1,P,d++[jz],by omega,by go_num,rfl,by omega,E,H,F,D,by unfold Hid;rw[G.out];exact v⟩
       case measure=>simp[intOf];omega
      ·have S:((k:Int)==(n:Int)-1)=false:=by rw[jg];omega
       have v:Hid (aFn rest (lst d)=o):=by
        unfold Hid
        rw[<-f.out,L.out,jV l,jh (by simp)]
       clear f L
       go_wp2_with fail
       go_roundw
       case rel=>exact⟨k+1,p,m,c1,d,by omega,by go_num,rfl,by omega,C,B,O,Z,by unfold Hid;rw[G.out];exact v⟩
       case measure=>simp[intOf];omega
    ·have ax:(x.toList==[46])=false:=by rw[jg,jj];exact h1
     have ay:(x.toList==[46,46])=false:=by rw[jg,jj];exact Y
     have f:Hid (aFn rest (lst (d++[x]))=o):=by
      unfold Hid
      rw[<-N.out,aFp _ _ _ (by unfold aIZ;simp[h1,Y]),aKU]
     have q:=O.out
     clear N h1 Y HD L
     go_wp2_with (at_builtin;refine jX _ rfl (.tmp 22) (.tmp 24) 26 rfl t.heap.size 9 i0 (.string jz) 1 16 underlying26 hi ac ad ae rfl (by decide) _ _ _ rfl (q.alloc _) (jx wr.heap.size 0) 1 1 [.string x] rfl rfl (aDG _ _ _ _ rfl) ?c2 ?c3 ?c4 ?c5 ?_)
     case c2=>first|rfl|(intro u U;simp at U;subst U;rfl)
     case c3=>unfold maxLen;omega
     case c4=>omega
     case c5=>first|omega|(simp;omega)
     intro v9 X a A _
     have H:jb t X:=(B.alloc T _).grown A (by simp;omega) (λj hj=>(q.lt j hj).1)
     obtain⟨W,P,rfl⟩:=aMh a
     have F:Hid (X.ownsRow t.heap.size 9 1 (.slice W (m+1) P) (m+1) (aRl (d++[x]))):=by unfold Hid;rw[aRm];exact a
     have E:Hid (m+1=(d++[x]).length):=by unfold Hid;rw[je,<-C.out];rfl
     have D:Hid (∀z∈d++[x],z.size<=1000):=λz V=>by
      rcases jY.1 V with h|h
      ·exact Z.out z h
      ·simp at h;subst h;exact aF.out
     clear a A q
     go_wp2_with fail
     go_roundw
     case rel=>exact⟨k+1,W,m+1,P,d++[x],by omega,by go_num,rfl,by omega,E,H,F,D,by unfold Hid;rw[G.out];exact f⟩
     case measure=>simp[intOf];omega
  ·obtain rfl:k=n:=by omega
   have f:Hid (lst d=o):=by
    have:=N.out
    rw[jC (by rw[<-hn.out];exact jf _)]at this
    exact this
   clear N
   have af:(Lib.join (d.map (·.data.toList)) (ByteArray.mk #[47]).data.toList).length<=140737488355328:=by
    show(Lib.join (lst d) [47]).length<=_
    rw[aJe]
    have h1:=aJc 1000 (lst d) (λy hy=>by
     unfold lst at hy
     rw[jbi]at hy
     obtain⟨z,V,rfl⟩:=hy
     rw[<-Lib.size_eq];exact Z.out z V)
    rw[aKT,<-C.out]at h1
    have Y:m*(1000+1)<=1000*1001:=Nat.mul_le_mul (by omega) (by omega)
    omega
   have CJ:Hid (Calls prog 107 #[.slice p m c1,.string ⟨#[47]⟩] wr λe w'=>e=.returned (.string (bar (aI9 o)))/\jb wr w'):=by
    have ao:Lib.join (d.map (·.data.toList)) (ByteArray.mk #[47]).data.toList=aI9 o:=by
     rw[<-f.out];exact aJe _
    rcases jbo m with h0|h0
    ·subst h0
     have aC:d=[]:=js.1 C.out.symm
     refine(strings_Join_none p c1 ⟨#[47]⟩ wr).mono ?_
     rintro e w' ⟨rfl,rfl⟩
     refine⟨?_,jr _ _⟩
     rw[<-ao,aC];rfl
    ·obtain⟨J,rfl⟩:∃J,m=J+1:=⟨m-1,by omega⟩
     obtain⟨g,rfl,an,aB⟩:=aMj O.out
     have:=strings_Join g 0 c1 d ⟨#[47]⟩ wr (λj y hy=>by
      have hj:j<d.length:=(jN.1 hy).1
      rw[j0,O.out.cellAt j (by have:=C.out;omega)]
      simp[aRl,hy]) an (by have:=C.out;omega) (by have:=C.out;omega) af
     rw[<-C.out,ao]at this
     exact this
   clear O Z C af
   go_wp2_with fail
   refine CJ.out.mono ?_
   rintro e w2 ⟨rfl,az⟩
   go_wp2
   go_ret
   exact⟨rfl,am.trans ((B.trans (az.mono T)).mono am.size)⟩
def aAP(w:World):Prop:=∃m:Int,w.cell? (jx 0 0)=some (.int .i64 m)
theorem aAP.below{w w':World}(h:aAP w)(b:jb w w'):aAP w':=by
 obtain⟨m,a⟩:=h
 exact⟨m,(b.cell (p:=jx 0 0) (ji w _ a)).trans a⟩
theorem aQ1(s:jA)(w:World)(n:aAP w)(z:s.size<=900):∃d:List jA,lst d=aML s.data.toList/\d.length<=1000/\(∀x∈d,x.size<=1000)/\
  Calls prog 57 #[.string s,.string ⟨#[47]⟩] w λe w'=>e=.returned (.slice (some ⟨w.heap.size,0,none⟩) d.length d.length)/\w'=w.alloc (.cells (d.map Value.string).toArray 9):=by
 obtain⟨m,q⟩:=n
 have k:=strings_Split s ⟨#[47]⟩ m w (by omega) q (by decide)
 have i:=Lib.splitB_all ⟨#[47]⟩ (by decide) 0 _ s rfl
 have o:=Lib.countB_le ⟨#[47]⟩ (by decide) s.size s (jf _)
 have g:=Lib.splitB_data ⟨#[47]⟩ 0 (Lib.countB s ⟨#[47]⟩) s
 have c:lst (Lib.splitB ⟨#[47]⟩ 0 (Lib.countB s ⟨#[47]⟩) s)=aML s.data.toList:=by
  unfold lst
  rw[g]
  exact aQ7 s.data.toList
 refine⟨Lib.splitB ⟨#[47]⟩ 0 (Lib.countB s ⟨#[47]⟩) s,c,by omega,λx r=>?_,?_⟩
 ·have j:x.data.toList∈aML s.data.toList:=by rw[<-c];exact List.mem_map_of_mem r
  have p:=aJb s.data.toList
  have:∀(d:List jB) (y:jB),y∈d->y.length<=(aI9 d).length:=by
   intro d y f
   cases d with
   |nil=>cases f
   |cons a t=>
    show y.length<=(aI7 [47] a t).length
    induction t generalizing a with
    |nil=>simp at f;subst f;exact jf _
    |cons b t v=>
     simp only[aI7,je]
     rcases jad.1 f with rfl|f
     ·omega
     ·have:=v b f;omega
  have l:=this _ _ j
  rw[p,<-Lib.size_eq,<-Lib.size_eq]at l
  omega
 ·rw[i]
  exact k
theorem aTR(s:jA)(w:World)(c:aAP w)(j:s.size<=900):
  Calls prog 96 #[.string s] w λe w'=>e=.returned (.string (bar (aT3 s.data.toList)))/\jb w w':=by
 obtain⟨a,g,f,k,b⟩:=aQ1 s w c j
 unfold aT3
 rw[<-g]
 exact aFq w.heap.size a.length a.length s a rfl f k w _ (ja _ _) (by simp) b (λi d=>by
  rw[jdn _ _ _ _ rfl]
  simp[List.getD_eq_getElem?_getD,d])
theorem aO6{c:Func}{p:Tmp}{d:TypeId}(h:c.results=#[.cell p d])(b:Array Value)(P:Program)(w:World):
  (results c b).run P w=((asAddr (b.getD p undef)).run P w).andThen λa f=>(loadVar d a).run P f:=by
 simp only[results,h]
 simp[Sem.run_bind,Result.andThen]
theorem aSV(w:World)(t:TypeId)(a b c:Array Value):(((w.alloc (.cells a t)).alloc (.cells b t)).alloc (.cells c t)).drew.heap[w.heap.size]?=some (.cells a t)/\(((w.alloc (.cells a t)).alloc (.cells b t)).alloc (.cells c t)).drew.heap[w.heap.size+1]?=some (.cells b t)/\(((w.alloc (.cells a t)).alloc (.cells b t)).alloc (.cells c t)).drew.heap[w.heap.size+1+1]?=some (.cells c t):=by
 have e:(((w.alloc (.cells a t)).alloc (.cells b t)).alloc (.cells c t)).drew.heap=((w.heap.push (.cells a t)).push (.cells b t)).push (.cells c t):=rfl
 rw[e]
 refine⟨?_,?_,?_⟩
 ·rw[j2,jh (by simp;omega),j2,jh (by simp),j2,jo rfl]
 ·rw[j2,jh (by simp),j2,jo (by simp)]
 ·rw[j2,jo (by simp)]
theorem aJx(s:jA):∀k:Nat,k<=s.size->(Lib.lastIdx s 47 k+1).toNat<=k/\-1<=Lib.lastIdx s 47 k/\aFg (s.data.toList.take k)=s.data.toList.take (Lib.lastIdx s 47 k+1).toNat:=by
 intro k z
 have o:s.data.toList.length=s.size:=(Lib.size_eq s).symm
 have d:∀j,(g:j<s.size)->s.data[j]! =s.data.toList[j]'(by omega):=λj g=>by
  rw[getElem!_pos s.data j g];rfl
 have m:∀c:UInt8,((c.toNat:Int)≠47)->(!(c==47))=true:=λc h=>by
  rw[jde,jg]
  rintro rfl
  exact h rfl
 have b:∀l:jB,(∀c∈l,(!(c==47))=true)->l.dropWhile (λc=>!(c==47))=[]:=λl h=>by
  induction l with
  |nil=>rfl
  |cons a l x=>rw[jat,jo (h a (by simp)),x (λc f=>h c (by simp[f]))]
 rcases Lib.lastIdx_spec s 47 k with⟨e,h⟩|⟨i,y,e,p,q⟩
 ·rw[e]
  refine⟨by simp,by omega,?_⟩
  unfold aFg
  rw[b _ (λc f=>by
   rw[List.mem_reverse]at f
   obtain⟨j,g,rfl⟩:=jdq f
   rw[jF]at g
   rw[List.getElem_take]
   have:=h j (by omega)
   rw[d j (by omega)]at this
   exact m _ this)]
  simp
 ·rw[e]
  refine⟨by omega,by omega,?_⟩
  have e1:((i:Int)+1).toNat=i+1:=by omega
  rw[e1]
  have n:i<s.data.toList.length:=by omega
  have split:s.data.toList.take k=s.data.toList.take (i+1)++(s.data.toList.take k).drop (i+1):=by
   conv=>lhs;rw[<-jaq (i+1) (s.data.toList.take k)]
   rw[jbq,jbf (by omega)]
  unfold aFg
  rw[split,jby]
  have t:((s.data.toList.take k).drop (i+1)).reverse.dropWhile (λc=>!(c==47))=[]:=b _ (λc f=>by
   rw[List.mem_reverse]at f
   obtain⟨j,g,rfl⟩:=jdq f
   rw[jH,jF]at g
   rw[List.getElem_drop,List.getElem_take]
   have:=q (i+1+j) (by omega) (by omega)
   rw[d (i+1+j) (by omega)]at this
   exact m _ this)
  rw[List.dropWhile_append,t]
  rw[jo (by rfl)]
  have v:s.data.toList.take (i+1)=s.data.toList.take i++[47]:=by
   rw[jan,jc n]
   have r:=p
   rw[d i (by omega)]at r
   have:s.data.toList[i]=47:=by rw[<-jM];show _=47;omega
   rw[this];rfl
  rw[v,jby]
  show((47::(s.data.toList.take i).reverse).dropWhile (λc=>!(c==47))).reverse=_
  rw[jat,jh (by simp)]
  simp
theorem aJy(s:jA):(Lib.lastIndexByte s 47+1).toNat<=s.size/\-1<=Lib.lastIndexByte s 47/\aFg s.data.toList=s.data.toList.take (Lib.lastIndexByte s 47+1).toNat:=by
 have:=aJx s s.size (jf _)
 rw[Lib.size_eq,List.take_length,<-Lib.size_eq]at this
 exact this
theorem aEs(g n o p m q j k l i:jA)(d f c b a:Bool)(w:World):
  Calls prog 95 #[.agg (jU g d n o f p c m),.agg (jU q true j k b l a i)] w λe w'=>e=.returned (.agg (jU g true j k b l a i))/\jb w w':=by
 go_enter func95,ntmps95
 go_wp2
 refine jt (v:=.agg (jU g true j k b l a i)) ?_ rfl ⟨rfl,?_⟩
 ·rw[aO6 rfl]
  go_simp
 ·repeat (first|refine jdi ?_|refine j5 ?_ (by simp;try omega) _|refine jcl ?_ (by simp;try omega) _|exact jr _ _)
theorem aEq(i c g m l o n k j:jA)(a f d b:Bool)(w:World):
  Calls prog 95 #[.agg (jU i a c g f m d l),.agg (jU o false n jz true k b j)] w λe w'=>e=.returned (.agg (jU i a c g true k b j))/\jb w w':=by
 go_enter func95,ntmps95
 go_wp2
 go_region
 go_wp2
 refine jt (v:=.agg (jU i a c g true k b j)) ?_ rfl ⟨rfl,?_⟩
 ·rw[aO6 rfl]
  go_simp
 ·repeat (first|refine jdi ?_|refine j5 ?_ (by simp;try omega) _|refine jcl ?_ (by simp;try omega) _|exact jr _ _)
theorem aEr(j d g i l o m n k:jA)(a b f c:Bool)(w:World):
  Calls prog 95 #[.agg (jU j a d g b i f l),.agg (jU o false m jz false n c k)] w λe w'=>e=.returned (.agg (jU j a d g b i c k))/\jb w w':=by
 go_enter func95,ntmps95
 go_wp2
 go_region
 go_wp2
 go_region
 go_wp2
 refine jt (v:=.agg (jU j a d g b i c k)) ?_ rfl ⟨rfl,?_⟩
 ·rw[aO6 rfl]
  go_simp
 ·repeat (first|refine jdi ?_|refine j5 ?_ (by simp;try omega) _|refine jcl ?_ (by simp;try omega) _|exact jr _ _)
theorem aEw(j f n o m r q d l k:jA)(a i g c b:Bool)(x:d.toList.isEmpty=false)(s:0<d.size)(t:((d[0].toNat:Int)==47)=true)(w:World):
  Calls prog 95 #[.agg (jU j a f n i o g m),.agg (jU r false q d c l b k)] w λe w'=>e=.returned (.agg (jU j a f d c l b k))/\jb w w':=by
 have p:(0:Int)<(d.size:Int):=by omega
 go_enter func95,ntmps95
 go_wp2
 go_region
 go_wp2
 refine jt (v:=.agg (jU j a f d c l b k)) ?_ rfl ⟨rfl,?_⟩
 ·rw[aO6 rfl]
  go_simp
 ·repeat (first|refine jdi ?_|refine j5 ?_ (by simp;try omega) _|refine jcl ?_ (by simp;try omega) _|exact jr _ _)
theorem aEp(i d m l p o a k j:jA)(g f c b:Bool)(s:a.toList.isEmpty=false)(q:0<a.size)(r:((a[0].toNat:Int)==47)=false)(t:a.size<=1000)(w:World):
  Calls prog 95 #[.agg (jU i true d jz g m f l),.agg (jU p false o a c k b j)] w λe w'=>e=.returned (.agg (jU i true d (⟨#[47]⟩++a) c k b j))/\jb w w':=by
 have n:(0:Int)<(a.size:Int):=by omega
 go_enter func95,ntmps95
 go_wp2
 go_region
 go_wp2
 refine jt (v:=.agg (jU i true d (⟨#[47]⟩++a) c k b j)) ?_ rfl ⟨rfl,?_⟩
 ·rw[aO6 rfl]
  go_simp
 ·repeat (first|refine jdi ?_|refine j5 ?_ (by simp;try omega) _|refine jcl ?_ (by simp;try omega) _|exact jr _ _)
theorem aEv(m i b x t G F a q p:jA)(l j d c:Bool)(L:a.toList.isEmpty=false)(H:0<a.size)(I:((a[0].toNat:Int)==47)=false)(N:a.size<=1000)(B:b.size<=1000)(k:Int)(f:Nat)(M:k+1=(f:Int))(C:f<=b.size)(g:jA)(J:b.extract 0 f=g)(z:g.size<=1000)(A:b.toList.isEmpty=false)(s:Hid (∀W,Calls prog 147 #[.string b,.int .u8 47] W λe w'=>e=.returned (.int .i64 k)/\w'=W))(w:World):
  Calls prog 95 #[.agg (jU m true i b l x j t),.agg (jU G false F a d q c p)] w λe w'=>e=.returned (.agg (jU m true i (g++a) d q c p))/\jb w w':=by
 have y:(0:Int)<(a.size:Int):=by omega
 have D:(f:Int)<=(b.size:Int):=by omega
 have E:IntKind.i64.wrap (f:Int)=(f:Int):=jcp _ (by omega) (by omega)
 have r:¬9223372036854775807<g.size+a.size:=by omega
 go_enter func95,ntmps95
 go_wp2
 go_region
 go_wp2_with fail
 go_region_with (go_at_call 147;refine(s.out _).mono ?_;rintro e O ⟨rfl,n⟩;have o:=n.symm;subst o)
 all_goals (
  go_wp2
  refine jt (v:=.agg (jU m true i (g++a) d q c p)) ?_ rfl ⟨rfl,?_⟩
  ·rw[aO6 rfl]
   go_simp
  ·repeat (first|refine jdi ?_|refine j5 ?_ (by simp;try omega) _|refine jcl ?_ (by simp;try omega) _|exact jr _ _))
theorem aEt(m i d x t F E a q p:jA)(l j c b:Bool)(J:a.toList.isEmpty=false)(G:0<a.size)(H:((a[0].toNat:Int)==47)=false)(M:a.size<=1000)(A:d.size<=1000)(k:Int)(f:Nat)(L:k+1=(f:Int))(B:f<=d.size)(g:jA)(I:d.extract 0 f=g)(z:g.size<=1000)(s:Hid (∀W,Calls prog 147 #[.string d,.int .u8 47] W λe w'=>e=.returned (.int .i64 k)/\w'=W))(w:World):
  Calls prog 95 #[.agg (jU m false i d l x j t),.agg (jU F false E a c q b p)] w λe w'=>e=.returned (.agg (jU m false i (g++a) c q b p))/\jb w w':=by
 have y:(0:Int)<(a.size:Int):=by omega
 have C:(f:Int)<=(d.size:Int):=by omega
 have D:IntKind.i64.wrap (f:Int)=(f:Int):=jcp _ (by omega) (by omega)
 have r:¬9223372036854775807<g.size+a.size:=by omega
 go_enter func95,ntmps95
 go_wp2
 go_region
 go_wp2_with fail
 go_region_with (go_at_call 147;refine(s.out _).mono ?_;rintro e N ⟨rfl,n⟩;have o:=n.symm;subst o)
 all_goals (
  go_wp2
  refine jt (v:=.agg (jU m false i (g++a) c q b p)) ?_ rfl ⟨rfl,?_⟩
  ·rw[aO6 rfl]
   go_simp
  ·repeat (first|refine jdi ?_|refine j5 ?_ (by simp;try omega) _|refine jcl ?_ (by simp;try omega) _|exact jr _ _))
end Go.Proofs.YtbbfcbodhmeanaaGreatDoor

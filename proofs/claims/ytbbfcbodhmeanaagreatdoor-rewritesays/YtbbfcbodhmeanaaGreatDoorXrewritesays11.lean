import Derived.Test.YtbbfcbodhmeanaaGreatDoorXrewritesays10
import Derived.Deep.AppendLies
import Derived.Lib.SliceRun
import Derived.Deep.MidRow
set_option maxHeartbeats 8000000
set_option maxRecDepth 1000000
namespace Go.Proofs.YtbbfcbodhmeanaaGreatDoor
def aJT(a b:jB):jB:=
 if(aMw a).2≠0 then []else if(aMw b).2≠0 then []else if(aJG (aMw a).1 (aMw b).1).2≠0 then []else(aNT (aJG (aMw a).1 (aMw b).1).1).1
def aLG:jB:=[116,104,105,115,109,101,115,115,97,103,101,58,47]
def aIh:jB:=[116,101,120,116,47,104,116,109,108]
def aEi:jB:=[99,105,100,58]
def aHn(wh:List jB)(i:Int):jB:=if i<0 then aLG else if wh.getD i.toNat []=[]then aLG else wh.getD i.toNat []
def aRa(wh:List jB)(x:PT×Int):jB:=if x.1.loc.data.toList=[]then aHn wh x.2 else aJT (aHn wh x.2) x.1.loc.data.toList
def aU0(l:List (PT×Int)):List jB:=l.foldl (λwh x=>wh++[aRa wh x]) []
def aLy(s:jB):jB:=match aEM 35 s with|none=>s|some x=>x.1
def aGT(ok:Nat->PT->Bool):Nat->List PT->Int
 |_,[]=>-1
 |k,p::l=>if aK5 p.ty.data.toList=false/\ok k p=true then(k:Int)else aGT ok (k+1) l
def aLU(t:jB)(_:Nat)(p:PT):Bool:=!p.id.data.toList.isEmpty&&(p.id.data.toList==t)
def aLV(wh:List jB)(t:jB)(k:Nat)(p:PT):Bool:=!p.loc.data.toList.isEmpty&&(aLy (wh.getD k [])==t)
def aGC(l:List PT)(wh:List jB)(tw:jB):Int:=
 if tw=[]then -1 else if Lib.hasPrefix (aLy tw) aEi=true then aGT (aLU ((aLy tw).drop 4)) 0 l else aGT (aLV wh (aLy tw)) 0 l
structure GL where
 part:Int
 fr:Int
 tt:Int
 text:jB
 led:jB
 find:Int
def aHE(l:List PT)(wh:List jB)(i n:Nat)(x:LK):GL:=
 ⟨i,((n-x.1:Nat):Int),((n-x.1+x.2.length:Nat):Int),aTW x.2,aJT (aHn wh i) (aTW x.2),aGC l wh (aJT (aHn wh i) (aTW x.2))⟩
def aHM(low:jB->jB)(l:List PT)(wh:List jB):Nat->List PT->List GL->Option (List GL)
 |_,[],acc=>some acc
 |k,p::r,acc=>if p.ty.data.toList=aIh then(match aGz low p.body with|none=>none|some ls=>aHM low l wh (k+1) r (acc++ls.map (aHE l wh k p.body.length)))else aHM low l wh (k+1) r acc
theorem aU3(l:List (PT×Int))(x:PT×Int):aU0 (l++[x])=aU0 l++[aRa (aU0 l) x]:=by simp[aU0]
theorem aU2(l:List (PT×Int)):(aU0 l).length=l.length:=by
 have:∀(l:List (PT×Int)) (a:List jB),(l.foldl (λb x=>b++[aRa b x]) a).length=a.length+l.length:=by
  intro l
  induction l with
  |nil=>intro a;simp
  |cons x l c=>intro a;rw[jbx,c];simp;omega
 have h:=this l []
 simpa [aU0] using h
theorem aNU(u:UL):(aNT u).1.length<=120:=by
 unfold aNT
 split
 ·rename_i h
  unfold aDW at h
  split at h
  ·cases h
  ·split at h
   ·cases h
   ·split at h
    ·cases h
    ·split at h
     ·cases h
     ·simp only;omega
 ·simp
theorem aJU(a b:jB):(aJT a b).length<=120:=by
 unfold aJT
 split
 ·simp
 ·split
  ·simp
  ·split
   ·simp
   ·exact aNU _
theorem aLH:aLG.length=13:=rfl
theorem aHo(a:List jB)(h:∀x∈a,x.length<=120)(i:Int):(aHn a i).length<=120:=by
 unfold aHn
 split
 ·rw[aLH];omega
 ·split
  ·rw[aLH];omega
  ·rw[jd]
   cases b:a[i.toNat]? with
   |none=>simp
   |some y=>simpa using h y (jav b)
theorem aRb(a:List jB)(h:∀x∈a,x.length<=120)(x:PT×Int):(aRa a x).length<=120:=by
 unfold aRa
 split
 ·exact aHo a h _
 ·exact aJU _ _
theorem aU1(l:List (PT×Int)):∀x∈aU0 l,x.length<=120:=by
 have:∀(l:List (PT×Int)) (a:List jB),(∀x∈a,x.length<=120)->∀x∈l.foldl (λc x=>c++[aRa c x]) a,x.length<=120:=by
  intro l
  induction l with
  |nil=>intro a h;exact h
  |cons y l d=>
   intro a h
   rw[jbx]
   refine d _ (λx b=>?_)
   rcases jY.1 b with b|b
   ·exact h x b
   ·simp at b;rw[b];exact aRb a h y
 exact this l [] (by simp)
end Go.Proofs.YtbbfcbodhmeanaaGreatDoor
namespace Go.Proofs.YtbbfcbodhmeanaaGreatDoor
open Go.Proofs.Tryz
open Go.RowKit
theorem aDa(s:jA)(c:s.size<=maxLen)(w:World):
  Calls prog 80 #[.string s] w (jG (.string ⟨(aLy s.data.toList).toArray⟩) w):=by
 unfold aLy
 cases h:aEM 35 s.data.toList with
 |none=>
  have C:Hid (Calls prog 89 #[.string s,.string ⟨#[35]⟩] w (jG (.tuple #[.string s,.string ⟨#[]⟩,.bool false]) w)):=aEZ 35 s w h
  clear h
  go_enter func80,ntmps80
  go_wp2_with fail
  refine C.out.mono ?_
  rintro e d ⟨rfl,b⟩
  clear C
  go_wp2_with fail
  go_ret
  exact⟨rfl,b⟩
 |some x=>
  obtain⟨a,r,rfl,-⟩:=aE0 h
  have C:Hid (Calls prog 89 #[.string s,.string ⟨#[35]⟩] w (jG (.tuple #[.string a,.string r,.bool true]) w)):=aE2 35 s a r w (by unfold maxLen at c;omega) h
  clear h
  go_enter func80,ntmps80
  go_wp2_with fail
  refine C.out.mono ?_
  rintro e d ⟨rfl,b⟩
  clear C
  go_wp2_with fail
  go_ret
  exact⟨rfl,b⟩
theorem aP9{W:World}{r i:Nat}{c:Array Value}{t:TypeId}(h:W.heap[r]?=some (.cells c t))(v:Value):(W.setCell (jx r i) v).heap[r]?=some (.cells (c.setIfInBounds i v) t):=heap_setCell_same W r i c t v h
abbrev aF8(W:World)(r o:Nat)(v0 v1 v2 v3 v4 v5 v6 v7:Value):World:=(((((((W.setCell (jx r o) v0).setCell (jx r (o+1)) v1).setCell (jx r (o+2)) v2).setCell (jx r (o+3)) v3).setCell (jx r (o+4)) v4).setCell (jx r (o+5)) v5).setCell (jx r (o+6)) v6).setCell (jx r (o+7)) v7
theorem aGa{W:World}{r o:Nat}{c:Array Value}{t:TypeId}(h:W.heap[r]?=some (.cells c t))(a b d f g i j k:Value):
  (aF8 W r o a b d f g i j k).heap[r]?=some (.cells ((((((((c.setIfInBounds o a).setIfInBounds (o+1) b).setIfInBounds (o+2) d).setIfInBounds (o+3) f).setIfInBounds (o+4) g).setIfInBounds (o+5) i).setIfInBounds (o+6) j).setIfInBounds (o+7) k) t):=
 aP9 (aP9 (aP9 (aP9 (aP9 (aP9 (aP9 (aP9 h a) b) d) f) g) i) j) k
theorem aGm{W:World}{r:Nat}{t:TypeId}{c0 c1 c2 c3 c4 c5 c6 v q s a b c d f g:Value}(h:W.heap[r]?=some (.cells #[c0,c1,c2,c3,c4,c5,c6,v,q,s,a,b,c,d,f,g] t))(i j k l m n o p:Value):
  (aF8 W r 0 i j k l m n o p).heap[r]?=some (.cells #[i,j,k,l,m,n,o,p,q,s,a,b,c,d,f,g] t):=(aGa h i j k l m n o p).trans (by simp)
theorem aGi{W:World}{r:Nat}{t:TypeId}{c0 c1 c2 c3 c4 c5 c6 q s v a b c d f g:Value}(h:W.heap[r]?=some (.cells #[c0,c1,c2,c3,c4,c5,c6,q,s,v,a,b,c,d,f,g] t))(i j k l m n o p:Value):
  (aF8 W r 8 i j k l m n o p).heap[r]?=some (.cells #[c0,c1,c2,c3,c4,c5,c6,q,i,j,k,l,m,n,o,p] t):=(aGa h i j k l m n o p).trans (by simp)
theorem aF9{w W:World}(h:jb w W){r:Nat}(a:w.heap.size<=r)(o:Nat)(b c d f g i j k:Value):jb w (aF8 W r o b c d f g i j k):=
 (((((((h.setCell (p:=jx r o) a b).setCell (p:=jx r (o+1)) a c).setCell (p:=jx r (o+2)) a d).setCell (p:=jx r (o+3)) a f).setCell (p:=jx r (o+4)) a g).setCell (p:=jx r (o+5)) a i).setCell (p:=jx r (o+6)) a j).setCell (p:=jx r (o+7)) a k
theorem aDe{W:World}{k:Nat}{c:Array Value}{t:TypeId}(h:W.heap[k]?=some (.cells c t))(i:Nat):W.cell? (jx k i)=c[i]?:=by
 simp[World.cell?,h]
theorem aDg{W:World}{k:Nat}{c:Array Value}{t:TypeId}(h:W.heap[k]?=some (.cells c t))(i:Nat):W.frozen? (jx k i)=false:=by
 simp[World.frozen?,h]
theorem aDj{W a:World}{k:Nat}{o:Obj}(h:W.heap[k]?=some o)(b:jb W a):a.heap[k]?=some o:=by
 rw[b.block _ (jl.1 h).1];exact h
theorem aDi(W:World)(o:Obj):(W.alloc o).heap[W.heap.size]?=some o:=by
 show(W.heap.push _)[W.heap.size]?=_
 simp
theorem aDd(w:World)(a b G D E F C X T U V P xs xh xp xq xf S:jA)(l m k o p n ae af ad:Bool)(e1 Y H e4:Nat)
  (CP:Hid (∀W,Calls prog 50 #[.string a] W (jG (.tuple #[.agg (jU G l D E m F k C),.int .i64 (e1:Int)]) W)))
  (CQ:Hid (∀W,Calls prog 50 #[.string b] W (jG (.tuple #[.agg (jU X o T U p V n P),.int .i64 (Y:Int)]) W)))
  (CL:Hid (∀W,jb w W->Calls prog 51 #[.agg (jU G l D E m F k C),.agg (jU X o T U p V n P)] W (jG (.tuple #[.agg (jU xs ae xh xp af xq ad xf),.int .i64 (H:Int)]) W)))
  (CR:Hid (∀W,Calls prog 52 #[.agg (jU xs ae xh xp af xq ad xf)] W (jG (.tuple #[.string S,.int .i64 (e4:Int)]) W))):
  Calls prog 12 #[.string a,.string b] w (jG (.string (if e1≠0 then⟨#[]⟩else if Y≠0 then⟨#[]⟩else if H≠0 then⟨#[]⟩else S)) w):=by
 have aw:∀W,(Instr.index 87 (.agg #[.string a,.string b]) (.int .i64 0)).run prog W=.ok (.string a) W:=λW=>by kernel_rfl
 have ax:∀W,(Instr.index 87 (.agg #[.string a,.string b]) (.int .i64 1)).run prog W=.ok (.string b) W:=λW=>by kernel_rfl
 obtain⟨R,hR⟩:∃R,(if e1≠0 then⟨#[]⟩else if Y≠0 then⟨#[]⟩else if H≠0 then⟨#[]⟩else S)=R:=⟨_,rfl⟩
 rw[hR]
 have HR:Hid _:=hR
 clear hR
 go_enter func12,ntmps12
 go_wp2_with fail
 refine jek 3 ?_
 rw[jcj]
 go_wp2_with fail
 refine(CP.out _).mono ?_
 rintro e r ⟨rfl,L⟩
 clear CP
 have c:r.heap[w.heap.size]?=some (.cells #[.string jz,.bool false,.string jz,.string jz,.bool false,.string jz,.bool false,.string jz,.string jz,.bool false,.string jz,.string jz,.bool false,.string jz,.bool false,.string jz] 86):=aDj (aDi w _) L
 have t:jb w r:=((jr _ w).alloc (jf _) _).trans (L.mono (by simp))
 clear L
 have N:=aDg c
 have z0:r.cell? (jx w.heap.size 0)=some (.string jz):=(aDe c 0).trans rfl
 have z1:r.cell? (jx w.heap.size 1)=some (.bool false):=(aDe c 1).trans rfl
 have z2:r.cell? (jx w.heap.size 2)=some (.string jz):=(aDe c 2).trans rfl
 have z3:r.cell? (jx w.heap.size 3)=some (.string jz):=(aDe c 3).trans rfl
 have z4:r.cell? (jx w.heap.size 4)=some (.bool false):=(aDe c 4).trans rfl
 have z5:r.cell? (jx w.heap.size 5)=some (.string jz):=(aDe c 5).trans rfl
 have z6:r.cell? (jx w.heap.size 6)=some (.bool false):=(aDe c 6).trans rfl
 have z7:r.cell? (jx w.heap.size 7)=some (.string jz):=(aDe c 7).trans rfl
 by_cases h1:e1=0
 ·subst h1
  have x:Hid ((if Y≠0 then⟨#[]⟩else if H≠0 then⟨#[]⟩else S)=R):=by unfold Hid;have h:=HR.out;rw[jh (show¬(0:Nat)≠0 by simp)]at h;exact h
  clear HR
  go_wp2_with fail
  rw[jcj]
  go_wp2_with fail
  have O:=aGm c (.string G) (.bool l) (.string D) (.string E) (.bool m) (.string F) (.bool k) (.string C)
  have q:=aF9 t (jf _) 0 (.string G) (.bool l) (.string D) (.string E) (.bool m) (.string F) (.bool k) (.string C)
  obtain⟨V2,I⟩:∃W,W=(((((((r.setCell (jx w.heap.size 0) (.string G)).setCell (jx w.heap.size 1) (.bool l)).setCell (jx w.heap.size 2) (.string D)).setCell (jx w.heap.size 3) (.string E)).setCell (jx w.heap.size 4) (.bool m)).setCell (jx w.heap.size 5) (.string F)).setCell (jx w.heap.size 6) (.bool k)).setCell (jx w.heap.size 7) (.string C):=⟨_,rfl⟩
  have A:aF8 r w.heap.size 0 (.string G) (.bool l) (.string D) (.string E) (.bool m) (.string F) (.bool k) (.string C)=V2:=I.symm
  rw[A]at O q
  rw[<-I]
  clear I A
  refine(CQ.out _).mono ?_
  rintro e s ⟨rfl,M⟩
  clear CQ
  have d:=aDj O M
  have v:jb w s:=q.trans (M.mono q.size)
  clear M O q c t N z0 z1 z2 z3 z4 z5 z6 z7
  have N:=aDg d
  have z8:s.cell? (jx w.heap.size 8)=some (.string jz):=(aDe d 8).trans rfl
  have z9:s.cell? (jx w.heap.size 9)=some (.bool false):=(aDe d 9).trans rfl
  have an:s.cell? (jx w.heap.size 10)=some (.string jz):=(aDe d 10).trans rfl
  have ao:s.cell? (jx w.heap.size 11)=some (.string jz):=(aDe d 11).trans rfl
  have ap:s.cell? (jx w.heap.size 12)=some (.bool false):=(aDe d 12).trans rfl
  have aq:s.cell? (jx w.heap.size 13)=some (.string jz):=(aDe d 13).trans rfl
  have ar:s.cell? (jx w.heap.size 14)=some (.bool false):=(aDe d 14).trans rfl
  have av:s.cell? (jx w.heap.size 15)=some (.string jz):=(aDe d 15).trans rfl
  by_cases h2:Y=0
  ·subst h2
   have y:Hid ((if H≠0 then⟨#[]⟩else S)=R):=by unfold Hid;have h:=x.out;rw[jh (show¬(0:Nat)≠0 by simp)]at h;exact h
   clear x
   go_wp2_with fail
   rw[jcj]
   have z:=aGi d (.string X) (.bool o) (.string T) (.string U) (.bool p) (.string V) (.bool n) (.string P)
   have i:=aF9 v (jf _) 8 (.string X) (.bool o) (.string T) (.string U) (.bool p) (.string V) (.bool n) (.string P)
   obtain⟨g,J⟩:∃W,W=(((((((s.setCell (jx w.heap.size 8) (.string X)).setCell (jx w.heap.size 9) (.bool o)).setCell (jx w.heap.size 10) (.string T)).setCell (jx w.heap.size 11) (.string U)).setCell (jx w.heap.size 12) (.bool p)).setCell (jx w.heap.size 13) (.string V)).setCell (jx w.heap.size 14) (.bool n)).setCell (jx w.heap.size 15) (.string P):=⟨_,rfl⟩
   have B:aF8 s w.heap.size 8 (.string X) (.bool o) (.string T) (.string U) (.bool p) (.string V) (.bool n) (.string P)=g:=J.symm
   rw[B]at z i
   rw[<-J]
   clear B
   clear J d v N z8 z9 an ao ap aq ar av
   have j:=aDe z
   have hf:=aDg z
   have k0:g.cell? (jx w.heap.size 0)=some (.string G):=j 0
   have k1:g.cell? (jx w.heap.size 1)=some (.bool l):=j 1
   have k2:g.cell? (jx w.heap.size 2)=some (.string D):=j 2
   have k3:g.cell? (jx w.heap.size 3)=some (.string E):=j 3
   have k4:g.cell? (jx w.heap.size 4)=some (.bool m):=j 4
   have k5:g.cell? (jx w.heap.size 5)=some (.string F):=j 5
   have k6:g.cell? (jx w.heap.size 6)=some (.bool k):=j 6
   have k7:g.cell? (jx w.heap.size 7)=some (.string C):=j 7
   have k8:g.cell? (jx w.heap.size 8)=some (.string X):=j 8
   have k9:g.cell? (jx w.heap.size 9)=some (.bool o):=j 9
   have ah:g.cell? (jx w.heap.size 10)=some (.string T):=j 10
   have ai:g.cell? (jx w.heap.size 11)=some (.string U):=j 11
   have aj:g.cell? (jx w.heap.size 12)=some (.bool p):=j 12
   have ak:g.cell? (jx w.heap.size 13)=some (.string V):=j 13
   have al:g.cell? (jx w.heap.size 14)=some (.bool n):=j 14
   have am:g.cell? (jx w.heap.size 15)=some (.string P):=j 15
   clear z j
   go_wp2_with fail
   refine(CL.out _ i).mono ?_
   rintro e W4 ⟨rfl,aa⟩
   clear CL
   have f:jb w W4:=i.trans (aa.mono i.size)
   clear aa i k0 k1 k2 k3 k4 k5 k6 k7 k8 k9 ah ai aj ak al am hf
   by_cases h3:H=0
   ·subst h3
    have ag:Hid (R=S):=by unfold Hid;have h:=y.out;rw[jh (show¬(0:Nat)≠0 by simp)]at h;exact h.symm
    clear y
    go_wp2_with fail
    refine(CR.out _).mono ?_
    rintro e W5 ⟨rfl,ab⟩
    clear CR
    have ac:jb w W5:=(f.alloc f.size _).trans (ab.mono (by have:=f.size;simp;omega))
    clear ab f
    go_wp2_with fail
    go_ret
    exact⟨by rw[ag.out];rfl,ac⟩
   ·have Z:Hid (R=jz):=by unfold Hid;rw[<-y.out,jo h3]
    clear y
    have aA:((H:Int)==0)=false:=by rw[jg];omega
    go_wp2_with fail
    go_ret
    exact⟨by rw[Z.out];rfl,f.alloc f.size _⟩
  ·have Z:Hid (R=jz):=by unfold Hid;rw[<-x.out,jo h2]
   clear x
   have az:((Y:Int)==0)=false:=by rw[jg];omega
   go_wp2_with fail
   go_ret
   exact⟨by rw[Z.out];rfl,aF9 v (jf _) 8 _ _ _ _ _ _ _ _⟩
 ·have Z:Hid (R=jz):=by unfold Hid;rw[<-HR.out,jo h1]
  clear HR
  have ay:((e1:Int)==0)=false:=by rw[jg];omega
  go_wp2_with fail
  go_ret
  exact⟨by rw[Z.out];rfl,aF9 t (jf _) 0 _ _ _ _ _ _ _ _⟩
theorem aLK{W:World}{k:Nat}{t:TypeId}{a b c d f g j:Value}(h:W.heap[k]?=some (.cells #[a,b,c,d,f,g,j] t)):
  W.cell? (jx k 0)=some a/\W.cell? (jx k 1)=some b/\W.cell? (jx k 2)=some c/\W.cell? (jx k 3)=some d/\W.cell? (jx k 4)=some f/\W.cell? (jx k 5)=some g/\W.cell? (jx k 6)=some j/\∀i,W.frozen? (jx k i)=false:=
 ⟨(aDe h 0).trans rfl,(aDe h 1).trans rfl,(aDe h 2).trans rfl,(aDe h 3).trans rfl,(aDe h 4).trans rfl,(aDe h 5).trans rfl,(aDe h 6).trans rfl,λi=>aDg h i⟩
theorem aP5{W:World}{A t:Nat}{c:Array Value}(h:W.heap[A]?=some (.cells c t))(k:Nat)(x:Value):(W.setCell (jx A k) x).heap[A]?=some (.cells (c.setIfInBounds k x) t):=by
 show(W.heap.modify A _)[A]?=_
 rw[jah,jo rfl,h]
 rfl
abbrev put8(W:World)(A r:Nat)(x v0 v1 v2 v3 v4 v5 v6:Value):World:=(((((((W.setCell (jx A 6) x).setCell (jx r 0) v0).setCell (jx r 1) v1).setCell (jx r 2) v2).setCell (jx r 3) v3).setCell (jx r 4) v4).setCell (jx r 5) v5).setCell (jx r 6) v6
theorem aN4(W:World)(A r:Nat)(x d f g i j k l:Value)(b:Nat)(c:b≠A)(a:b≠r):(put8 W A r x d f g i j k l).heap[b]?=W.heap[b]?:=by
 unfold put8
 rw[jp _ _ _ _ a,jp _ _ _ _ a,jp _ _ _ _ a,jp _ _ _ _ a,jp _ _ _ _ a,jp _ _ _ _ a,jp _ _ _ _ a,jp _ _ _ _ c]
theorem aN5(W:World)(A r:Nat)(x a b c d f g i:Value):(put8 W A r x a b c d f g i).heap.size=W.heap.size:=by
 unfold put8
 simp[World.setCell]
abbrev PY3:=PZ×Nat×Nat
def BK(X:Nat->Prop)(lo hi:Nat)(a:jO)(l:List PT)(b:Nat):Prop:=(lo<=b/\b<hi/\(l≠[]->∀g,a=some (jx g 0)->b<g))\/X b
theorem BK.out{X:Nat->Prop}{lo c:Nat}{a:jO}{l:List PT}{b:Nat}(h:BK X lo c a l b):(lo<=b/\b<c)\/X b:=by
 rcases h with h|h
 ·exact .inl ⟨h.1,h.2.1⟩
 ·exact .inr h
def RT(w:World)(X:Nat->Prop):Nat->Nat->Nat->jO->Nat->List PT->Prop
 |0,_,_,_,_,l=>l=[]
 |f+1,lo,hi,a,c,l=>l≠[]->∃(g:Nat) (Y:List PY3),a=some (jx g 0)/\lo<=g/\g<hi/\Y.map (·.1.1)=l/\w.ownsRow lo 25 7 (.slice a l.length c) l.length (pzv (Y.map (·.1)))/\Y.Pairwise (λx y=>x.2.2<=y.2.1)/\
   ∀y∈Y,g<y.2.1/\y.2.1<=y.2.2/\y.2.2<=hi/\InB (BK X y.2.1 y.2.2 y.1.2.2.1 y.1.1.kids) y.1.2.1.1/\aA4 (λa l=>RT w X f y.2.1 y.2.2 a y.1.2.2.2 l) w y.1.1 y.1.2.1.1 y.1.2.1.2 y.1.2.2.1 y.1.2.2.2
theorem RT.nil(w:World)(X:Nat->Prop)(f lo b:Nat)(a:jO)(c:Nat):RT w X f lo b a c []:=by
 cases f with
 |zero=>rfl
 |succ f=>exact λh=>absurd rfl h
theorem aMo{w w':World}{B e s n:Nat}{v:Value}{b:List Value}(h:w.ownsRow B e s v n b)(f:∀g,v.ownBlock=some g->w'.heap[g]?=w.heap[g]?):w'.ownsRow B e s v n b:=by
 refine⟨h.1,?_⟩
 rcases h.2 with h|⟨g,cap,a,e1,c,d,r⟩
 ·exact .inl h
 ·exact .inr ⟨g,cap,a,e1,c,by rw[f g (by rw[e1];rfl)];exact d,r⟩
theorem RT.move{w w':World}{X:Nat->Prop}:∀(f lo i:Nat) (a:jO) (c:Nat) (l:List PT),(∀b,(lo<=b/\b<i)\/X b->b<w.heap.size->w'.heap[b]?=w.heap[b]?)->RT w X f lo i a c l->RT w' X f lo i a c l
 |0,_,_,_,_,_,_,h=>h
 |f+1,lo,i,a,c,l,hm,h=>λj=>by
  obtain⟨g,Y,e,k,m,q,n,r,s⟩:=h j
  refine⟨g,Y,e,k,m,q,aMo n (λb d=>?_),r,λy x=>?_⟩
  ·have:b=g:=by rw[e]at d;simpa [Value.ownBlock] using d.symm
   subst this
   exact hm b (.inl ⟨k,m⟩) (n.lt b d).2
  ·obtain⟨z,A,B,p,C,D,E,F,G⟩:=s y x
   have o:∀b,(y.2.1<=b/\b<y.2.2)\/X b->b<w.heap.size->w'.heap[b]?=w.heap[b]?:=λb d v=>hm b (by rcases d with d|d;exact .inl ⟨by omega,by omega⟩;exact .inr d) v
   exact⟨z,A,B,p,C,D,aAe.move o E (λa t=>(p a t).out),F,RT.move f _ _ _ _ _ o G⟩
theorem RT.below{w w':World}{X:Nat->Prop}{f lo d:Nat}{a:jO}{c:Nat}{l:List PT}(h:RT w X f lo d a c l)(g:jb w w'):RT w' X f lo d a c l:=RT.move f lo d a c l (λb _ i=>g.block b i) h
theorem RT.at{w:World}{X:Nat->Prop}:∀(f lo i:Nat) (a:jO) (c:Nat) (l:List PT),RT w X f lo i a c l->KAt w f a l
 |0,_,_,_,_,_,h=>h
 |f+1,lo,i,a,c,l,h=>by
  by_cases b:l=[]
  ·rw[b];exact KAt.nil _ _ _
  ·obtain⟨g,Y,e,C,D,k,m,E,n⟩:=h b
   have d:KAt w (f+1) a ((Y.map (·.1)).map (·.1)):=by
    obtain⟨q,B,p,_,_,_,o⟩:=aMb m
    cases p
    refine KAt.of_list o (λz d=>?_)
    obtain⟨y,r,rfl⟩:=jbi.1 d
    obtain⟨F,G,H,I,s,t,v,x,A⟩:=n y r
    exact⟨s,t,v,x,RT.at f _ _ _ _ _ A⟩
   have j:(Y.map (·.1)).map (·.1)=l:=by rw[jcm,<-k];rfl
   rw[j]at d
   exact d
theorem RT.kind{w:World}{X j:Nat->Prop}(k:∀b,X b->j b):∀(f lo d:Nat) (a:jO) (c:Nat) (l:List PT),RT w X f lo d a c l->RT w j f lo d a c l
 |0,_,_,_,_,_,h=>h
 |f+1,lo,d,a,c,l,h=>λi=>by
  obtain⟨g,Y,e,m,n,o,p,q,r⟩:=h i
  refine⟨g,Y,e,m,n,o,p,q,λy t=>?_⟩
  obtain⟨v,x,z,A,B,C,D,E,F⟩:=r y t
  exact⟨v,x,z,(λa s=>Or.imp_right (k _) (A a s)),B,C,D,E,RT.kind k f _ _ _ _ _ F⟩
theorem aFO(w:World)(B:Nat)(h:B<=w.heap.size):(w.alloc (.cells #[] 25)).ownsRow B 25 7 (.slice (some (jx w.heap.size 0)) 0 0) 0 (pzv []):=
 ⟨rfl,.inr ⟨w.heap.size,0,#[],rfl,h,jel w _,jf _,by decide,rfl,rfl⟩⟩
theorem aMS(a:jO)(n c:Nat)(Z:List PZ)(m:n=Z.length)(M:n<=1000)(w:World)(t:aAi w a (pzv Z))(r:a=none->n=0/\c=0):
  Calls prog 115 #[.slice a n c] w λe w'=>∃q l,e=.returned (.slice q n l)/\w'.ownsRow w.heap.size 25 7 (.slice q n l) n (pzv Z)/\jb w w':=by
 cases a with
 |none=>
  obtain⟨rfl,rfl⟩:=r rfl
  have G:Z=[]:=js.1 m.symm
  subst G
  clear t r m
  have i:=Lib.run_eql_slice_nil (P:=prog) w 23 25 none 0 0 0 0 underlying23
  go_enter func115,ntmps115
  go_wp2
  go_ret
  exact⟨none,0,rfl,jT _ _ _ _,jr _ _⟩
 |some p=>
  have E:Hid (aAi (w.alloc (.cells #[] 25)) (some p) (pzv Z)):=t.below (ja _ _)
  have C:Hid ((pzv Z).length=n*7):=by unfold Hid;rw[aOy,m]
  clear t r m
  have i:=Lib.run_eql_slice_nil (P:=prog) w 23 25 (some p) n c 0 0 underlying23
  go_enter func115,ntmps115
  go_wp2_with (at_builtin;obtain⟨J,H,y,z,A⟩:=jao aIJ;refine jX _ rfl (.tmp 5) (.tmp 6) 23 rfl w.heap.size 25 J (.agg (jP jz jz jz jz 0 none 0 0 none 0 0)) 7 120 underlying23 H y z A rfl (by decide) _ _ _ rfl (aFO w w.heap.size (jf _)) p n c (pzv Z) rfl C.out ?c1 (aOz Z) ?c3 ?c4 ?c5 ?_)
  case c1=>
   intro j u x
   obtain⟨b,o,e,v⟩:=E.out (λe=>by rw[e]at x;simp at x)
   obtain rfl:=jI e
   rw[jaa]
   exact v j u x
  case c3=>unfold maxLen;omega
  case c4=>omega
  case c5=>simp
  intro L B d g _
  have f:B.ownsRow w.heap.size 25 7 L n (pzv Z):=by
   have F:pzv []++pzv Z=pzv Z:=rfl
   rw[F]at d
   exact d
  have s:jb w B:=(ja _ _).grown g (by simp) (λk I=>by cases I;exact jf _)
  obtain⟨q,l,rfl⟩:=aMi f
  have D:Hid _:=f
  clear d g f
  go_wp2_with fail
  go_ret
  exact⟨q,l,rfl,D.out,s⟩
def aOQ:Code->List Code
 | .region i o d=>[.region i o d]
 | .cond _ a b=>aOQ a++aOQ b
 | .loop c=>aOQ c
 | .seq a b=>aOQ a++aOQ b
 | .block _ c=>aOQ c
 | .scope c=>aOQ c
 |_=>[]
def aOP(f:Func)(k:Nat):Code:=((f.body.map aOQ).getD []).getD k .skip
def aKE:Code->List Code
 | .loop c=>c::aKE c
 | .seq a b=>aKE a++aKE b
 | .block _ c=>aKE c
 | .scope c=>aKE c
 | .cond _ a b=>aKE a++aKE b
 |_=>[]
def aKD(f:Func)(k:Nat):Code:=((f.body.map aKE).getD []).getD k .skip
theorem aP2(b:Nat):∀(a:List Value) (o:Nat) (w:World) (j:Nat),j≠b->(w.setCells b o a).heap[j]?=w.heap[j]?
 |[],_,_,_,_=>rfl
 |v::r,o,w,j,h=>by rw[World.setCells,aP2 b r (o+1) _ j h,jp _ _ _ _ h]
theorem setCells_size(b:Nat):∀(a:List Value) (o:Nat) (w:World),(w.setCells b o a).heap.size=w.heap.size
 |[],_,_=>rfl
 |v::r,o,w=>by rw[World.setCells,setCells_size b r (o+1)];simp[World.setCell]
theorem aP1{B b:Nat}{w W:World}(a:B<=b):∀(c:List Value) (o:Nat) (W:World),Below B w W->Below B w (W.setCells b o c)
 |[],_,_,h=>h
 |v::r,o,_,h=>aP1 (W:=W) a r (o+1) _ (j5 (p:=jx b o) h a v)
theorem aQd(i j k l:jA)(h:Int)(a:jO)(n c:Nat)(b:jO)(g d:Nat):(#[Value.string i,.string j,.string k,.string l,.int .i64 h,.slice a n c,.slice b g d]:Array Value).all (·.oneCell')=true:=
 all_oneCell_toArray (cs:=[Value.string i,.string j,.string k,.string l,.int .i64 h,.slice a n c,.slice b g d]) (by
  intro u f
  simp at f
  rcases f with rfl|rfl|rfl|rfl|rfl|rfl|rfl<;>rfl)
theorem aMr{w:World}{B n c k g:Nat}{a:List Value}(h:w.ownsRow B 25 7 (.slice (some (jx g 0)) n c) n a)(p:k<n):w.there g (k*7) 7:=by
 intro j o
 refine⟨?_,h.frozenAt _⟩
 rw[h.cellAt (k*7+j) (by omega)]
 have q:a.length=n*7:=by
  rcases h.2 with⟨e,_⟩|⟨l,cap,b,e1,_,_,d,m,f,i⟩
  ·cases e
  ·rw[<-i,jF,jbs,f]
   have:n*7<=cap*7:=Nat.mul_le_mul_right 7 d
   omega
 rw[jc (by omega)]
 rfl
theorem aOv(A B:List PZ)(z y:PZ):((((((((pzv (A++z::B)).set (A.length*7) (.string y.1.ty)).set (A.length*7+1) (.string y.1.cs)).set (A.length*7+2) (.string y.1.id)).set (A.length*7+3) (.string y.1.loc)).set (A.length*7+4) (.int .i64 y.1.how)).set (A.length*7+5) (.slice y.2.1.1 y.1.body.length y.2.1.2)).set (A.length*7+6) (.slice y.2.2.1 y.1.kids.length y.2.2.2))=pzv (A++y::B):=by
 have e1:∀z:PZ,pzv (A++z::B)=pzv A++(pzc z++pzv B):=λz=>by rw[aOx];simp[pzv]
 have b:(pzv A).length=A.length*7:=aOy A
 have a:∀(j:Nat) (u:Value) (r:List Value),(pzv A++r).set (A.length*7+j) u=pzv A++r.set j u:=λj u r=>by
  rw[jef _ _ (by rw[b];omega),b,jdb]
 have c:=λu r=>a 0 u r
 simp only[jcd]at c
 rw[e1,e1,c,a,a,a,a,a,a]
 rfl
theorem aMq{w:World}{B n c g:Nat}{A R:List PZ}{z:PZ}(y:PZ)(h:w.ownsRow B 25 7 (.slice (some (jx g 0)) n c) n (pzv (A++z::R))):(w.setCells g (A.length*7) [.string y.1.ty,.string y.1.cs,.string y.1.id,.string y.1.loc,.int .i64 y.1.how,.slice y.2.1.1 y.1.body.length y.2.1.2,.slice y.2.2.1 y.1.kids.length y.2.2.2]).ownsRow B 25 7 (.slice (some (jx g 0)) n c) n (pzv (A++y::R)):=by
 have b:=(h.stored (A.length*7) (.string y.1.ty)).1
 have d:=(b.stored (A.length*7+1) (.string y.1.cs)).1
 have f:=(d.stored (A.length*7+2) (.string y.1.id)).1
 have i:=(f.stored (A.length*7+3) (.string y.1.loc)).1
 have j:=(i.stored (A.length*7+4) (.int .i64 y.1.how)).1
 have k:=(j.stored (A.length*7+5) (.slice y.2.1.1 y.1.body.length y.2.1.2)).1
 have a:=(k.stored (A.length*7+6) (.slice y.2.2.1 y.1.kids.length y.2.2.2)).1
 rw[aOv]at a
 exact a
theorem aK3(W:World)(A E g k n cc:Nat)(m:Array Value)(x:PT)(C:jO)(p f:Nat)(D:jO)(q j:Nat)(PX:jO->Nat->jO->Nat->World->Prop)(CW:Calls prog 62 #[.agg #[.string x.ty,.string x.cs,.string x.id,.string x.loc,.int .i64 x.how,.slice C p f,.slice D q j]] W.drew λe w'=>∃r b s c,e=.returned (.agg #[.string x.ty,.string x.cs,.string x.id,.string x.loc,.int .i64 x.how,.slice r p b,.slice s q c])/\jb W w'/\PX r b s c w')(xs:List Value)(B:Nat)(hO:W.ownsRow B 25 7 (.slice (some ⟨g,0,none⟩) n cc) n xs)(hk:k<n)(kA:W.heap[A]?=some (.cells m 25))(G:m[6]?=some (.slice (some ⟨g,0,none⟩) n cc))(kE:W.heap[E]?=some (.cells #[.string x.ty,.string x.cs,.string x.id,.string x.loc,.int .i64 x.how,.slice C p f,.slice D q j] 25))(aq:A≠g)(ar:E≠g){c0 c2 c5 c6 c7 c8 c9 I J L M N O P R T U X ak al am an ao ap Y Z:Value}(Q:Exit->Act->World->Prop)
  (H:∀{av aw ax ay az aA:Value},∀(r:jO) (b:Nat) (s:jO) (c:Nat) (z:World),jb W z->PX r b s c z->Q .normal ⟨(c0::.pointer (some ⟨A,0,none⟩)::c2::.int .i64 (k:Int)::.pointer (some ⟨E,0,none⟩)::c5::c6::c7::c8::c9::I::J::L::M::N::O::P::R::T::U::X::av::aw::ax::ay::az::aA::Y::Z::[]).toArray,[]⟩ (z.setCells g (k*7) [.string x.ty,.string x.cs,.string x.id,.string x.loc,.int .i64 x.how,.slice r p b,.slice s q c])):
  Code.wp prog (aOP f62 6) Q ⟨(c0::.pointer (some ⟨A,0,none⟩)::c2::.int .i64 (k:Int)::.pointer (some ⟨E,0,none⟩)::c5::c6::c7::c8::c9::I::J::L::M::N::O::P::R::T::U::X::ak::al::am::an::ao::ap::Y::Z::[]).toArray,[]⟩ W:=by
 have HX:Hid _:=@H
 clear H
 conv=>arg 2;whnf
 have aC:(k:Int)<(n:Int):=by omega
 have aB:(0:Int)<=(k:Int):=by omega
 have l:Hid (∀V:World,(V.heap[A]?=some (.cells m 25)/\V.heap[E]?=some (.cells #[.string x.ty,.string x.cs,.string x.id,.string x.loc,.int .i64 x.how,.slice C p f,.slice D q j] 25))->V.cell? ⟨A,6,none⟩=some (.slice (some ⟨g,0,none⟩) n cc)/\V.cell? ⟨E,0,none⟩=some (.string x.ty)/\V.cell? ⟨E,1,none⟩=some (.string x.cs)/\V.cell? ⟨E,2,none⟩=some (.string x.id)/\V.cell? ⟨E,3,none⟩=some (.string x.loc)/\V.cell? ⟨E,4,none⟩=some (.int .i64 x.how)/\V.cell? ⟨E,5,none⟩=some (.slice C p f)/\V.cell? ⟨E,6,none⟩=some (.slice D q j)):=λV h=>by
  obtain⟨h0,h1,h2,h3,h4,h5,h6,_⟩:=aLK h.2
  exact⟨(aDe h.1 6).trans G,h0,h1,h2,h3,h4,h5,h6⟩
 have af:Hid (Calls prog 62 #[.agg #[.string x.ty,.string x.cs,.string x.id,.string x.loc,.int .i64 x.how,.slice C p f,.slice D q j]] W.drew λe w'=>∃r b s c,e=.returned (.agg #[.string x.ty,.string x.cs,.string x.id,.string x.loc,.int .i64 x.how,.slice r p b,.slice s q c])/\jb W w'/\PX r b s c w'):=CW
 have HO:Hid _:=hO
 have ag:Hid _:=kA
 have ah:Hid _:=kE
 have ac:W.drew.heap[A]?=some (.cells m 25)/\W.drew.heap[E]?=some (.cells #[.string x.ty,.string x.cs,.string x.id,.string x.loc,.int .i64 x.how,.slice C p f,.slice D q j] 25):=⟨kA,kE⟩
 clear CW hO kA kE G
 refine wp_region_noPanic ?_
 refine wp_region_held_drew (S:=λV=>V.heap[A]?=some (.cells m 25)/\V.heap[E]?=some (.cells #[.string x.ty,.string x.cs,.string x.id,.string x.loc,.int .i64 x.how,.slice C p f,.slice D q j] 25)) (by kernel_rfl) ac (λd=>?_)
 refine wpAnyH_take (i:=0) (oi:={dst:=some 21,op:=Op.fieldAddr 25 (.tmp 1) 6,type:=_,pos:=_,after:=_,guard:=_}) (v:=.pointer (some ⟨A,6,none⟩)) rfl (by kernel_rfl) (by kernel_rfl) (by kernel_rfl) (λ_ _ _ h=>h) (Or.inl ⟨by rfl,?_⟩) (by assumption) ?_
 ·intro y a
  obtain⟨G,b0,b1,b2,b3,b4,b5,b6⟩:=l.out y a
  clear a
  go_simp
 try simp only[Act.put,jn,jv,jw]
 refine wpAnyH_take (i:=1) (oi:={dst:=some 22,op:=Op.load 23 (.tmp 21),type:=_,pos:=_,after:=_,guard:=_}) (v:=.slice (some ⟨g,0,none⟩) n cc) rfl (by kernel_rfl) (by kernel_rfl) (by kernel_rfl) (λ_ _ _ h=>h) (Or.inl ⟨by rfl,?_⟩) (by assumption) ?_
 ·intro y a
  obtain⟨G,b0,b1,b2,b3,b4,b5,b6⟩:=l.out y a
  clear a
  go_simp
 try simp only[Act.put,jn,jv,jw]
 refine wpAnyH_take (i:=2) (oi:={dst:=some 23,op:=Op.move (.tmp 3),type:=_,pos:=_,after:=_,guard:=_}) (v:=.int .i64 (k:Int)) rfl (by kernel_rfl) (by kernel_rfl) (by kernel_rfl) (λ_ _ _ h=>h) (Or.inl ⟨by rfl,?_⟩) (by assumption) ?_
 ·intro y a
  obtain⟨G,b0,b1,b2,b3,b4,b5,b6⟩:=l.out y a
  clear a
  go_simp
 try simp only[Act.put,jn,jv,jw]
 refine wpAnyH_take (i:=3) (oi:={dst:=some 24,op:=Op.load 25 (.tmp 4),type:=_,pos:=_,after:=_,guard:=_}) (v:=.agg #[.string x.ty,.string x.cs,.string x.id,.string x.loc,.int .i64 x.how,.slice C p f,.slice D q j]) rfl (by kernel_rfl) (by kernel_rfl) (by kernel_rfl) (λ_ _ _ h=>h) (Or.inl ⟨by rfl,?_⟩) (by assumption) ?_
 ·intro y a
  obtain⟨G,b0,b1,b2,b3,b4,b5,b6⟩:=l.out y a
  clear a
  go_simp
 try simp only[Act.put,jn,jv,jw]
 refine wpAnyH_ready (rs:=[4]) (by kernel_rfl) (by simp) (AllReadyH.cons (o:={dst:=some 25,op:=Op.call _,type:=_,pos:=_,after:=_,guard:=_}) rfl (λK hK=>?_) AllReadyH.nil)
 clear d ac
 go_simp
 go_at_call 62
 refine af.out.mono ?_
 rintro e z ⟨r,b,s,c,rfl,t,ad⟩
 have ae:Hid _:=t
 have ai:Hid (PX r b s c z):=ad
 have aa:=aDj ag.out t
 have ab:=aDj ah.out t
 have F:Hid (z.heap[A]?=some (.cells m 25)/\z.heap[E]?=some (.cells #[.string x.ty,.string x.cs,.string x.id,.string x.loc,.int .i64 x.how,.slice C p f,.slice D q j] 25)):=⟨aa,ab⟩
 have aj:Hid (z.there g (k*7) 7):=aMr (aMm HO.out t) hk
 clear t ad aa ab
 go_wp2_with fail
 refine hK.out _ _ F.out (λd=>?_)
 clear hK K
 try simp only[Act.put,jn,jv,jw]
 refine wpAnyH_take (i:=5) (oi:={dst:=some 26,op:=Op.indexAddr 23 (.tmp 22) (.tmp 23),type:=_,pos:=_,after:=_,guard:=_}) (v:=.pointer (some ⟨g,k*7,none⟩)) rfl (by kernel_rfl) (by kernel_rfl) (by kernel_rfl) (λ_ _ _ h=>h) (Or.inl ⟨by rfl,?_⟩) (by assumption) ?_
 ·intro y a
  obtain⟨G,b0,b1,b2,b3,b4,b5,b6⟩:=l.out y a
  clear a
  go_simp
 try simp only[Act.put,jn,jv,jw]
 clear d l
 refine wpAnyH_ready (rs:=[6]) (by kernel_rfl) (by simp) (AllReadyH.cons (o:={dst:=none,op:=Op.store 25 (.tmp 26) (.tmp 25),type:=_,pos:=_,after:=_,guard:=_}) rfl (λK hK=>?_) AllReadyH.nil)
 rw[jo (by rfl)]
 refine wp_store_mid _ _ _ rfl g (k*7) #[.string x.ty,.string x.cs,.string x.id,.string x.loc,.int .i64 x.how,.slice r p b,.slice s q c] rfl rfl aj.out (by kernel_rfl) (aQd _ _ _ _ _ _ _ _ _ _ _) ?_
 refine hK.out _ _ ⟨by rw[aP2 g _ _ _ A aq];exact F.out.1,by rw[aP2 g _ _ _ E ar];exact F.out.2⟩ (λd=>?_)
 clear hK K
 try simp only[Act.put]
 refine wpAnyH_done (by kernel_rfl) ?_ _
 refine NoPanic.normal ?_
 exact HX.out r b s c z ae.out ai.out
end Go.Proofs.YtbbfcbodhmeanaaGreatDoor

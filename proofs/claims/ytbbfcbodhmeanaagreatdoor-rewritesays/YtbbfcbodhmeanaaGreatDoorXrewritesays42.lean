import Derived.Test.YtbbfcbodhmeanaaGreatDoorXrewritesays40
import Derived.Test.YtbbfcbodhmeanaaGreatDoorXrewritesays41
set_option maxHeartbeats 8000000
set_option maxRecDepth 1000000
namespace Go.Proofs.YtbbfcbodhmeanaaGreatDoor
open Go.Proofs.Tryz
open Go.RowKit
def aBv(w:World)(t:TypeId)(a b c:Array Value)(W:World):Prop:=jb w W/\W.heap[w.heap.size]?=some (.cells a t)/\W.heap[w.heap.size+1]?=some (.cells b t)/\W.heap[w.heap.size+1+1]?=some (.cells c t)
theorem aBv.below{w W f:World}{t:TypeId}{a b c:Array Value}(h:aBv w t a b c W)(d:jb W f):aBv w t a b c f:=
 ⟨h.1.trans (d.mono h.1.size),aJk h.2.1 d,aJk h.2.2.1 d,aJk h.2.2.2 d⟩
theorem aBv.drew{w W:World}{t:TypeId}{a b c:Array Value}(h:aBv w t a b c W):aBv w t a b c W.drew:=⟨h.1.drew,h.2.1,h.2.2.1,h.2.2.2⟩
theorem aBv.set{w W:World}{t:TypeId}{a b c:Array Value}(h:aBv w t a b c W)(i:Nat)(v:Value):aBv w t a (b.setIfInBounds i v) c (W.setCell (jx (w.heap.size+1) i) v):=by
 have d:Two w t a b W:=⟨h.1,h.2.1,h.2.2.1⟩
 obtain⟨f,g,j⟩:=d.set i v
 refine⟨f,g,j,?_⟩
 rw[jp _ _ _ _ (by simp)]
 exact h.2.2.2
theorem aBv.set0{w W:World}{t:TypeId}{a c:Array Value}{l b d f g i j k:Value}(h:aBv w t a #[l,b,d,f,g,i,j,k] c W)(x:Value):aBv w t a #[x,b,d,f,g,i,j,k] c (W.setCell (jx (w.heap.size+1) 0) x):=aBv.set h 0 x
theorem aBv.set1{w W:World}{t:TypeId}{a c:Array Value}{b l d f g i j k:Value}(h:aBv w t a #[b,l,d,f,g,i,j,k] c W)(x:Value):aBv w t a #[b,x,d,f,g,i,j,k] c (W.setCell (jx (w.heap.size+1) 1) x):=aBv.set h 1 x
theorem aBv.set2{w W:World}{t:TypeId}{a c:Array Value}{b d l f g i j k:Value}(h:aBv w t a #[b,d,l,f,g,i,j,k] c W)(x:Value):aBv w t a #[b,d,x,f,g,i,j,k] c (W.setCell (jx (w.heap.size+1) 2) x):=aBv.set h 2 x
theorem aBv.set3{w W:World}{t:TypeId}{a c:Array Value}{b d f l g i j k:Value}(h:aBv w t a #[b,d,f,l,g,i,j,k] c W)(x:Value):aBv w t a #[b,d,f,x,g,i,j,k] c (W.setCell (jx (w.heap.size+1) 3) x):=aBv.set h 3 x
theorem aBv.set4{w W:World}{t:TypeId}{a c:Array Value}{b d f g l i j k:Value}(h:aBv w t a #[b,d,f,g,l,i,j,k] c W)(x:Value):aBv w t a #[b,d,f,g,x,i,j,k] c (W.setCell (jx (w.heap.size+1) 4) x):=aBv.set h 4 x
theorem aBv.set5{w W:World}{t:TypeId}{a c:Array Value}{b d f g i l j k:Value}(h:aBv w t a #[b,d,f,g,i,l,j,k] c W)(x:Value):aBv w t a #[b,d,f,g,i,x,j,k] c (W.setCell (jx (w.heap.size+1) 5) x):=aBv.set h 5 x
theorem aBv.set6{w W:World}{t:TypeId}{a c:Array Value}{b d f g i j l k:Value}(h:aBv w t a #[b,d,f,g,i,j,l,k] c W)(x:Value):aBv w t a #[b,d,f,g,i,j,x,k] c (W.setCell (jx (w.heap.size+1) 6) x):=aBv.set h 6 x
theorem aBv.set7{w W:World}{t:TypeId}{a c:Array Value}{b d f g i j k l:Value}(h:aBv w t a #[b,d,f,g,i,j,k,l] c W)(x:Value):aBv w t a #[b,d,f,g,i,j,k,x] c (W.setCell (jx (w.heap.size+1) 7) x):=aBv.set h 7 x
theorem aSU(w:World)(t:TypeId)(a b c:Array Value):aBv w t a b c (((w.alloc (.cells a t)).alloc (.cells b t)).alloc (.cells c t)):=by
 obtain⟨d,f,g⟩:=aTx w t a b
 refine⟨d.alloc d.size _,aJj f,aJj g,?_⟩
 show(((w.heap.push _).push _).push _)[w.heap.size+1+1]?=_
 rw[j2,jo (by simp)]
theorem aJD(n:Int)(w:World):
  Calls prog 103 #[.int .i64 n] w λe w'=>e=.returned (.tuple #[aVs,.int .i64 n])/\jb w w':=by
 go_enter func103,ntmps103
 go_wp2
 refine jt (v:=.tuple #[aVs,.int .i64 n]) ?_ rfl ⟨rfl,?_⟩
 ·rw[jq rfl]
  go_simp
 ·exact ja _ _
def aAq(bs bh bp bq us uh up uq s1 h1 p1 q1 D:jA)(bhh bhq uhh uhq hh1 hq1 pu:Bool):Prop:=
 (us.data.toList≠[]/\us=s1/\uhh=hh1/\uh=h1/\up=p1/\uhq=hq1/\uq=q1)\/
 (us.data.toList=[]/\bs=s1/\uhh=true/\hh1=true/\uh=h1/\up=p1/\uhq=hq1/\uq=q1)\/
 (us.data.toList=[]/\bs=s1/\uhh=false/\bhh=hh1/\bh=h1/\up.data.toList=[]/\bp=p1/\uhq=true/\hq1=true/\uq=q1)\/
 (us.data.toList=[]/\bs=s1/\uhh=false/\bhh=hh1/\bh=h1/\up.data.toList=[]/\bp=p1/\uhq=false/\bhq=hq1/\bq=q1)\/
 (us.data.toList=[]/\bs=s1/\uhh=false/\bhh=hh1/\bh=h1/\up.data.toList≠[]/\pu=true/\up=p1/\uhq=hq1/\uq=q1)\/
 (us.data.toList=[]/\bs=s1/\uhh=false/\bhh=hh1/\bh=h1/\up.data.toList≠[]/\pu=false/\p1=D++up/\uhq=hq1/\uq=q1)
theorem aC1(s:jA)(h:s.data.toList=[]):s.toList.isEmpty=true:=by
 rw[jj,h]
 rfl
theorem aPg(o q A bq bf L uh J uq uf s1 h1 p1 q1 D T:jA)(j P U X Y t C H pu pp ss:Bool)(k:Int)(RV:Value)(RN n:Nat)(w:World)
  (ag:o.data.toList≠[])
  (S:Hid (aAq o q A bq L uh J uq s1 h1 p1 q1 D j P X Y C H pu))
  (R:Hid (pu=false->(j=true/\A.data.toList=[]/\k=-1/\D=⟨#[47]⟩)\/((j=false\/(j=true/\A.data.toList≠[]))/\((k=-1/\D=E0)\/∃m:Nat,k=(m:Int)/\m<A.size/\A.extract 0 (m+1)=D))))(ai:A.size<=120)(aj:J.size<=120)(hD:D.size<=200)
  (E:Hid (∀W,Calls prog 104 #[.string A,.string ⟨#[47]⟩] W λe w'=>e=.returned (.int .i64 k)/\w'=W))
  (CB:Hid (∀W,jb w W->Calls prog 102 #[.agg (aDR o j q A P bq U bf)] W λe w'=>e=.returned (.int .i64 0)/\jb W w'))
  (CU:Hid (∀W,jb w W->Calls prog 102 #[.agg (aDR L X uh J Y uq t uf)] W λe w'=>e=.returned (.int .i64 0)/\jb W w'))
  (z:Hid (∀W,Calls prog 59 #[.string J,.string ⟨#[47]⟩] W λe w'=>e=.returned (.bool pu)/\w'=W))
  (CQ:Hid ((C=true/\∀W,jb w W->Calls prog 105 #[.string p1] W λe w'=>e=.returned (.string T)/\jb W w')\/(C=false/\pp=true/\∀W,jb w W->Calls prog 105 #[.string p1] W λe w'=>e=.returned (.string T)/\jb W w')\/(C=false/\pp=false/\p1=T)))
  (CG:Hid (∀W,Calls prog 59 #[.string p1,.string ⟨#[47]⟩] W λe w'=>e=.returned (.bool pp)/\w'=W))
  (CE:Hid (∀W,jb w W->Calls prog 102 #[.agg (aDR s1 C h1 T H q1 t uf)] W λe w'=>e=.returned (.int .i64 (n:Int))/\jb W w'))
  (CS:Hid (∀W,Calls prog 59 #[.string T,.string ⟨#[47,47]⟩] W λe w'=>e=.returned (.bool ss)/\w'=W))
  (HR:Hid ((n=0/\RV=.agg (aDR s1 C h1 T H q1 t uf)/\RN=0)\/(n≠0/\RV=aVs/\RN=if(!C&&ss)=true then 4 else n))):
  Calls prog 54 #[.agg (aDR o j q A P bq U bf),.agg (aDR L X uh J Y uq t uf)] w λe w'=>e=.returned (.tuple #[RV,.int .i64 (RN:Int)])/\jb w w':=by
 have P0:=aSU w 85 (aDR o j q A P bq U bf) (aDR L X uh J Y uq t uf) (aDR E0 false E0 E0 false E0 false E0)
 have ah:=aC0 o ag
 go_enter func54,ntmps54
 go_wp2_with fail
 obtain⟨W0,ab⟩:∃W,W=((w.alloc (.cells (aDR o j q A P bq U bf) 85)).alloc (.cells (aDR L X uh J Y uq t uf) 85)).alloc (.cells (aDR E0 false E0 E0 false E0 false E0) 85):=⟨_,rfl⟩
 rw[<-ab]at P0
 rw[<-ab]
 clear ab
 refine(CB.out _ P0.1).mono ?_
 rintro e w1 ⟨rfl,ac⟩
 have P1:=P0.below ac
 clear CB ac P0
 obtain⟨c0,c1,c2,c3,c4,c5,c6,d,f⟩:=aDS P1.2.2.1
 go_wp2_with fail
 refine(CU.out _ P1.1).mono ?_
 rintro e w2 ⟨rfl,ad⟩
 have r:=P1.below ad
 clear CU ad P1 c0 c1 c2 c3 c4 c5 c6 d f
 obtain⟨c0,c1,c2,c3,c4,c5,c6,d,f⟩:=aDS r.2.2.1
 obtain⟨d0,d1,d2,d3,d4,d5,d6,d7,i⟩:=aDS r.2.1
 go_upto_if 39 with fail
 go_cut[] (λwx=>aBv w 85 (aDR o j q A P bq U bf) (aDR s1 C h1 p1 H q1 t uf) (aDR E0 false E0 E0 false E0 false E0) wx)
 case first=>
  rcases S.out with⟨M,rfl,rfl,rfl,rfl,rfl,rfl⟩|⟨M,rfl,rfl,rfl,rfl,rfl,rfl,rfl⟩|⟨M,rfl,rfl,rfl,rfl,Z,rfl,rfl,rfl,rfl⟩|⟨M,rfl,rfl,rfl,rfl,Z,rfl,rfl,rfl,rfl⟩|⟨M,rfl,rfl,rfl,rfl,Z,rfl,rfl,rfl,rfl⟩|⟨M,rfl,rfl,rfl,rfl,Z,rfl,rfl,rfl,rfl⟩
  ·have x:=aC0 L M
   rw[x]
   clear S R z E
   go_wp2_with fail
   go_meet
   exact r
  ·have x:=aC1 L M
   rw[x]
   clear S R z E
   go_wp2_with fail
   go_meet
   exact r.set0 _
  ·have x:=aC1 L M
   rw[x]
   have I:=aC1 J Z
   clear S R z E
   go_upto_region 13 with fail
   clear c0 c1 c2 c3 c4 c5 c6 d f d0 d1 d2 d3 d4 d5 d6 d7 i
   obtain⟨F,a⟩:∃W,W=w2.setCell (jx (w.heap.size+1) 0) (.string o):=⟨_,rfl⟩
   have c:=r.set0 (.string o)
   rw[<-a]at c
   rw[<-a]
   clear a r
   obtain⟨c0,c1,c2,c3,c4,c5,c6,d,f⟩:=aDS c.2.2.1
   obtain⟨d0,d1,d2,d3,d4,d5,d6,d7,i⟩:=aDS c.2.1
   go_region
   clear c0 c1 c2 c3 c4 c5 c6 d f d0 d1 d2 d3 d4 d5 d6 d7 i
   obtain⟨W4,b⟩:∃W,W=((F.setCell (jx (w.heap.size+1) 1) (.bool j)).setCell (jx (w.heap.size+1) 2) (.string q)).drew:=⟨_,rfl⟩
   have g:=((c.set1 (.bool j)).set2 (.string q)).drew
   rw[<-b]at g
   rw[<-b]
   clear b c
   obtain⟨c0,c1,c2,c3,c4,c5,c6,d,f⟩:=aDS g.2.2.1
   obtain⟨d0,d1,d2,d3,d4,d5,d6,d7,i⟩:=aDS g.2.1
   go_wp2_with fail
   go_meet
   exact g.set3 _
  ·have x:=aC1 L M
   rw[x]
   have I:=aC1 J Z
   clear S R z E
   go_upto_region 13 with fail
   clear c0 c1 c2 c3 c4 c5 c6 d f d0 d1 d2 d3 d4 d5 d6 d7 i
   obtain⟨F,a⟩:∃W,W=w2.setCell (jx (w.heap.size+1) 0) (.string o):=⟨_,rfl⟩
   have c:=r.set0 (.string o)
   rw[<-a]at c
   rw[<-a]
   clear a r
   obtain⟨c0,c1,c2,c3,c4,c5,c6,d,f⟩:=aDS c.2.2.1
   obtain⟨d0,d1,d2,d3,d4,d5,d6,d7,i⟩:=aDS c.2.1
   go_region
   clear c0 c1 c2 c3 c4 c5 c6 d f d0 d1 d2 d3 d4 d5 d6 d7 i
   obtain⟨W4,b⟩:∃W,W=((F.setCell (jx (w.heap.size+1) 1) (.bool j)).setCell (jx (w.heap.size+1) 2) (.string q)).drew:=⟨_,rfl⟩
   have g:=((c.set1 (.bool j)).set2 (.string q)).drew
   rw[<-b]at g
   rw[<-b]
   clear b c
   obtain⟨c0,c1,c2,c3,c4,c5,c6,d,f⟩:=aDS g.2.2.1
   obtain⟨d0,d1,d2,d3,d4,d5,d6,d7,i⟩:=aDS g.2.1
   go_upto_region 17 with fail
   clear c0 c1 c2 c3 c4 c5 c6 d f d0 d1 d2 d3 d4 d5 d6 d7 i
   obtain⟨W5,p⟩:∃W,W=W4.setCell (jx (w.heap.size+1) 3) (.string A):=⟨_,rfl⟩
   have N:=g.set3 (.string A)
   rw[<-p]at N
   rw[<-p]
   clear p g
   obtain⟨c0,c1,c2,c3,c4,c5,c6,d,f⟩:=aDS N.2.2.1
   obtain⟨d0,d1,d2,d3,d4,d5,d6,d7,i⟩:=aDS N.2.1
   go_region
   go_wp2_with fail
   go_meet
   exact((N.set4 _).set5 _).drew
  ·have x:=aC1 L M
   rw[x]
   have I:=aC0 J Z
   clear S R E
   go_upto_region 13 with fail
   clear c0 c1 c2 c3 c4 c5 c6 d f d0 d1 d2 d3 d4 d5 d6 d7 i
   obtain⟨F,a⟩:∃W,W=w2.setCell (jx (w.heap.size+1) 0) (.string o):=⟨_,rfl⟩
   have c:=r.set0 (.string o)
   rw[<-a]at c
   rw[<-a]
   clear a r
   obtain⟨c0,c1,c2,c3,c4,c5,c6,d,f⟩:=aDS c.2.2.1
   obtain⟨d0,d1,d2,d3,d4,d5,d6,d7,i⟩:=aDS c.2.1
   go_region
   clear c0 c1 c2 c3 c4 c5 c6 d f d0 d1 d2 d3 d4 d5 d6 d7 i
   obtain⟨W4,b⟩:∃W,W=((F.setCell (jx (w.heap.size+1) 1) (.bool j)).setCell (jx (w.heap.size+1) 2) (.string q)).drew:=⟨_,rfl⟩
   have g:=((c.set1 (.bool j)).set2 (.string q)).drew
   rw[<-b]at g
   rw[<-b]
   clear b c
   obtain⟨c0,c1,c2,c3,c4,c5,c6,d,f⟩:=aDS g.2.2.1
   obtain⟨d0,d1,d2,d3,d4,d5,d6,d7,i⟩:=aDS g.2.1
   go_wp2_with fail
   refine(z.out _).mono ?_
   rintro e w5 ⟨rfl,rfl⟩
   clear z
   go_wp2_with fail
   go_meet
   exact g
  ·rcases R.out rfl with⟨rfl,y,rfl,rfl⟩|⟨rfl|⟨rfl,y⟩,⟨rfl,rfl⟩|⟨m,rfl,hm,hx⟩⟩
   ·have x:=aC1 L M
    rw[x]
    have I:=aC0 J Z
    clear S R
    go_upto_region 13 with fail
    clear c0 c1 c2 c3 c4 c5 c6 d f d0 d1 d2 d3 d4 d5 d6 d7 i
    obtain⟨F,a⟩:∃W,W=w2.setCell (jx (w.heap.size+1) 0) (.string o):=⟨_,rfl⟩
    have c:=r.set0 (.string o)
    rw[<-a]at c
    rw[<-a]
    clear a r
    obtain⟨c0,c1,c2,c3,c4,c5,c6,d,f⟩:=aDS c.2.2.1
    obtain⟨d0,d1,d2,d3,d4,d5,d6,d7,i⟩:=aDS c.2.1
    go_region
    clear c0 c1 c2 c3 c4 c5 c6 d f d0 d1 d2 d3 d4 d5 d6 d7 i
    obtain⟨W4,b⟩:∃W,W=((F.setCell (jx (w.heap.size+1) 1) (.bool true)).setCell (jx (w.heap.size+1) 2) (.string q)).drew:=⟨_,rfl⟩
    have g:=((c.set1 (.bool true)).set2 (.string q)).drew
    rw[<-b]at g
    rw[<-b]
    clear b c
    obtain⟨c0,c1,c2,c3,c4,c5,c6,d,f⟩:=aDS g.2.2.1
    obtain⟨d0,d1,d2,d3,d4,d5,d6,d7,i⟩:=aDS g.2.1
    go_wp2_with fail
    refine(z.out _).mono ?_
    rintro e w5 ⟨rfl,rfl⟩
    clear z
    go_wp2_with fail
    refine(E.out _).mono ?_
    rintro e w6 ⟨rfl,rfl⟩
    clear E
    have aa:=aC1 A y
    go_wp2_with fail
    go_meet
    exact g.set3 _
   ·have x:=aC1 L M
    rw[x]
    have I:=aC0 J Z
    clear S R
    go_upto_region 13 with fail
    clear c0 c1 c2 c3 c4 c5 c6 d f d0 d1 d2 d3 d4 d5 d6 d7 i
    obtain⟨F,a⟩:∃W,W=w2.setCell (jx (w.heap.size+1) 0) (.string o):=⟨_,rfl⟩
    have c:=r.set0 (.string o)
    rw[<-a]at c
    rw[<-a]
    clear a r
    obtain⟨c0,c1,c2,c3,c4,c5,c6,d,f⟩:=aDS c.2.2.1
    obtain⟨d0,d1,d2,d3,d4,d5,d6,d7,i⟩:=aDS c.2.1
    go_region
    clear c0 c1 c2 c3 c4 c5 c6 d f d0 d1 d2 d3 d4 d5 d6 d7 i
    obtain⟨W4,b⟩:∃W,W=((F.setCell (jx (w.heap.size+1) 1) (.bool false)).setCell (jx (w.heap.size+1) 2) (.string q)).drew:=⟨_,rfl⟩
    have g:=((c.set1 (.bool false)).set2 (.string q)).drew
    rw[<-b]at g
    rw[<-b]
    clear b c
    obtain⟨c0,c1,c2,c3,c4,c5,c6,d,f⟩:=aDS g.2.2.1
    obtain⟨d0,d1,d2,d3,d4,d5,d6,d7,i⟩:=aDS g.2.1
    go_wp2_with fail
    refine(z.out _).mono ?_
    rintro e w5 ⟨rfl,rfl⟩
    clear z
    go_wp2_with fail
    refine(E.out _).mono ?_
    rintro e w6 ⟨rfl,rfl⟩
    clear E
    go_wp2_with fail
    go_meet
    exact g.set3 _
   ·have x:=aC1 L M
    rw[x]
    have I:=aC0 J Z
    clear S R
    go_upto_region 13 with fail
    clear c0 c1 c2 c3 c4 c5 c6 d f d0 d1 d2 d3 d4 d5 d6 d7 i
    obtain⟨F,a⟩:∃W,W=w2.setCell (jx (w.heap.size+1) 0) (.string o):=⟨_,rfl⟩
    have c:=r.set0 (.string o)
    rw[<-a]at c
    rw[<-a]
    clear a r
    obtain⟨c0,c1,c2,c3,c4,c5,c6,d,f⟩:=aDS c.2.2.1
    obtain⟨d0,d1,d2,d3,d4,d5,d6,d7,i⟩:=aDS c.2.1
    go_region
    clear c0 c1 c2 c3 c4 c5 c6 d f d0 d1 d2 d3 d4 d5 d6 d7 i
    obtain⟨W4,b⟩:∃W,W=((F.setCell (jx (w.heap.size+1) 1) (.bool false)).setCell (jx (w.heap.size+1) 2) (.string q)).drew:=⟨_,rfl⟩
    have g:=((c.set1 (.bool false)).set2 (.string q)).drew
    rw[<-b]at g
    rw[<-b]
    clear b c
    obtain⟨c0,c1,c2,c3,c4,c5,c6,d,f⟩:=aDS g.2.2.1
    obtain⟨d0,d1,d2,d3,d4,d5,d6,d7,i⟩:=aDS g.2.1
    go_wp2_with fail
    refine(z.out _).mono ?_
    rintro e w5 ⟨rfl,rfl⟩
    clear z
    go_wp2_with fail
    refine(E.out _).mono ?_
    rintro e w6 ⟨rfl,rfl⟩
    clear E
    go_wp2_with fail
    go_meet
    rw[<-hx]
    exact g.set3 _
   ·have x:=aC1 L M
    rw[x]
    have I:=aC0 J Z
    clear S R
    go_upto_region 13 with fail
    clear c0 c1 c2 c3 c4 c5 c6 d f d0 d1 d2 d3 d4 d5 d6 d7 i
    obtain⟨F,a⟩:∃W,W=w2.setCell (jx (w.heap.size+1) 0) (.string o):=⟨_,rfl⟩
    have c:=r.set0 (.string o)
    rw[<-a]at c
    rw[<-a]
    clear a r
    obtain⟨c0,c1,c2,c3,c4,c5,c6,d,f⟩:=aDS c.2.2.1
    obtain⟨d0,d1,d2,d3,d4,d5,d6,d7,i⟩:=aDS c.2.1
    go_region
    clear c0 c1 c2 c3 c4 c5 c6 d f d0 d1 d2 d3 d4 d5 d6 d7 i
    obtain⟨W4,b⟩:∃W,W=((F.setCell (jx (w.heap.size+1) 1) (.bool true)).setCell (jx (w.heap.size+1) 2) (.string q)).drew:=⟨_,rfl⟩
    have g:=((c.set1 (.bool true)).set2 (.string q)).drew
    rw[<-b]at g
    rw[<-b]
    clear b c
    obtain⟨c0,c1,c2,c3,c4,c5,c6,d,f⟩:=aDS g.2.2.1
    obtain⟨d0,d1,d2,d3,d4,d5,d6,d7,i⟩:=aDS g.2.1
    go_wp2_with fail
    refine(z.out _).mono ?_
    rintro e w5 ⟨rfl,rfl⟩
    clear z
    go_wp2_with fail
    refine(E.out _).mono ?_
    rintro e w6 ⟨rfl,rfl⟩
    clear E
    have aa:=aC0 A y
    go_wp2_with fail
    go_meet
    exact g.set3 _
   ·have x:=aC1 L M
    rw[x]
    have I:=aC0 J Z
    clear S R
    go_upto_region 13 with fail
    clear c0 c1 c2 c3 c4 c5 c6 d f d0 d1 d2 d3 d4 d5 d6 d7 i
    obtain⟨F,a⟩:∃W,W=w2.setCell (jx (w.heap.size+1) 0) (.string o):=⟨_,rfl⟩
    have c:=r.set0 (.string o)
    rw[<-a]at c
    rw[<-a]
    clear a r
    obtain⟨c0,c1,c2,c3,c4,c5,c6,d,f⟩:=aDS c.2.2.1
    obtain⟨d0,d1,d2,d3,d4,d5,d6,d7,i⟩:=aDS c.2.1
    go_region
    clear c0 c1 c2 c3 c4 c5 c6 d f d0 d1 d2 d3 d4 d5 d6 d7 i
    obtain⟨W4,b⟩:∃W,W=((F.setCell (jx (w.heap.size+1) 1) (.bool true)).setCell (jx (w.heap.size+1) 2) (.string q)).drew:=⟨_,rfl⟩
    have g:=((c.set1 (.bool true)).set2 (.string q)).drew
    rw[<-b]at g
    rw[<-b]
    clear b c
    obtain⟨c0,c1,c2,c3,c4,c5,c6,d,f⟩:=aDS g.2.2.1
    obtain⟨d0,d1,d2,d3,d4,d5,d6,d7,i⟩:=aDS g.2.1
    go_wp2_with fail
    refine(z.out _).mono ?_
    rintro e w5 ⟨rfl,rfl⟩
    clear z
    go_wp2_with fail
    refine(E.out _).mono ?_
    rintro e w6 ⟨rfl,rfl⟩
    clear E
    have aa:=aC0 A y
    go_wp2_with fail
    go_meet
    rw[<-hx]
    exact g.set3 _
 case rest=>
  have c:=hcut
  clear hcut
  clear S R E z d0 d1 d2 d3 d4 d5 d6 d7 i c0 c1 c2 c3 c4 c5 c6 d f r
  obtain⟨c0,c1,c2,c3,c4,c5,c6,d,f⟩:=aDS c.2.2.1
  rcases CQ.out with⟨rfl,CD⟩|⟨rfl,rfl,CD⟩|⟨rfl,rfl,rfl⟩
  ·clear CQ CG CS
   go_wp2_with fail
   refine(CD _ c.1).mono ?_
   rintro e w4 ⟨rfl,V⟩
   have g:=c.below V
   clear CD V c c0 c1 c2 c3 c4 c5 c6 d f
   obtain⟨c0,c1,c2,c3,c4,c5,c6,d,f⟩:=aDS g.2.2.1
   go_wp2_with fail
   obtain⟨W5,p⟩:∃W,W=w4.setCell (jx (w.heap.size+1) 3) (.string T):=⟨_,rfl⟩
   have N:=g.set3 (.string T)
   rw[<-p]at N
   rw[<-p]
   clear p g
   refine(CE.out _ N.1).mono ?_
   rintro e w7 ⟨rfl,B⟩
   have s:=N.below B
   clear CE B N c0 c1 c2 c3 c4 c5 c6 d f
   obtain⟨c0,c1,c2,c3,c4,c5,c6,d,f⟩:=aDS s.2.2.1
   rcases HR.out with⟨rfl,rfl,rfl⟩|⟨hn,rfl,G⟩
   ·clear HR
    obtain⟨r0,r1,r2,r3,r4,r5,r6,r7,rf⟩:=aDS s.2.2.2
    go_wp2
    refine jt (v:=.tuple #[.agg (aDR s1 true h1 T H q1 t uf),.int .i64 0]) ?_ rfl ⟨rfl,?_⟩
    ·rw[jq rfl]
     go_simp
    ·exact(j8 s.1 (jau w.heap.size 2))
   ·have ae:((n:Int)==0)=false:=by rw[jg];omega
    have af:¬(n:Int)=0:=by omega
    clear HR
    go_wp2_with fail
    refine(aJD _ _).mono ?_
    rintro e w9 ⟨rfl,l⟩
    have O:=s.below l
    clear l s c0 c1 c2 c3 c4 c5 c6 d f
    obtain⟨r0,r1,r2,r3,r4,r5,r6,r7,rf⟩:=aDS O.2.2.2
    go_wp2
    refine jt (v:=.tuple #[aVs,.int .i64 (n:Int)]) ?_ rfl ⟨by rw[G];simp,?_⟩
    ·rw[jq rfl]
     go_simp
    ·exact(j8 O.1 (jau w.heap.size 2))
  ·clear CQ
   go_wp2_with fail
   refine(CG.out _).mono ?_
   rintro e w3 ⟨rfl,rfl⟩
   clear CG
   go_wp2_with fail
   refine(CD _ c.1).mono ?_
   rintro e w4 ⟨rfl,V⟩
   have g:=c.below V
   clear CD V c c0 c1 c2 c3 c4 c5 c6 d f
   obtain⟨c0,c1,c2,c3,c4,c5,c6,d,f⟩:=aDS g.2.2.1
   go_wp2_with fail
   obtain⟨W5,p⟩:∃W,W=w4.setCell (jx (w.heap.size+1) 3) (.string T):=⟨_,rfl⟩
   have N:=g.set3 (.string T)
   rw[<-p]at N
   rw[<-p]
   clear p g
   refine(CE.out _ N.1).mono ?_
   rintro e w7 ⟨rfl,B⟩
   have s:=N.below B
   clear CE B N c0 c1 c2 c3 c4 c5 c6 d f
   obtain⟨c0,c1,c2,c3,c4,c5,c6,d,f⟩:=aDS s.2.2.1
   rcases HR.out with⟨rfl,rfl,rfl⟩|⟨hn,rfl,G⟩
   ·clear HR
    obtain⟨r0,r1,r2,r3,r4,r5,r6,r7,rf⟩:=aDS s.2.2.2
    go_wp2
    refine jt (v:=.tuple #[.agg (aDR s1 false h1 T H q1 t uf),.int .i64 0]) ?_ rfl ⟨rfl,?_⟩
    ·rw[jq rfl]
     go_simp
    ·exact(j8 s.1 (jau w.heap.size 2))
   ·have ae:((n:Int)==0)=false:=by rw[jg];omega
    have af:¬(n:Int)=0:=by omega
    clear HR
    go_wp2_with fail
    refine(CS.out _).mono ?_
    rintro e w8 ⟨rfl,rfl⟩
    clear CS
    cases ss with
    |true=>
     go_wp2_with fail
     refine(aJD _ _).mono ?_
     rintro e w9 ⟨rfl,l⟩
     have O:=s.below l
     clear l s c0 c1 c2 c3 c4 c5 c6 d f
     obtain⟨r0,r1,r2,r3,r4,r5,r6,r7,rf⟩:=aDS O.2.2.2
     go_wp2
     refine jt (v:=.tuple #[aVs,.int .i64 4]) ?_ rfl ⟨by rw[G];simp,?_⟩
     ·rw[jq rfl]
      go_simp
     ·exact(j8 O.1 (jau w.heap.size 2))
    |false=>
     go_wp2_with fail
     refine(aJD _ _).mono ?_
     rintro e w9 ⟨rfl,l⟩
     have O:=s.below l
     clear l s c0 c1 c2 c3 c4 c5 c6 d f
     obtain⟨r0,r1,r2,r3,r4,r5,r6,r7,rf⟩:=aDS O.2.2.2
     go_wp2
     refine jt (v:=.tuple #[aVs,.int .i64 (n:Int)]) ?_ rfl ⟨by rw[G];simp,?_⟩
     ·rw[jq rfl]
      go_simp
     ·exact(j8 O.1 (jau w.heap.size 2))
  ·clear CQ
   go_wp2_with fail
   refine(CG.out _).mono ?_
   rintro e w3 ⟨rfl,rfl⟩
   clear CG
   go_wp2_with fail
   refine(CE.out _ c.1).mono ?_
   rintro e w7 ⟨rfl,B⟩
   have s:=c.below B
   clear CE B c c0 c1 c2 c3 c4 c5 c6 d f
   obtain⟨c0,c1,c2,c3,c4,c5,c6,d,f⟩:=aDS s.2.2.1
   rcases HR.out with⟨rfl,rfl,rfl⟩|⟨hn,rfl,G⟩
   ·clear HR
    obtain⟨r0,r1,r2,r3,r4,r5,r6,r7,rf⟩:=aDS s.2.2.2
    go_wp2
    refine jt (v:=.tuple #[.agg (aDR s1 false h1 p1 H q1 t uf),.int .i64 0]) ?_ rfl ⟨rfl,?_⟩
    ·rw[jq rfl]
     go_simp
    ·exact(j8 s.1 (jau w.heap.size 2))
   ·have ae:((n:Int)==0)=false:=by rw[jg];omega
    have af:¬(n:Int)=0:=by omega
    clear HR
    go_wp2_with fail
    refine(CS.out _).mono ?_
    rintro e w8 ⟨rfl,rfl⟩
    clear CS
    cases ss with
    |true=>
     go_wp2_with fail
     refine(aJD _ _).mono ?_
     rintro e w9 ⟨rfl,l⟩
     have O:=s.below l
     clear l s c0 c1 c2 c3 c4 c5 c6 d f
     obtain⟨r0,r1,r2,r3,r4,r5,r6,r7,rf⟩:=aDS O.2.2.2
     go_wp2
     refine jt (v:=.tuple #[aVs,.int .i64 4]) ?_ rfl ⟨by rw[G];simp,?_⟩
     ·rw[jq rfl]
      go_simp
     ·exact(j8 O.1 (jau w.heap.size 2))
    |false=>
     go_wp2_with fail
     refine(aJD _ _).mono ?_
     rintro e w9 ⟨rfl,l⟩
     have O:=s.below l
     clear l s c0 c1 c2 c3 c4 c5 c6 d f
     obtain⟨r0,r1,r2,r3,r4,r5,r6,r7,rf⟩:=aDS O.2.2.2
     go_wp2
     refine jt (v:=.tuple #[aVs,.int .i64 (n:Int)]) ?_ rfl ⟨by rw[G];simp,?_⟩
     ·rw[jq rfl]
      go_simp
     ·exact(j8 O.1 (jau w.heap.size 2))
theorem aKf{u:UL}(h:aKe u=true):aDW u≠0:=by
 intro b
 obtain⟨_,_,a,_⟩:=aDY b
 have hh:u.hh=false:=by unfold aKe at h;simp at h;exact h.1
 unfold aHj at a
 rw[h,hh]at a
 split at a<;>simp at a
theorem aNR(s:jA)(w:World):Calls prog 59 #[.string s,.string ⟨#[47,47]⟩] w λe w'=>e=.returned (.bool (aNF s.data.toList))/\w'=w:=by
 refine(strings_HasPrefix s ⟨#[47,47]⟩ w).mono ?_
 rintro e w' ⟨rfl,rfl⟩
 refine⟨?_,rfl⟩
 rw[show Lib.hasPrefix s.data.toList (ByteArray.mk #[47,47]).data.toList=aNF s.data.toList from by
  show Lib.hasPrefix s.data.toList [47,47]=aNF s.data.toList
  match s.data.toList with
  |[]=>rfl
  |[a]=>simp[Lib.hasPrefix,List.isPrefixOf,aNF]
  |a::b::l=>simp[Lib.hasPrefix,List.isPrefixOf,aNF,Bool.beq_comm]]
def aFd(bp:jA)(bhh:Bool):jA:=if(bhh&&bp.data.toList.isEmpty)=true then⟨#[47]⟩else bar (aFg bp.data.toList)
theorem aFf(a:jA)(b:Bool)(h:a.size<=120):(aFd a b).size<=121:=by
 obtain⟨d1,d2,d3⟩:=aJy a
 unfold aFd
 split
 ·show 1<=121;omega
 ·rw[aCK,d3,jF]
  have:=Lib.size_eq a
  omega
theorem aFe(a:jA)(b:Bool):
  (b=true/\a.data.toList=[]/\Lib.lastIndexByte a 47=-1/\aFd a b=⟨#[47]⟩)\/((b=false\/(b=true/\a.data.toList≠[]))/\((Lib.lastIndexByte a 47=-1/\aFd a b=E0)\/∃m:Nat,Lib.lastIndexByte a 47=(m:Int)/\m<a.size/\a.extract 0 (m+1)=aFd a b)):=by
 obtain⟨d1,d2,d3⟩:=aJy a
 by_cases f:(b&&a.data.toList.isEmpty)=true
 ·left
  have c:=f
  rw[j7]at c
  have d:a.data.toList=[]:=by simpa using c.2
  have j:a.size=0:=by rw[Lib.size_eq,d];rfl
  refine⟨c.1,d,by omega,?_⟩
  unfold aFd
  rw[jo f]
 ·right
  refine⟨?_,?_⟩
  ·cases b with
   |false=>exact .inl rfl
   |true=>refine .inr ⟨rfl,?_⟩;intro h;apply f;rw[h];rfl
  ·have i:aFd a b=bar (aFg a.data.toList):=by unfold aFd;rw[jh f]
   rw[i,d3]
   by_cases g:Lib.lastIndexByte a 47=-1
   ·left
    refine⟨g,?_⟩
    rw[g]
    rfl
   ·right
    refine⟨(Lib.lastIndexByte a 47).toNat,by omega,by omega,?_⟩
    apply aCx
    rw[Lib.extract_data,show(Lib.lastIndexByte a 47).toNat+1=(Lib.lastIndexByte a 47+1).toNat from by omega]
    simp[bar]
theorem aGo(m k i t B p s d j o:jA)(a f l g b c:Bool)(v:m.size<=120)(A:k.size<=120)(I:i.size<=120)(J:t.size<=120)(N:p.size<=120)(H:s.size<=120)(O:d.size<=120)(z:j.size<=120):
  ∃G C E F x y,aAq m k i t p s d j G C E F (aFd i a) a f g b x y (aNE d.data.toList)/\aHr (UV.l ⟨m,a,k,i,f,t,l,B⟩) (UV.l ⟨p,g,s,d,b,j,c,o⟩)=UV.l ⟨G,x,C,E,y,F,c,o⟩/\G.size<=120/\C.size<=120/\E.size<=250/\F.size<=120:=by
 have L:=aFf i a I
 by_cases r:p.data.toList=[]
 ·obtain rfl:=aC2 p r
  cases g with
  |true=>exact⟨_,_,_,_,_,_,.inr (.inl ⟨rfl,rfl,rfl,rfl,rfl,rfl,rfl,rfl⟩),rfl,v,H,by omega,z⟩
  |false=>
   by_cases n:d.data.toList=[]
   ·obtain rfl:=aC2 d n
    cases b with
    |true=>exact⟨_,_,_,_,_,_,.inr (.inr (.inl ⟨rfl,rfl,rfl,rfl,rfl,rfl,rfl,rfl,rfl,rfl⟩)),rfl,v,A,by omega,z⟩
    |false=>exact⟨_,_,_,_,_,_,.inr (.inr (.inr (.inl ⟨rfl,rfl,rfl,rfl,rfl,rfl,rfl,rfl,rfl,rfl⟩))),rfl,v,A,by omega,J⟩
   ·have D:aHr (UV.l ⟨m,a,k,i,f,t,l,B⟩) (UV.l ⟨jz,false,s,d,b,j,c,o⟩)=if aNE d.data.toList then⟨m.data.toList,a,k.data.toList,d.data.toList,b,j.data.toList,c,o.data.toList⟩else if a&&i.data.toList.isEmpty then⟨m.data.toList,a,k.data.toList,47::d.data.toList,b,j.data.toList,c,o.data.toList⟩else⟨m.data.toList,a,k.data.toList,aFg i.data.toList++d.data.toList,b,j.data.toList,c,o.data.toList⟩:=by
     show aEo (UV.l ⟨m,a,k,i,f,t,l,B⟩) (UV.l ⟨jz,false,s,d,b,j,c,o⟩)=_
     unfold aEo UV.l
     simp only
     rw[jh (by simp),jh (by rw[aI0 d n];simp)]
    rw[D]
    cases M:aNE d.data.toList with
    |true=>
     rw[jo rfl]
     exact⟨_,_,_,_,_,_,.inr (.inr (.inr (.inr (.inl ⟨rfl,rfl,rfl,rfl,rfl,n,rfl,rfl,rfl,rfl⟩)))),rfl,v,A,by omega,z⟩
    |false=>
     rw[jh (by simp)]
     refine⟨_,_,_,_,_,_,.inr (.inr (.inr (.inr (.inr ⟨rfl,rfl,rfl,rfl,rfl,n,rfl,rfl,rfl,rfl⟩)))),?_,v,A,by rw[ByteArray.size_append];omega,z⟩
     unfold aFd
     unfold UV.l
     simp only[aE7]
     split
     ·rfl
     ·rfl
 ·have q:aHr (UV.l ⟨m,a,k,i,f,t,l,B⟩) (UV.l ⟨p,g,s,d,b,j,c,o⟩)=UV.l ⟨p,g,s,d,b,j,c,o⟩:=by
   unfold aHr
   rw[jh]
   show¬p.data.toList.isEmpty=true
   rw[aI0 p r];simp
  exact⟨_,_,_,_,_,_,.inl ⟨r,rfl,rfl,rfl,rfl,rfl,rfl⟩,q,N,H,by omega,z⟩
theorem aPe(s p q r o A x y z t:jA)(b c a g i f:Bool)(n:Nat)(H:n≠0)(w:World)
  (B:∀W,jb w W->Calls prog 102 #[.agg (aDR s b p q c r a o)] W λe w'=>e=.returned (.int .i64 (n:Int))/\jb W w'):
  Calls prog 54 #[.agg (aDR s b p q c r a o),.agg (aDR A g x y i z f t)] w λe w'=>e=.returned (.tuple #[aVs,.int .i64 (n:Int)])/\jb w w':=by
 have j:Hid (∀W,jb w W->_):=B
 clear B
 have m:=aSU w 85 (aDR s b p q c r a o) (aDR A g x y i z f t) (aDR E0 false E0 E0 false E0 false E0)
 have E:((n:Int)==0)=false:=by rw[jg];omega
 have F:¬(n:Int)=0:=by omega
 go_enter func54,ntmps54
 go_wp2_with fail
 obtain⟨G,d⟩:∃W,W=((w.alloc (.cells (aDR s b p q c r a o) 85)).alloc (.cells (aDR A g x y i z f t) 85)).alloc (.cells (aDR E0 false E0 E0 false E0 false E0) 85):=⟨_,rfl⟩
 rw[<-d]at m
 rw[<-d]
 clear d
 refine(j.out _ m.1).mono ?_
 rintro e T ⟨rfl,k⟩
 have C:=m.below k
 clear j k m
 go_wp2_with fail
 refine(aJD _ _).mono ?_
 rintro e U ⟨rfl,l⟩
 have D:=C.below l
 clear l C
 obtain⟨I,J,L,M,N,O,P,R,S⟩:=aDS D.2.2.2
 go_wp2
 refine jt (v:=.tuple #[aVs,.int .i64 (n:Int)]) ?_ rfl ⟨rfl,?_⟩
 ·rw[jq rfl]
  go_simp
 ·exact(j8 D.1 (jau w.heap.size 2))
theorem aPf(y s t x r D A B C z:jA)(b c a f g d:Bool)(n:Nat)(O:n≠0)(w:World)
  (E:∀W,jb w W->Calls prog 102 #[.agg (aDR y b s t c x a r)] W λe w'=>e=.returned (.int .i64 0)/\jb W w')
  (F:∀W,jb w W->Calls prog 102 #[.agg (aDR D f A B g C d z)] W λe w'=>e=.returned (.int .i64 (n:Int))/\jb W w'):
  Calls prog 54 #[.agg (aDR y b s t c x a r),.agg (aDR D f A B g C d z)] w λe w'=>e=.returned (.tuple #[aVs,.int .i64 (n:Int)])/\jb w w':=by
 have j:Hid (∀W,jb w W->_):=E
 have k:Hid (∀W,jb w W->_):=F
 clear E F
 have p:=aSU w 85 (aDR y b s t c x a r) (aDR D f A B g C d z) (aDR E0 false E0 E0 false E0 false E0)
 have L:((n:Int)==0)=false:=by rw[jg];omega
 have M:¬(n:Int)=0:=by omega
 go_enter func54,ntmps54
 go_wp2_with fail
 obtain⟨N,i⟩:∃W,W=((w.alloc (.cells (aDR y b s t c x a r) 85)).alloc (.cells (aDR D f A B g C d z) 85)).alloc (.cells (aDR E0 false E0 E0 false E0 false E0) 85):=⟨_,rfl⟩
 rw[<-i]at p
 rw[<-i]
 clear i
 refine(j.out _ p.1).mono ?_
 rintro e w1 ⟨rfl,l⟩
 have q:=p.below l
 clear j l p
 obtain⟨c0,c1,c2,c3,c4,c5,c6,I,J⟩:=aDS q.2.2.1
 go_wp2_with fail
 refine(k.out _ q.1).mono ?_
 rintro e w2 ⟨rfl,m⟩
 have G:=q.below m
 clear k m q c0 c1 c2 c3 c4 c5 c6 I J
 go_wp2_with fail
 refine(aJD _ _).mono ?_
 rintro e w9 ⟨rfl,o⟩
 have H:=G.below o
 clear o G
 obtain⟨P,R,S,T,U,V,X,Y,Z⟩:=aDS H.2.2.2
 go_wp2
 refine jt (v:=.tuple #[aVs,.int .i64 (n:Int)]) ?_ rfl ⟨rfl,?_⟩
 ·rw[jq rfl]
  go_simp
 ·exact(j8 H.1 (jau w.heap.size 2))
theorem aPc(r s t q B y z A x:jA)(b c a f g d:Bool)(w:World)
  (D:∀W,jb w W->Calls prog 102 #[.agg (aDR E0 b r s c t a q)] W λe w'=>e=.returned (.int .i64 0)/\jb W w')
  (E:∀W,jb w W->Calls prog 102 #[.agg (aDR B f y z g A d x)] W λe w'=>e=.returned (.int .i64 0)/\jb W w'):
  Calls prog 54 #[.agg (aDR E0 b r s c t a q),.agg (aDR B f y z g A d x)] w λe w'=>e=.returned (.tuple #[aVs,.int .i64 4])/\jb w w':=by
 have j:Hid (∀W,jb w W->_):=D
 have k:Hid (∀W,jb w W->_):=E
 clear D E
 have o:=aSU w 85 (aDR E0 b r s c t a q) (aDR B f y z g A d x) (aDR E0 false E0 E0 false E0 false E0)
 have J:=aC1 E0 rfl
 go_enter func54,ntmps54
 go_wp2_with fail
 obtain⟨L,i⟩:∃W,W=((w.alloc (.cells (aDR E0 b r s c t a q) 85)).alloc (.cells (aDR B f y z g A d x) 85)).alloc (.cells (aDR E0 false E0 E0 false E0 false E0) 85):=⟨_,rfl⟩
 rw[<-i]at o
 rw[<-i]
 clear i
 refine(j.out _ o.1).mono ?_
 rintro e X ⟨rfl,l⟩
 have p:=o.below l
 clear j l o
 obtain⟨c0,c1,c2,c3,c4,c5,c6,G,H⟩:=aDS p.2.2.1
 go_wp2_with fail
 refine(k.out _ p.1).mono ?_
 rintro e Y ⟨rfl,m⟩
 have C:=p.below m
 clear k m p c0 c1 c2 c3 c4 c5 c6 G H
 obtain⟨d0,d1,d2,d3,d4,d5,d6,d7,I⟩:=aDS C.2.1
 go_wp2_with fail
 refine(aJD _ _).mono ?_
 rintro e Z ⟨rfl,n⟩
 have F:=C.below n
 clear n C d0 d1 d2 d3 d4 d5 d6 d7 I
 obtain⟨M,N,O,P,R,S,T,U,V⟩:=aDS F.2.2.2
 go_wp2
 refine jt (v:=.tuple #[aVs,.int .i64 4]) ?_ rfl ⟨rfl,?_⟩
 ·rw[jq rfl]
  go_simp
 ·exact(j8 F.1 (jau w.heap.size 2))
theorem aFV(y:UV)(d:Bool)(f:d=aNF y.pth.data.toList):
  (aDW y.l=0/\(ofL (aFU y.l).1).v=y.v/\(aFU y.l).2=0)\/(aDW y.l≠0/\(ofL (aFU y.l).1).v=aVs/\(aFU y.l).2=if(!y.hh&&d)=true then 4 else aDW y.l):=by
 have b:aKe y.l=(!y.hh&&d):=by rw[f];rfl
 unfold aFU
 cases c:aKe y.l with
 |true=>
  refine .inr ⟨aKf c,?_,?_⟩
  ·rw[jo rfl];rfl
  ·rw[jo rfl,jo (b.symm.trans c)]
 |false=>
  rw[jh (by simp)]
  unfold aD3
  by_cases a:aDW y.l=0
  ·refine .inl ⟨a,?_,?_⟩
   ·rw[jo a];rfl
   ·rw[jo a]
  ·refine .inr ⟨a,?_,?_⟩
   ·rw[jh a];rfl
   ·rw[jh a,jh (by rw[<-b,c];simp)]
theorem aPd(b u:UV)(t:b.short maxLen)(hu:u.short maxLen)(w:World)(J:aAP w):
  Calls prog 54 #[b.v,u.v] w λe w'=>aBB w (aJG b.l u.l) e w':=by
 have z:=λW (h:jb w W)=>aOK b t W (J.below h)
 have N:=λW (h:jb w W)=>aOK u hu W (J.below h)
 obtain⟨s,d,B,k,j,C,i,A⟩:=b
 obtain⟨I,n,G,v,o,H,a,r⟩:=u
 unfold aJG
 by_cases g:aDW (UV.l ⟨s,d,B,k,j,C,i,A⟩)=0
 ·by_cases l:aDW (UV.l ⟨I,n,G,v,o,H,a,r⟩)=0
  ·rw[jh (by simpa using g),jh (by simpa using l)]
   rw[g]at z
   rw[l]at N
   have sb:=aDX g
   have su:=aDX l
   by_cases y:s.data.toList=[]
   ·obtain rfl:=aC2 s y
    rw[jo (by rfl)]
    refine(aPc B k C A I G v H r d j i n o a w z N).mono ?_
    rintro e w' ⟨rfl,t⟩
    exact⟨rfl,t⟩
   ·rw[jh (by show¬s.data.toList.isEmpty=true;rw[aI0 s y];simp)]
    obtain⟨R,S,O,T,b5⟩:=sb
    obtain⟨U,V,P,X,u5⟩:=su
    simp only at R S O T b5 U V P X u5
    have L:=aHt _ _ g l
    obtain⟨F,D,f,E,c,m,XF,q,l1,l2,l3,l4⟩:=aGo s B k C A I G v H r d j i n o a R S O T U V P X
    rw[q]at L
    rw[q]
    have ad:=aT4 f.data.toList
    have ac:=Lib.size_eq f
    have aa:=aFf k d O
    have Y:∀W,Calls prog 104 #[.string k,.string ⟨#[47]⟩] W λe w'=>e=.returned (.int .i64 (Lib.lastIndexByte k 47))/\w'=W:=λW=>strings_LastIndex_one k ⟨#[47]⟩ rfl (by omega) W
    obtain⟨p,M,ab,Z⟩:∃p:jA,aT1 (UV.l ⟨F,c,D,f,m,E,a,r⟩)=UV.l ⟨F,c,D,p,m,E,a,r⟩/\p.size<=300/\((c=true/\∀W,jb w W->Calls prog 105 #[.string f] W (jG (.string p) W))\/(c=false/\aNE f.data.toList=true/\∀W,jb w W->Calls prog 105 #[.string f] W (jG (.string p) W))\/(c=false/\aNE f.data.toList=false/\f=p)):=by
     cases c with
     |true=>
      have hq:=L (.inl rfl)
      exact⟨bar (aT3 f.data.toList),rfl,by rw[aCK];omega,.inl ⟨rfl,λW h=>aON f W (J.below h) (by omega) hq⟩⟩
     |false=>
      cases x:aNE f.data.toList with
      |true=>
       refine⟨bar (aT3 f.data.toList),?_,by rw[aCK];omega,.inr (.inl ⟨rfl,rfl,λW h=>aON f W (J.below h) (by omega) (.inr x)⟩)⟩
       unfold aT1
       rw[jo (by show(false||aNE f.data.toList)=true;rw[x];rfl)]
       rfl
      |false=>
       refine⟨f,?_,by omega,.inr (.inr ⟨rfl,rfl,rfl⟩)⟩
       unfold aT1
       rw[jh (by show¬(false||aNE f.data.toList)=true;rw[x];simp)]
    rw[M]
    have HR:=aFV ⟨F,c,D,p,m,E,a,r⟩ _ rfl
    refine(aPg s B k C A I G v H r F D f E (aFd k d) p d j i n o a c m (aNE v.data.toList) (aNE f.data.toList) (aNF p.data.toList) (Lib.lastIndexByte k 47) _ _ (aDW (UV.l ⟨F,c,D,p,m,E,a,r⟩)) w y XF (λ_=>aFe k d) O P (by omega) Y z N (λW=>aNP v W) Z (λW=>aNP f W) (λW h=>aOK ⟨F,c,D,p,m,E,a,r⟩ (by unfold maxLen;exact⟨by simp only;omega,by simp only;omega,by simp only;omega,by simp only;omega,by simp only;omega⟩) W (J.below h)) (λW=>aNR p W) HR).mono ?_
    rintro e w' ⟨rfl,t⟩
    exact⟨rfl,t⟩
  ·rw[jh (by simpa using g),jo l]
   rw[g]at z
   refine(aPf s B k C A I G v H r d j i n o a _ l w z N).mono ?_
   rintro e w' ⟨rfl,t⟩
   exact⟨rfl,t⟩
 ·rw[jo g]
  refine(aPe s B k C A I G v H r d j i n o a _ g w z).mono ?_
  rintro e w' ⟨rfl,t⟩
  exact⟨rfl,t⟩
end Go.Proofs.YtbbfcbodhmeanaaGreatDoor

import Derived.Test.YtbbfcbodhmeanaaGreatDoorXrewritesays17
set_option maxHeartbeats 8000000
set_option maxRecDepth 1000000
namespace Go.Proofs.YtbbfcbodhmeanaaGreatDoor
open Go.Proofs.Tryz
open Go.RowKit
def Two(w:World)(t:TypeId)(a b:Array Value)(W:World):Prop:=jb w W/\W.heap[w.heap.size]?=some (.cells a t)/\W.heap[w.heap.size+1]?=some (.cells b t)
theorem Two.lt{w W:World}{t:TypeId}{a b:Array Value}(h:Two w t a b W):w.heap.size+1<W.heap.size:=(jl.1 h.2.2).1
theorem Two.below{w W d:World}{t:TypeId}{a b:Array Value}(h:Two w t a b W)(c:jb W d):Two w t a b d:=by
 have f:=h.lt
 exact⟨h.1.trans (c.mono (by omega)),by rw[c.block _ (by omega)];exact h.2.1,by rw[c.block _ (by omega)];exact h.2.2⟩
theorem Two.drew{w W:World}{t:TypeId}{a b:Array Value}(h:Two w t a b W):Two w t a b W.drew:=⟨h.1.drew,h.2.1,h.2.2⟩
theorem Two.set{w W:World}{t:TypeId}{a b:Array Value}(h:Two w t a b W)(i:Nat)(v:Value):Two w t a (b.setIfInBounds i v) (W.setCell (jx (w.heap.size+1) i) v):=by
 refine⟨h.1.setCell (Nat.le_succ _) _,?_,?_⟩
 ·rw[jp _ _ _ _ (by simp)];exact h.2.1
 ·simp only[World.setCell,jah,jdl,h.2.2]
  rfl
theorem Two.first{w W:World}{t:TypeId}{a b:Array Value}(h:Two w t a b W)(i:Nat)(v:Value):Two w t (a.setIfInBounds i v) b (W.setCell (jx w.heap.size i) v):=by
 refine⟨h.1.setCell (jf _) _,?_,?_⟩
 ·simp only[World.setCell,jah,jdl,h.2.1]
  rfl
 ·rw[jp _ _ _ _ (by simp)];exact h.2.2
theorem aDf{W:World}{k:Nat}{c:Array Value}{t:TypeId}(h:W.heap[k]?=some (.cells c t))(i:Nat):W.cell? (jx k i)=c[i]?:=by
 simp[World.cell?,h]
theorem aDh{W:World}{k:Nat}{c:Array Value}{t:TypeId}(h:W.heap[k]?=some (.cells c t))(i:Nat):W.frozen? (jx k i)=false:=by
 simp[World.frozen?,h]
theorem Two.cells{w W:World}{t:TypeId}{a:Array Value}{b c d f g j k l:Value}(h:Two w t a #[b,c,d,f,g,j,k,l] W):
  W.cell? (jx (w.heap.size+1) 0)=some b/\W.cell? (jx (w.heap.size+1) 1)=some c/\W.cell? (jx (w.heap.size+1) 2)=some d/\W.cell? (jx (w.heap.size+1) 3)=some f/\
  W.cell? (jx (w.heap.size+1) 4)=some g/\W.cell? (jx (w.heap.size+1) 5)=some j/\W.cell? (jx (w.heap.size+1) 6)=some k/\W.cell? (jx (w.heap.size+1) 7)=some l/\∀i,W.frozen? (jx (w.heap.size+1) i)=false:=
 ⟨aDf h.2.2 0,aDf h.2.2 1,aDf h.2.2 2,aDf h.2.2 3,aDf h.2.2 4,aDf h.2.2 5,aDf h.2.2 6,aDf h.2.2 7,aDh h.2.2⟩
theorem Two.cells'{w W:World}{t:TypeId}{b:Array Value}{a c d f g j k l:Value}(h:Two w t #[a,c,d,f,g,j,k,l] b W):
  W.cell? (jx w.heap.size 0)=some a/\W.cell? (jx w.heap.size 1)=some c/\W.cell? (jx w.heap.size 2)=some d/\W.cell? (jx w.heap.size 3)=some f/\
  W.cell? (jx w.heap.size 4)=some g/\W.cell? (jx w.heap.size 5)=some j/\W.cell? (jx w.heap.size 6)=some k/\W.cell? (jx w.heap.size 7)=some l/\∀i,W.frozen? (jx w.heap.size i)=false:=
 ⟨aDf h.2.1 0,aDf h.2.1 1,aDf h.2.1 2,aDf h.2.1 3,aDf h.2.1 4,aDf h.2.1 5,aDf h.2.1 6,aDf h.2.1 7,aDh h.2.1⟩
theorem aTx(w:World)(t:TypeId)(a b:Array Value):Two w t a b ((w.alloc (.cells a t)).alloc (.cells b t)):=by
 refine⟨(ja _ _).alloc (by simp) _,?_,?_⟩
 ·rw[j9 _ _ _ (by simp)]
  show(w.heap.push _)[w.heap.size]?=_
  simp
 ·show((w.heap.push _).push _)[w.heap.size+1]?=_
  rw[j2,jo (by simp)]
theorem Two.set0{w W:World}{t:TypeId}{a:Array Value}{k b c d f g i j:Value}(h:Two w t a #[k,b,c,d,f,g,i,j] W)(x:Value):Two w t a #[x,b,c,d,f,g,i,j] (W.setCell (jx (w.heap.size+1) 0) x):=Two.set h 0 x
theorem Two.set1{w W:World}{t:TypeId}{a:Array Value}{b k c d f g i j:Value}(h:Two w t a #[b,k,c,d,f,g,i,j] W)(x:Value):Two w t a #[b,x,c,d,f,g,i,j] (W.setCell (jx (w.heap.size+1) 1) x):=Two.set h 1 x
theorem Two.set2{w W:World}{t:TypeId}{a:Array Value}{b c k d f g i j:Value}(h:Two w t a #[b,c,k,d,f,g,i,j] W)(x:Value):Two w t a #[b,c,x,d,f,g,i,j] (W.setCell (jx (w.heap.size+1) 2) x):=Two.set h 2 x
theorem Two.set3{w W:World}{t:TypeId}{a:Array Value}{b c d k f g i j:Value}(h:Two w t a #[b,c,d,k,f,g,i,j] W)(x:Value):Two w t a #[b,c,d,x,f,g,i,j] (W.setCell (jx (w.heap.size+1) 3) x):=Two.set h 3 x
theorem Two.set4{w W:World}{t:TypeId}{a:Array Value}{b c d f k g i j:Value}(h:Two w t a #[b,c,d,f,k,g,i,j] W)(x:Value):Two w t a #[b,c,d,f,x,g,i,j] (W.setCell (jx (w.heap.size+1) 4) x):=Two.set h 4 x
theorem Two.set5{w W:World}{t:TypeId}{a:Array Value}{b c d f g k i j:Value}(h:Two w t a #[b,c,d,f,g,k,i,j] W)(x:Value):Two w t a #[b,c,d,f,g,x,i,j] (W.setCell (jx (w.heap.size+1) 5) x):=Two.set h 5 x
theorem Two.set6{w W:World}{t:TypeId}{a:Array Value}{b c d f g i k j:Value}(h:Two w t a #[b,c,d,f,g,i,k,j] W)(x:Value):Two w t a #[b,c,d,f,g,i,x,j] (W.setCell (jx (w.heap.size+1) 6) x):=Two.set h 6 x
theorem Two.set7{w W:World}{t:TypeId}{a:Array Value}{b c d f g i j k:Value}(h:Two w t a #[b,c,d,f,g,i,j,k] W)(x:Value):Two w t a #[b,c,d,f,g,i,j,x] (W.setCell (jx (w.heap.size+1) 7) x):=Two.set h 7 x
theorem aTJ(d:UInt8)(s A R:jA)(F:Bool)(h:aEW d s.data.toList=(A.data.toList,R.data.toList,F))(f:s.size<=1000000000)(w:World):
  Calls prog 89 #[.string s,.string ⟨#[d]⟩] w (jG (.tuple #[.string A,.string R,.bool F]) w):=by
 unfold aEW at h
 cases a:aEM d s.data.toList with
 |none=>
  rw[a]at h
  simp only[jcu]at h
  obtain⟨e1,b,c⟩:=h
  have:=aCx e1
  subst this
  have:=aC2 R b.symm
  subst this c
  exact aEZ d s w a
 |some x=>
  rw[a]at h
  simp only[jcu]at h
  obtain⟨e1,b,c⟩:=h
  subst c
  exact aE1 d s A R w f (by rw[a,<-e1,<-b])
theorem aMF(s:jA)(a:s.size<=maxLen)(h:120<s.size)(w:World):
  Calls prog 50 #[.string s] w λe w'=>e=.returned (.tuple #[.agg jZ,.int .i64 2])/\jb w w':=by
 unfold maxLen at a
 have b:(120:Int)<(s.size:Int):=by omega
 go_enter func50,ntmps50
 go_wp2
 refine jt (v:=.tuple #[.agg jZ,.int .i64 2]) ?_ rfl ⟨rfl,ja _ _⟩
 rw[jq rfl]
 go_simp
theorem aMz(s A1 f p g X:jA)(c d:Bool)(n:Nat)(w:World)(hs:s.size<=120)
  (a:Hid (∀W,Calls prog 89 #[.string s,.string ⟨#[35]⟩] W λe w'=>e=.returned (.tuple #[.string A1,.string f,.bool c])/\jb W w'))
  (b:Hid (∀W,Calls prog 89 #[.string A1,.string ⟨#[63]⟩] W λe w'=>e=.returned (.tuple #[.string p,.string g,.bool d])/\jb W w'))
  (CO:Hid (∀W,Calls prog 90 #[.string p] W λe w'=>e=.returned (.int .i64 (-1))/\jb W w'))
  (CP:Hid (∀W,Calls prog 81 #[.string p,.string ⟨#[47,47]⟩] W λe w'=>e=.returned (.tuple #[.string X,.bool false])/\w'=W))
  (CK:Hid (∀W,Calls prog 94 #[.agg (jU jz false jz X d g c f)] W λe w'=>e=.returned (.int .i64 (n:Int))/\jb W w')):
  Calls prog 50 #[.string s] w λe w'=>e=.returned (.tuple #[if n=0 then .agg (jU jz false jz X d g c f)else .agg jZ,.int .i64 (n:Int)])/\jb w w':=by
 have hi:¬(120:Int)<(s.size:Int):=by omega
 have P0:=aTx w 85 jZ jZ
 go_enter func50,ntmps50
 go_wp2_with fail
 refine(a.out _).mono ?_
 rintro e w1 ⟨rfl,i⟩
 have q:=P0.below i
 clear a i P0
 obtain⟨t,z,C,F,I,M,P,T,Y⟩:=q.cells
 go_wp2_with fail
 have P2:=(q.set7 (.string f)).set6 (.bool c)
 refine(b.out _).mono ?_
 rintro e w2 ⟨rfl,j⟩
 have r:=P2.below j
 clear b j q P2
 clear t z C F I M P T Y
 obtain⟨x,A,D,G,J,N,R,U,Z⟩:=r.cells
 go_wp2_with fail
 have P4:=(r.set5 (.string g)).set4 (.bool d)
 refine(CO.out _).mono ?_
 rintro e w3 ⟨rfl,k⟩
 have P5:=P4.below k
 clear CO k r P4
 clear x A D G J N R U Z
 obtain⟨y,B,E,H,L,O,S,V,aa⟩:=P5.cells
 go_wp2_with fail
 refine(CP.out _).mono ?_
 rintro e w' ⟨rfl,ab⟩
 have m:=ab.symm
 subst m
 clear CP
 go_wp2_with fail
 have Q1:=(P5.set1 (.bool false)).set3 (.string X)
 refine(CK.out _).mono ?_
 rintro e w8 ⟨rfl,l⟩
 have o:=Q1.below l
 clear l Q1
 clear y B E H L O S V aa
 obtain⟨ac,ad,ae,af,ag,ah,ai,aj,ak⟩:=o.cells
 obtain⟨am,an,ao,ap,aq,ar,av,aw,ax⟩:=o.cells'
 clear CK
 by_cases h0:n=0
 ·subst h0
  go_wp2
  refine jt (v:=.tuple #[.agg (jU jz false jz X d g c f),.int .i64 0]) ?_ rfl ⟨rfl,?_⟩
  ·rw[jq rfl]
   go_simp
  ·exact(j8 o.1 (jf _))
 ·have al:((n:Int)==0)=false:=by rw[jg];omega
  go_wp2
  refine jt (v:=.tuple #[.agg jZ,.int .i64 (n:Int)]) ?_ rfl ⟨by first|rfl|rw[jh h0],?_⟩
  ·rw[jq rfl]
   go_simp
  ·exact(j8 o.1 (jf _))
theorem aMA(s A1 k x l X H0 H PT:jA)(g i:Bool)(j:Nat)(n:Nat)(w:World)(hs:s.size<=120)
  (d:Hid (∀W,Calls prog 89 #[.string s,.string ⟨#[35]⟩] W λe w'=>e=.returned (.tuple #[.string A1,.string k,.bool g])/\jb W w'))
  (f:Hid (∀W,Calls prog 89 #[.string A1,.string ⟨#[63]⟩] W λe w'=>e=.returned (.tuple #[.string x,.string l,.bool i])/\jb W w'))
  (CO:Hid (∀W,Calls prog 90 #[.string x] W λe w'=>e=.returned (.int .i64 (-1))/\jb W w'))
  (CP:Hid (∀W,Calls prog 81 #[.string x,.string ⟨#[47,47]⟩] W λe w'=>e=.returned (.tuple #[.string X,.bool true])/\w'=W))
  (hX:X.size<=120)(CI:Hid (∀W,Calls prog 93 #[.string X,.int .u8 47] W λe w'=>e=.returned (.int .i64 (j:Int))/\w'=W))
  (hj:j<=X.size)(aM:X.extract 0 j=H0)(aN:X.extract j X.size=PT)
  (c:Hid (∀W,Calls prog 91 #[.string H0] W λe w'=>e=.returned (.string H)/\jb W w'))
  (CK:Hid (∀W,Calls prog 94 #[.agg (jU jz true H PT i l g k)] W λe w'=>e=.returned (.int .i64 (n:Int))/\jb W w')):
  Calls prog 50 #[.string s] w λe w'=>e=.returned (.tuple #[if n=0 then .agg (jU jz true H PT i l g k)else .agg jZ,.int .i64 (n:Int)])/\jb w w':=by
 have hi:¬(120:Int)<(s.size:Int):=by omega
 have P0:=aTx w 85 jZ jZ
 go_enter func50,ntmps50
 go_wp2_with fail
 refine(d.out _).mono ?_
 rintro e w1 ⟨rfl,m⟩
 have y:=P0.below m
 clear d m P0
 obtain⟨C,G,M,R,V,ab,af,aj,an⟩:=y.cells
 go_wp2_with fail
 have P2:=(y.set7 (.string k)).set6 (.bool g)
 refine(f.out _).mono ?_
 rintro e w2 ⟨rfl,o⟩
 have z:=P2.below o
 clear f o y P2
 clear C G M R V ab af aj an
 obtain⟨D,I,N,S,Y,ac,ag,ak,ao⟩:=z.cells
 go_wp2_with fail
 have P4:=(z.set5 (.string l)).set4 (.bool i)
 refine(CO.out _).mono ?_
 rintro e w3 ⟨rfl,p⟩
 have P5:=P4.below p
 clear CO p z P4
 clear D I N S Y ac ag ak ao
 obtain⟨E,J,O,T,Z,ad,ah,al,ap⟩:=P5.cells
 go_wp2_with fail
 refine(CP.out _).mono ?_
 rintro e w' ⟨rfl,b⟩
 have a:=b.symm
 subst a
 clear CP
 go_wp2_with fail
 have A:=P5.set1 (.bool true)
 have aO:(X.size:Int)<=120:=by omega
 refine(CI.out _).mono ?_
 rintro e w' ⟨rfl,b⟩
 have a:=b.symm
 subst a
 clear CI
 clear E J O T Z ad ah al ap
 obtain⟨ar,aw,ay,aA,aC,aE,aG,aI,aK⟩:=A.cells
 have aP:(j:Int)<=(X.size:Int):=by omega
 go_wp2_with fail
 go_region_with (go_at_call 91;refine(c.out _).mono ?_;rintro e w6 ⟨rfl,q⟩;have B:=(A.drew).below q;obtain⟨F,L,P,U,aa,ae,ai,am,aq⟩:=B.cells)
 all_goals (
  have Q4:=B.set2 (.string H)
  clear c q
  go_wp2_with fail
  have Q5:=Q4.set3 (.string PT)
  refine(CK.out _).mono ?_
  rintro e w8 ⟨rfl,r⟩
  have t:=Q5.below r
  clear r Q5 Q4 B A
  clear F L P U aa ae ai am aq
  obtain⟨av,ax,az,aB,aD,aF,aH,aJ,aL⟩:=t.cells
  obtain⟨aR,aS,aT,aU,aV,aW,aX,aY,aZ⟩:=t.cells'
  clear CK
  by_cases h0:n=0
  ·subst h0
   go_wp2
   refine jt (v:=.tuple #[.agg (jU jz true H PT i l g k),.int .i64 0]) ?_ rfl ⟨rfl,?_⟩
   ·rw[jq rfl]
    go_simp
   ·exact(j8 t.1 (jf _))
  ·have aQ:((n:Int)==0)=false:=by rw[jg];omega
   go_wp2
   refine jt (v:=.tuple #[.agg jZ,.int .i64 (n:Int)]) ?_ rfl ⟨by first|rfl|rw[jh h0],?_⟩
   ·rw[jq rfl]
    go_simp
   ·exact(j8 t.1 (jf _)))
theorem aMy(s A1 j t k X H:jA)(g i:Bool)(n:Nat)(w:World)(hs:s.size<=120)
  (d:Hid (∀W,Calls prog 89 #[.string s,.string ⟨#[35]⟩] W λe w'=>e=.returned (.tuple #[.string A1,.string j,.bool g])/\jb W w'))
  (f:Hid (∀W,Calls prog 89 #[.string A1,.string ⟨#[63]⟩] W λe w'=>e=.returned (.tuple #[.string t,.string k,.bool i])/\jb W w'))
  (CO:Hid (∀W,Calls prog 90 #[.string t] W λe w'=>e=.returned (.int .i64 (-1))/\jb W w'))
  (CP:Hid (∀W,Calls prog 81 #[.string t,.string ⟨#[47,47]⟩] W λe w'=>e=.returned (.tuple #[.string X,.bool true])/\w'=W))
  (hX:X.size<=120)(CI:Hid (∀W,Calls prog 93 #[.string X,.int .u8 47] W λe w'=>e=.returned (.int .i64 (-1))/\w'=W))
  (c:Hid (∀W,Calls prog 91 #[.string X] W λe w'=>e=.returned (.string H)/\jb W w'))
  (CK:Hid (∀W,Calls prog 94 #[.agg (jU jz true H jz i k g j)] W λe w'=>e=.returned (.int .i64 (n:Int))/\jb W w')):
  Calls prog 50 #[.string s] w λe w'=>e=.returned (.tuple #[if n=0 then .agg (jU jz true H jz i k g j)else .agg jZ,.int .i64 (n:Int)])/\jb w w':=by
 have hi:¬(120:Int)<(s.size:Int):=by omega
 have P0:=aTx w 85 jZ jZ
 go_enter func50,ntmps50
 go_wp2_with fail
 refine(d.out _).mono ?_
 rintro e w1 ⟨rfl,l⟩
 have x:=P0.below l
 clear d l P0
 obtain⟨B,F,L,P,U,aa,ae,ai,am⟩:=x.cells
 go_wp2_with fail
 have P2:=(x.set7 (.string j)).set6 (.bool g)
 refine(f.out _).mono ?_
 rintro e w2 ⟨rfl,m⟩
 have y:=P2.below m
 clear f m x P2
 clear B F L P U aa ae ai am
 obtain⟨C,G,M,R,V,ab,af,aj,an⟩:=y.cells
 go_wp2_with fail
 have P4:=(y.set5 (.string k)).set4 (.bool i)
 refine(CO.out _).mono ?_
 rintro e w3 ⟨rfl,o⟩
 have P5:=P4.below o
 clear CO o y P4
 clear C G M R V ab af aj an
 obtain⟨D,I,N,S,Y,ac,ag,ak,ao⟩:=P5.cells
 go_wp2_with fail
 refine(CP.out _).mono ?_
 rintro e w' ⟨rfl,b⟩
 have a:=b.symm
 subst a
 clear CP
 go_wp2_with fail
 have z:=P5.set1 (.bool true)
 have aL:(X.size:Int)<=120:=by omega
 refine(CI.out _).mono ?_
 rintro e w' ⟨rfl,b⟩
 have a:=b.symm
 subst a
 clear CI
 clear D I N S Y ac ag ak ao
 obtain⟨aq,av,ax,az,aB,aD,aF,aH,aJ⟩:=z.cells
 go_wp2_with fail
 go_region_with (go_at_call 91;refine(c.out _).mono ?_;rintro e w6 ⟨rfl,p⟩;have A:=(z.drew).below p;obtain⟨E,J,O,T,Z,ad,ah,al,ap⟩:=A.cells)
 all_goals (
  have Q4:=A.set2 (.string H)
  clear c p
  go_wp2_with fail
  have Q5:=Q4.set3 (.string jz)
  refine(CK.out _).mono ?_
  rintro e w8 ⟨rfl,q⟩
  have r:=Q5.below q
  clear q Q5 Q4 A z
  clear E J O T Z ad ah al ap
  obtain⟨ar,aw,ay,aA,aC,aE,aG,aI,aK⟩:=r.cells
  obtain⟨aN,aO,aP,aQ,aR,aS,aT,aU,aV⟩:=r.cells'
  clear CK
  by_cases h0:n=0
  ·subst h0
   go_wp2
   refine jt (v:=.tuple #[.agg (jU jz true H jz i k g j),.int .i64 0]) ?_ rfl ⟨rfl,?_⟩
   ·rw[jq rfl]
    go_simp
   ·exact(j8 r.1 (jf _))
  ·have aM:((n:Int)==0)=false:=by rw[jg];omega
   go_wp2
   refine jt (v:=.tuple #[.agg jZ,.int .i64 (n:Int)]) ?_ rfl ⟨by first|rfl|rw[jh h0],?_⟩
   ·rw[jq rfl]
    go_simp
   ·exact(j8 r.1 (jf _)))
theorem aMB(s A1 R1 a R2 SA SB r:jA)(F1 F2:Bool)(k:Nat)(w:World)(hs:s.size<=120)
  (d:Hid (∀W,Calls prog 89 #[.string s,.string ⟨#[35]⟩] W λe w'=>e=.returned (.tuple #[.string A1,.string R1,.bool F1])/\jb W w'))
  (f:Hid (∀W,Calls prog 89 #[.string A1,.string ⟨#[63]⟩] W λe w'=>e=.returned (.tuple #[.string a,.string R2,.bool F2])/\jb W w'))
  (CO:Hid (∀W,Calls prog 90 #[.string a] W λe w'=>e=.returned (.int .i64 (k:Int))/\jb W w'))
  (aj:a.size<=120)(hk:k+1<=a.size)(aD:a.extract 0 k=SA)(al:a.extract (k+1) a.size=SB)
  (c:Hid (∀W,Calls prog 91 #[.string SA] W λe w'=>e=.returned (.string r)/\jb W w'))
  (b:Hid (∀W,Calls prog 92 #[.string r] W λe w'=>e=.returned (.bool false)/\w'=W)):
  Calls prog 50 #[.string s] w λe w'=>e=.returned (.tuple #[.agg jZ,.int .i64 1])/\jb w w':=by
 have hi:¬(120:Int)<(s.size:Int):=by omega
 have P0:=aTx w 85 jZ jZ
 go_enter func50,ntmps50
 go_wp2_with fail
 refine(d.out _).mono ?_
 rintro e w1 ⟨rfl,g⟩
 have o:=P0.below g
 clear d g P0
 obtain⟨t,A,E,I,N,S,X,ab,af⟩:=o.cells
 go_wp2_with fail
 have P2:=(o.set7 (.string R1)).set6 (.bool F1)
 refine(f.out _).mono ?_
 rintro e w2 ⟨rfl,i⟩
 have p:=P2.below i
 clear f i o P2
 clear t A E I N S X ab af
 obtain⟨x,B,F,J,O,T,Y,ac,ag⟩:=p.cells
 go_wp2_with fail
 have P4:=(p.set5 (.string R2)).set4 (.bool F2)
 refine(CO.out _).mono ?_
 rintro e w3 ⟨rfl,j⟩
 have P5:=P4.below j
 clear CO j p P4
 clear x B F J O T Y ac ag
 obtain⟨y,C,G,L,P,U,Z,ad,ah⟩:=P5.cells
 go_wp2_with fail
 have an:(k:Int)<(a.size:Int):=by omega
 have m:(k:Int)+1<=(a.size:Int):=by omega
 have ak:(a.size:Int)<=120:=by omega
 have aC:a.size<=9223372036854775807:=by omega
 have aF:∀W:World,(Instr.slice 9 (.string a) (some (.int .i64 ((k:Int)+1))) none none).run prog W=.ok (.string SB) W:=λW=>by
  rw[jdu W 9 a underlying9 .i64 ((k:Int)+1) (by omega) m,show((k:Int)+1).toNat=k+1 from by omega,al]
 have aE:IntKind.i64.wrap ((k:Int)+1)=(k:Int)+1:=jcp _ (by omega) (by omega)
 have ao:k<=a.size:=by omega
 have ap:k<a.size:=by omega
 clear aj ak
 go_region_with (go_at_call 91;refine(c.out _).mono ?_;rintro e w4 ⟨rfl,l⟩;have P6:=(P5.drew).below l;obtain⟨z,D,H,M,R,V,aa,ae,ai⟩:=P6.cells)
 clear y C G L P U Z ad ah
 all_goals (
  have q:=P6.set0 (.string r)
  clear c l
  clear z D H M R V aa ae ai
  obtain⟨aq,ar,av,aw,ax,ay,az,aA,aB⟩:=q.cells
  go_wp2_with fail
  refine(b.out _).mono ?_
  rintro e w' ⟨rfl,am⟩
  have n:=am.symm
  subst n
  clear b
  obtain⟨aG,aH,aI,aJ,aK,aL,aM,aN,aO⟩:=q.cells'
  go_wp2
  refine jt (v:=.tuple #[.agg jZ,.int .i64 1]) ?_ rfl ⟨rfl,?_⟩
  ·rw[jq rfl]
   go_simp
  ·exact(j8 q.1 (jf _)))
theorem aMD(s A1 o a p SA D d X:jA)(l m:Bool)(k:Nat)(n:Nat)(w:World)(hs:s.size<=120)
  (i:Hid (∀W,Calls prog 89 #[.string s,.string ⟨#[35]⟩] W λe w'=>e=.returned (.tuple #[.string A1,.string o,.bool l])/\jb W w'))
  (j:Hid (∀W,Calls prog 89 #[.string A1,.string ⟨#[63]⟩] W λe w'=>e=.returned (.tuple #[.string a,.string p,.bool m])/\jb W w'))
  (CO:Hid (∀W,Calls prog 90 #[.string a] W λe w'=>e=.returned (.int .i64 (k:Int))/\jb W w'))
  (aE:a.size<=120)(hk:k+1<=a.size)(aU:a.extract 0 k=SA)(aG:a.extract (k+1) a.size=D)
  (g:Hid (∀W,Calls prog 91 #[.string SA] W λe w'=>e=.returned (.string d)/\jb W w'))
  (f:Hid (∀W,Calls prog 92 #[.string d] W λe w'=>e=.returned (.bool true)/\w'=W))
  (CP:Hid (∀W,Calls prog 81 #[.string D,.string ⟨#[47,47]⟩] W λe w'=>e=.returned (.tuple #[.string X,.bool false])/\w'=W))
  (CK:Hid (∀W,Calls prog 94 #[.agg (jU d false jz X m p l o)] W λe w'=>e=.returned (.int .i64 (n:Int))/\jb W w')):
  Calls prog 50 #[.string s] w λe w'=>e=.returned (.tuple #[if n=0 then .agg (jU d false jz X m p l o)else .agg jZ,.int .i64 (n:Int)])/\jb w w':=by
 have hi:¬(120:Int)<(s.size:Int):=by omega
 have P0:=aTx w 85 jZ jZ
 go_enter func50,ntmps50
 go_wp2_with fail
 refine(i.out _).mono ?_
 rintro e w1 ⟨rfl,q⟩
 have B:=P0.below q
 clear i q P0
 obtain⟨E,J,P,V,ac,ah,am,ar,az⟩:=B.cells
 go_wp2_with fail
 have P2:=(B.set7 (.string o)).set6 (.bool l)
 refine(j.out _).mono ?_
 rintro e w2 ⟨rfl,r⟩
 have C:=P2.below r
 clear j r B P2
 clear E J P V ac ah am ar az
 obtain⟨F,L,R,Y,ad,ai,an,av,aA⟩:=C.cells
 go_wp2_with fail
 have P4:=(C.set5 (.string p)).set4 (.bool m)
 refine(CO.out _).mono ?_
 rintro e w3 ⟨rfl,t⟩
 have P5:=P4.below t
 clear CO t C P4
 clear F L R Y ad ai an av aA
 obtain⟨G,M,S,Z,ae,aj,ao,aw,aB⟩:=P5.cells
 go_wp2_with fail
 have aH:(k:Int)<(a.size:Int):=by omega
 have z:(k:Int)+1<=(a.size:Int):=by omega
 have aF:(a.size:Int)<=120:=by omega
 have aT:a.size<=9223372036854775807:=by omega
 have aX:∀W:World,(Instr.slice 9 (.string a) (some (.int .i64 ((k:Int)+1))) none none).run prog W=.ok (.string D) W:=λW=>by
  rw[jdu W 9 a underlying9 .i64 ((k:Int)+1) (by omega) z,show((k:Int)+1).toNat=k+1 from by omega,aG]
 have aV:IntKind.i64.wrap ((k:Int)+1)=(k:Int)+1:=jcp _ (by omega) (by omega)
 have aI:k<=a.size:=by omega
 have aJ:k<a.size:=by omega
 clear aE aF
 go_region_with (go_at_call 91;refine(g.out _).mono ?_;rintro e w4 ⟨rfl,x⟩;have P6:=(P5.drew).below x;obtain⟨H,N,T,aa,af,ak,ap,ax,aC⟩:=P6.cells)
 clear G M S Z ae aj ao aw aB
 all_goals (
  have P7:=P6.set0 (.string d)
  clear g x
  clear H N T aa af ak ap ax aC
  obtain⟨I,O,U,ab,ag,al,aq,ay,aD⟩:=P7.cells
  go_wp2_with fail
  refine(f.out _).mono ?_
  rintro e w' ⟨rfl,c⟩
  have b:=c.symm
  subst b
  clear f
  go_wp2_with fail
  refine(CP.out _).mono ?_
  rintro e w' ⟨rfl,c⟩
  have b:=c.symm
  subst b
  clear CP
  go_wp2_with fail
  have Q1:=(P7.set1 (.bool false)).set3 (.string X)
  refine(CK.out _).mono ?_
  rintro e w8 ⟨rfl,y⟩
  have A:=Q1.below y
  clear y Q1
  clear I O U ab ag al aq ay aD
  obtain⟨aK,aL,aM,aN,aO,aP,aQ,aR,aS⟩:=A.cells
  obtain⟨aY,aZ,a0,a1,a2,a3,a4,a5,a6⟩:=A.cells'
  clear CK
  by_cases h0:n=0
  ·subst h0
   go_wp2
   refine jt (v:=.tuple #[.agg (jU d false jz X m p l o),.int .i64 0]) ?_ rfl ⟨rfl,?_⟩
   ·rw[jq rfl]
    go_simp
   ·exact(j8 A.1 (jf _))
  ·have aW:((n:Int)==0)=false:=by rw[jg];omega
   go_wp2
   refine jt (v:=.tuple #[.agg jZ,.int .i64 (n:Int)]) ?_ rfl ⟨by first|rfl|rw[jh h0],?_⟩
   ·rw[jq rfl]
    go_simp
   ·exact(j8 A.1 (jf _)))
theorem aME(s A1 q b r SA J d X H0 H PT:jA)(o p:Bool)(k:Nat)(j:Nat)(n:Nat)(w:World)(hs:s.size<=120)
  (l:Hid (∀W,Calls prog 89 #[.string s,.string ⟨#[35]⟩] W λe w'=>e=.returned (.tuple #[.string A1,.string q,.bool o])/\jb W w'))
  (m:Hid (∀W,Calls prog 89 #[.string A1,.string ⟨#[63]⟩] W λe w'=>e=.returned (.tuple #[.string b,.string r,.bool p])/\jb W w'))
  (CO:Hid (∀W,Calls prog 90 #[.string b] W λe w'=>e=.returned (.int .i64 (k:Int))/\jb W w'))
  (aT:b.size<=120)(hk:k+1<=b.size)(bl:b.extract 0 k=SA)(aV:b.extract (k+1) b.size=J)
  (i:Hid (∀W,Calls prog 91 #[.string SA] W λe w'=>e=.returned (.string d)/\jb W w'))
  (f:Hid (∀W,Calls prog 92 #[.string d] W λe w'=>e=.returned (.bool true)/\w'=W))
  (CP:Hid (∀W,Calls prog 81 #[.string J,.string ⟨#[47,47]⟩] W λe w'=>e=.returned (.tuple #[.string X,.bool true])/\w'=W))
  (hX:X.size<=120)(CI:Hid (∀W,Calls prog 93 #[.string X,.int .u8 47] W λe w'=>e=.returned (.int .i64 (j:Int))/\w'=W))
  (hj:j<=X.size)(bj:X.extract 0 j=H0)(bk:X.extract j X.size=PT)
  (g:Hid (∀W,Calls prog 91 #[.string H0] W λe w'=>e=.returned (.string H)/\jb W w'))
  (CK:Hid (∀W,Calls prog 94 #[.agg (jU d true H PT p r o q)] W λe w'=>e=.returned (.int .i64 (n:Int))/\jb W w')):
  Calls prog 50 #[.string s] w λe w'=>e=.returned (.tuple #[if n=0 then .agg (jU d true H PT p r o q)else .agg jZ,.int .i64 (n:Int)])/\jb w w':=by
 have hi:¬(120:Int)<(s.size:Int):=by omega
 have P0:=aTx w 85 jZ jZ
 go_enter func50,ntmps50
 go_wp2_with fail
 refine(l.out _).mono ?_
 rintro e w1 ⟨rfl,t⟩
 have E:=P0.below t
 clear l t P0
 obtain⟨L,S,aa,ag,am,av,aB,aH,aN⟩:=E.cells
 go_wp2_with fail
 have P2:=(E.set7 (.string q)).set6 (.bool o)
 refine(m.out _).mono ?_
 rintro e w2 ⟨rfl,x⟩
 have F:=P2.below x
 clear m x E P2
 clear L S aa ag am av aB aH aN
 obtain⟨M,T,ab,ah,an,aw,aC,aI,aO⟩:=F.cells
 go_wp2_with fail
 have P4:=(F.set5 (.string r)).set4 (.bool p)
 refine(CO.out _).mono ?_
 rintro e w3 ⟨rfl,y⟩
 have P5:=P4.below y
 clear CO y F P4
 clear M T ab ah an aw aC aI aO
 obtain⟨N,U,ac,ai,ao,ax,aD,aJ,aP⟩:=P5.cells
 go_wp2_with fail
 have aW:(k:Int)<(b.size:Int):=by omega
 have C:(k:Int)+1<=(b.size:Int):=by omega
 have aU:(b.size:Int)<=120:=by omega
 have bi:b.size<=9223372036854775807:=by omega
 have bq:∀W:World,(Instr.slice 9 (.string b) (some (.int .i64 ((k:Int)+1))) none none).run prog W=.ok (.string J) W:=λW=>by
  rw[jdu W 9 b underlying9 .i64 ((k:Int)+1) (by omega) C,show((k:Int)+1).toNat=k+1 from by omega,aV]
 have bo:IntKind.i64.wrap ((k:Int)+1)=(k:Int)+1:=jcp _ (by omega) (by omega)
 have aX:k<=b.size:=by omega
 have aY:k<b.size:=by omega
 clear aT aU
 go_region_with (go_at_call 91;refine(i.out _).mono ?_;rintro e w4 ⟨rfl,z⟩;have P6:=(P5.drew).below z;obtain⟨O,V,ad,aj,ap,ay,aE,aK,aQ⟩:=P6.cells)
 clear N U ac ai ao ax aD aJ aP
 all_goals (
  have P7:=P6.set0 (.string d)
  clear i z
  clear O V ad aj ap ay aE aK aQ
  obtain⟨R,Z,af,al,ar,aA,aG,aM,aS⟩:=P7.cells
  go_wp2_with fail
  refine(f.out _).mono ?_
  rintro e w' ⟨rfl,c⟩
  have a:=c.symm
  subst a
  clear f
  go_wp2_with fail
  refine(CP.out _).mono ?_
  rintro e w' ⟨rfl,c⟩
  have a:=c.symm
  subst a
  clear CP
  go_wp2_with fail
  have G:=P7.set1 (.bool true)
  have bm:(X.size:Int)<=120:=by omega
  refine(CI.out _).mono ?_
  rintro e w' ⟨rfl,c⟩
  have a:=c.symm
  subst a
  clear CI
  clear R Z af al ar aA aG aM aS
  obtain⟨aZ,a1,a3,a5,a7,a9,bc,be,bg⟩:=G.cells
  have bn:(j:Int)<=(X.size:Int):=by omega
  go_wp2_with fail
  go_region_with (go_at_call 91;refine(g.out _).mono ?_;rintro e w6 ⟨rfl,A⟩;have I:=(G.drew).below A;obtain⟨P,Y,ae,ak,aq,az,aF,aL,aR⟩:=I.cells)
  all_goals (
   have Q4:=I.set2 (.string H)
   clear g A
   go_wp2_with fail
   have Q5:=Q4.set3 (.string PT)
   refine(CK.out _).mono ?_
   rintro e w8 ⟨rfl,B⟩
   have D:=Q5.below B
   clear B Q5 Q4 I G
   clear P Y ae ak aq az aF aL aR
   obtain⟨a0,a2,a4,a6,a8,bb,bd,bf,bh⟩:=D.cells
   obtain⟨br,bs,bt,bw,bx,bz,bA,bB,bC⟩:=D.cells'
   clear CK
   by_cases h0:n=0
   ·subst h0
    go_wp2
    refine jt (v:=.tuple #[.agg (jU d true H PT p r o q),.int .i64 0]) ?_ rfl ⟨rfl,?_⟩
    ·rw[jq rfl]
     go_simp
    ·exact(j8 D.1 (jf _))
   ·have bp:((n:Int)==0)=false:=by rw[jg];omega
    go_wp2
    refine jt (v:=.tuple #[.agg jZ,.int .i64 (n:Int)]) ?_ rfl ⟨by first|rfl|rw[jh h0],?_⟩
    ·rw[jq rfl]
     go_simp
    ·exact(j8 D.1 (jf _))))
theorem aMC(s A1 p b q SA I d X H:jA)(m o:Bool)(k:Nat)(n:Nat)(w:World)(hs:s.size<=120)
  (j:Hid (∀W,Calls prog 89 #[.string s,.string ⟨#[35]⟩] W λe w'=>e=.returned (.tuple #[.string A1,.string p,.bool m])/\jb W w'))
  (l:Hid (∀W,Calls prog 89 #[.string A1,.string ⟨#[63]⟩] W λe w'=>e=.returned (.tuple #[.string b,.string q,.bool o])/\jb W w'))
  (CO:Hid (∀W,Calls prog 90 #[.string b] W λe w'=>e=.returned (.int .i64 (k:Int))/\jb W w'))
  (aS:b.size<=120)(hk:k+1<=b.size)(bi:b.extract 0 k=SA)(aU:b.extract (k+1) b.size=I)
  (i:Hid (∀W,Calls prog 91 #[.string SA] W λe w'=>e=.returned (.string d)/\jb W w'))
  (f:Hid (∀W,Calls prog 92 #[.string d] W λe w'=>e=.returned (.bool true)/\w'=W))
  (CP:Hid (∀W,Calls prog 81 #[.string I,.string ⟨#[47,47]⟩] W λe w'=>e=.returned (.tuple #[.string X,.bool true])/\w'=W))
  (hX:X.size<=120)(CI:Hid (∀W,Calls prog 93 #[.string X,.int .u8 47] W λe w'=>e=.returned (.int .i64 (-1))/\w'=W))
  (g:Hid (∀W,Calls prog 91 #[.string X] W λe w'=>e=.returned (.string H)/\jb W w'))
  (CK:Hid (∀W,Calls prog 94 #[.agg (jU d true H jz o q m p)] W λe w'=>e=.returned (.int .i64 (n:Int))/\jb W w')):
  Calls prog 50 #[.string s] w λe w'=>e=.returned (.tuple #[if n=0 then .agg (jU d true H jz o q m p)else .agg jZ,.int .i64 (n:Int)])/\jb w w':=by
 have hi:¬(120:Int)<(s.size:Int):=by omega
 have P0:=aTx w 85 jZ jZ
 go_enter func50,ntmps50
 go_wp2_with fail
 refine(j.out _).mono ?_
 rintro e w1 ⟨rfl,r⟩
 have D:=P0.below r
 clear j r P0
 obtain⟨J,R,Z,af,al,ar,aA,aG,aM⟩:=D.cells
 go_wp2_with fail
 have P2:=(D.set7 (.string p)).set6 (.bool m)
 refine(l.out _).mono ?_
 rintro e w2 ⟨rfl,t⟩
 have E:=P2.below t
 clear l t D P2
 clear J R Z af al ar aA aG aM
 obtain⟨L,S,aa,ag,am,av,aB,aH,aN⟩:=E.cells
 go_wp2_with fail
 have P4:=(E.set5 (.string q)).set4 (.bool o)
 refine(CO.out _).mono ?_
 rintro e w3 ⟨rfl,x⟩
 have P5:=P4.below x
 clear CO x E P4
 clear L S aa ag am av aB aH aN
 obtain⟨M,T,ab,ah,an,aw,aC,aI,aO⟩:=P5.cells
 go_wp2_with fail
 have aV:(k:Int)<(b.size:Int):=by omega
 have B:(k:Int)+1<=(b.size:Int):=by omega
 have aT:(b.size:Int)<=120:=by omega
 have bh:b.size<=9223372036854775807:=by omega
 have bm:∀W:World,(Instr.slice 9 (.string b) (some (.int .i64 ((k:Int)+1))) none none).run prog W=.ok (.string I) W:=λW=>by
  rw[jdu W 9 b underlying9 .i64 ((k:Int)+1) (by omega) B,show((k:Int)+1).toNat=k+1 from by omega,aU]
 have bk:IntKind.i64.wrap ((k:Int)+1)=(k:Int)+1:=jcp _ (by omega) (by omega)
 have aW:k<=b.size:=by omega
 have aX:k<b.size:=by omega
 clear aS aT
 go_region_with (go_at_call 91;refine(i.out _).mono ?_;rintro e w4 ⟨rfl,y⟩;have P6:=(P5.drew).below y;obtain⟨N,U,ac,ai,ao,ax,aD,aJ,aP⟩:=P6.cells)
 clear M T ab ah an aw aC aI aO
 all_goals (
  have P7:=P6.set0 (.string d)
  clear i y
  clear N U ac ai ao ax aD aJ aP
  obtain⟨P,Y,ae,ak,aq,az,aF,aL,aR⟩:=P7.cells
  go_wp2_with fail
  refine(f.out _).mono ?_
  rintro e w' ⟨rfl,c⟩
  have a:=c.symm
  subst a
  clear f
  go_wp2_with fail
  refine(CP.out _).mono ?_
  rintro e w' ⟨rfl,c⟩
  have a:=c.symm
  subst a
  clear CP
  go_wp2_with fail
  have F:=P7.set1 (.bool true)
  have bj:(X.size:Int)<=120:=by omega
  refine(CI.out _).mono ?_
  rintro e w' ⟨rfl,c⟩
  have a:=c.symm
  subst a
  clear CI
  clear P Y ae ak aq az aF aL aR
  obtain⟨aY,a0,a2,a4,a6,a8,bb,bd,bf⟩:=F.cells
  go_wp2_with fail
  go_region_with (go_at_call 91;refine(g.out _).mono ?_;rintro e w6 ⟨rfl,z⟩;have G:=(F.drew).below z;obtain⟨O,V,ad,aj,ap,ay,aE,aK,aQ⟩:=G.cells)
  all_goals (
   have Q4:=G.set2 (.string H)
   clear g z
   go_wp2_with fail
   have Q5:=Q4.set3 (.string jz)
   refine(CK.out _).mono ?_
   rintro e w8 ⟨rfl,A⟩
   have C:=Q5.below A
   clear A Q5 Q4 G F
   clear O V ad aj ap ay aE aK aQ
   obtain⟨aZ,a1,a3,a5,a7,a9,bc,be,bg⟩:=C.cells
   obtain⟨bn,bo,bp,bq,br,bs,bt,bw,bx⟩:=C.cells'
   clear CK
   by_cases h0:n=0
   ·subst h0
    go_wp2
    refine jt (v:=.tuple #[.agg (jU d true H jz o q m p),.int .i64 0]) ?_ rfl ⟨rfl,?_⟩
    ·rw[jq rfl]
     go_simp
    ·exact(j8 C.1 (jf _))
   ·have bl:((n:Int)==0)=false:=by rw[jg];omega
    go_wp2
    refine jt (v:=.tuple #[.agg jZ,.int .i64 (n:Int)]) ?_ rfl ⟨by first|rfl|rw[jh h0],?_⟩
    ·rw[jq rfl]
     go_simp
    ·exact(j8 C.1 (jf _))))
end Go.Proofs.YtbbfcbodhmeanaaGreatDoor

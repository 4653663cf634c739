import Derived.Test.YtbbfcbodhmeanaaGreatDoorXrewritesays42
set_option maxHeartbeats 8000000
set_option maxRecDepth 1000000
namespace Go.Proofs.YtbbfcbodhmeanaaGreatDoor
open Go.Proofs.Tryz
open Go.RowKit
def aAl(s A R:jA)(F:Bool)(k:Int):Prop:=(F=false/\k=-1/\A=s/\R=E0)\/(F=true/\∃n:Nat,k=(n:Int)/\n<s.size/\s.extract 0 n=A/\s.extract (n+1) s.size=R)
def aAD(X PT H0 H:jA)(pp:Bool)(j:Nat):Prop:=(pp=false/\PT=X/\H=E0/\(X.size<2\/(2<=X.size/\((X.extract 0 2).toList==[47,47])=false)))\/(pp=true/\2<=X.size/\((X.extract 0 2).toList==[47,47])=true/\2+j<=X.size/\X.extract 2 (2+j)=H0/\X.extract (2+j) X.size=PT)
theorem aOH(n:Int)(w:World):
  Calls prog 99 #[.int .i64 n] w λe w'=>e=.returned (.tuple #[aVs,.int .i64 n])/\jb w w':=by
 go_enter func99,ntmps99
 go_wp2
 refine jt (v:=.tuple #[aVs,.int .i64 n]) ?_ rfl ⟨rfl,?_⟩
 ·rw[jq rfl]
  go_simp
 ·exact ja _ _
theorem aPA(s J G i R A3 X g PT H0 H:jA)(F N F3 r I:Bool)(k1 k2 k3:Int)(sl j n:Nat)(RV:Value)(V:Nat)(w:World)(hs:s.size<=120)(ax:J.size<=120)(ay:i.size<=120)(aD:sl<=i.size)(az:i.extract 0 sl=A3)
  (X1:Hid (aAl s J G F k1))(X2:Hid (aAl J i R N k2))(t:Hid (aAD X PT H0 H I j))(aA:X.size<=120)
  (Y:Hid ((F3=false/\k3=-1/\X=i/\g=E0)\/(F3=true/\∃m:Nat,k3=(m:Int)/\m<i.size/\i.extract (m+1) i.size=X/\
   (∀W,Calls prog 100 #[.string (i.extract 0 m)] W λe w'=>e=.returned (.string g)/\jb W w')/\(r=false->g.data.toList=[]\/(g.data.toList≠[]/\∀W,Calls prog 101 #[.string g] W λe w'=>e=.returned (.bool false)/\jb W w'))/\
   (r=true->g.data.toList≠[]/\∀W,Calls prog 101 #[.string g] W λe w'=>e=.returned (.bool true)/\jb W w'))))
  (O:Hid (F3=true->r=false->RV=aVs/\V=1))(HG:Hid ((F3=false\/r=true)->V=n/\RV=if n=0 then .agg (aDR g I H PT N R F G)else aVs))
  (aa:Hid (∀W,Calls prog 86 #[.string s,.string ⟨#[35]⟩] W λe w'=>e=.returned (.int .i64 k1)/\w'=W))
  (L:Hid (∀W,Calls prog 86 #[.string J,.string ⟨#[63]⟩] W λe w'=>e=.returned (.int .i64 k2)/\w'=W))
  (y:Hid (∀W,Calls prog 86 #[.string (i++⟨#[47]⟩),.string ⟨#[47]⟩] W λe w'=>e=.returned (.int .i64 (sl:Int))/\w'=W))
  (z:Hid (∀W,Calls prog 86 #[.string A3,.string ⟨#[58]⟩] W λe w'=>e=.returned (.int .i64 k3)/\w'=W))
  (d:Hid (I=true->∀W,Calls prog 86 #[.string (X.extract 2 X.size++⟨#[47]⟩),.string ⟨#[47]⟩] W λe w'=>e=.returned (.int .i64 (j:Int))/\w'=W))
  (D:Hid (I=true->∀W,Calls prog 100 #[.string H0] W λe w'=>e=.returned (.string H)/\jb W w'))
  (M:Hid (∀W,jb w W->Calls prog 102 #[.agg (aDR g I H PT N R F G)] W λe w'=>e=.returned (.int .i64 (n:Int))/\jb W w')):
  Calls prog 53 #[.string s] w λe w'=>e=.returned (.tuple #[RV,.int .i64 (V:Int)])/\jb w w':=by
 have hi:¬(120:Int)<(s.size:Int):=by omega
 have P0:=aTx w 85 (aDR E0 false E0 E0 false E0 false E0) (aDR E0 false E0 E0 false E0 false E0)
 go_enter func53,ntmps53
 go_wp2_with fail
 obtain⟨W0,S⟩:∃W,W=(w.alloc (.cells (aDR E0 false E0 E0 false E0 false E0) 85)).alloc (.cells (aDR E0 false E0 E0 false E0 false E0) 85):=⟨_,rfl⟩
 rw[<-S]at P0
 rw[<-S]
 clear S
 refine(aa.out _).mono ?_
 rintro e w1 ⟨rfl,a⟩
 subst a
 clear aa
 go_upto_if 22 with fail
 go_cut[0] (λc C=>c=.string J/\Two w 85 (aDR E0 false E0 E0 false E0 false E0) (aDR E0 false E0 E0 false E0 F G) C)
 case first=>
  clear X2 Y t O HG L y z d D M
  obtain⟨c0,c1,c2,c3,c4,c5,c6,k,l⟩:=P0.cells
  rcases X1.out with⟨rfl,rfl,rfl,rfl⟩|⟨rfl,m,rfl,hn,e1,e2⟩
  ·go_wp2_with fail
   go_meet
   exact⟨rfl,P0⟩
  ·have ak:(0:Int)<=(m:Int):=by omega
   have ai:(m:Int)<=(s.size:Int):=by omega
   have aj:(m:Int)+1<=(s.size:Int):=by omega
   have a:IntKind.i64.wrap ((m:Int)+1)=(m:Int)+1:=jcp _ (by omega) (by omega)
   go_wp2_with fail
   go_region
   all_goals (
    go_wp2_with fail
    go_meet
    exact⟨rfl,((P0.set6 _).set7 _).drew⟩)
 case rest=>
 obtain⟨rfl,P1⟩:=hcut
 clear X1 P0
 obtain⟨c0,c1,c2,c3,c4,c5,c6,k,l⟩:=P1.cells
 go_wp2_with fail
 refine(L.out _).mono ?_
 rintro e w1 ⟨rfl,a⟩
 subst a
 clear L
 go_upto_if 35 with fail
 go_cut[0] (λc C=>c=.string i/\Two w 85 (aDR E0 false E0 E0 false E0 false E0) (aDR E0 false E0 E0 N R F G) C)
 case first=>
  clear Y t O HG y z d D M
  clear c0 c1 c2 c3 c4 c5 c6 k l
  obtain⟨c0,c1,c2,c3,c4,c5,c6,k,l⟩:=P1.cells
  rcases X2.out with⟨rfl,rfl,rfl,rfl⟩|⟨rfl,m,rfl,hn,e1,e2⟩
  ·go_wp2_with fail
   go_meet
   exact⟨rfl,P1⟩
  ·have ak:(0:Int)<=(m:Int):=by omega
   have ai:(m:Int)<=(J.size:Int):=by omega
   have aj:(m:Int)+1<=(J.size:Int):=by omega
   have a:IntKind.i64.wrap ((m:Int)+1)=(m:Int)+1:=jcp _ (by omega) (by omega)
   go_wp2_with fail
   go_region
   all_goals (
    go_wp2_with fail
    go_meet
    exact⟨rfl,((P1.set4 _).set5 _).drew⟩)
 case rest=>
 obtain⟨rfl,P2⟩:=hcut
 clear X2 P1
 clear c0 c1 c2 c3 c4 c5 c6 k l
 have ag:¬9223372036854775807<i.size+(⟨#[47]⟩:jA).size:=by
  have:(⟨#[47]⟩:jA).size=1:=rfl
  omega
 have ar:(sl:Int)<=(i.size:Int):=by omega
 go_wp2_with fail
 refine(y.out _).mono ?_
 rintro e w1 ⟨rfl,a⟩
 subst a
 clear y
 go_wp2_with fail
 refine(z.out _).mono ?_
 rintro e w1 ⟨rfl,a⟩
 subst a
 clear z
 go_upto_if 53 with fail
 go_cut[0] (λc C=>c=.string X/\Hid (F3=false\/r=true)/\Two w 85 (aDR E0 false E0 E0 false E0 false E0) (aDR g false E0 E0 N R F G) C)
 case first=>
  clear t HG d D M ag ar
  obtain⟨c0,c1,c2,c3,c4,c5,c6,k,l⟩:=P2.cells
  rcases Y.out with⟨rfl,rfl,rfl,rfl⟩|⟨rfl,m,rfl,hn,e2,CS,ab,E⟩
  ·clear Y
   go_wp2_with fail
   go_meet
   exact⟨rfl,Or.inl (by first|rfl|trivial),P2⟩
  ·have ak:(0:Int)<=(m:Int):=by omega
   have ai:(m:Int)<=(i.size:Int):=by omega
   have aj:(m:Int)+1<=(i.size:Int):=by omega
   have a:IntKind.i64.wrap ((m:Int)+1)=(m:Int)+1:=jcp _ (by omega) (by omega)
   have o:Hid _:=ab
   have b:Hid _:=E
   have ac:Hid (∀W,_):=CS
   clear ab E CS Y
   go_wp2_with fail
   refine(ac.out _).mono ?_
   rintro e w5 ⟨rfl,B⟩
   have A:=P2.below B
   clear c0 c1 c2 c3 c4 c5 c6 k l B P2 ac
   obtain⟨c0,c1,c2,c3,c4,c5,c6,k,l⟩:=A.cells
   have Q:=A.set0 (.string g)
   cases r with
   |false=>
    have hR:=O.out (by first|rfl|trivial) (by first|rfl|trivial)
    rcases o.out (by first|rfl|trivial)with hE|⟨hE,Z⟩
    ·obtain rfl:=aC2 g hE
     clear o b O
     go_wp2_with fail
     refine(aOH _ _).mono ?_
     rintro e w6 ⟨rfl,x⟩
     have q:=Q.below x
     clear x
     obtain⟨r0,r1,r2,r3,r4,r5,r6,r7,rf⟩:=q.cells'
     go_wp2
     refine jt (v:=.tuple #[aVs,.int .i64 1]) ?_ rfl ⟨by rw[hR.1,hR.2];rfl,?_⟩
     ·rw[jq rfl]
      go_simp
     ·exact(j8 q.1 (jf _))
    ·have he:=aC0 g hE
     have P:Hid (∀W,_):=Z
     clear o b O Z
     go_wp2_with fail
     refine(P.out _).mono ?_
     rintro e aw ⟨rfl,f⟩
     replace Q:=Q.below f
     clear c0 c1 c2 c3 c4 c5 c6 k l f A
     obtain⟨c0,c1,c2,c3,c4,c5,c6,k,l⟩:=Q.cells
     go_wp2_with fail
     refine(aOH _ _).mono ?_
     rintro e w6 ⟨rfl,x⟩
     have q:=Q.below x
     clear x
     obtain⟨r0,r1,r2,r3,r4,r5,r6,r7,rf⟩:=q.cells'
     go_wp2
     refine jt (v:=.tuple #[aVs,.int .i64 1]) ?_ rfl ⟨by rw[hR.1,hR.2];rfl,?_⟩
     ·rw[jq rfl]
      go_simp
     ·exact(j8 q.1 (jf _))
   |true=>
    obtain⟨hE,Z⟩:=b.out (by first|rfl|trivial)
    have he:=aC0 g hE
    have P:Hid (∀W,_):=Z
    clear o b O Z
    go_wp2_with fail
    refine(P.out _).mono ?_
    rintro e aw ⟨rfl,f⟩
    replace Q:=Q.below f
    clear c0 c1 c2 c3 c4 c5 c6 k l f A
    go_wp2_with fail
    go_meet
    exact⟨rfl,Or.inr (by first|rfl|trivial),Q⟩
 case rest=>
 obtain⟨rfl,ah,A⟩:=hcut
 obtain⟨al,ad⟩:=HG.out ah.out
 subst al
 have p:Hid _:=ad
 clear O HG ah ad Y P2
 go_upto_region 18 with fail
 go_cut[83] (λc C=>c=.bool I/\C=wc)
 case first=>
  clear p d D M
  rcases t.out with⟨rfl,h1,h2,h3|⟨h3,h4⟩⟩|⟨rfl,h3,h4,_⟩
  ·have T:¬(2:Int)<=(X.size:Int):=by omega
   clear t
   go_wp2_with fail
   go_meet
   exact⟨rfl,rfl⟩
  ·have T:(2:Int)<=(X.size:Int):=by omega
   clear t
   go_wp2_with fail
   go_meet
   exact⟨by first|rfl|rw[h4],rfl⟩
  ·have T:(2:Int)<=(X.size:Int):=by omega
   clear t
   go_wp2_with fail
   go_meet
   exact⟨by first|rfl|rw[h4],rfl⟩
 case rest=>
 obtain⟨rfl,av⟩:=hcut
 subst av
 go_upto_if 83 with fail
 go_cut[0] (λc C=>c=.string PT/\Two w 85 (aDR E0 false E0 E0 false E0 false E0) (aDR g I H E0 N R F G) C)
 case first=>
  clear p M
  rcases t.out with⟨rfl,rfl,rfl,h3⟩|⟨rfl,h3,h4,h5,h6,h7⟩
  ·clear t d D h3
   go_wp2_with fail
   go_meet
   exact⟨rfl,A⟩
  ·have HI:Hid (∀W,_):=d.out (by first|rfl|trivial)
   have HH:Hid (∀W,_):=D.out (by first|rfl|trivial)
   clear t h4 d D
   have T:(2:Int)<=(X.size:Int):=by omega
   have aE:(X.extract 2 X.size).size=X.size-2:=by simp[ByteArray.size_extract]
   have am:¬9223372036854775807<(X.extract 2 X.size).size+(⟨#[47]⟩:jA).size:=by
    have:(⟨#[47]⟩:jA).size=1:=rfl
    omega
   have aB:(2:Int)+(j:Int)<=(X.size:Int):=by omega
   have aq:IntKind.i64.wrap ((2:Int)+(j:Int))=((2+j:Nat):Int):=by rw[show((2+j:Nat):Int)=(2:Int)+(j:Int)from by omega];exact jcp _ (by omega) (by omega)
   have an:((2+j:Nat):Int)<=(X.size:Int):=by omega
   have ao:(2:Int)<=((2+j:Nat):Int):=by omega
   obtain⟨jj,ap⟩:∃jj,2+j=jj:=⟨_,rfl⟩
   rw[ap]at aq an ao h6 h7
   obtain⟨c0,c1,c2,c3,c4,c5,c6,k,l⟩:=A.cells
   go_wp2_with fail
   refine(HI.out _).mono ?_
   rintro e w1 ⟨rfl,a⟩
   subst a
   clear HI
   go_wp2_with fail
   go_region_with (go_at_call 100;refine(HH.out _).mono ?_;rintro e w5 ⟨rfl,B⟩;have U:=(A.drew).below B;obtain⟨d0,d1,d2,d3,d4,d5,d6,d7,df⟩:=U.cells)
   all_goals (
    go_wp2_with fail
    go_meet
    exact⟨rfl,(U.set1 _).set2 _⟩)
 case rest=>
 obtain⟨rfl,U⟩:=hcut
 clear t d D A
 obtain⟨c0,c1,c2,c3,c4,c5,c6,k,l⟩:=U.cells
 have Q1:=U.set3 (.string PT)
 go_wp2_with fail
 refine(M.out _ Q1.1).mono ?_
 rintro e w8 ⟨rfl,ae⟩
 have q:=Q1.below ae
 clear ae Q1 U M
 clear c0 c1 c2 c3 c4 c5 c6 k l
 obtain⟨c0,c1,c2,c3,c4,c5,c6,k,l⟩:=q.cells
 by_cases h0:V=0
 ·subst h0
  have hv:=p.out
  obtain⟨r0,r1,r2,r3,r4,r5,r6,r7,rf⟩:=q.cells'
  clear p
  go_wp2
  refine jt (v:=.tuple #[.agg (aDR g I H PT N R F G),.int .i64 0]) ?_ rfl ⟨by rw[hv];rfl,?_⟩
  ·rw[jq rfl]
   go_simp
  ·exact(j8 q.1 (jf _))
 ·have aC:((V:Int)==0)=false:=by rw[jg];omega
  have hv:=p.out
  rw[jh h0]at hv
  clear p
  go_wp2_with fail
  refine(aOH _ _).mono ?_
  rintro e w9 ⟨rfl,af⟩
  replace q:=q.below af
  clear af c0 c1 c2 c3 c4 c5 c6 k l
  obtain⟨r0,r1,r2,r3,r4,r5,r6,r7,rf⟩:=q.cells'
  go_wp2
  refine jt (v:=.tuple #[aVs,.int .i64 (V:Int)]) ?_ rfl ⟨by rw[hv],?_⟩
  ·rw[jq rfl]
   go_simp
  ·exact(j8 q.1 (jf _))
theorem aEL(d:UInt8)(l:jB):aAl (bar l) (bar (aEW d l).1) (bar (aEW d l).2.1) (aEW d l).2.2 (aUV d l):=by
 unfold aEW aUV
 cases h:aEM d l with
 |none=>exact Or.inl ⟨rfl,rfl,rfl,rfl⟩
 |some x=>
  obtain⟨e,_⟩:=aEO d l x.1 x.2 h
  refine Or.inr ⟨rfl,x.1.length,rfl,?_,?_,?_⟩
  ·rw[aCK,e];simp
  ·rw[aF7,e];simp
  ·rw[aF4,e];simp
theorem aU6:∀l:jB,aUV 47 (l++[47])=((aES l).1.length:Int)
 |[]=>rfl
 |c::l=>by
  have a:=aU6 l
  unfold aUV aES at a⊢
  rw[jL,aEM,aEM]
  by_cases d:c=47
  ·rw[jo d,jo d]
   first|done|rfl
  ·rw[jh d,jh d]
   cases f:aEM 47 (l++[47])with
   |none=>rw[f]at a;cases b:aEM 47 l<;>rw[b]at a<;>simp at a<;>omega
   |some x=>
    rw[f]at a
    cases b:aEM 47 l with
    |none=>rw[b]at a;simp at a⊢;omega
    |some y=>rw[b]at a;simp at a⊢;omega
theorem aEQ:∀l:jB,match aEP l with
  |none=>aUV 58 (aES l).1=-1
  |some x=>aUV 58 (aES l).1=(x.1.length:Int)/\l=x.1++58::x.2
 |[]=>rfl
 |c::l=>by
  have a:=aEQ l
  have k:(aES (c::l)).1=if c=47 then []else c::(aES l).1:=by
   unfold aES
   rw[aEM]
   by_cases f:c=47
   ·rw[jo f,jo f]
   ·rw[jh f,jh f]
    cases aEM 47 l<;>rfl
  rw[k,aEP]
  by_cases i:c=58
  ·subst i
   exact⟨rfl,rfl⟩
  ·rw[jh i]
   by_cases b:c=47
   ·rw[jo b,jo b]
    first|done|rfl
   ·rw[jh b,jh b]
    unfold aUV at a⊢
    rw[aEM,jh i]
    cases j:aEP l with
    |none=>
     rw[j]at a
     cases d:aEM 58 (aES l).1 with
     |none=>rfl
     |some y=>rw[d]at a;simp at a;try omega
    |some x=>
     rw[j]at a
     obtain⟨g,m⟩:=a
     cases d:aEM 58 (aES l).1 with
     |none=>rw[d]at g;simp at g;try omega
     |some y=>
      rw[d]at g
      simp only[jcz,jm,jL]at g⊢
      exact⟨by omega,by rw[<-m]⟩
theorem aNG(l:jB)(h:2<=l.length):(((bar l).extract 0 2).toList==[47,47])=aNF l:=by
 rw[aF7,jj,aCJ]
 rcases l with _|⟨a,_|⟨b,l⟩⟩
 ·simp at h
 ·simp at h
 ·simp[aNF]
theorem aNI(l:jB)(h:aNF l=true):2<=l.length:=by
 rcases l with _|⟨a,_|⟨b,l⟩⟩
 ·cases h
 ·cases h
 ·simp
theorem aIc(l:jB):aAD (bar l) (bar (if aNF l then(aES (l.drop 2)).2 else l)) (bar (aES (l.drop 2)).1) (bar (if aNF l then aQJ (aES (l.drop 2)).1 else [])) (aNF l) (aES (l.drop 2)).1.length:=by
 cases h:aNF l with
 |false=>
  refine Or.inl ⟨rfl,rfl,rfl,?_⟩
  rw[aCK]
  by_cases a:2<=l.length
  ·exact Or.inr ⟨a,by rw[aNG l a,h]⟩
  ·exact Or.inl (by omega)
 |true=>
  have a:=aNI l h
  have c:=aET (l.drop 2)
  have b:(aES (l.drop 2)).1.length<=(l.drop 2).length:=by
   have:=jab List.length c
   rw[je]at this
   omega
  rw[jH]at b
  refine Or.inr ⟨rfl,by rw[aCK];exact a,by rw[aNG l a,h],by rw[aCK];omega,?_,?_⟩
  ·have:(bar l).extract 2 (2+(aES (l.drop 2)).1.length)=bar ((l.drop 2).take (aES (l.drop 2)).1.length):=by
    apply aCx
    rw[aCJ]
    simp[bar,List.extract_eq_take_drop]
   rw[this]
   congr 1
   have:=jab (List.take (aES (l.drop 2)).1.length) c
   rw[<-this];simp
  ·rw[aF4,<-jay]
   congr 1
   have:=jab (List.drop (aES (l.drop 2)).1.length) c
   rw[<-this];simp
theorem aPz(s:jA)(j:s.size<=maxLen)(h:120<s.size)(w:World):
  Calls prog 53 #[.string s] w λe w'=>e=.returned (.tuple #[aVs,.int .i64 2])/\jb w w':=by
 unfold maxLen at j
 have l:(120:Int)<(s.size:Int):=by omega
 obtain⟨g,a⟩:∃W,W=w.alloc (.cells (aDR E0 false E0 E0 false E0 false E0) 85):=⟨_,rfl⟩
 have b:jb w g:=by rw[a];exact ja _ _
 have d:g.heap[w.heap.size]?=some (.cells (aDR E0 false E0 E0 false E0 false E0) 85):=by rw[a];show(w.heap.push _)[w.heap.size]?=_;simp
 go_enter func53,ntmps53
 go_wp2_with fail
 rw[<-a]
 clear a
 refine(aOH _ _).mono ?_
 rintro e k ⟨rfl,c⟩
 have f:=aJk d c
 have i:jb w k:=b.trans (c.mono b.size)
 clear c d b
 obtain⟨m,n,o,p,q,r,t,x,y⟩:=aDS f
 go_wp2
 refine jt (v:=.tuple #[aVs,.int .i64 2]) ?_ rfl ⟨rfl,?_⟩
 ·rw[jq rfl]
  go_simp
 ·exact(j8 i (jf _))
theorem aIf(a l:jB)(hq:Bool)(q:jB)(b:Bool)(f:jB):
  aIe a l hq q b f=⟨a,aNF l,if aNF l then aQJ (aES (l.drop 2)).1 else [],if aNF l then(aES (l.drop 2)).2 else l,hq,q,b,f⟩:=by
 unfold aIe
 cases aNF l<;>rfl
theorem rix(l:jB)(d:UInt8)(W:World):Calls prog 86 #[.string (bar l),.string ⟨#[d]⟩] W λe w'=>e=.returned (.int .i64 (aUV d l))/\w'=W:=by
 have:=strings_Index_one (bar l) d W
 rw[aCJ,aIz]at this
 exact this
theorem aCI(l:jB):bar l++⟨#[47]⟩=bar (l++[47]):=by
 apply aCx
 rw[aE7,aCJ,aCJ]
theorem aEU(l:jB):(aES l).1.length<=l.length/\(aES l).2.length<=l.length:=by
 have:=jab List.length (aET l)
 rw[je]at this
 omega
theorem aEV(l:jB):l.take (aES l).1.length=(aES l).1:=by
 have:=jab (List.take (aES l).1.length) (aET l)
 rw[<-this];simp
theorem aPy(s:jA)(hs:s.size<=maxLen)(w:World)(Z:aAP w):
  Calls prog 53 #[.string s] w λe w'=>aBB w (aMw s.data.toList) e w':=by
 by_cases I:120<s.size
 ·refine(aPz s hs I w).mono ?_
  rintro e w' ⟨rfl,C⟩
  refine⟨?_,C⟩
  unfold aMw
  rw[jo (by rw[<-Lib.size_eq];exact I)]
  rfl
 ·have v:s.size<=120:=by omega
  obtain⟨l,o⟩:∃l,l=s.data.toList:=⟨_,rfl⟩
  have D:s=bar l:=by rw[o];rfl
  rw[<-o]
  subst D
  clear o
  have aa:l.length<=120:=by rw[<-aCK];exact v
  unfold aMw
  rw[jh (by omega)]
  obtain⟨a1,a2⟩:=aEY 35 l
  have O:=aEL 35 l
  have L:=rix l 35
  generalize (aEW 35 l).2.2=j at*
  generalize (aEW 35 l).2.1=g at*
  generalize (aEW 35 l).1=n at*
  generalize aUV 35 l=k1 at*
  obtain⟨b1,b2⟩:=aEY 63 n
  have P:=aEL 63 n
  have M:=rix n 63
  generalize (aEW 63 n).2.2=k at*
  generalize (aEW 63 n).2.1=i at*
  generalize (aEW 63 n).1=f at*
  generalize aUV 63 n=k2 at*
  have G:=rix (f++[47]) 47
  rw[aU6,<-aCI]at G
  have N:=rix (aES f).1 58
  have A:=aEQ f
  have V:=aEU f
  have y:∀(b a:jB) (p c:Bool) (t:Value) (r:Nat),b.length<=120->a.length<=120->
    ((p=false/\aUV 58 (aES f).1=-1/\bar b=bar f/\bar a=E0)\/(p=true/\∃m:Nat,aUV 58 (aES f).1=(m:Int)/\m<(bar f).size/\(bar f).extract (m+1) (bar f).size=bar b/\
     (∀W,Calls prog 100 #[.string ((bar f).extract 0 m)] W (jG (.string (bar a)) W))/\(c=false->(bar a).data.toList=[]\/((bar a).data.toList≠[]/\∀W,Calls prog 101 #[.string (bar a)] W (jG (.bool false) W)))/\
     (c=true->(bar a).data.toList≠[]/\∀W,Calls prog 101 #[.string (bar a)] W (jG (.bool true) W))))->
    (p=true->c=false->t=aVs/\r=1)->
    ((p=false\/c=true)->r=aDW (aIe a b k i j g)/\t=if aDW (aIe a b k i j g)=0 then(ofL (aIe a b k i j g)).v else aVs)->
    Calls prog 53 #[.string (bar l)] w (jG (.tuple #[t,.int .i64 (r:Int)]) w):=by
   intro b a p c t r hX B U X Y
   have hH:=aEU (b.drop 2)
   have hd:(b.drop 2).length<=120:=by rw[jH];omega
   refine aPA (bar l) (bar n) (bar g) (bar f) (bar i) (bar (aES f).1) (bar b) (bar a) (bar (if aNF b then(aES (b.drop 2)).2 else b)) (bar (aES (b.drop 2)).1) (bar (if aNF b then aQJ (aES (b.drop 2)).1 else [])) j k p c (aNF b) k1 k2 (aUV 58 (aES f).1) (aES f).1.length (aES (b.drop 2)).1.length (aDW (aIe a b k i j g)) t r w v (by rw[aCK];omega) (by rw[aCK];omega) (by rw[aCK];omega) (by rw[aF7,aEV]) O P (aIc b) (by rw[aCK];omega) U X ?_ L M G N ?_ ?_ ?_
   ·intro h
    obtain⟨R,S⟩:=Y h
    refine⟨R,?_⟩
    rw[S,aIf]
    rfl
   ·intro J W
    have:=rix (b.drop 2++[47]) 47 W
    rw[aU6,<-aCI,<-aF4]at this
    exact this
   ·intro J W
    rw[J,jo rfl]
    exact aPG (bar (aES (b.drop 2)).1) W (by rw[aCK];omega)
   ·intro W hW
    rw[aIf]
    refine aOK (ofL ⟨a,aNF b,if aNF b then aQJ (aES (b.drop 2)).1 else [],if aNF b then(aES (b.drop 2)).2 else b,k,i,j,g⟩) (aQh _ ?_ ?_ ?_ ?_ ?_) W (Z.below hW)
    ·show(bar a).size<=120;rw[aCK];exact B
    ·show(bar (if aNF b then aQJ (aES (b.drop 2)).1 else [])).size<=120
     rw[aCK]
     split
     ·rw[aQK];omega
     ·simp
    ·show(bar (if aNF b then(aES (b.drop 2)).2 else b)).size<=120
     rw[aCK]
     split<;>omega
    ·show(bar i).size<=120;rw[aCK];omega
    ·show(bar g).size<=120;rw[aCK];omega
  unfold aMv
  cases H:aEP f with
  |none=>
   rw[H]at A
   refine(y f [] false true _ _ (by omega) (by simp) (Or.inl ⟨rfl,A,rfl,rfl⟩) (λh=>by cases h) (λ_=>⟨rfl,rfl⟩)).mono ?_
   rintro e w' h
   exact aUe (ofL (aIe [] f k i j g)) h
  |some x=>
   rw[H]at A
   obtain⟨i1,F⟩:=A
   have E:=jab List.length F
   rw[je,jm]at E
   have ab:(aQJ x.1).length=x.1.length:=aQK _
   have z:∀c,aPU (aQJ x.1)=c->_:=λc d=>y x.2 (aQJ x.1) true c (if c then(if aDW (aIe (aQJ x.1) x.2 k i j g)=0 then(ofL (aIe (aQJ x.1) x.2 k i j g)).v else aVs)else aVs) (if c then aDW (aIe (aQJ x.1) x.2 k i j g)else 1) (by omega) (by omega)
    (Or.inr ⟨rfl,x.1.length,i1,by rw[aCK];omega,by rw[aF4,F];simp,λW=>by
     rw[aF7,F,show(x.1++58::x.2).take x.1.length=x.1 from by simp]
     exact aPG (bar x.1) W (by rw[aCK];omega),λh=>by
     subst h
     by_cases q:(bar (aQJ x.1)).data.toList=[]
     ·exact Or.inl q
     ·refine Or.inr ⟨q,λW=>?_⟩
      have:=aPC (bar (aQJ x.1)) W (by rw[aCK];omega)
      rw[aI0 _ q,jcg,aCJ,d]at this
      exact this,λh=>by
     subst h
     have q:(bar (aQJ x.1)).data.toList≠[]:=by
      rw[aCJ]
      intro T
      rw[T]at d
      cases d
     refine⟨q,λW=>?_⟩
     have:=aPC (bar (aQJ x.1)) W (by rw[aCK];omega)
     rw[aI0 _ q,jcg,aCJ,d]at this
     exact this⟩) (λ_ h=>by subst h;exact⟨rfl,rfl⟩) (λh=>by
     rcases h with h|h
     ·cases h
     ·subst h;exact⟨rfl,rfl⟩)
   cases d:aPU (aQJ x.1)with
   |false=>
    refine(z false d).mono ?_
    rintro e w' ⟨rfl,C⟩
    show aBB w (if aPU (aQJ x.1)=false then(aLD,1)else aD3 (aIe (aQJ x.1) x.2 k i j g)) _ w'
    rw[jo d]
    exact⟨rfl,C⟩
   |true=>
    refine(z true d).mono ?_
    rintro e w' h
    show aBB w (if aPU (aQJ x.1)=false then(aLD,1)else aD3 (aIe (aQJ x.1) x.2 k i j g)) e w'
    rw[jh (by rw[d];simp)]
    exact aUe (ofL (aIe (aQJ x.1) x.2 k i j g)) h
theorem aPi(w:World)(a b X T U V P us uh up uq uf xs xh xp xq Z S:jA)(g i f t v s m n l:Bool)(e1 e2 Y:Nat)
  (CP:Hid (∀W,jb w W->Calls prog 53 #[.string a] W (jG (.tuple #[.agg (jU X g T U i V f P),.int .i64 (e1:Int)]) W)))
  (CQ:Hid (∀W,jb w W->Calls prog 53 #[.string b] W (jG (.tuple #[.agg (jU us t uh up v uq s uf),.int .i64 (e2:Int)]) W)))
  (CL:Hid (∀W,jb w W->Calls prog 54 #[.agg (jU X g T U i V f P),.agg (jU us t uh up v uq s uf)] W (jG (.tuple #[.agg (jU xs m xh xp n xq l Z),.int .i64 (Y:Int)]) W)))
  (CR:Hid (Y=0->∀W,Calls prog 55 #[.agg (jU xs m xh xp n xq l Z)] W (jG (.string S) W))):
  Calls prog 13 #[.string a,.string b] w (jG (.string (if e1≠0 then⟨#[]⟩else if e2≠0 then⟨#[]⟩else if Y≠0 then⟨#[]⟩else S)) w):=by
 obtain⟨R,hR⟩:∃R,(if e1≠0 then⟨#[]⟩else if e2≠0 then⟨#[]⟩else if Y≠0 then⟨#[]⟩else S)=R:=⟨_,rfl⟩
 rw[hR]
 have M:Hid _:=hR
 clear hR
 go_enter func13,ntmps13
 go_wp2_with fail
 refine(CP.out _ (jr _ _)).mono ?_
 rintro e W1 ⟨rfl,H⟩
 clear CP
 go_wp2_with fail
 obtain⟨V1,B⟩:∃W,W=W1.alloc (.cells (jU X g T U i V f P) 85):=⟨_,rfl⟩
 have k1:V1.heap[W1.heap.size]?=some (.cells (jU X g T U i V f P) 85):=by rw[B];exact aDi W1 _
 have D:jb w V1:=by rw[B];exact H.alloc H.size _
 rw[<-B]
 obtain⟨z,ad⟩:∃k,W1.heap.size=k:=⟨_,rfl⟩
 rw[ad]at k1⊢
 clear B H ad
 refine(CQ.out _ D).mono ?_
 rintro e N ⟨rfl,I⟩
 clear CQ
 have k2:=aDj k1 I
 have L:jb w N:=D.trans (I.mono D.size)
 have ac:z<N.heap.size:=(jl.1 k2).1
 clear I k1 D
 go_upto_region 3 with fail
 obtain⟨c,q⟩:∃W,W=N.alloc (.cells (jU us t uh up v uq s uf) 85):=⟨_,rfl⟩
 have o:c.heap[N.heap.size]?=some (.cells (jU us t uh up v uq s uf) 85):=by rw[q];exact aDi N _
 have r:c.heap[z]?=some (.cells (jU X g T U i V f P) 85):=by rw[q,j9 _ _ _ ac];exact k2
 have d:jb w c:=by rw[q];exact L.alloc L.size _
 rw[<-q]
 obtain⟨E,ae⟩:∃k,N.heap.size=k:=⟨_,rfl⟩
 rw[ae]at o⊢
 clear q L ae k2 ac
 by_cases h1:e1=0
 ·subst h1
  by_cases h2:e2=0
  ·subst h2
   have A:Hid _:=M.out
   clear M
   have B0:c.cell? (jx z 0)=some (.string X):=(aDe r 0).trans rfl
   have B1:c.cell? (jx z 1)=some (.bool g):=(aDe r 1).trans rfl
   have B2:c.cell? (jx z 2)=some (.string T):=(aDe r 2).trans rfl
   have B3:c.cell? (jx z 3)=some (.string U):=(aDe r 3).trans rfl
   have B4:c.cell? (jx z 4)=some (.bool i):=(aDe r 4).trans rfl
   have B5:c.cell? (jx z 5)=some (.string V):=(aDe r 5).trans rfl
   have B6:c.cell? (jx z 6)=some (.bool f):=(aDe r 6).trans rfl
   have B7:c.cell? (jx z 7)=some (.string P):=(aDe r 7).trans rfl
   have U0:c.cell? (jx E 0)=some (.string us):=(aDe o 0).trans rfl
   have U1:c.cell? (jx E 1)=some (.bool t):=(aDe o 1).trans rfl
   have U2:c.cell? (jx E 2)=some (.string uh):=(aDe o 2).trans rfl
   have U3:c.cell? (jx E 3)=some (.string up):=(aDe o 3).trans rfl
   have U4:c.cell? (jx E 4)=some (.bool v):=(aDe o 4).trans rfl
   have U5:c.cell? (jx E 5)=some (.string uq):=(aDe o 5).trans rfl
   have U6:c.cell? (jx E 6)=some (.bool s):=(aDe o 6).trans rfl
   have U7:c.cell? (jx E 7)=some (.string uf):=(aDe o 7).trans rfl
   clear r o
   go_wp2_with fail
   refine(CL.out _ d).mono ?_
   rintro e O ⟨rfl,aa⟩
   have j:jb w O:=d.trans (aa.mono d.size)
   clear CL aa d B0 B1 B2 B3 B4 B5 B6 B7 U0 U1 U2 U3 U4 U5 U6 U7
   by_cases h3:Y=0
   ·subst h3
    have ag:Hid _:=A.out
    clear A
    go_upto_region 8 with fail
    obtain⟨x,C⟩:∃W,W=O.alloc (.cells (jU xs m xh xp n xq l Z) 85):=⟨_,rfl⟩
    have y:x.heap[O.heap.size]?=some (.cells (jU xs m xh xp n xq l Z) 85):=by rw[C];exact aDi O _
    have J:jb w x:=by rw[C];exact j.alloc j.size _
    rw[<-C]
    clear C
    obtain⟨F,af⟩:∃k,O.heap.size=k:=⟨_,rfl⟩
    rw[af]at y⊢
    clear af j
    have X0:x.cell? (jx F 0)=some (.string xs):=(aDe y 0).trans rfl
    have X1:x.cell? (jx F 1)=some (.bool m):=(aDe y 1).trans rfl
    have X2:x.cell? (jx F 2)=some (.string xh):=(aDe y 2).trans rfl
    have X3:x.cell? (jx F 3)=some (.string xp):=(aDe y 3).trans rfl
    have X4:x.cell? (jx F 4)=some (.bool n):=(aDe y 4).trans rfl
    have X5:x.cell? (jx F 5)=some (.string xq):=(aDe y 5).trans rfl
    have X6:x.cell? (jx F 6)=some (.bool l):=(aDe y 6).trans rfl
    have X7:x.cell? (jx F 7)=some (.string Z):=(aDe y 7).trans rfl
    clear y
    go_wp2_with fail
    refine(CR.out (by first|rfl|trivial) _).mono ?_
    rintro e W4 ⟨rfl,ab⟩
    have G:Hid _:=J.trans (ab.mono J.size)
    clear ab J X0 X1 X2 X3 X4 X5 X6 X7 CR
    go_wp2_with fail
    go_ret
    exact⟨by rw[<-ag.out];rfl,G.out⟩
   ·have aj:((Y:Int) !=0)=true:=by rw[jbb];omega
    have p:Hid (jz=R):=by unfold Hid;have h:=A.out;rw[jo h3]at h;exact h
    have G:Hid (jb w (O.alloc (.cells (jU xs m xh xp n xq l Z) 85))):=j.alloc j.size _
    clear A CR j
    go_wp2_with fail
    go_ret
    exact⟨by rw[<-p.out];rfl,G.out⟩
  ·have ai:((e2:Int) !=0)=true:=by rw[jbb];omega
   have p:Hid (jz=R):=by unfold Hid;have h:=M.out;rw[jh (by simp),jo h2]at h;exact h
   have G:Hid _:=d
   clear M CR d r o
   go_wp2_with fail
   go_ret
   exact⟨by rw[<-p.out];rfl,G.out⟩
 ·have ah:((e1:Int) !=0)=true:=by rw[jbb];omega
  have p:Hid (jz=R):=by unfold Hid;have h:=M.out;rw[jo h1]at h;exact h
  have G:Hid _:=d
  clear M CR d r o
  go_wp2_with fail
  go_ret
  exact⟨by rw[<-p.out];rfl,G.out⟩
theorem aPh(a b:jA)(s:a.size<=maxLen)(t:b.size<=maxLen)(w:World)(j:aAP w):
  Calls prog 13 #[.string a,.string b] w λe w'=>e=.returned (.string (bar (aJT a.data.toList b.data.toList)))/\jb w w':=by
 have o:=λW (d:jb w W)=>aPy a s W (j.below d)
 have p:=λW (d:jb w W)=>aPy b t W (j.below d)
 have l:=aMx a.data.toList
 have m:=aMx b.data.toList
 have n:=λW (d:jb w W)=>aPd (ofL (aMw a.data.toList).1) (ofL (aMw b.data.toList).1) l m W (j.below d)
 simp only[aLP]at n
 unfold aJT
 generalize aMw a.data.toList=P at*
 generalize aMw b.data.toList=Q at*
 have f:(aJG P.1 Q.1).2=0->aDW (aJG P.1 Q.1).1=0:=λh=>(aJQ h).1
 generalize aJG P.1 Q.1=L at*
 have q:L.2=0->∀W,Calls prog 55 #[(ofL L.1).v] W λe w'=>e=.returned (.string (bar (aR7 L.1)))/\jb W w':=λh W=>
  aPJ (ofL L.1) (aDX (u:=ofL L.1) (by rw[aLP];exact f h)) (bar (aR7 L.1)) (by rw[aLP];rfl) W
 refine(aPi w a b _ _ _ _ _ _ _ _ _ _ _ _ _ _ _ (bar (aR7 L.1)) _ _ _ _ _ _ _ _ _ P.2 Q.2 L.2 o p n q).mono ?_
 rintro e w' ⟨rfl,k⟩
 refine⟨?_,k⟩
 congr 2
 by_cases g:P.2≠0
 ·rw[jo g,jo g];rfl
 ·rw[jh g,jh g]
  by_cases i:Q.2≠0
  ·rw[jo i,jo i];rfl
  ·rw[jh i,jh i]
   by_cases c:L.2≠0
   ·rw[jo c,jo c];rfl
   ·rw[jh c,jh c]
    have r:=f (by simpa using c)
    unfold aNT
    rw[jo r]
end Go.Proofs.YtbbfcbodhmeanaaGreatDoor

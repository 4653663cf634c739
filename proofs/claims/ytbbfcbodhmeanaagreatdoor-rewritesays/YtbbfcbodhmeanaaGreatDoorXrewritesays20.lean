import Derived.Test.YtbbfcbodhmeanaaGreatDoorXrewritesays19
set_option maxHeartbeats 8000000
set_option maxRecDepth 1000000
namespace Go.Proofs.YtbbfcbodhmeanaaGreatDoor
open Go.Proofs.Tryz
open Go.RowKit
def Tri(w:World)(t:TypeId)(a b c:Array Value)(W:World):Prop:=jb w W/\W.heap[w.heap.size]?=some (.cells a t)/\W.heap[w.heap.size+1]?=some (.cells b t)/\W.heap[w.heap.size+1+1]?=some (.cells c t)
theorem Tri.lt{w W:World}{t:TypeId}{a b c:Array Value}(h:Tri w t a b c W):w.heap.size+1+1<W.heap.size:=(jl.1 h.2.2.2).1
theorem Tri.below{w W f:World}{t:TypeId}{a b c:Array Value}(h:Tri w t a b c W)(d:jb W f):Tri w t a b c f:=by
 have g:=h.lt
 exact⟨h.1.trans (d.mono (by omega)),by rw[d.block _ (by omega)];exact h.2.1,by rw[d.block _ (by omega)];exact h.2.2.1,by rw[d.block _ (by omega)];exact h.2.2.2⟩
theorem Tri.alloc{w W:World}{t:TypeId}{a b c:Array Value}(h:Tri w t a b c W)(o:Obj):Tri w t a b c (W.alloc o):=h.below (ja _ _)
theorem Tri.set{w W:World}{t:TypeId}{a b c:Array Value}(h:Tri w t a b c W)(i:Nat)(v:Value):Tri w t a (b.setIfInBounds i v) c (W.setCell (jx (w.heap.size+1) i) v):=by
 refine⟨h.1.setCell (Nat.le_succ _) _,?_,?_,?_⟩
 ·rw[jp _ _ _ _ (by simp)];exact h.2.1
 ·simp only[World.setCell,jah,jdl,h.2.2.1]
  rfl
 ·rw[jp _ _ _ _ (by simp)];exact h.2.2.2
theorem aTm(w:World)(t:TypeId)(a b c:Array Value):Tri w t a b c (((w.alloc (.cells a t)).alloc (.cells b t)).alloc (.cells c t)):=by
 have:=aSV w t a b c
 exact⟨((ja _ _).alloc (by simp) _).alloc (by simp;omega) _,this.1,this.2.1,this.2.2⟩
theorem aJF(n:Nat):n<=n+1+1:=by omega
theorem Tri.set0{w W:World}{t:TypeId}{a c:Array Value}{l b d f g i j k:Value}(h:Tri w t a #[l,b,d,f,g,i,j,k] c W)(x:Value):Tri w t a #[x,b,d,f,g,i,j,k] c (W.setCell (jx (w.heap.size+1) 0) x):=Tri.set h 0 x
theorem Tri.set1{w W:World}{t:TypeId}{a c:Array Value}{b l d f g i j k:Value}(h:Tri w t a #[b,l,d,f,g,i,j,k] c W)(x:Value):Tri w t a #[b,x,d,f,g,i,j,k] c (W.setCell (jx (w.heap.size+1) 1) x):=Tri.set h 1 x
theorem Tri.set2{w W:World}{t:TypeId}{a c:Array Value}{b d l f g i j k:Value}(h:Tri w t a #[b,d,l,f,g,i,j,k] c W)(x:Value):Tri w t a #[b,d,x,f,g,i,j,k] c (W.setCell (jx (w.heap.size+1) 2) x):=Tri.set h 2 x
theorem Tri.set3{w W:World}{t:TypeId}{a c:Array Value}{b d f l g i j k:Value}(h:Tri w t a #[b,d,f,l,g,i,j,k] c W)(x:Value):Tri w t a #[b,d,f,x,g,i,j,k] c (W.setCell (jx (w.heap.size+1) 3) x):=Tri.set h 3 x
theorem Tri.set4{w W:World}{t:TypeId}{a c:Array Value}{b d f g l i j k:Value}(h:Tri w t a #[b,d,f,g,l,i,j,k] c W)(x:Value):Tri w t a #[b,d,f,g,x,i,j,k] c (W.setCell (jx (w.heap.size+1) 4) x):=Tri.set h 4 x
theorem Tri.set5{w W:World}{t:TypeId}{a c:Array Value}{b d f g i l j k:Value}(h:Tri w t a #[b,d,f,g,i,l,j,k] c W)(x:Value):Tri w t a #[b,d,f,g,i,x,j,k] c (W.setCell (jx (w.heap.size+1) 5) x):=Tri.set h 5 x
theorem Tri.set6{w W:World}{t:TypeId}{a c:Array Value}{b d f g i j l k:Value}(h:Tri w t a #[b,d,f,g,i,j,l,k] c W)(x:Value):Tri w t a #[b,d,f,g,i,j,x,k] c (W.setCell (jx (w.heap.size+1) 6) x):=Tri.set h 6 x
theorem Tri.set7{w W:World}{t:TypeId}{a c:Array Value}{b d f g i j k l:Value}(h:Tri w t a #[b,d,f,g,i,j,k,l] c W)(x:Value):Tri w t a #[b,d,f,g,i,j,k,x] c (W.setCell (jx (w.heap.size+1) 7) x):=Tri.set h 7 x
theorem Tri.base{w W:World}{t:TypeId}{b c:Array Value}{a d f g j k l m:Value}(h:Tri w t #[a,d,f,g,j,k,l,m] b c W):W.cell? (jx w.heap.size 0)=some a/\W.cell? (jx w.heap.size 1)=some d/\W.cell? (jx w.heap.size 2)=some f/\W.cell? (jx w.heap.size 3)=some g/\W.cell? (jx w.heap.size 4)=some j/\W.cell? (jx w.heap.size 5)=some k/\W.cell? (jx w.heap.size 6)=some l/\W.cell? (jx w.heap.size 7)=some m/\∀i,W.frozen? (jx w.heap.size i)=false:=⟨aDf h.2.1 0,aDf h.2.1 1,aDf h.2.1 2,aDf h.2.1 3,aDf h.2.1 4,aDf h.2.1 5,aDf h.2.1 6,aDf h.2.1 7,aDh h.2.1⟩
theorem Tri.cells{w W:World}{t:TypeId}{a c:Array Value}{b d f g j k l m:Value}(h:Tri w t a #[b,d,f,g,j,k,l,m] c W):W.cell? (jx (w.heap.size+1) 0)=some b/\W.cell? (jx (w.heap.size+1) 1)=some d/\W.cell? (jx (w.heap.size+1) 2)=some f/\W.cell? (jx (w.heap.size+1) 3)=some g/\W.cell? (jx (w.heap.size+1) 4)=some j/\W.cell? (jx (w.heap.size+1) 5)=some k/\W.cell? (jx (w.heap.size+1) 6)=some l/\W.cell? (jx (w.heap.size+1) 7)=some m/\∀i,W.frozen? (jx (w.heap.size+1) i)=false:=⟨aDf h.2.2.1 0,aDf h.2.2.1 1,aDf h.2.2.1 2,aDf h.2.2.1 3,aDf h.2.2.1 4,aDf h.2.2.1 5,aDf h.2.2.1 6,aDf h.2.2.1 7,aDh h.2.2.1⟩
theorem Tri.res{w W:World}{t:TypeId}{a b:Array Value}{c d f g j k l m:Value}(h:Tri w t a b #[c,d,f,g,j,k,l,m] W):W.cell? (jx (w.heap.size+1+1) 0)=some c/\W.cell? (jx (w.heap.size+1+1) 1)=some d/\W.cell? (jx (w.heap.size+1+1) 2)=some f/\W.cell? (jx (w.heap.size+1+1) 3)=some g/\W.cell? (jx (w.heap.size+1+1) 4)=some j/\W.cell? (jx (w.heap.size+1+1) 5)=some k/\W.cell? (jx (w.heap.size+1+1) 6)=some l/\W.cell? (jx (w.heap.size+1+1) 7)=some m/\∀i,W.frozen? (jx (w.heap.size+1+1) i)=false:=⟨aDf h.2.2.2 0,aDf h.2.2.2 1,aDf h.2.2.2 2,aDf h.2.2.2 3,aDf h.2.2.2 4,aDf h.2.2.2 5,aDf h.2.2.2 6,aDf h.2.2.2 7,aDh h.2.2.2⟩
theorem aJP(n j l m i x r s t q:jA)(b c a f g d:Bool)(p:Nat)(D:p≠0)(w:World)
  (z:Hid (∀W,Calls prog 94 #[.agg (jU n b j l c m a i)] W λe w'=>e=.returned (.int .i64 (p:Int))/\jb W w')):
  Calls prog 51 #[.agg (jU n b j l c m a i),.agg (jU x f r s g t d q)] w λe w'=>e=.returned (.tuple #[.agg jZ,.int .i64 (p:Int)])/\jb w w':=by
 have C:((p:Int)==0)=false:=by rw[jg];omega
 go_enter func51,ntmps51
 go_wp2
 go_loopw[13] (λiv wr=>∃k:Nat,k<=0/\iv=.int .i64 k/\Tri w 85 (jU n b j l c m a i) (jU x f r s g t d q) jZ wr) (λiv _=>2-(intOf iv).toNat)
 case atStart=>exact⟨0,jy _,rfl,aTm _ _ _ _ _⟩
 case round=>
  obtain⟨k,E,rfl,A⟩:=hrel
  obtain rfl:k=0:=by omega
  have B:∀W:World,(Instr.index 86 (.agg #[.string n,.bool b,.string j,.string l,.bool c,.string m,.bool a,.string i,.string x,.bool f,.string r,.string s,.bool g,.string t,.bool d,.string q]) (.int .i64 0)).run prog W=.ok (.agg (jU n b j l c m a i)) W:=λW=>by kernel_rfl
  go_wp2_with fail
  refine(z.out _).mono ?_
  rintro e P ⟨rfl,o⟩
  have y:=(A.alloc _).below o
  clear o
  obtain⟨F,G,H,I,J,L,M,N,O⟩:=y.res
  go_wp2
  refine jt (v:=.tuple #[.agg jZ,.int .i64 (p:Int)]) ?_ rfl ⟨rfl,?_⟩
  ·rw[jq rfl]
   go_simp
  ·exact(j8 y.1 (aJF _))
theorem aJS(o l m n j t q r s p:jA)(b c a f g d:Bool)(x:Nat)(E:x≠0)(w:World)
  (B:Hid (∀W,Calls prog 94 #[.agg (jU o b l m c n a j)] W λe w'=>e=.returned (.int .i64 0)/\jb W w'))
  (C:Hid (∀W,Calls prog 94 #[.agg (jU t f q r g s d p)] W λe w'=>e=.returned (.int .i64 (x:Int))/\jb W w')):
  Calls prog 51 #[.agg (jU o b l m c n a j),.agg (jU t f q r g s d p)] w λe w'=>e=.returned (.tuple #[.agg jZ,.int .i64 (x:Int)])/\jb w w':=by
 have D:((x:Int)==0)=false:=by rw[jg];omega
 go_enter func51,ntmps51
 go_wp2
 go_loopw[13] (λiv wr=>∃k:Nat,k<=1/\iv=.int .i64 k/\Tri w 85 (jU o b l m c n a j) (jU t f q r g s d p) jZ wr) (λiv _=>2-(intOf iv).toNat)
 case atStart=>exact⟨0,jy _,rfl,aTm _ _ _ _ _⟩
 case round=>
  obtain⟨k,G,rfl,A⟩:=hrel
  rcases (show k=0\/k=1 by omega)with rfl|rfl
  ·have z:∀W:World,(Instr.index 86 (.agg #[.string o,.bool b,.string l,.string m,.bool c,.string n,.bool a,.string j,.string t,.bool f,.string q,.string r,.bool g,.string s,.bool d,.string p]) (.int .i64 0)).run prog W=.ok (.agg (jU o b l m c n a j)) W:=λW=>by kernel_rfl
   go_wp2_with fail
   refine(B.out _).mono ?_
   rintro e F ⟨rfl,i⟩
   have y:=(A.alloc _).below i
   clear i
   go_wp2_with fail
   go_roundw
   case rel=>exact⟨1,by omega,by go_num,y⟩
   case measure=>simp[intOf]
  ·have z:∀W:World,(Instr.index 86 (.agg #[.string o,.bool b,.string l,.string m,.bool c,.string n,.bool a,.string j,.string t,.bool f,.string q,.string r,.bool g,.string s,.bool d,.string p]) (.int .i64 1)).run prog W=.ok (.agg (jU t f q r g s d p)) W:=λW=>by kernel_rfl
   go_wp2_with fail
   refine(C.out _).mono ?_
   rintro e F ⟨rfl,i⟩
   have y:=(A.alloc _).below i
   clear i
   obtain⟨H,I,J,L,M,N,O,P,R⟩:=y.res
   go_wp2
   refine jt (v:=.tuple #[.agg jZ,.int .i64 (x:Int)]) ?_ rfl ⟨rfl,?_⟩
   ·rw[jq rfl]
    go_simp
   ·exact(j8 y.1 (aJF _))
theorem aJO(m n o l t q r s p:jA)(b c a f g d:Bool)(w:World)
  (z:Hid (∀W,Calls prog 94 #[.agg (jU jz b m n c o a l)] W λe w'=>e=.returned (.int .i64 0)/\jb W w'))
  (A:Hid (∀W,Calls prog 94 #[.agg (jU t f q r g s d p)] W λe w'=>e=.returned (.int .i64 0)/\jb W w')):
  Calls prog 51 #[.agg (jU jz b m n c o a l),.agg (jU t f q r g s d p)] w λe w'=>e=.returned (.tuple #[.agg jZ,.int .i64 4])/\jb w w':=by
 go_enter func51,ntmps51
 go_wp2
 go_loopw[13] (λiv wr=>∃k:Nat,k<=2/\iv=.int .i64 k/\Tri w 85 (jU jz b m n c o a l) (jU t f q r g s d p) jZ wr) (λiv _=>2-(intOf iv).toNat)
 case atStart=>exact⟨0,jy _,rfl,aTm _ _ _ _ _⟩
 case round=>
  obtain⟨k,O,rfl,j⟩:=hrel
  rcases (show k=0\/k=1\/k=2 by omega)with rfl|rfl|rfl
  ·have y:∀W:World,(Instr.index 86 (.agg #[.string jz,.bool b,.string m,.string n,.bool c,.string o,.bool a,.string l,.string t,.bool f,.string q,.string r,.bool g,.string s,.bool d,.string p]) (.int .i64 0)).run prog W=.ok (.agg (jU jz b m n c o a l)) W:=λW=>by kernel_rfl
   go_wp2_with fail
   refine(z.out _).mono ?_
   rintro e B ⟨rfl,i⟩
   have x:=(j.alloc _).below i
   clear i
   go_wp2_with fail
   go_roundw
   case rel=>exact⟨1,by omega,by go_num,x⟩
   case measure=>simp[intOf]
  ·have y:∀W:World,(Instr.index 86 (.agg #[.string jz,.bool b,.string m,.string n,.bool c,.string o,.bool a,.string l,.string t,.bool f,.string q,.string r,.bool g,.string s,.bool d,.string p]) (.int .i64 1)).run prog W=.ok (.agg (jU t f q r g s d p)) W:=λW=>by kernel_rfl
   go_wp2_with fail
   refine(A.out _).mono ?_
   rintro e B ⟨rfl,i⟩
   have x:=(j.alloc _).below i
   clear i
   go_wp2_with fail
   go_roundw
   case rel=>exact⟨2,by omega,by go_num,x⟩
   case measure=>simp[intOf]
  ·clear z A
   obtain⟨C,D,E,F,G,H,I,J,L⟩:=j.base
   obtain⟨c0,c1,c2,c3,c4,c5,c6,M,N⟩:=j.cells
   obtain⟨P,R,S,T,U,V,X,Y,Z⟩:=j.res
   go_wp2
   refine jt (v:=.tuple #[.agg jZ,.int .i64 4]) ?_ rfl ⟨rfl,?_⟩
   ·rw[jq rfl]
    go_simp
   ·exact(j8 j.1 (aJF _))
theorem aJL(o s t x r g l q m j y:jA)(d f c b a:Bool)(D:o.data.toList≠[])(E:g.data.toList≠[])(L:Bool)(n:Nat)(w:World)
  (J:Hid (∀W,Calls prog 94 #[.agg (jU o d s t f x c r)] W λe w'=>e=.returned (.int .i64 0)/\jb W w'))
  (O:Hid (∀W,Calls prog 94 #[.agg (jU g true l q b m a j)] W λe w'=>e=.returned (.int .i64 0)/\jb W w'))
  (M:Hid (∀W,jb w W->Calls prog 96 #[.string q] W λe w'=>e=.returned (.string y)/\jb W w'))
  (N:Hid (∀W,Calls prog 97 #[.agg (jU g true l y b m a j)] W λe w'=>e=.returned (.bool L)/\jb W w'))
  (G:Hid (∀W,Calls prog 94 #[.agg (jU g true l y b m a j)] W λe w'=>e=.returned (.int .i64 (n:Int))/\jb W w')):
  Calls prog 51 #[.agg (jU o d s t f x c r),.agg (jU g true l q b m a j)] w λe w'=>e=.returned (.tuple #[if L=true then .agg jZ else if n=0 then .agg (jU g true l y b m a j)else .agg jZ,.int .i64 (if L=true then 4 else(n:Int))])/\jb w w':=by
 have aa:=aC0 o D
 have ac:=aC0 g E
 clear D
 clear E
 go_enter func51,ntmps51
 go_wp2
 go_loopw[13] (λiv wr=>∃k:Nat,k<=2/\iv=.int .i64 k/\Tri w 85 (jU o d s t f x c r) (jU g true l q b m a j) jZ wr) (λiv _=>2-(intOf iv).toNat)
 case atStart=>exact⟨0,jy _,rfl,aTm _ _ _ _ _⟩
 case round=>
  obtain⟨k,hk,rfl,p⟩:=hrel
  rcases (show k=0\/k=1\/k=2 by omega)with rfl|rfl|rfl
  ·have I:∀W:World,(Instr.index 86 (.agg #[.string o,.bool d,.string s,.string t,.bool f,.string x,.bool c,.string r,.string g,.bool true,.string l,.string q,.bool b,.string m,.bool a,.string j]) (.int .i64 0)).run prog W=.ok (.agg (jU o d s t f x c r)) W:=λW=>by kernel_rfl
   go_wp2_with fail
   refine(J.out _).mono ?_
   rintro e w1 ⟨rfl,i⟩
   have H:=(p.alloc _).below i
   clear i
   go_wp2_with fail
   go_roundw
   case rel=>exact⟨1,by omega,by go_num,H⟩
   case measure=>simp[intOf]
  ·have I:∀W:World,(Instr.index 86 (.agg #[.string o,.bool d,.string s,.string t,.bool f,.string x,.bool c,.string r,.string g,.bool true,.string l,.string q,.bool b,.string m,.bool a,.string j]) (.int .i64 1)).run prog W=.ok (.agg (jU g true l q b m a j)) W:=λW=>by kernel_rfl
   go_wp2_with fail
   refine(O.out _).mono ?_
   rintro e w1 ⟨rfl,i⟩
   have H:=(p.alloc _).below i
   clear i
   go_wp2_with fail
   go_roundw
   case rel=>exact⟨2,by omega,by go_num,H⟩
   case measure=>simp[intOf]
  ·clear J O
   obtain⟨a0,a1,a2,a3,a4,a5,a6,a7,af⟩:=p.base
   obtain⟨c0,c1,c2,c3,c4,c5,c6,c7,cf⟩:=p.cells
   go_wp2_with fail
   refine(M.out _ p.1).mono ?_
   rintro e w4 ⟨rfl,A⟩
   have P:=p.below A
   clear M A p
   clear c0 c1 c2 c3 c4 c5 c6 c7 cf
   obtain⟨e0,e1,e2,e3,e4,e5,e6,e7,ef⟩:=P.cells
   have R:=P.set3 (.string y)
   go_wp2_with fail
   refine(N.out _).mono ?_
   rintro e w6 ⟨rfl,B⟩
   have z:=R.below B
   clear N B R
   clear e0 e1 e2 e3 e4 e5 e6 e7 ef
   obtain⟨g0,g1,g2,g3,g4,g5,g6,g7,gf⟩:=z.cells
   obtain⟨T,U,V,X,Y,Z,r6,r7,rf⟩:=z.res
   cases L with
   |true=>
    clear G
    go_wp2
    refine jt (v:=.tuple #[.agg jZ,.int .i64 4]) ?_ rfl ⟨rfl,?_⟩
    ·rw[jq rfl]
     go_simp
    ·exact(j8 z.1 (aJF _))
   |false=>
    go_wp2_with fail
    refine(G.out _).mono ?_
    rintro e w7 ⟨rfl,C⟩
    have F:=z.below C
    clear G C z
    clear g0 g1 g2 g3 g4 g5 g6 g7 gf
    clear T U V X Y Z r6 r7 rf
    obtain⟨z0,z1,z2,z3,z4,z5,z6,z7,zf⟩:=F.cells
    obtain⟨T,U,V,X,Y,Z,r6,r7,rf⟩:=F.res
    by_cases S:n=0
    ·subst S
     go_wp2
     refine jt (v:=.tuple #[.agg (jU g true l y b m a j),.int .i64 0]) ?_ rfl ⟨rfl,?_⟩
     ·rw[jq rfl]
      go_simp
     ·exact(j8 F.1 (aJF _))
    ·have ab:((n:Int)==0)=false:=by rw[jg];omega
     go_wp2
     refine jt (v:=.tuple #[.agg jZ,.int .i64 (n:Int)]) ?_ rfl ⟨by first|rfl|simp[S],?_⟩
     ·rw[jq rfl]
      go_simp
     ·exact(j8 F.1 (aJF _))
theorem aJN(o s t x r g l p m j y:jA)(d f c b a:Bool)(D:o.data.toList≠[])(E:g.data.toList≠[])(L:Bool)(n:Nat)(w:World)
  (N:Hid (∀W,Calls prog 94 #[.agg (jU o d s t f x c r)] W λe w'=>e=.returned (.int .i64 0)/\jb W w'))
  (S:Hid (∀W,Calls prog 94 #[.agg (jU g false l p b m a j)] W λe w'=>e=.returned (.int .i64 0)/\jb W w'))
  (R:Hid (∀W,Calls prog 59 #[.string p,.string ⟨#[47]⟩] W λe w'=>e=.returned (.bool true)/\w'=W))
  (O:Hid (∀W,jb w W->Calls prog 96 #[.string p] W λe w'=>e=.returned (.string y)/\jb W w'))
  (P:Hid (∀W,Calls prog 97 #[.agg (jU g false l y b m a j)] W λe w'=>e=.returned (.bool L)/\jb W w'))
  (H:Hid (∀W,Calls prog 94 #[.agg (jU g false l y b m a j)] W λe w'=>e=.returned (.int .i64 (n:Int))/\jb W w')):
  Calls prog 51 #[.agg (jU o d s t f x c r),.agg (jU g false l p b m a j)] w λe w'=>e=.returned (.tuple #[if L=true then .agg jZ else if n=0 then .agg (jU g false l y b m a j)else .agg jZ,.int .i64 (if L=true then 4 else(n:Int))])/\jb w w':=by
 have aa:=aC0 o D
 have ac:=aC0 g E
 clear D
 clear E
 go_enter func51,ntmps51
 go_wp2
 go_loopw[13] (λiv wr=>∃k:Nat,k<=2/\iv=.int .i64 k/\Tri w 85 (jU o d s t f x c r) (jU g false l p b m a j) jZ wr) (λiv _=>2-(intOf iv).toNat)
 case atStart=>exact⟨0,jy _,rfl,aTm _ _ _ _ _⟩
 case round=>
  obtain⟨k,hk,rfl,q⟩:=hrel
  rcases (show k=0\/k=1\/k=2 by omega)with rfl|rfl|rfl
  ·have J:∀W:World,(Instr.index 86 (.agg #[.string o,.bool d,.string s,.string t,.bool f,.string x,.bool c,.string r,.string g,.bool false,.string l,.string p,.bool b,.string m,.bool a,.string j]) (.int .i64 0)).run prog W=.ok (.agg (jU o d s t f x c r)) W:=λW=>by kernel_rfl
   go_wp2_with fail
   refine(N.out _).mono ?_
   rintro e w1 ⟨rfl,i⟩
   have I:=(q.alloc _).below i
   clear i
   go_wp2_with fail
   go_roundw
   case rel=>exact⟨1,by omega,by go_num,I⟩
   case measure=>simp[intOf]
  ·have J:∀W:World,(Instr.index 86 (.agg #[.string o,.bool d,.string s,.string t,.bool f,.string x,.bool c,.string r,.string g,.bool false,.string l,.string p,.bool b,.string m,.bool a,.string j]) (.int .i64 1)).run prog W=.ok (.agg (jU g false l p b m a j)) W:=λW=>by kernel_rfl
   go_wp2_with fail
   refine(S.out _).mono ?_
   rintro e w1 ⟨rfl,i⟩
   have I:=(q.alloc _).below i
   clear i
   go_wp2_with fail
   go_roundw
   case rel=>exact⟨2,by omega,by go_num,I⟩
   case measure=>simp[intOf]
  ·clear N S
   obtain⟨a0,a1,a2,a3,a4,a5,a6,a7,af⟩:=q.base
   obtain⟨c0,c1,c2,c3,c4,c5,c6,c7,cf⟩:=q.cells
   go_wp2_with fail
   refine(R.out _).mono ?_
   rintro e w' ⟨rfl,M⟩
   have F:=M.symm
   subst F
   clear R
   go_wp2_with fail
   refine(O.out _ q.1).mono ?_
   rintro e w4 ⟨rfl,A⟩
   have T:=q.below A
   clear O A q
   clear c0 c1 c2 c3 c4 c5 c6 c7 cf
   obtain⟨e0,e1,e2,e3,e4,e5,e6,e7,ef⟩:=T.cells
   have U:=T.set3 (.string y)
   go_wp2_with fail
   refine(P.out _).mono ?_
   rintro e w6 ⟨rfl,B⟩
   have z:=U.below B
   clear P B U
   clear e0 e1 e2 e3 e4 e5 e6 e7 ef
   obtain⟨g0,g1,g2,g3,g4,g5,g6,g7,gf⟩:=z.cells
   obtain⟨X,Y,Z,r3,r4,r5,r6,r7,rf⟩:=z.res
   cases L with
   |true=>
    clear H
    go_wp2
    refine jt (v:=.tuple #[.agg jZ,.int .i64 4]) ?_ rfl ⟨rfl,?_⟩
    ·rw[jq rfl]
     go_simp
    ·exact(j8 z.1 (aJF _))
   |false=>
    go_wp2_with fail
    refine(H.out _).mono ?_
    rintro e w7 ⟨rfl,C⟩
    have G:=z.below C
    clear H C z
    clear g0 g1 g2 g3 g4 g5 g6 g7 gf
    clear X Y Z r3 r4 r5 r6 r7 rf
    obtain⟨z0,z1,z2,z3,z4,z5,z6,z7,zf⟩:=G.cells
    obtain⟨X,Y,Z,r3,r4,r5,r6,r7,rf⟩:=G.res
    by_cases V:n=0
    ·subst V
     go_wp2
     refine jt (v:=.tuple #[.agg (jU g false l y b m a j),.int .i64 0]) ?_ rfl ⟨rfl,?_⟩
     ·rw[jq rfl]
      go_simp
     ·exact(j8 G.1 (aJF _))
    ·have ab:((n:Int)==0)=false:=by rw[jg];omega
     go_wp2
     refine jt (v:=.tuple #[.agg jZ,.int .i64 (n:Int)]) ?_ rfl ⟨by first|rfl|simp[V],?_⟩
     ·rw[jq rfl]
      go_simp
     ·exact(j8 G.1 (aJF _))
theorem aJM(p s t x r g m j o l:jA)(d f c b a:Bool)(B:p.data.toList≠[])(C:g.data.toList≠[])(L:Bool)(n:Nat)(w:World)
  (J:Hid (∀W,Calls prog 94 #[.agg (jU p d s t f x c r)] W λe w'=>e=.returned (.int .i64 0)/\jb W w'))
  (O:Hid (∀W,Calls prog 94 #[.agg (jU g false m j b o a l)] W λe w'=>e=.returned (.int .i64 0)/\jb W w'))
  (N:Hid (∀W,Calls prog 59 #[.string j,.string ⟨#[47]⟩] W λe w'=>e=.returned (.bool false)/\w'=W))
  (M:Hid (∀W,Calls prog 97 #[.agg (jU g false m j b o a l)] W λe w'=>e=.returned (.bool L)/\jb W w'))
  (F:Hid (∀W,Calls prog 94 #[.agg (jU g false m j b o a l)] W λe w'=>e=.returned (.int .i64 (n:Int))/\jb W w')):
  Calls prog 51 #[.agg (jU p d s t f x c r),.agg (jU g false m j b o a l)] w λe w'=>e=.returned (.tuple #[if L=true then .agg jZ else if n=0 then .agg (jU g false m j b o a l)else .agg jZ,.int .i64 (if L=true then 4 else(n:Int))])/\jb w w':=by
 have aa:=aC0 p B
 have ac:=aC0 g C
 clear B
 clear C
 go_enter func51,ntmps51
 go_wp2
 go_loopw[13] (λiv wr=>∃k:Nat,k<=2/\iv=.int .i64 k/\Tri w 85 (jU p d s t f x c r) (jU g false m j b o a l) jZ wr) (λiv _=>2-(intOf iv).toNat)
 case atStart=>exact⟨0,jy _,rfl,aTm _ _ _ _ _⟩
 case round=>
  obtain⟨k,hk,rfl,q⟩:=hrel
  rcases (show k=0\/k=1\/k=2 by omega)with rfl|rfl|rfl
  ·have H:∀W:World,(Instr.index 86 (.agg #[.string p,.bool d,.string s,.string t,.bool f,.string x,.bool c,.string r,.string g,.bool false,.string m,.string j,.bool b,.string o,.bool a,.string l]) (.int .i64 0)).run prog W=.ok (.agg (jU p d s t f x c r)) W:=λW=>by kernel_rfl
   go_wp2_with fail
   refine(J.out _).mono ?_
   rintro e w1 ⟨rfl,i⟩
   have G:=(q.alloc _).below i
   clear i
   go_wp2_with fail
   go_roundw
   case rel=>exact⟨1,by omega,by go_num,G⟩
   case measure=>simp[intOf]
  ·have H:∀W:World,(Instr.index 86 (.agg #[.string p,.bool d,.string s,.string t,.bool f,.string x,.bool c,.string r,.string g,.bool false,.string m,.string j,.bool b,.string o,.bool a,.string l]) (.int .i64 1)).run prog W=.ok (.agg (jU g false m j b o a l)) W:=λW=>by kernel_rfl
   go_wp2_with fail
   refine(O.out _).mono ?_
   rintro e w1 ⟨rfl,i⟩
   have G:=(q.alloc _).below i
   clear i
   go_wp2_with fail
   go_roundw
   case rel=>exact⟨2,by omega,by go_num,G⟩
   case measure=>simp[intOf]
  ·clear J O
   obtain⟨a0,a1,a2,a3,a4,a5,a6,a7,af⟩:=q.base
   obtain⟨c0,c1,c2,c3,c4,c5,c6,c7,cf⟩:=q.cells
   go_wp2_with fail
   refine(N.out _).mono ?_
   rintro e w' ⟨rfl,I⟩
   have D:=I.symm
   subst D
   clear N
   go_wp2_with fail
   refine(M.out _).mono ?_
   rintro e w6 ⟨rfl,z⟩
   have y:=q.below z
   clear M z q
   clear c0 c1 c2 c3 c4 c5 c6 c7 cf
   obtain⟨g0,g1,g2,g3,g4,g5,g6,g7,gf⟩:=y.cells
   obtain⟨R,S,T,U,V,X,Y,Z,rf⟩:=y.res
   cases L with
   |true=>
    clear F
    go_wp2
    refine jt (v:=.tuple #[.agg jZ,.int .i64 4]) ?_ rfl ⟨rfl,?_⟩
    ·rw[jq rfl]
     go_simp
    ·exact(j8 y.1 (aJF _))
   |false=>
    go_wp2_with fail
    refine(F.out _).mono ?_
    rintro e w7 ⟨rfl,A⟩
    have E:=y.below A
    clear F A y
    clear g0 g1 g2 g3 g4 g5 g6 g7 gf
    clear R S T U V X Y Z rf
    obtain⟨z0,z1,z2,z3,z4,z5,z6,z7,zf⟩:=E.cells
    obtain⟨R,S,T,U,V,X,Y,Z,rf⟩:=E.res
    by_cases P:n=0
    ·subst P
     go_wp2
     refine jt (v:=.tuple #[.agg (jU g false m j b o a l),.int .i64 0]) ?_ rfl ⟨rfl,?_⟩
     ·rw[jq rfl]
      go_simp
     ·exact(j8 E.1 (aJF _))
    ·have ab:((n:Int)==0)=false:=by rw[jg];omega
     go_wp2
     refine jt (v:=.tuple #[.agg jZ,.int .i64 (n:Int)]) ?_ rfl ⟨by first|rfl|simp[P],?_⟩
     ·rw[jq rfl]
      go_simp
     ·exact(j8 E.1 (aJF _))
theorem aJI(m p q r o t x y s D A S C f1 B:jA)(b c a f g d j i:Bool)(J:m.data.toList≠[])(L:Bool)(n:Nat)(w:World)
  (T:Hid (∀W,Calls prog 94 #[.agg (jU m b p q c r a o)] W λe w'=>e=.returned (.int .i64 0)/\jb W w'))
  (Y:Hid (∀W,Calls prog 94 #[.agg (jU jz f t x g y d s)] W λe w'=>e=.returned (.int .i64 0)/\jb W w'))
  (U:Hid (∀W,Calls prog 95 #[.agg (jU m b p q c r a o),.agg (jU jz f t x g y d s)] W λe w'=>e=.returned (.agg (jU D true A S j C i f1))/\jb W w'))
  (V:Hid (∀W,jb w W->Calls prog 96 #[.string S] W λe w'=>e=.returned (.string B)/\jb W w'))
  (X:Hid (∀W,Calls prog 97 #[.agg (jU D true A B j C i f1)] W λe w'=>e=.returned (.bool L)/\jb W w'))
  (N:Hid (∀W,Calls prog 94 #[.agg (jU D true A B j C i f1)] W λe w'=>e=.returned (.int .i64 (n:Int))/\jb W w')):
  Calls prog 51 #[.agg (jU m b p q c r a o),.agg (jU jz f t x g y d s)] w λe w'=>e=.returned (.tuple #[if L=true then .agg jZ else if n=0 then .agg (jU D true A B j C i f1)else .agg jZ,.int .i64 (if L=true then 4 else(n:Int))])/\jb w w':=by
 have aa:=aC0 m J
 clear J
 go_enter func51,ntmps51
 go_wp2
 go_loopw[13] (λiv wr=>∃k:Nat,k<=2/\iv=.int .i64 k/\Tri w 85 (jU m b p q c r a o) (jU jz f t x g y d s) jZ wr) (λiv _=>2-(intOf iv).toNat)
 case atStart=>exact⟨0,jy _,rfl,aTm _ _ _ _ _⟩
 case round=>
  obtain⟨k,hk,rfl,z⟩:=hrel
  rcases (show k=0\/k=1\/k=2 by omega)with rfl|rfl|rfl
  ·have R:∀W:World,(Instr.index 86 (.agg #[.string m,.bool b,.string p,.string q,.bool c,.string r,.bool a,.string o,.string jz,.bool f,.string t,.string x,.bool g,.string y,.bool d,.string s]) (.int .i64 0)).run prog W=.ok (.agg (jU m b p q c r a o)) W:=λW=>by kernel_rfl
   go_wp2_with fail
   refine(T.out _).mono ?_
   rintro e w1 ⟨rfl,l⟩
   have O:=(z.alloc _).below l
   clear l
   go_wp2_with fail
   go_roundw
   case rel=>exact⟨1,by omega,by go_num,O⟩
   case measure=>simp[intOf]
  ·have R:∀W:World,(Instr.index 86 (.agg #[.string m,.bool b,.string p,.string q,.bool c,.string r,.bool a,.string o,.string jz,.bool f,.string t,.string x,.bool g,.string y,.bool d,.string s]) (.int .i64 1)).run prog W=.ok (.agg (jU jz f t x g y d s)) W:=λW=>by kernel_rfl
   go_wp2_with fail
   refine(Y.out _).mono ?_
   rintro e w1 ⟨rfl,l⟩
   have O:=(z.alloc _).below l
   clear l
   go_wp2_with fail
   go_roundw
   case rel=>exact⟨2,by omega,by go_num,O⟩
   case measure=>simp[intOf]
  ·clear T Y
   obtain⟨a0,a1,a2,a3,a4,a5,a6,a7,af⟩:=z.base
   obtain⟨c0,c1,c2,c3,c4,c5,c6,c7,cf⟩:=z.cells
   go_wp2_with fail
   refine(U.out _).mono ?_
   rintro e w2 ⟨rfl,F⟩
   have Z:=z.below F
   clear U F z
   clear a0 a1 a2 a3 a4 a5 a6 a7 af
   clear c0 c1 c2 c3 c4 c5 c6 c7 cf
   obtain⟨d0,d1,d2,d3,d4,d5,d6,d7,df⟩:=Z.cells
   have P:=(((((((Z.set0 (.string D)).set1 (.bool true)).set2 (.string A)).set3 (.string S)).set4 (.bool j)).set5 (.string C)).set6 (.bool i)).set7 (.string f1)
   go_wp2_with fail
   refine(V.out _ P.1).mono ?_
   rintro e w4 ⟨rfl,G⟩
   have P4:=P.below G
   clear V G P
   clear d0 d1 d2 d3 d4 d5 d6 d7 df
   obtain⟨e0,e1,e2,e3,e4,e5,e6,e7,ef⟩:=P4.cells
   have P5:=P4.set3 (.string B)
   go_wp2_with fail
   refine(X.out _).mono ?_
   rintro e w6 ⟨rfl,H⟩
   have E:=P5.below H
   clear X H P5
   clear e0 e1 e2 e3 e4 e5 e6 e7 ef
   obtain⟨g0,g1,g2,g3,g4,g5,g6,g7,gf⟩:=E.cells
   obtain⟨r0,r1,r2,r3,r4,r5,r6,r7,rf⟩:=E.res
   cases L with
   |true=>
    clear N
    go_wp2
    refine jt (v:=.tuple #[.agg jZ,.int .i64 4]) ?_ rfl ⟨rfl,?_⟩
    ·rw[jq rfl]
     go_simp
    ·exact(j8 E.1 (aJF _))
   |false=>
    go_wp2_with fail
    refine(N.out _).mono ?_
    rintro e w7 ⟨rfl,I⟩
    have M:=E.below I
    clear N I E
    clear g0 g1 g2 g3 g4 g5 g6 g7 gf
    clear r0 r1 r2 r3 r4 r5 r6 r7 rf
    obtain⟨z0,z1,z2,z3,z4,z5,z6,z7,zf⟩:=M.cells
    obtain⟨r0,r1,r2,r3,r4,r5,r6,r7,rf⟩:=M.res
    by_cases h0:n=0
    ·subst h0
     go_wp2
     refine jt (v:=.tuple #[.agg (jU D true A B j C i f1),.int .i64 0]) ?_ rfl ⟨rfl,?_⟩
     ·rw[jq rfl]
      go_simp
     ·exact(j8 M.1 (aJF _))
    ·have ab:((n:Int)==0)=false:=by rw[jg];omega
     go_wp2
     refine jt (v:=.tuple #[.agg jZ,.int .i64 (n:Int)]) ?_ rfl ⟨by first|rfl|simp[h0],?_⟩
     ·rw[jq rfl]
      go_simp
     ·exact(j8 M.1 (aJF _))
theorem aJK(m p q r o t x y s D A O C f1 B:jA)(b c a f g d j i:Bool)(J:m.data.toList≠[])(L:Bool)(n:Nat)(w:World)
  (V:Hid (∀W,Calls prog 94 #[.agg (jU m b p q c r a o)] W λe w'=>e=.returned (.int .i64 0)/\jb W w'))
  (CU:Hid (∀W,Calls prog 94 #[.agg (jU jz f t x g y d s)] W λe w'=>e=.returned (.int .i64 0)/\jb W w'))
  (X:Hid (∀W,Calls prog 95 #[.agg (jU m b p q c r a o),.agg (jU jz f t x g y d s)] W λe w'=>e=.returned (.agg (jU D false A O j C i f1))/\jb W w'))
  (CP:Hid (∀W,Calls prog 59 #[.string O,.string ⟨#[47]⟩] W λe w'=>e=.returned (.bool true)/\w'=W))
  (Y:Hid (∀W,jb w W->Calls prog 96 #[.string O] W λe w'=>e=.returned (.string B)/\jb W w'))
  (Z:Hid (∀W,Calls prog 97 #[.agg (jU D false A B j C i f1)] W λe w'=>e=.returned (.bool L)/\jb W w'))
  (P:Hid (∀W,Calls prog 94 #[.agg (jU D false A B j C i f1)] W λe w'=>e=.returned (.int .i64 (n:Int))/\jb W w')):
  Calls prog 51 #[.agg (jU m b p q c r a o),.agg (jU jz f t x g y d s)] w λe w'=>e=.returned (.tuple #[if L=true then .agg jZ else if n=0 then .agg (jU D false A B j C i f1)else .agg jZ,.int .i64 (if L=true then 4 else(n:Int))])/\jb w w':=by
 have aa:=aC0 m J
 clear J
 go_enter func51,ntmps51
 go_wp2
 go_loopw[13] (λiv wr=>∃k:Nat,k<=2/\iv=.int .i64 k/\Tri w 85 (jU m b p q c r a o) (jU jz f t x g y d s) jZ wr) (λiv _=>2-(intOf iv).toNat)
 case atStart=>exact⟨0,jy _,rfl,aTm _ _ _ _ _⟩
 case round=>
  obtain⟨k,hk,rfl,z⟩:=hrel
  rcases (show k=0\/k=1\/k=2 by omega)with rfl|rfl|rfl
  ·have T:∀W:World,(Instr.index 86 (.agg #[.string m,.bool b,.string p,.string q,.bool c,.string r,.bool a,.string o,.string jz,.bool f,.string t,.string x,.bool g,.string y,.bool d,.string s]) (.int .i64 0)).run prog W=.ok (.agg (jU m b p q c r a o)) W:=λW=>by kernel_rfl
   go_wp2_with fail
   refine(V.out _).mono ?_
   rintro e w1 ⟨rfl,l⟩
   have R:=(z.alloc _).below l
   clear l
   go_wp2_with fail
   go_roundw
   case rel=>exact⟨1,by omega,by go_num,R⟩
   case measure=>simp[intOf]
  ·have T:∀W:World,(Instr.index 86 (.agg #[.string m,.bool b,.string p,.string q,.bool c,.string r,.bool a,.string o,.string jz,.bool f,.string t,.string x,.bool g,.string y,.bool d,.string s]) (.int .i64 1)).run prog W=.ok (.agg (jU jz f t x g y d s)) W:=λW=>by kernel_rfl
   go_wp2_with fail
   refine(CU.out _).mono ?_
   rintro e w1 ⟨rfl,l⟩
   have R:=(z.alloc _).below l
   clear l
   go_wp2_with fail
   go_roundw
   case rel=>exact⟨2,by omega,by go_num,R⟩
   case measure=>simp[intOf]
  ·clear V CU
   obtain⟨a0,a1,a2,a3,a4,a5,a6,a7,af⟩:=z.base
   obtain⟨c0,c1,c2,c3,c4,c5,c6,c7,cf⟩:=z.cells
   go_wp2_with fail
   refine(X.out _).mono ?_
   rintro e w2 ⟨rfl,F⟩
   have P2:=z.below F
   clear X F z
   clear a0 a1 a2 a3 a4 a5 a6 a7 af
   clear c0 c1 c2 c3 c4 c5 c6 c7 cf
   obtain⟨d0,d1,d2,d3,d4,d5,d6,d7,df⟩:=P2.cells
   have S:=(((((((P2.set0 (.string D)).set1 (.bool false)).set2 (.string A)).set3 (.string O)).set4 (.bool j)).set5 (.string C)).set6 (.bool i)).set7 (.string f1)
   go_wp2_with fail
   refine(CP.out _).mono ?_
   rintro e w' ⟨rfl,U⟩
   have M:=U.symm
   subst M
   clear CP
   go_wp2_with fail
   refine(Y.out _ S.1).mono ?_
   rintro e w4 ⟨rfl,G⟩
   have P4:=S.below G
   clear Y G S
   clear d0 d1 d2 d3 d4 d5 d6 d7 df
   obtain⟨e0,e1,e2,e3,e4,e5,e6,e7,ef⟩:=P4.cells
   have P5:=P4.set3 (.string B)
   go_wp2_with fail
   refine(Z.out _).mono ?_
   rintro e w6 ⟨rfl,H⟩
   have E:=P5.below H
   clear Z H P5
   clear e0 e1 e2 e3 e4 e5 e6 e7 ef
   obtain⟨g0,g1,g2,g3,g4,g5,g6,g7,gf⟩:=E.cells
   obtain⟨r0,r1,r2,r3,r4,r5,r6,r7,rf⟩:=E.res
   cases L with
   |true=>
    clear P
    go_wp2
    refine jt (v:=.tuple #[.agg jZ,.int .i64 4]) ?_ rfl ⟨rfl,?_⟩
    ·rw[jq rfl]
     go_simp
    ·exact(j8 E.1 (aJF _))
   |false=>
    go_wp2_with fail
    refine(P.out _).mono ?_
    rintro e w7 ⟨rfl,I⟩
    have N:=E.below I
    clear P I E
    clear g0 g1 g2 g3 g4 g5 g6 g7 gf
    clear r0 r1 r2 r3 r4 r5 r6 r7 rf
    obtain⟨z0,z1,z2,z3,z4,z5,z6,z7,zf⟩:=N.cells
    obtain⟨r0,r1,r2,r3,r4,r5,r6,r7,rf⟩:=N.res
    by_cases h0:n=0
    ·subst h0
     go_wp2
     refine jt (v:=.tuple #[.agg (jU D false A B j C i f1),.int .i64 0]) ?_ rfl ⟨rfl,?_⟩
     ·rw[jq rfl]
      go_simp
     ·exact(j8 N.1 (aJF _))
    ·have ab:((n:Int)==0)=false:=by rw[jg];omega
     go_wp2
     refine jt (v:=.tuple #[.agg jZ,.int .i64 (n:Int)]) ?_ rfl ⟨by first|rfl|simp[h0],?_⟩
     ·rw[jq rfl]
      go_simp
     ·exact(j8 N.1 (aJF _))
theorem aJJ(m p q r o x y z t D B s C f1:jA)(b c a f g d j i:Bool)(I:m.data.toList≠[])(L:Bool)(n:Nat)(w:World)
  (S:Hid (∀W,Calls prog 94 #[.agg (jU m b p q c r a o)] W λe w'=>e=.returned (.int .i64 0)/\jb W w'))
  (X:Hid (∀W,Calls prog 94 #[.agg (jU jz f x y g z d t)] W λe w'=>e=.returned (.int .i64 0)/\jb W w'))
  (T:Hid (∀W,Calls prog 95 #[.agg (jU m b p q c r a o),.agg (jU jz f x y g z d t)] W λe w'=>e=.returned (.agg (jU D false B s j C i f1))/\jb W w'))
  (V:Hid (∀W,Calls prog 59 #[.string s,.string ⟨#[47]⟩] W λe w'=>e=.returned (.bool false)/\w'=W))
  (U:Hid (∀W,Calls prog 97 #[.agg (jU D false B s j C i f1)] W λe w'=>e=.returned (.bool L)/\jb W w'))
  (N:Hid (∀W,Calls prog 94 #[.agg (jU D false B s j C i f1)] W λe w'=>e=.returned (.int .i64 (n:Int))/\jb W w')):
  Calls prog 51 #[.agg (jU m b p q c r a o),.agg (jU jz f x y g z d t)] w λe w'=>e=.returned (.tuple #[if L=true then .agg jZ else if n=0 then .agg (jU D false B s j C i f1)else .agg jZ,.int .i64 (if L=true then 4 else(n:Int))])/\jb w w':=by
 have aa:=aC0 m I
 clear I
 go_enter func51,ntmps51
 go_wp2
 go_loopw[13] (λiv wr=>∃k:Nat,k<=2/\iv=.int .i64 k/\Tri w 85 (jU m b p q c r a o) (jU jz f x y g z d t) jZ wr) (λiv _=>2-(intOf iv).toNat)
 case atStart=>exact⟨0,jy _,rfl,aTm _ _ _ _ _⟩
 case round=>
  obtain⟨k,hk,rfl,A⟩:=hrel
  rcases (show k=0\/k=1\/k=2 by omega)with rfl|rfl|rfl
  ·have P:∀W:World,(Instr.index 86 (.agg #[.string m,.bool b,.string p,.string q,.bool c,.string r,.bool a,.string o,.string jz,.bool f,.string x,.string y,.bool g,.string z,.bool d,.string t]) (.int .i64 0)).run prog W=.ok (.agg (jU m b p q c r a o)) W:=λW=>by kernel_rfl
   go_wp2_with fail
   refine(S.out _).mono ?_
   rintro e w1 ⟨rfl,l⟩
   have O:=(A.alloc _).below l
   clear l
   go_wp2_with fail
   go_roundw
   case rel=>exact⟨1,by omega,by go_num,O⟩
   case measure=>simp[intOf]
  ·have P:∀W:World,(Instr.index 86 (.agg #[.string m,.bool b,.string p,.string q,.bool c,.string r,.bool a,.string o,.string jz,.bool f,.string x,.string y,.bool g,.string z,.bool d,.string t]) (.int .i64 1)).run prog W=.ok (.agg (jU jz f x y g z d t)) W:=λW=>by kernel_rfl
   go_wp2_with fail
   refine(X.out _).mono ?_
   rintro e w1 ⟨rfl,l⟩
   have O:=(A.alloc _).below l
   clear l
   go_wp2_with fail
   go_roundw
   case rel=>exact⟨2,by omega,by go_num,O⟩
   case measure=>simp[intOf]
  ·clear S X
   obtain⟨a0,a1,a2,a3,a4,a5,a6,a7,af⟩:=A.base
   obtain⟨c0,c1,c2,c3,c4,c5,c6,c7,cf⟩:=A.cells
   go_wp2_with fail
   refine(T.out _).mono ?_
   rintro e w2 ⟨rfl,F⟩
   have Y:=A.below F
   clear T F A
   clear a0 a1 a2 a3 a4 a5 a6 a7 af
   clear c0 c1 c2 c3 c4 c5 c6 c7 cf
   obtain⟨d0,d1,d2,d3,d4,d5,d6,d7,df⟩:=Y.cells
   have Z:=(((((((Y.set0 (.string D)).set1 (.bool false)).set2 (.string B)).set3 (.string s)).set4 (.bool j)).set5 (.string C)).set6 (.bool i)).set7 (.string f1)
   go_wp2_with fail
   refine(V.out _).mono ?_
   rintro e w' ⟨rfl,R⟩
   have J:=R.symm
   subst J
   clear V
   go_wp2_with fail
   refine(U.out _).mono ?_
   rintro e w6 ⟨rfl,G⟩
   have E:=Z.below G
   clear U G Z
   clear d0 d1 d2 d3 d4 d5 d6 d7 df
   obtain⟨g0,g1,g2,g3,g4,g5,g6,g7,gf⟩:=E.cells
   obtain⟨r0,r1,r2,r3,r4,r5,r6,r7,rf⟩:=E.res
   cases L with
   |true=>
    clear N
    go_wp2
    refine jt (v:=.tuple #[.agg jZ,.int .i64 4]) ?_ rfl ⟨rfl,?_⟩
    ·rw[jq rfl]
     go_simp
    ·exact(j8 E.1 (aJF _))
   |false=>
    go_wp2_with fail
    refine(N.out _).mono ?_
    rintro e w7 ⟨rfl,H⟩
    have M:=E.below H
    clear N H E
    clear g0 g1 g2 g3 g4 g5 g6 g7 gf
    clear r0 r1 r2 r3 r4 r5 r6 r7 rf
    obtain⟨z0,z1,z2,z3,z4,z5,z6,z7,zf⟩:=M.cells
    obtain⟨r0,r1,r2,r3,r4,r5,r6,r7,rf⟩:=M.res
    by_cases h0:n=0
    ·subst h0
     go_wp2
     refine jt (v:=.tuple #[.agg (jU D false B s j C i f1),.int .i64 0]) ?_ rfl ⟨rfl,?_⟩
     ·rw[jq rfl]
      go_simp
     ·exact(j8 M.1 (aJF _))
    ·have ab:((n:Int)==0)=false:=by rw[jg];omega
     go_wp2
     refine jt (v:=.tuple #[.agg jZ,.int .i64 (n:Int)]) ?_ rfl ⟨by first|rfl|simp[h0],?_⟩
     ·rw[jq rfl]
      go_simp
     ·exact(j8 M.1 (aJF _))
end Go.Proofs.YtbbfcbodhmeanaaGreatDoor

import Derived.Test.YtbbfcbodhmeanaaGreatDoorXrewritesays7
import Derived.Deep.RegionHeld3
import Derived.Maps.Own
import Derived.Maps.Views
import Derived.Maps.OwnOps
set_option maxHeartbeats 8000000
set_option maxRecDepth 1000000
namespace Go.Proofs.YtbbfcbodhmeanaaGreatDoor
open Go.Proofs.Tryz
open Go.RowKit
def lkv(n:Nat)(x:LK):Array Value:=#[.int .i64 ((n-x.1:Nat):Int),.int .i64 ((n-x.1+x.2.length:Nat):Int),.string (lba (aTW x.2))]
theorem aKm{p:jA}{s:jB}(a:Suf p s)(q:UInt8->Bool):lkC p s (s.dropWhile q) (s.takeWhile q)=lkv p.size (s.length,s.takeWhile q):=by
 unfold lkC lkv
 rw[aND a (aTs q s)]
 rfl
theorem aPX(g:Nat)(p:jA)(s:jB)(f:Suf p s)(c:UInt8)(a:Int)(d:a=(c.toNat:Int))(b:Bool)(i:(s.head?==some c)=b)(w:World)(j:aBf w g p (pos p s)):
  Calls prog 174 #[.pointer (some (jx g 0)),.int .u8 a] w λe w'=>e=.returned (.bool b)/\∃m,w'=w.drewN m:=by
 subst i
 have:=aPW g p (pos p s) c a d w j
 rw[f.drop]at this
 exact this
theorem aFm(g:Nat)(p:jA)(s:jB)(a:Suf p s)(b:Bool)(c:decide (s=[])=b)(w:World)(d:aBf w g p (pos p s)):
  Calls prog 75 #[.pointer (some (jx g 0))] w λe w'=>e=.returned (.bool b)/\∃m,w'=w.drewN m:=by
 have h:=aFk g p (pos p s) w d
 have e:decide ((p.size:Int)<=(pos p s:Nat))=b:=by
  rw[<-c,jW]
  simp only[jam]
  have:=a.len
  unfold pos
  constructor
  ·intro h;exact js.1 (by omega)
  ·rintro rfl;simp
 rw[e]at h
 exact h
abbrev aKh:Obj:=.cells #[.int .i64 0,.int .i64 0,.string jz] 40
theorem aUE(d:World)(H:aAI d)(g:Nat)(O:d.heap.size<=g)(p:jA)(s:jB)(o:Suf p s)(w:World)(D:aBf w g p (pos p s))(J:jb d w)(R:p.size<=4000)
  (j:(s.head?==some 34)=false)(l:(s.head?==some 39)=false):
  Calls prog 203 #[.pointer (some (jx g 0))] w λe w'=>e=.returned (.agg (lkv p.size (s.length,s.takeWhile aIs)))/\aAQ w g (pos p (s.dropWhile aIs)) w':=by
 have t:Hid (aBf w g p (pos p s)):=D
 have P:=D.lt
 have C:g≠w.heap.size:=by omega
 have E:Hid (∀W,aBf W g p (pos p s)->Calls prog 174 #[.pointer (some (jx g 0)),.int .u8 34] W λe w'=>e=.returned (.bool false)/\∃m,w'=W.drewN m):=λW B=>aPX g p s o 34 34 rfl false j W B
 have F:Hid (∀W,aBf W g p (pos p s)->Calls prog 174 #[.pointer (some (jx g 0)),.int .u8 39] W λe w'=>e=.returned (.bool false)/\∃m,w'=W.drewN m):=λW B=>aPX g p s o 39 39 rfl false l W B
 have r:Hid (∀W,aBf W g p (pos p s)->jb d W->Calls prog 211 #[.pointer (some (jx g 0)),.func (Fn.func 212) #[] #[]] W λe w'=>e=.returned (.agg (lkv p.size (s.length,s.takeWhile aIs)))/\aAQ W g (pos p (s.dropWhile aIs)) w'):=λW M N=>by
  have:=aKi d H 212 #[] aIs (λ_=>True) (λ_ _ _ _=>trivial) g O p s o W M N trivial (aCc g) R
  rw[aKm o]at this
  exact this
 have G:Hid _:=J
 have a:jb w (w.alloc aKh):=ja _ _
 have b:=aKx w aKh
 obtain⟨x,y,z,A⟩:∃(x y:Nat) (z:jA),lkv p.size (s.length,s.takeWhile aIs)=#[.int .i64 (x:Int),.int .i64 (y:Int),.string z]:=⟨_,_,_,rfl⟩
 rw[A]at r
 rw[A]
 generalize pos p (s.dropWhile aIs)=m at*
 generalize pos p s=k at*
 clear D H J o j l A
 obtain⟨I,f⟩:∃W,W=w.alloc aKh:=⟨_,rfl⟩
 rw[<-f]at a b
 have c:=t.out.below a
 go_enter func203,ntmps203
 go_wp2_with fail
 rw[<-f]
 clear f
 refine(E.out _ c).mono ?_
 rintro e S ⟨rfl,V,rfl⟩
 go_wp2_with fail
 refine(F.out _ (c.drewN _)).mono ?_
 rintro e S ⟨rfl,X,rfl⟩
 have n:jb d I:=G.out.trans (a.mono G.out.size)
 clear E F
 go_wp2_with fail
 refine(r.out _ (c.drewN _) (aCY n _)).mono ?_
 rintro e T ⟨rfl,i⟩
 have q:=i.kept (show(I.drewN _).heap[w.heap.size]?=_ from b) (jaz C)
 have L:Hid (aAQ w g m T):=(((aAQ.still t.out).then a).drewN _).trans i t.out
 obtain⟨c0,c1,c2,U⟩:=aJE q
 clear r q i b c a n
 go_wp2_with fail
 refine jt (v:=.agg #[.int .i64 (x:Int),.int .i64 (y:Int),.string z]) ?_ rfl ⟨rfl,?_⟩
 ·rw[aO5 rfl]
  go_simp
 ·exact((L.out.new _ _ (jf _) _).new _ _ (jf _) _).new _ _ (jf _) _
theorem aFr(w:World)(a b:Nat):(w.drewN a).drewN b=w.drewN (a+b):=World.drewN_drewN w a b
theorem aUB(s:World)(HE:aAI s)(g:Nat)(hg:s.heap.size<=g)(p:jA)(t:jB)(l:Suf p (34::t))(w:World)(hr:aBf w g p (pos p (34::t)))(hb:jb s w)(hp:p.size<=4000):
  Calls prog 203 #[.pointer (some (jx g 0))] w λe w'=>e=.returned (.agg (lkv p.size (t.length,t.takeWhile (aLF 34))))/\aAQ w g (pos p ((t.dropWhile (aLF 34)).drop 1)) w':=by
 have R:Hid (aBf w g p (pos p (34::t))):=hr
 have X:=hr.lt
 have Y:g≠w.heap.size:=by omega
 have Z:g≠w.heap.size+1:=by omega
 have C1:Hid (∀W,aBf W g p (pos p (34::t))->Calls prog 174 #[.pointer (some (jx g 0)),.int .u8 34] W λe w'=>e=.returned (.bool true)/\∃m,w'=W.drewN m):=λW N=>aPX g p (34::t) l 34 34 rfl true rfl W N
 have CL:Hid (∀W h,h≠g->W.cell? (jx h 0)=some (.int .u8 34)->aBf W g p (pos p t)->jb s W->Calls prog 211 #[.pointer (some (jx g 0)),.func (Fn.func 213) #[] #[.pointer (some (jx h 0))]] W λe w'=>e=.returned (.agg (lkv p.size (t.length,t.takeWhile (aLF 34))))/\aAQ W g (pos p (t.dropWhile (aLF 34))) w'):=λW h hh hc h1 h2=>by
  have:=aKi s HE 213 #[.pointer (some (jx h 0))] (aLF 34) (λW=>W.cell? (jx h 0)=some (.int .u8 ((34:UInt8).toNat:Int))) (λW v t N=>by
   have X:=ji W _ N
   exact((ja _ _).cell (p:=jx h 0) X).trans N) g hg p t l.tl W h1 h2 hc (aCd g h 34 hh) hp
  rw[aKm l.tl]at this
  exact this
 have CD:Hid (∀W,aBf W g p (pos p (t.dropWhile (aLF 34)))->Calls prog 75 #[.pointer (some (jx g 0))] W λe w'=>e=.returned (.bool (decide (t.dropWhile (aLF 34)=[])))/\∃m,w'=W.drewN m):=λW N=>aFm g p _ (l.tl.dw _) _ rfl W N
 have HB:Hid _:=hb
 have f:jb w (w.alloc aKh):=ja _ _
 have i:=aKx w aKh
 have x:=l.len
 have ae:∀O:pos p (34::t)<p.size,p[pos p (34::t)]'O=34:=λO=>by
  have h:=l.drop
  rw[aFs p _ O]at h
  exact(j4 h).1
 have O:pos p (34::t)<p.size:=by unfold pos;simp only[jm]at x⊢;omega
 have aa:pos p t=pos p (34::t)+1:=aND l (a:=[34]) rfl
 have HX:Hid (t.dropWhile (aLF 34)≠[]->pos p ((t.dropWhile (aLF 34)).drop 1)=pos p (t.dropWhile (aLF 34))+1):=λh=>by
  cases hd:t.dropWhile (aLF 34)with
  |nil=>exact absurd hd h
  |cons y r=>exact aND (hd▸l.tl.dw (aLF 34)) (a:=[y]) rfl
 have B:Hid (t.dropWhile (aLF 34)=[]->pos p ((t.dropWhile (aLF 34)).drop 1)=pos p (t.dropWhile (aLF 34))):=λh=>by rw[h];rfl
 have ag:=aNB p (t.dropWhile (aLF 34))
 obtain⟨I,J,L,hV⟩:∃(I J:Nat) (L:jA),lkv p.size (t.length,t.takeWhile (aLF 34))=#[.int .i64 (I:Int),.int .i64 (J:Int),.string L]:=⟨_,_,_,rfl⟩
 rw[hV]at CL
 rw[hV]
 rw[aa]at CL
 generalize pos p ((t.dropWhile (aLF 34)).drop 1)=m2 at*
 generalize pos p (t.dropWhile (aLF 34))=m at*
 generalize pos p (34::t)=k at*
 clear hr HE hb l hV aa x
 generalize t.dropWhile (aLF 34)=D at*
 obtain⟨W0,n⟩:∃W,W=w.alloc aKh:=⟨_,rfl⟩
 rw[<-n]at f i
 have b:=R.out.below f
 have z:W0.heap.size=w.heap.size+1:=by rw[n];simp
 have ak:p[k]'O=34:=ae O
 have aj:(k:Int)<(p.size:Int):=by omega
 have ao:IntKind.i64.wrap ((k:Int)+1)=((k+1:Nat):Int):=by rw[ju];omega
 go_enter func203,ntmps203
 go_wp2_with fail
 rw[<-n]
 clear n
 refine(C1.out _ b).mono ?_
 rintro e w1 ⟨rfl,n1,rfl⟩
 go_wp2_with fail
 have h0:=b.page
 have h1:=b.at_
 have ad:=b.frozen 1
 have af:=b.drewN (n1+1)
 go_region
 go_wp2_with fail
 obtain⟨S,o⟩:∃W,W=((W0.drewN (n1+1)).setCell (jx g 1) (.int .i64 ((k:Int)+1))).alloc (.cells #[.int .u8 34] 5):=⟨_,rfl⟩
 have d:aAQ W0 g ((k+1:Nat):Int) S:=by rw[o];exact((((aAQ.still b).drewN _).trans aAQ.of_set b)).alloc _
 have V:=d.kept i (jaz Y)
 have G:=d.rd b
 have ab:S.heap[w.heap.size+1]?=some (.cells #[.int .u8 34] 5):=by
  have h:=aKx ((W0.drewN (n1+1)).setCell (jx g 1) (.int .i64 ((k:Int)+1))) (.cells #[.int .u8 34] 5)
  rw[<-o,aPZ,World.heap_drewN,z]at h
  exact h
 have ac:S.cell? (jx (w.heap.size+1) 0)=some (.int .u8 34):=by simp[World.cell?,ab]
 have U:jb s S:=d.base (HB.out.trans (f.mono HB.out.size)) hg
 have M1:Hid (aAQ w g ((k+1:Nat):Int) S):=((aAQ.still R.out).then f).trans d R.out
 rw[<-o]
 clear o d af h0 h1 ad b z i f
 refine(CL.out _ _ (jaz Z) ac G U).mono ?_
 rintro e w5 ⟨rfl,q⟩
 have C:=q.kept V (jaz Y)
 have H:=q.rd G
 have HM:Hid (aAQ w g m w5):=M1.out.trans q R.out
 have al:=H.lt
 have am:g≠w5.heap.size:=by omega
 have ap:=aKw C
 have ah:w.heap.size≠w5.heap.size:=by omega
 clear CL q V G U M1 ab ac
 obtain⟨T,c⟩:∃W,W=w5.alloc (.cells #[.int .i64 (I:Int),.int .i64 (J:Int),.string L] 40):=⟨_,rfl⟩
 have j:aBf T g p m:=by rw[c];exact H.below (ja _ _)
 have E:T.heap[w.heap.size]?=some aKh:=by rw[c];exact aKv C (ja _ _)
 have F:T.heap[w5.heap.size]?=some (.cells #[.int .i64 (I:Int),.int .i64 (J:Int),.string L] 40):=by rw[c];exact aKx _ _
 have P:Hid (aAQ w g m T):=by unfold Hid;rw[c];exact HM.out.alloc _
 have A:Hid _:=c
 clear c C H
 go_wp2_with fail
 rw[<-A.out]
 refine(CD.out _ j).mono ?_
 rintro e w7 ⟨rfl,n7,rfl⟩
 have c1:=j.at_
 have ai:=j.frozen 1
 obtain⟨d0,d1,d2,df⟩:=aJE E
 obtain⟨e0,e1,e2,ef⟩:=aJE F
 have an:IntKind.i64.wrap ((m:Int)+1)=((m+1:Nat):Int):=by rw[ju];omega
 by_cases M:D=[]
 ·rw[j3 M]
  have hX:=B.out M
  subst hX
  clear CD HX B M HM A j E F
  go_wp2_with fail
  refine jt (v:=.agg #[.int .i64 (I:Int),.int .i64 (J:Int),.string L]) ?_ rfl ⟨rfl,?_⟩
  ·rw[aO5 rfl]
   go_simp
  ·exact(((P.out.drewN _).new _ _ (jf _) _).new _ _ (jf _) _).new _ _ (jf _) _
 ·rw[jV M]
  have hX:=HX.out M
  have M2:Hid (aAQ w g ((m+1:Nat):Int) ((T.drewN n7).setCell (jx g 1) (.int .i64 ((m+1:Nat):Int)))):=(P.out.drewN _).trans aAQ.of_set R.out
  subst hX
  clear CD HX B M HM A j E F
  go_wp2_with fail
  refine jt (v:=.agg #[.int .i64 (I:Int),.int .i64 (J:Int),.string L]) ?_ rfl ⟨rfl,?_⟩
  ·rw[aO5 rfl]
   go_simp
  ·exact((M2.out.new _ _ (jf _) _).new _ _ (jf _) _).new _ _ (jf _) _
theorem aUC(x:World)(HE:aAI x)(g:Nat)(hg:x.heap.size<=g)(p:jA)(t:jB)(l:Suf p (39::t))(w:World)(hr:aBf w g p (pos p (39::t)))(hb:jb x w)(hp:p.size<=4000):
  Calls prog 203 #[.pointer (some (jx g 0))] w λe w'=>e=.returned (.agg (lkv p.size (t.length,t.takeWhile (aLF 39))))/\aAQ w g (pos p ((t.dropWhile (aLF 39)).drop 1)) w':=by
 have S:Hid (aBf w g p (pos p (39::t))):=hr
 have Y:=hr.lt
 have aa:g≠w.heap.size:=by omega
 have ab:g≠w.heap.size+1:=by omega
 have C1:Hid (∀W,aBf W g p (pos p (39::t))->Calls prog 174 #[.pointer (some (jx g 0)),.int .u8 34] W λe w'=>e=.returned (.bool false)/\∃m,w'=W.drewN m):=λW z=>aPX g p (39::t) l 34 34 rfl false rfl W z
 have C2:Hid (∀W,aBf W g p (pos p (39::t))->Calls prog 174 #[.pointer (some (jx g 0)),.int .u8 39] W λe w'=>e=.returned (.bool true)/\∃m,w'=W.drewN m):=λW z=>aPX g p (39::t) l 39 39 rfl true rfl W z
 have CL:Hid (∀W h,h≠g->W.cell? (jx h 0)=some (.int .u8 39)->aBf W g p (pos p t)->jb x W->Calls prog 211 #[.pointer (some (jx g 0)),.func (Fn.func 213) #[] #[.pointer (some (jx h 0))]] W λe w'=>e=.returned (.agg (lkv p.size (t.length,t.takeWhile (aLF 39))))/\aAQ W g (pos p (t.dropWhile (aLF 39))) w'):=λW h hh hc h1 h2=>by
  have:=aKi x HE 213 #[.pointer (some (jx h 0))] (aLF 39) (λW=>W.cell? (jx h 0)=some (.int .u8 ((39:UInt8).toNat:Int))) (λW v t z=>by
   have Y:=ji W _ z
   exact((ja _ _).cell (p:=jx h 0) Y).trans z) g hg p t l.tl W h1 h2 hc (aCd g h 39 hh) hp
  rw[aKm l.tl]at this
  exact this
 have CD:Hid (∀W,aBf W g p (pos p (t.dropWhile (aLF 39)))->Calls prog 75 #[.pointer (some (jx g 0))] W λe w'=>e=.returned (.bool (decide (t.dropWhile (aLF 39)=[])))/\∃m,w'=W.drewN m):=λW z=>aFm g p _ (l.tl.dw _) _ rfl W z
 have HB:Hid _:=hb
 have f:jb w (w.alloc aKh):=ja _ _
 have i:=aKx w aKh
 have A:=l.len
 have ag:∀P:pos p (39::t)<p.size,p[pos p (39::t)]'P=39:=λP=>by
  have h:=l.drop
  rw[aFs p _ P]at h
  exact(j4 h).1
 have P:pos p (39::t)<p.size:=by unfold pos;simp only[jm]at A⊢;omega
 have ac:pos p t=pos p (39::t)+1:=aND l (a:=[39]) rfl
 have HX:Hid (t.dropWhile (aLF 39)≠[]->pos p ((t.dropWhile (aLF 39)).drop 1)=pos p (t.dropWhile (aLF 39))+1):=λh=>by
  cases hd:t.dropWhile (aLF 39)with
  |nil=>exact absurd hd h
  |cons y r=>exact aND (hd▸l.tl.dw (aLF 39)) (a:=[y]) rfl
 have E:Hid (t.dropWhile (aLF 39)=[]->pos p ((t.dropWhile (aLF 39)).drop 1)=pos p (t.dropWhile (aLF 39))):=λh=>by rw[h];rfl
 have ai:=aNB p (t.dropWhile (aLF 39))
 obtain⟨L,M,N,hV⟩:∃(L M:Nat) (N:jA),lkv p.size (t.length,t.takeWhile (aLF 39))=#[.int .i64 (L:Int),.int .i64 (M:Int),.string N]:=⟨_,_,_,rfl⟩
 rw[hV]at CL
 rw[hV]
 rw[ac]at CL
 generalize pos p ((t.dropWhile (aLF 39)).drop 1)=m2 at*
 generalize pos p (t.dropWhile (aLF 39))=m at*
 generalize pos p (39::t)=k at*
 clear hr HE hb l hV ac A
 generalize t.dropWhile (aLF 39)=D at*
 obtain⟨W0,o⟩:∃W,W=w.alloc aKh:=⟨_,rfl⟩
 rw[<-o]at f i
 have b:=S.out.below f
 have B:W0.heap.size=w.heap.size+1:=by rw[o];simp
 have am:p[k]'P=39:=ag P
 have al:(k:Int)<(p.size:Int):=by omega
 have aq:IntKind.i64.wrap ((k:Int)+1)=((k+1:Nat):Int):=by rw[ju];omega
 go_enter func203,ntmps203
 go_wp2_with fail
 rw[<-o]
 clear o
 refine(C1.out _ b).mono ?_
 rintro e w1 ⟨rfl,n0,rfl⟩
 go_wp2_with fail
 refine(C2.out _ (b.drewN _)).mono ?_
 rintro e w1 ⟨rfl,n2,rfl⟩
 obtain⟨n1,Z⟩:∃n,n=n0+n2:=⟨_,rfl⟩
 rw[aFr,<-Z]
 clear Z
 go_wp2_with fail
 have h0:=b.page
 have h1:=b.at_
 have af:=b.frozen 1
 have ah:=b.drewN (n1+1)
 go_region
 go_wp2_with fail
 obtain⟨T,q⟩:∃W,W=((W0.drewN (n1+1)).setCell (jx g 1) (.int .i64 ((k:Int)+1))).alloc (.cells #[.int .u8 39] 5):=⟨_,rfl⟩
 have d:aAQ W0 g ((k+1:Nat):Int) T:=by rw[q];exact((((aAQ.still b).drewN _).trans aAQ.of_set b)).alloc _
 have X:=d.kept i (jaz aa)
 have I:=d.rd b
 have ad:T.heap[w.heap.size+1]?=some (.cells #[.int .u8 39] 5):=by
  have h:=aKx ((W0.drewN (n1+1)).setCell (jx g 1) (.int .i64 ((k:Int)+1))) (.cells #[.int .u8 39] 5)
  rw[<-q,aPZ,World.heap_drewN,B]at h
  exact h
 have ae:T.cell? (jx (w.heap.size+1) 0)=some (.int .u8 39):=by simp[World.cell?,ad]
 have V:jb x T:=d.base (HB.out.trans (f.mono HB.out.size)) hg
 have M1:Hid (aAQ w g ((k+1:Nat):Int) T):=((aAQ.still S.out).then f).trans d S.out
 rw[<-q]
 clear q d ah h0 h1 af b B i f
 refine(CL.out _ _ (jaz ab) ae I V).mono ?_
 rintro e w5 ⟨rfl,s⟩
 have F:=s.kept X (jaz aa)
 have J:=s.rd I
 have HM:Hid (aAQ w g m w5):=M1.out.trans s S.out
 have an:=J.lt
 have ao:g≠w5.heap.size:=by omega
 have ar:=aKw F
 have aj:w.heap.size≠w5.heap.size:=by omega
 clear CL s X I V M1 ad ae
 obtain⟨U,c⟩:∃W,W=w5.alloc (.cells #[.int .i64 (L:Int),.int .i64 (M:Int),.string N] 40):=⟨_,rfl⟩
 have j:aBf U g p m:=by rw[c];exact J.below (ja _ _)
 have G:U.heap[w.heap.size]?=some aKh:=by rw[c];exact aKv F (ja _ _)
 have H:U.heap[w5.heap.size]?=some (.cells #[.int .i64 (L:Int),.int .i64 (M:Int),.string N] 40):=by rw[c];exact aKx _ _
 have R:Hid (aAQ w g m U):=by unfold Hid;rw[c];exact HM.out.alloc _
 have C:Hid _:=c
 clear c F J
 go_wp2_with fail
 rw[<-C.out]
 refine(CD.out _ j).mono ?_
 rintro e w7 ⟨rfl,n7,rfl⟩
 have c1:=j.at_
 have ak:=j.frozen 1
 obtain⟨d0,d1,d2,df⟩:=aJE G
 obtain⟨e0,e1,e2,ef⟩:=aJE H
 have ap:IntKind.i64.wrap ((m:Int)+1)=((m+1:Nat):Int):=by rw[ju];omega
 by_cases O:D=[]
 ·rw[j3 O]
  have hX:=E.out O
  subst hX
  clear CD HX E O HM C j G H
  go_wp2_with fail
  refine jt (v:=.agg #[.int .i64 (L:Int),.int .i64 (M:Int),.string N]) ?_ rfl ⟨rfl,?_⟩
  ·rw[aO5 rfl]
   go_simp
  ·exact(((R.out.drewN _).new _ _ (jf _) _).new _ _ (jf _) _).new _ _ (jf _) _
 ·rw[jV O]
  have hX:=HX.out O
  have M2:Hid (aAQ w g ((m+1:Nat):Int) ((U.drewN n7).setCell (jx g 1) (.int .i64 ((m+1:Nat):Int)))):=(R.out.drewN _).trans aAQ.of_set S.out
  subst hX
  clear CD HX E O HM C j G H
  go_wp2_with fail
  refine jt (v:=.agg #[.int .i64 (L:Int),.int .i64 (M:Int),.string N]) ?_ rfl ⟨rfl,?_⟩
  ·rw[aO5 rfl]
   go_simp
  ·exact((M2.out.new _ _ (jf _) _).new _ _ (jf _) _).new _ _ (jf _) _
theorem aUD(a:World)(f:aAI a)(g:Nat)(k:a.heap.size<=g)(p:jA)(s:jB)(i:Suf p s)(w:World)(m:aBf w g p (pos p s))(j:jb a w)(l:p.size<=4000):
  Calls prog 203 #[.pointer (some (jx g 0))] w λe w'=>e=.returned (.agg (lkv p.size ((aUs s).1.length,(aUs s).2.1)))/\aAQ w g (pos p (aUs s).2.2) w':=by
 cases s with
 |nil=>exact aUE a f g k p [] i w m j l rfl rfl
 |cons c t=>
  by_cases b:c=34
  ·subst b;exact aUB a f g k p t i w m j l
  ·by_cases d:c=39
   ·subst d;exact aUC a f g k p t i w m j l
   ·have n:aUs (c::t)=(c::t,(c::t).takeWhile aIs,(c::t).dropWhile aIs):=by simp only[aUs];rw[jh (by simp[qB,b,d])]
    rw[n]
    exact aUE a f g k p (c::t) i w m j l (by simp[b]) (by simp[d])
theorem aUy(s:jB):(aUs s).2.2<:+s:=by
 cases s with
 |nil=>exact jdp
 |cons c t=>
  simp only[aUs]
  split
  ·exact((jca _ _).trans (jbn _)).trans (jeb c t)
  ·exact jbn _
def aKG(l:jB):jB:=Lib.toLowerD l
def lkO(n:Nat)(v:Option LK):Array Value:=match v with
 |none=>#[.int .i64 0,.int .i64 0,.string jz]
 |some x=>lkv n x
theorem aLo{p:jA}{c:UInt8}{t:jB}(a:Suf p (c::t)):p.extract (pos p (c::t)) (pos p (t.dropWhile aIr))=lba (aLm (c::t)):=by
 rw[aLn]
 exact aF6 a (by rw[jL,aTs])
theorem aCm(q:World)(O:aAI q)(g:Nat)(hg:q.heap.size<=g)(p:jA)(c:UInt8)(t:jB)(D:Suf p (c::t))(w:World)(hr:aBf w g p (pos p (c::t)))(hb:jb q w)(hp:p.size<=4000)
  (C:((((t.dropWhile aIr).dropWhile spB)).head?==some 61)=false):
  Calls prog 175 #[.pointer (some (jx g 0))] w λe w'=>e=.returned (.tuple #[.string (lba (aKG (aLm (c::t)))),.agg (lkO p.size none),.bool false])/\aAQ w g (pos p ((t.dropWhile aIr).dropWhile spB)) w':=by
 have B:Hid (aBf w g p (pos p (c::t))):=hr
 have ag:=hr.lt
 have G:g≠w.heap.size:=by omega
 have S1:=D.tl
 have S:=S1.dw aIr
 have S3:=S.dw spB
 have r:Hid (∀W,aBf W g p (pos p t)->Calls prog 170 #[.pointer (some (jx g 0)),.func (Fn.func 201) #[] #[]] W λe w'=>e=.returned (.string (lba (t.takeWhile aIr)))/\aAQ W g (pos p (t.dropWhile aIr)) w'):=λW z=>aMP _ #[] aIr (λ_=>True) g p t S1 W z trivial (aB8 g) hp
 have A:Hid (∀W,aBf W g p (pos p (t.dropWhile aIr))->Calls prog 170 #[.pointer (some (jx g 0)),.func (Fn.func 172) #[] #[]] W λe w'=>e=.returned (.string (lba ((t.dropWhile aIr).takeWhile spB)))/\aAQ W g (pos p ((t.dropWhile aIr).dropWhile spB)) w'):=λW z=>aMP _ #[] spB (λ_=>True) g p _ S W z trivial (aB9 g) hp
 have CS:Hid (∀W,aBf W g p (pos p ((t.dropWhile aIr).dropWhile spB))->Calls prog 174 #[.pointer (some (jx g 0)),.int .u8 61] W λe w'=>e=.returned (.bool false)/\∃m,w'=W.drewN m):=λW N=>aPX g p _ S3 61 61 rfl false C W N
 have Z:(aLm (c::t)).length<=4000:=by
  rw[aLn,jm]
  have:=(jdg (l:=t) aIr).length_le
  have:=D.len
  simp only[jm]at this
  omega
 have CT:Hid (∀W,jb q W->Calls prog 202 #[.string (lba (aLm (c::t)))] W λe w'=>e=.returned (.string (lba (aKG (aLm (c::t)))))/\jb W w'):=λW N=>strings_ToLower_any (lba (aLm (c::t))) W (by rw[aJC];omega) (O W N).cv (O W N).u8
 have HB:Hid _:=hb
 have hx:=aLo D
 have F:pos p t=pos p (c::t)+1:=aND D (a:=[c]) rfl
 have ac:pos p (c::t)<=pos p (t.dropWhile aIr):=by
  have z:=aND S1 (aTs aIr t)
  omega
 have ad:=aNB p (t.dropWhile aIr)
 have V:jb w (w.alloc aKh):=ja _ _
 have H:=aKx w aKh
 rw[F]at r
 unfold lkO
 generalize lba (aKG (aLm (c::t)))=NL at*
 generalize lba (aLm (c::t))=NM at*
 generalize pos p ((t.dropWhile aIr).dropWhile spB)=m3 at*
 generalize pos p (t.dropWhile aIr)=M at*
 generalize pos p (c::t)=k at*
 have ae:(k:Int)<=(M:Int):=by omega
 have af:(M:Int)<=(p.size:Int):=by omega
 have ah:IntKind.i64.wrap ((k:Int)+1)=((k+1:Nat):Int):=by rw[ju];omega
 clear hr O hb D S1 S S3 C Z F
 have z:=B.out.at_
 have hf:=B.out.frozen 1
 go_enter func175,ntmps175
 go_wp2_with fail
 obtain⟨W1,i⟩:∃W,W=(w.setCell (jx g 1) (.int .i64 ((k:Int)+1))).alloc aKh:=⟨_,rfl⟩
 have P:aAQ w g ((k+1:Nat):Int) W1:=by rw[i];exact aAQ.of_set.alloc _
 have x:=P.rd B.out
 have I:W1.heap[w.heap.size]?=some aKh:=by
  have h:=aKx (w.setCell (jx g 1) (.int .i64 ((k:Int)+1))) aKh
  rw[<-i,aPZ]at h
  exact h
 rw[<-i]
 clear i z hf V H
 refine(r.out _ x).mono ?_
 rintro e d ⟨rfl,n⟩
 have R:Hid (aAQ w g M d):=P.trans n B.out
 have b:=n.rd x
 have J:=n.kept I (jaz G)
 have s:jb q d:=R.out.base HB.out hg
 clear r n P x I
 have T:∀w',jb d w'->w'.cell? (jx g 0)=some (.string p):=λw' h=>(b.below h).page
 have U:∀w',jb d w'->w'.cell? (jx g 1)=some (.int .i64 (M:Int)):=λw' h=>(b.below h).at_
 have f:jb d d:=jr _ _
 have X:=b.page
 have Y:=b.at_
 go_wp2_with fail
 go_region_held3 (λw'=>jb d w') (first|assumption|exact f.drew) (first
  |(go_at_call 202;refine(CT.out _ (s.trans ((f.drew).mono s.size))).mono ?_;rintro e w3 ⟨rfl,E⟩;have j:jb d w3:=(f.drew).trans E))
 have M3:Hid (aAQ w g M w3):=R.out.then j
 have y:=b.below j
 have L:=aKv J j
 clear R b J s T U f X Y E j CT
 go_wp2_with fail
 refine(A.out _ y).mono ?_
 rintro e w4 ⟨rfl,o⟩
 have M4:Hid (aAQ w g m3 w4):=M3.out.trans o B.out
 have aa:=o.rd y
 have ab:=o.kept L (jaz G)
 clear A o M3 y L
 go_wp2_with fail
 refine(CS.out _ aa).mono ?_
 rintro e w5 ⟨rfl,n5,rfl⟩
 obtain⟨d0,d1,d2,df⟩:=aJE ab
 clear CS
 go_wp2_with fail
 refine jt (v:=.tuple #[.string NL,.agg #[.int .i64 0,.int .i64 0,.string jz],.bool false]) ?_ rfl ⟨rfl,?_⟩
 ·rw[aO7 rfl]
  go_simp
 ·exact(((M4.out.drewN _).new _ _ (jf _) _).new _ _ (jf _) _).new _ _ (jf _) _
theorem aCr(f:World)(HE:aAI f)(g:Nat)(hg:f.heap.size<=g)(p:jA)(c:UInt8)(t:jB)(O:Suf p (c::t))(w:World)(hr:aBf w g p (pos p (c::t)))(hb:jb f w)(hp:p.size<=4000)
  (u:jB)(hu:(t.dropWhile aIr).dropWhile spB=61::u):
  Calls prog 175 #[.pointer (some (jx g 0))] w λe w'=>e=.returned (.tuple #[.string (lba (aKG (aLm (c::t)))),.agg (lkv p.size ((aUs (u.dropWhile spB)).1.length,(aUs (u.dropWhile spB)).2.1)),.bool true])/\aAQ w g (pos p (aUs (u.dropWhile spB)).2.2) w':=by
 have A:Hid (aBf w g p (pos p (c::t))):=hr
 have ap:=hr.lt
 have n:g≠w.heap.size:=by omega
 have S1:=O.tl
 have S2:=S1.dw aIr
 have M:=S2.dw spB
 rw[hu]at M
 have S4:=M.tl
 have S5:=S4.dw spB
 have B:Hid (∀W,aBf W g p (pos p t)->Calls prog 170 #[.pointer (some (jx g 0)),.func (Fn.func 201) #[] #[]] W λe w'=>e=.returned (.string (lba (t.takeWhile aIr)))/\aAQ W g (pos p (t.dropWhile aIr)) w'):=λW j=>aMP _ #[] aIr (λ_=>True) g p t S1 W j trivial (aB8 g) hp
 have L:Hid (∀W,aBf W g p (pos p (t.dropWhile aIr))->Calls prog 170 #[.pointer (some (jx g 0)),.func (Fn.func 172) #[] #[]] W λe w'=>e=.returned (.string (lba ((t.dropWhile aIr).takeWhile spB)))/\aAQ W g (pos p (61::u)) w'):=λW j=>by
  have:=aMP _ #[] spB (λ_=>True) g p _ S2 W j trivial (aB9 g) hp
  rw[hu]at this
  exact this
 have CS:Hid (∀W,aBf W g p (pos p (61::u))->Calls prog 174 #[.pointer (some (jx g 0)),.int .u8 61] W λe w'=>e=.returned (.bool true)/\∃m,w'=W.drewN m):=λW hW=>aPX g p _ M 61 61 rfl true rfl W hW
 have C:Hid (∀W,aBf W g p (pos p u)->Calls prog 170 #[.pointer (some (jx g 0)),.func (Fn.func 172) #[] #[]] W λe w'=>e=.returned (.string (lba (u.takeWhile spB)))/\aAQ W g (pos p (u.dropWhile spB)) w'):=λW j=>aMP _ #[] spB (λ_=>True) g p _ S4 W j trivial (aB9 g) hp
 have CV:Hid (∀W,aBf W g p (pos p (u.dropWhile spB))->jb f W->Calls prog 203 #[.pointer (some (jx g 0))] W λe w'=>e=.returned (.agg (lkv p.size ((aUs (u.dropWhile spB)).1.length,(aUs (u.dropWhile spB)).2.1)))/\aAQ W g (pos p (aUs (u.dropWhile spB)).2.2) w'):=λW j h2=>aUD f HE g hg p _ S5 W j h2 hp
 have ai:(aLm (c::t)).length<=4000:=by
  rw[aLn,jm]
  have:=(jdg (l:=t) aIr).length_le
  have:=O.len
  simp only[jm]at this
  omega
 have CT:Hid (∀W,jb f W->Calls prog 202 #[.string (lba (aLm (c::t)))] W λe w'=>e=.returned (.string (lba (aKG (aLm (c::t)))))/\jb W w'):=λW hW=>strings_ToLower_any (lba (aLm (c::t))) W (by rw[aJC];omega) (HE W hW).cv (HE W hW).u8
 have HB:Hid _:=hb
 have hx:=aLo O
 have R:pos p t=pos p (c::t)+1:=aND O (a:=[c]) rfl
 have ak:pos p (c::t)<=pos p (t.dropWhile aIr):=by
  have j:=aND S1 (aTs aIr t)
  omega
 have al:=aNB p (t.dropWhile aIr)
 have af:jb w (w.alloc aKh):=ja _ _
 have T:=aKx w aKh
 rw[R]at B
 have S:pos p u=pos p (61::u)+1:=aND M (a:=[61]) rfl
 have am:=aNB p (61::u)
 rw[S]at C
 obtain⟨V0,V1,V2,hV⟩:∃(V0 V1:Nat) (V2:jA),lkv p.size ((aUs (u.dropWhile spB)).1.length,(aUs (u.dropWhile spB)).2.1)=#[.int .i64 (V0:Int),.int .i64 (V1:Int),.string V2]:=⟨_,_,_,rfl⟩
 rw[hV]at CV
 rw[hV]
 generalize pos p (aUs (u.dropWhile spB)).2.2=m6 at*
 generalize pos p (u.dropWhile spB)=m5 at*
 generalize pos p (61::u)=J at*
 generalize lba (aKG (aLm (c::t)))=NL at*
 generalize lba (aLm (c::t))=NM at*
 generalize pos p (t.dropWhile aIr)=m2 at*
 generalize pos p (c::t)=k at*
 have an:(k:Int)<=(m2:Int):=by omega
 have ao:(m2:Int)<=(p.size:Int):=by omega
 have aq:IntKind.i64.wrap ((k:Int)+1)=((k+1:Nat):Int):=by rw[ju];omega
 have aj:IntKind.i64.wrap ((J:Int)+1)=((J+1:Nat):Int):=by rw[ju];omega
 clear hr HE hb O S1 S2 M S4 S5 hu ai R S hV
 have j:=A.out.at_
 have hf:=A.out.frozen 1
 go_enter func175,ntmps175
 go_wp2_with fail
 obtain⟨W1,r⟩:∃W,W=(w.setCell (jx g 1) (.int .i64 ((k:Int)+1))).alloc aKh:=⟨_,rfl⟩
 have M1:aAQ w g ((k+1:Nat):Int) W1:=by rw[r];exact aAQ.of_set.alloc _
 have G:=M1.rd A.out
 have V:W1.heap[w.heap.size]?=some aKh:=by
  have h:=aKx (w.setCell (jx g 1) (.int .i64 ((k:Int)+1))) aKh
  rw[<-r,aPZ]at h
  exact h
 rw[<-r]
 clear r j hf af T
 refine(B.out _ G).mono ?_
 rintro e i ⟨rfl,x⟩
 have M2:Hid (aAQ w g m2 i):=M1.trans x A.out
 have d:=x.rd G
 have X:=x.kept V (jaz n)
 have D:jb f i:=M2.out.base HB.out hg
 clear B x M1 G V
 have ad:∀w',jb i w'->w'.cell? (jx g 0)=some (.string p):=λw' h=>(d.below h).page
 have ae:∀w',jb i w'->w'.cell? (jx g 1)=some (.int .i64 (m2:Int)):=λw' h=>(d.below h).at_
 have q:jb i i:=jr _ _
 have ag:=d.page
 have ah:=d.at_
 go_wp2_with fail
 go_region_held3 (λw'=>jb i w') (first|assumption|exact q.drew) (first
  |(go_at_call 202;refine(CT.out _ (D.trans ((q.drew).mono D.size))).mono ?_;rintro e w3 ⟨rfl,P⟩;have s:jb i w3:=(q.drew).trans P))
 have M3:Hid (aAQ w g m2 w3):=M2.out.then s
 have H:=d.below s
 have Y:=aKv X s
 clear M2 d X D ad ae q ag ah P s CT
 go_wp2_with fail
 refine(L.out _ H).mono ?_
 rintro e w4 ⟨rfl,y⟩
 have M4:Hid (aAQ w g J w4):=M3.out.trans y A.out
 have b:=y.rd H
 have Z:=y.kept Y (jaz n)
 clear L y M3 H Y
 go_wp2_with fail
 refine(CS.out _ b).mono ?_
 rintro e w5 ⟨rfl,n5,rfl⟩
 have j:=b.at_
 have hf:=b.frozen 1
 clear CS
 go_wp2_with fail
 obtain⟨W5,E⟩:∃W,W=(w4.drewN n5).setCell (jx g 1) (.int .i64 ((J:Int)+1)):=⟨_,rfl⟩
 have o:aAQ w4 g ((J+1:Nat):Int) W5:=by rw[E];exact((aAQ.still b).drewN _).trans aAQ.of_set b
 have I:=o.rd b
 have aa:=o.kept Z (jaz n)
 have M5:Hid (aAQ w g ((J+1:Nat):Int) W5):=M4.out.trans o A.out
 rw[<-E]
 clear E o M4 j hf b Z
 refine(C.out _ I).mono ?_
 rintro e w6 ⟨rfl,z⟩
 have M6:Hid (aAQ w g m5 w6):=M5.out.trans z A.out
 have U:=z.rd I
 have ab:=z.kept aa (jaz n)
 have N:jb f w6:=M6.out.base HB.out hg
 clear C z M5 I aa
 go_wp2_with fail
 refine(CV.out _ U N).mono ?_
 rintro e w7 ⟨rfl,F⟩
 have M7:Hid (aAQ w g m6 w7):=M6.out.trans F A.out
 have ac:=F.kept ab (jaz n)
 obtain⟨d0,d1,d2,df⟩:=aJE ac
 clear CV F M6 U ab N ac
 go_wp2_with fail
 refine jt (v:=.tuple #[.string NL,.agg #[.int .i64 (V0:Int),.int .i64 (V1:Int),.string V2],.bool true]) ?_ rfl ⟨rfl,?_⟩
 ·rw[aO7 rfl]
  go_simp
 ·exact((M7.out.new _ _ (jf _) _).new _ _ (jf _) _).new _ _ (jf _) _
theorem aCh(b:World)(i:aAI b)(g:Nat)(l:b.heap.size<=g)(p:jA)(c:UInt8)(t:jB)(j:Suf p (c::t))(w:World)(n:aBf w g p (pos p (c::t)))(k:jb b w)(m:p.size<=4000):
  Calls prog 175 #[.pointer (some (jx g 0))] w λe w'=>e=.returned (.tuple #[.string (lba (aKG (aLm (c::t)))),.agg (lkO p.size (aCg (c::t)).1),.bool (aCg (c::t)).1.isSome])/\aAQ w g (pos p (aCg (c::t)).2) w':=by
 rw[aCj]
 cases f:(t.dropWhile aIr).dropWhile spB with
 |nil=>
  have:=aCm b i g l p c t j w n k m (by rw[f];rfl)
  rw[f]at this
  exact this
 |cons d u=>
  by_cases a:d=61
  ·subst a
   have:=aCr b i g l p c t j w n k m u f
   exact this
  ·have:=aCm b i g l p c t j w n k m (by rw[f];simp[a])
   rw[f]at this
   have e:aCN (d::u)=(none,d::u):=by simp only[aCN];rw[jh a]
   rw[e]
   exact this
theorem aCR(s:jB):(aCN s).2<:+s:=by
 cases s with
 |nil=>exact jdp
 |cons c t=>
  simp only[aCN]
  split
  ·exact((aUy _).trans (jbn _)).trans (jeb c t)
  ·exact List.suffix_refl _
theorem aCq(s:jB):(aCg s).2<:+s:=(((aCR _).trans (jbn _)).trans (jbn _)).trans (jca 1 s)
end Go.Proofs.YtbbfcbodhmeanaaGreatDoor
namespace Go.Proofs.YtbbfcbodhmeanaaGreatDoor
open Go.Proofs.Tryz
open Go.RowKit Go.WideMaps Go.Maps
def lv(n:Nat)(l:List LK):List Value:=l.flatMap λx=>(lkv n x).toList
theorem aK2(n:Nat)(l:List LK)(x:LK):lv n (l++[x])=lv n l++(lkv n x).toList:=by simp[lv]
theorem aKY(n:Nat)(l m:List LK):lv n (l++m)=lv n l++lv n m:=by simp[lv]
theorem aK0(n:Nat)(l:List LK):(lv n l).length=l.length*3:=by
 induction l with
 |nil=>rfl
 |cons x l a=>rw[show lv n (x::l)=(lkv n x).toList++lv n l from by simp[lv],je,a];simp[lkv];omega
theorem aII:(prog.info? 40).map (λi=>(i.zero,i.size,i.bytes))=some (some (.agg #[.int .i64 0,.int .i64 0,.string jz]),3,32):=by kernel_rfl
theorem aMl{w:World}{B c e s n:Nat}{v:Value}{d:List Value}(h:w.ownsRow B e s v n d)(j:c<=B):w.ownsRow c e s v n d:=by
 refine⟨h.1,?_⟩
 rcases h.2 with b|⟨g,cap,a,b,f,i⟩
 ·exact .inl b
 ·exact .inr ⟨g,cap,a,b,j1 j f,i⟩
theorem aJp:Keyed prog 9:=string_keyed underlying9
theorem aVt(w:World):(zeroValue 3).run prog w=.ok (.int .i64 0) w:=by kernel_rfl
def aBk(w:World)(b n:Nat)(seen:List jB):Prop:=∃D:DataW Unit,w.ownsMap prog 9 (plainElem prog 3) b n D/\IsMap D/\∀nm:jB,D.atKey (.string nm) (.lit (.int .i64 0))=.lit (.int .i64 ((seen.count nm:Nat):Int))
theorem aPV(w:World):aBk (w.alloc (.map #[] 0)) w.heap.size 0 []:=⟨.map [],World.ownsMap_made _ _ _ _,isMap_empty,λa=>by simp[DataW.atKey]⟩
theorem aBk.move{w w':World}{b n:Nat}{seen:List jB}(h:aBk w b n seen)(e:w'.heap[b]?=w.heap[b]?):aBk w' b n seen:=by
 obtain⟨D,⟨c,a,i,F,j,g⟩,d,f⟩:=h
 exact⟨D,⟨c,a,e.trans i,F,j,g⟩,d,f⟩
theorem aBk.lt{w:World}{b n:Nat}{seen:List jB}(h:aBk w b n seen):b<w.heap.size:=by
 obtain⟨D,a,_,_⟩:=h
 exact a.lt
theorem aBk.look{w:World}{b n:Nat}{seen:List jB}(h:aBk w b n seen)(s:jA)(j:s.size<=maxLen):
  (Instr.lookup 107 (.map (some b)) (.string s) false).run prog w=.ok (.int .i64 ((seen.count s.data.toList:Nat):Int)) w:=by
 obtain⟨D,f,_,g⟩:=h
 obtain⟨c,a,d,_⟩:=f.lookup_int aJp underlying107 underlying3 (aVt _) (keyOf_string_mk underlying9 j)
 have e:c=((seen.count s.data.toList:Nat):Int):=by
  have i:=(g s.data.toList).symm.trans d
  exact(Lit.int.inj (DataW.lit.inj i)).2.symm
 rw[e]at a
 exact a
theorem aBk.put{w:World}{b n:Nat}{seen:List jB}(h:aBk w b n seen)(s:jA)(q:s.size<=maxLen)(p:n<maxLen)(c:Int)(l:c=((seen.count s.data.toList+1:Nat):Int))(m:seen.count s.data.toList<1000000):
  ∃w',(Instr.mapUpdate 107 (.map (some b)) (.string s) (.int .i64 c)).run prog w=.ok () w'/\aBk w' b (n+1) (s.data.toList::seen)/\w.grownBy w' (some b):=by
 obtain⟨D,g,f,i⟩:=h
 have o:=keyOf_string_mk (P:=prog) underlying9 q
 obtain⟨w',d,j,k⟩:=g.update aJp underlying107 p o (plainElem_int underlying3 (a:=c) (WalkArith.wf_i64 (by omega)))
 refine⟨w',d,⟨_,j,?_,λr=>?_⟩,k⟩
 ·exact f.put _ _
 ·by_cases e:r=s.data.toList
  ·subst e
   rw[atKey_put_same f (show WideAt.IsKeyLit (.string s.data.toList)from trivial),l,List.count_cons_self]
  ·rw[atKey_put_other (by intro h;injection h with h;exact e h),i,List.count_cons_of_ne (jaz e)]
def aRI(low:jB->jB)(seen:List jB)(s:jB):Option (List LK)×jB:=aRz low (s.length+1) seen s
theorem aRM(a:jB->jB)(seen:List jB)(s:jB)(h:s.dropWhile aIt=[]):aRI a seen s=(none,[]):=by
 unfold aRI aRz
 rw[h]
theorem aRJ(a:jB->jB)(seen:List jB)(s t:jB)(h:s.dropWhile aIt=62::t):aRI a seen s=(some [],t):=by
 unfold aRI aRz
 rw[h]
 rfl
theorem aRL(a:jB->jB)(seen:List jB)(s:jB)(c:UInt8)(t:jB)(h:s.dropWhile aIt=c::t)(b:c≠62):
  aRI a seen s=((aRI a (a (aLm (c::t))::seen) (aCg (c::t)).2).1.map (aLf seen (a (aLm (c::t))) (aCg (c::t)).1++·),(aRI a (a (aLm (c::t))::seen) (aCg (c::t)).2).2):=by
 have d:=aFx h
 have f:=aCl c t
 unfold aRI
 rw[aRA a ((aCg (c::t)).2.length+1) s.length _ _ (jdk _) (by omega)]
 conv=>lhs;unfold aRz
 rw[h]
 simp only
 rw[jh b]
end Go.Proofs.YtbbfcbodhmeanaaGreatDoor

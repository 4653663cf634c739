import Derived.Test.YtbbfcbodhmeanaaGreatDoorXrewritesays14
import Derived.Laws.RangeAny
import Derived.Laws.Runes
import Derived.Lib.MapLaws
import Derived.Lib.OthersKept
import Derived.Deep.DeepCutAuto
set_option maxHeartbeats 8000000
set_option maxRecDepth 1000000
namespace Go.Proofs.YtbbfcbodhmeanaaGreatDoor
open Go.Proofs.Tryz
open Go.RowKit
theorem aUA(r:Nat)(h:r<=1114111)(a:r<55296\/57344<=r):Utf8.valid (r:Int)=true:=by
 unfold Utf8.valid
 simp
 omega
theorem aIV(w:World):
  Calls prog 183 #[.string ⟨#[58,47]⟩,.int .i32 65533] w (jG (.int .i64 (-1)) w):=by
 go_enter func183,ntmps183
 go_wp2
 go_loopg [5,6] 2 (λg _ _ d=>∃i:Nat,i+g=2/\d=w.iter ⟨#[58,47]⟩ i)
 case atStart=>exact⟨0,by omega,rfl⟩
 case round=>
  obtain⟨i,c,rfl⟩:=hrel
  cases gk with
  |zero=>
   obtain rfl:i=2:=by omega
   have a:=run_next_end (P:=prog) w ⟨#[58,47]⟩ 2
   go_wp2
   go_ret
   exact⟨rfl,ja _ _⟩
  |succ g=>
   rcases (show i=0\/i=1 by omega)with rfl|rfl
   ·have a:=λb=>run_next_ascii (P:=prog) w ⟨#[58,47]⟩ 0 b (by decide) (by decide)
    go_wp2
    go_roundg g
    case measure=>omega
    case rel=>exact⟨1,by omega,rfl⟩
   ·have a:=λb=>run_next_ascii (P:=prog) w ⟨#[58,47]⟩ 1 b (by decide) (by decide)
    go_wp2
    go_roundg g
    case measure=>omega
    case rel=>exact⟨2,by omega,rfl⟩
theorem aIq(Y:jA)(a:Y.data.toList=[])(z:Int)(w:World):
  Calls prog 93 #[.string Y,.int .u8 z] w λe w'=>e=.returned (.int .i64 (-1))/\w'=w:=by
 refine(strings_IndexByte Y z w).mono ?_
 rintro e w' ⟨rfl,rfl⟩
 rw[a]
 exact⟨rfl,rfl⟩
theorem aFS(r:Int)(i:Utf8.valid r=true)(f:128<=r):
  (∃a b:UInt8,Utf8.encode r=⟨#[a,b]⟩/\128<=b.toNat)\/(∃a b c:UInt8,Utf8.encode r=⟨#[a,b,c]⟩)\/(∃a b c d:UInt8,Utf8.encode r=⟨#[a,b,c,d]⟩):=by
 have g:¬r.toNat<128:=by omega
 unfold Utf8.encode
 simp only[i,jdl,g,jei]
 split
 ·refine .inl ⟨_,_,rfl,?_⟩
  simp;omega
 ·split
  ·exact .inr (.inl ⟨_,_,_,rfl⟩)
  ·exact .inr (.inr ⟨_,_,_,_,rfl⟩)
theorem aIX(d:Int)(a b c:UInt8)(m:Utf8.encode d=⟨#[a,b,c]⟩)(k:(d==65533)=false)(j:decide (d<128)=false)(l:0<=d)(w:World)
  (i:Hid (∀w,Calls prog 206 #[.int .i32 d] w λe w'=>e=.returned (.bool true)/\w'=w)):
  Calls prog 183 #[.string ⟨#[58,47]⟩,.int .i32 d] w (jG (.int .i64 (-1)) w):=by
 go_enter func183,ntmps183
 go_wp2_with fail
 refine(i.out _).mono ?_
 rintro e w' ⟨rfl,g⟩
 have f:=g.symm
 subst f
 clear i
 go_wp2_with fail
 refine jdy ?_
 go_wp2
 go_loop [9] (λiv=>iv=.int .i64 2) (λ_=>0)
 case atStart=>rfl
 case round=>
  subst hrel
  go_wp2
  go_ret
  exact⟨rfl,jr _ _⟩
theorem aIW(f:Int)(a b c d:UInt8)(n:Utf8.encode f=⟨#[a,b,c,d]⟩)(l:(f==65533)=false)(k:decide (f<128)=false)(m:0<=f)(w:World)
  (j:Hid (∀w,Calls prog 206 #[.int .i32 f] w λe w'=>e=.returned (.bool true)/\w'=w)):
  Calls prog 183 #[.string ⟨#[58,47]⟩,.int .i32 f] w (jG (.int .i64 (-1)) w):=by
 go_enter func183,ntmps183
 go_wp2_with fail
 refine(j.out _).mono ?_
 rintro e w' ⟨rfl,i⟩
 have g:=i.symm
 subst g
 clear j
 go_wp2_with fail
 refine jdy ?_
 go_wp2
 go_loop [9] (λiv=>iv=.int .i64 3) (λ_=>0)
 case atStart=>rfl
 case round=>
  subst hrel
  go_wp2
  go_ret
  exact⟨rfl,jr _ _⟩
theorem aIY(c:Int)(a b:UInt8)(p:Utf8.encode c=⟨#[a,b]⟩)(k:((47:Int)==(b.toNat:Int))=false)(n:(c==65533)=false)(m:decide (c<128)=false)(o:0<=c)(w:World)
  (j:Hid (∀w,Calls prog 206 #[.int .i32 c] w λe w'=>e=.returned (.bool true)/\w'=w)):
  Calls prog 183 #[.string ⟨#[58,47]⟩,.int .i32 c] w λe w'=>e=.returned (.int .i64 (-1))/\jb w w':=by
 go_enter func183,ntmps183
 go_wp2_with fail
 refine(j.out _).mono ?_
 rintro e w' ⟨rfl,f⟩
 have d:=f.symm
 subst d
 clear j
 go_wp2_with fail
 refine jdy ?_
 go_wp2
 go_loop [9] (λiv=>iv=.int .i64 1) (λ_=>0)
 case atStart=>rfl
 case round=>
  subst hrel
  go_wp2
  refine jdy ?_
  have l:((((⟨#[58,47]⟩:jA)[1]'(by decide)).toNat:Int) !=(((⟨#[a,b]⟩:jA)[1]'(by show 1<2;omega)).toNat:Int))=true:=by
   show(!((47:Int)==(b.toNat:Int)))=true
   rw[k];rfl
  go_wp2
  go_region
  go_wp2
  go_region_with (go_at_call 93;refine(aIq _ rfl _ _).mono ?_;rintro e q ⟨rfl,g⟩;have i:=g.symm;subst i)
  all_goals (
   go_wp2
   simp only[Exit.noGoto,Exit.inBlock]
   simp(config:={zetaDelta:=true}) only[Exit.noGoto,Exit.inBlock,Exit.then]
   go_ret
   refine⟨rfl,?_⟩
   repeat (first|exact jr _ _|refine jdi ?_))
theorem aIU(r:Nat)(h:128<=r)(l:r<=1114111)(n:r<55296\/57344<=r)(w:World):
  Calls prog 183 #[.string ⟨#[58,47]⟩,.int .i32 (r:Int)] w (jG (.int .i64 (-1)) w):=by
 by_cases m:r=65533
 ·subst m
  exact aIV w
 ·have k:=aUA r l n
  have g:((r:Int)==65533)=false:=by rw[jg];omega
  have f:decide ((r:Int)<128)=false:=by simp;omega
  have j:(0:Int)<=(r:Int):=by omega
  have i:Hid (∀w,Calls prog 206 #[.int .i32 (r:Int)] w λe w'=>e=.returned (.bool true)/\w'=w):=λw=>by
   refine(utf8_ValidRune (r:Int) w).mono ?_
   rintro e w' ⟨rfl,rfl⟩
   refine⟨?_,rfl⟩
   rw[show Lib.validRune (r:Int)=true from by unfold Lib.validRune;simp;omega]
  rcases aFS (r:Int) k (by omega)with⟨a,b,e,o⟩|⟨a,b,c,e⟩|⟨a,b,c,d,e⟩
  ·exact aIY _ a b e (by rw[jg];omega) g f j w i
  ·exact aIX _ a b c e g f j w i
  ·exact aIW _ a b c d e g f j w i
def sgn(c:UInt8):Bool:=(c==58)||(c==47)
def aIm(l:jB):Int:=match l.findIdx? sgn with|none=>-1|some k=>(k:Int)
theorem aIo{l:jB}(h:∀c∈l,sgn c=false):aIm l=-1:=by
 unfold aIm
 rw[List.findIdx?_eq_none_iff.2 (λx a=>by simp[h x a])]
theorem aIn{l:jB}(k:Nat)(d:k<l.length)(b:sgn l[k]=true)(c:∀j,(a:j<k)->sgn (l[j]'(by omega))=false):aIm l=(k:Int):=by
 unfold aIm
 rw[List.findIdx?_eq_some_iff_getElem.2 ⟨d,b,λj a=>by rw[c j a];simp⟩]
def NoS(l:jB)(k:Nat):Prop:=∀j,j<k->(hj:j<l.length)->sgn l[j]=false
theorem NoS.all{l:jB}(h:NoS l l.length):aIm l=-1:=aIo (λc b=>by
 obtain⟨j,a,rfl⟩:=jdq b
 exact h j a a)
theorem NoS.hit{l:jB}{k:Nat}(h:NoS l k)(c:k<l.length)(a:sgn l[k]=true):aIm l=(k:Int):=aIn k c a (λj b=>h j b (by omega))
theorem aHx(s:jA)(i:Nat)(h:i<s.size):s.get! i=s.data.toList[i]'(by rw[<-Lib.size_eq];exact h):=by
 simp[ByteArray.get!,getElem!_pos,h]
theorem aQe{c:UInt8}(h:128<=c.toNat):sgn c=false:=by
 unfold sgn
 rw[jep,jg,jg]
 exact⟨λe=>by subst e;exact absurd h (by decide),λe=>by subst e;exact absurd h (by decide)⟩
theorem aFb(s:jA)(i:Nat)(q:i<s.size)(h:128<=(s.get! i).toNat):128<=(Utf8.decode s i).1/\(Utf8.decode s i).1<=1114111/\((Utf8.decode s i).1<55296\/57344<=(Utf8.decode s i).1)/\1<=(Utf8.decode s i).2/\i+(Utf8.decode s i).2<=s.size/\
  ∀j,i<=j->j<i+(Utf8.decode s i).2->128<=(s.get! j).toNat:=by
 rw[Lib.decode_at]
 have b0:=(s.get! i).toNat_lt
 have m:=(s.get! (i+1)).toNat_lt
 have n:=(s.get! (i+2)).toNat_lt
 have o:=(s.get! (i+3)).toNat_lt
 rcases Lib.decodeN_shape (s.size-i) (s.get! i).toNat (s.get! (i+1)).toNat (s.get! (i+2)).toNat (s.get! (i+3)).toNat with⟨c,_⟩|⟨c,d,f,g,e⟩|⟨c,d,f,g,k,l,e⟩|⟨c,d,f,g,k,l,p,e⟩|e
 ·omega
 ·rw[e]
  simp only
  refine⟨by omega,by omega,by omega,by omega,by omega,λj a b=>?_⟩
  rcases (show j=i\/j=i+1 by omega)with rfl|rfl
  ·exact h
  ·omega
 ·rw[e]
  simp only
  refine⟨by omega,by omega,by omega,by omega,by omega,λj a b=>?_⟩
  rcases (show j=i\/j=i+1\/j=i+2 by omega)with rfl|rfl|rfl
  ·exact h
  ·omega
  ·omega
 ·rw[e]
  simp only
  refine⟨by omega,by omega,by omega,by omega,by omega,λj a b=>?_⟩
  rcases (show j=i\/j=i+1\/j=i+2\/j=i+3 by omega)with rfl|rfl|rfl|rfl
  ·exact h
  ·omega
  ·omega
  ·omega
 ·rw[e]
  simp only
  refine⟨by omega,by omega,by omega,by omega,by omega,λj a b=>?_⟩
  obtain rfl:j=i:=by omega
  exact h
theorem NoS.run{s:jA}{i:Nat}(h:NoS s.data.toList i)(d:i<s.size)(c:128<=(s.get! i).toNat):NoS s.data.toList (i+(Utf8.decode s i).2):=by
 obtain⟨_,_,_,_,_,g⟩:=aFb s i d c
 intro j f b
 by_cases a:j<i
 ·exact h j a b
 ·have:=g j (by omega) f
  rw[aHx s j (by rw[Lib.size_eq];exact b)]at this
  exact aQe this
theorem NoS.one{l:jB}{k:Nat}(h:NoS l k)(f:k<l.length)(b:sgn l[k]=false):NoS l (k+1):=by
 intro j d c
 by_cases a:j<k
 ·exact h j a c
 ·obtain rfl:j=k:=by omega
  exact b
theorem aQf(x:UInt8):decide (0<=Lib.indexByte [58,47] x)=sgn x:=by
 rw[aIy]
 unfold sgn
 rw[jbt,jbt,List.contains_nil,Bool.or_false]
theorem aIl(s:jA)(w:World)(h8:s.size<=8):
  Calls prog 139 #[.string s,.string ⟨#[58,47]⟩] w (jG (.int .i64 (aIm s.data.toList)) w):=by
 have H:decide ((8:Int)<(s.size:Int))=false:=jV (by omega)
 go_enter func139,ntmps139
 go_wp2_with (go_at_call 184;refine(strings_shouldUseASCIISet _ _).mono ?_;rintro e w' ⟨rfl,X⟩;rw[X,H])
 go_loopg [9,10] s.size (λg _ _ O=>∃i:Nat,i<=s.size/\s.size<=i+g/\O.heap[w.heap.size]?=some (.stringIter s i)/\jb w O/\Hid (NoS s.data.toList i))
 case atStart=>exact⟨0,jy _,by omega,World.iter_heap _ _ _,ja _ _,λj U=>absurd U (jdo _)⟩
 case round=>
  obtain⟨i,S,T,B,d,q⟩:=hrel
  by_cases n:i<s.size
  ·have o:i<s.data.toList.length:=by rw[<-Lib.size_eq];exact n
   have m:=aHx s i n
   by_cases F:(s.get! i).toNat<128
   ·have v:s[i]'n=s.data.toList[i]'o:=rfl
    obtain⟨x,L⟩:∃x:UInt8,s[i]'n=x:=⟨_,rfl⟩
    have k:s.data.toList[i]'o=x:=by rw[<-v,L]
    have z:x.toNat<128:=by rw[<-k,<-m];exact F
    have t:=λD=>Lib.run_next_ascii_at (P:=prog) wr w.heap.size s i D B n (by rw[L];exact z)
    rw[L]at t
    have p:=Lib.iterAt_heap wr w.heap.size s i (i+1) B
    have l:=Lib.below_iterAt d (jf _) s (i+1)
    have a:=aQf x
    have b:((x.toNat:Int)).toNat.toUInt8=x:=by simp
    have E:Hid (∀W,Calls prog 183 #[.string ⟨#[58,47]⟩,.int .i32 (x.toNat:Int)] W λe w'=>e=.returned (.int .i64 (Lib.indexByte [58,47] x))/\w'=W):=λW=>by
     refine(strings_IndexRune_ascii ⟨#[58,47]⟩ (x.toNat:Int) W (by omega) (by omega)).mono ?_
     rintro e w' ⟨rfl,rfl⟩
     rw[b]
     exact⟨rfl,rfl⟩
    cases c:sgn x
    ·rw[c]at a
     have V:¬((0:Int)<=Lib.indexByte [58,47] x):=of_decide_eq_false a
     have r:Hid (NoS s.data.toList (i+1)):=q.out.one o (by rw[k];exact c)
     clear a m v k F b c q
     generalize Lib.indexByte [58,47] x=Y at*
     go_wp2_with (go_at_call 183;refine(E.out _).mono ?_;rintro e w' ⟨rfl,y⟩;have f:=y.symm;subst f)
     go_roundg (gk-1)
     case measure=>omega
     case rel=>exact⟨i+1,by omega,by omega,p,l,r⟩
    ·rw[c]at a
     have R:(0:Int)<=Lib.indexByte [58,47] x:=jbl a
     have G:Hid (aIm s.data.toList=(i:Int)):=q.out.hit o (by rw[k];exact c)
     clear a m v k F b c q
     generalize Lib.indexByte [58,47] x=Y at*
     go_wp2_with (go_at_call 183;refine(E.out _).mono ?_;rintro e w' ⟨rfl,y⟩;have f:=y.symm;subst f)
     go_ret
     exact⟨by rw[G.out];rfl,l⟩
   ·obtain⟨d1,d2,d3,d4,d5,_⟩:=aFb s i n (by omega)
    have r:Hid (NoS s.data.toList (i+(Utf8.decode s i).2)):=q.out.run n (by omega)
    have E:Hid (∀W,Calls prog 183 #[.string ⟨#[58,47]⟩,.int .i32 ((Utf8.decode s i).1:Int)] W (jG (.int .i64 (-1)) W)):=λW=>aIU _ d1 d2 d3 W
    have t:=λD=>Lib.run_next_any_at (P:=prog) wr w.heap.size s i D B n
    have p:=Lib.iterAt_heap wr w.heap.size s i (i+(Utf8.decode s i).2) B
    have l:=Lib.below_iterAt d (jf _) s (i+(Utf8.decode s i).2)
    clear m F q d1 d2 d3
    generalize (Utf8.decode s i).1=rr at*
    generalize (Utf8.decode s i).2=M at*
    generalize wr.iterAt w.heap.size s (i+M)=Z at*
    go_wp2_with (go_at_call 183;refine(E.out _).mono ?_;rintro e N ⟨rfl,A⟩)
    have C:w.heap.size<Z.heap.size:=(jl.1 p).1
    have J:N.heap[w.heap.size]?=some (.stringIter s (i+M)):=by rw[A.block _ C];exact p
    have I:jb w N:=l.trans (A.mono (by omega))
    go_roundg (gk-1)
    case measure=>omega
    case rel=>exact⟨i+M,by omega,by omega,J,I,r⟩
  ·obtain rfl:i=s.size:=by omega
   have G:Hid (aIm s.data.toList=-1):=by
    have:=q.out
    rw[Lib.size_eq]at this
    exact this.all
   have t:=λD=>Lib.run_next_end_at (P:=prog) wr w.heap.size s s.size D B n
   clear q
   go_wp2
   go_ret
   exact⟨by rw[G.out];rfl,d⟩
theorem aIk(s:jA)(w:World)(L:8<s.size)(M:s.size<=1000000):
  Calls prog 139 #[.string s,.string ⟨#[58,47]⟩] w (jG (.int .i64 (aIm s.data.toList)) w):=by
 have B:decide ((8:Int)<(s.size:Int))=true:=j3 (by omega)
 have D:=strings_makeASCIISet aVr ⟨#[58,47]⟩ w (by decide) (λj b F=>by
  have:b∈[(58:UInt8),47]:=jav F
  simp at this
  rcases this with rfl|rfl<;>decide)
 have y:Hid ((Lib.setCells (ByteArray.mk #[58,47]).data.toList).size=256):=Lib.setCells_size _
 have z:Hid (∀c:UInt8,(Lib.setCells (ByteArray.mk #[58,47]).data.toList)[c.toNat]?=some (.bool ((ByteArray.mk #[58,47]).data.toList.contains c))):=λc=>Lib.setCells_at _ c
 have A:Hid ((Lib.setCells (ByteArray.mk #[58,47]).data.toList).all (·.oneCell')=true):=Lib.setCells_one _
 generalize Lib.setCells (ByteArray.mk #[58,47]).data.toList=f at*
 have q:Hid (Calls prog 122 #[.string ⟨#[58,47]⟩] w _):=D
 clear D
 have l:=y.out
 have C:(storeCells (jx (w.heap.size+1) 0) f.toList 0).run prog ((w.alloc (.cells f 152)).alloc (.cells zeroCells152 152))=.ok () ((w.alloc (.cells f 152)).alloc (.cells f 152)):=by
  have:=run_storeCells_new (P:=prog) (w.alloc (.cells f 152)) 152 zeroCells152 f (by rw[l];kernel_rfl) (by rw[l];kernel_rfl) A.out
  simpa using this
 have E:Hid (∀c:UInt8,((w.alloc (.cells f 152)).alloc (.cells f 152)).cell? (jx (w.heap.size+1) c.toNat)=some (.bool (sgn c))):=λc=>by
  rw[jdn _ _ _ _ (by simp),z.out c]
  unfold sgn
  rw[jbt,jbt,List.contains_nil,Bool.or_false]
 have r:jb w ((w.alloc (.cells f 152)).alloc (.cells f 152)):=(ja _ _).alloc (by simp) _
 go_enter func139,ntmps139
 go_wp2_with (go_at_call 184;refine(strings_shouldUseASCIISet _ _).mono ?_;rintro e w' ⟨rfl,I⟩;rw[I,B])
 refine q.out.mono ?_
 rintro e N ⟨rfl,rfl⟩
 clear q
 go_wp2_with fail
 clear C l
 generalize ((w.alloc (.cells f 152)).alloc (.cells f 152))=J at*
 go_loopw[8] (λv wr=>∃i:Nat,v=.int .i64 i/\i<=s.size/\wr=J/\Hid (NoS s.data.toList i)) (λv _=>s.size-(intOf v).toNat)
 case atStart=>exact⟨0,rfl,jy _,rfl,λj H=>absurd H (jdo _)⟩
 case round=>
  obtain⟨i,rfl,G,rfl,o⟩:=hrel
  by_cases p:i<s.size
  ·have m:i<s.data.toList.length:=by rw[<-Lib.size_eq];exact p
   have k:s[i]'p=s.data.toList[i]'m:=rfl
   have a:=E.out (s[i]'p)
   cases d:sgn (s[i]'p)
   ·have x:Hid (NoS s.data.toList (i+1)):=o.out.one m (by rw[<-k];exact d)
    rw[d]at a
    clear k d o
    go_wp2_with (go_at_call 161;refine(aIx (w.heap.size+1) (s[i]'p) _ rfl false _ a).mono ?_;rintro e w' ⟨rfl,n⟩;have g:=n.symm;subst g)
    go_roundw
    case rel=>exact⟨i+1,by go_num,by omega,trivial,x⟩
    case measure=>simp[intOf];omega
   ·have t:Hid (aIm s.data.toList=(i:Int)):=o.out.hit m (by rw[<-k];exact d)
    rw[d]at a
    clear k d o
    go_wp2_with (go_at_call 161;refine(aIx (w.heap.size+1) (s[i]'p) _ rfl true _ a).mono ?_;rintro e w' ⟨rfl,n⟩;have g:=n.symm;subst g)
    go_ret
    exact⟨by rw[t.out];rfl,r⟩
  ·obtain rfl:i=s.size:=by omega
   have t:Hid (aIm s.data.toList=-1):=by
    have:=o.out
    rw[Lib.size_eq]at this
    exact this.all
   clear o
   go_wp2
   go_ret
   exact⟨by rw[t.out];rfl,r⟩
theorem aIj(s:jA)(w:World)(a:s.size<=1000000):
  Calls prog 139 #[.string s,.string ⟨#[58,47]⟩] w (jG (.int .i64 (aIm s.data.toList)) w):=by
 by_cases h:s.size<=8
 ·exact aIl s w h
 ·exact aIk s w (by omega) a
theorem aGM:∀l:jB,match l.findIdx? sgn with
  |none=>aEP l=none
  |some k=>k<l.length/\((l.getD k 0=58/\aEP l=some (l.take k,l.drop (k+1)))\/(l.getD k 0=47/\aEP l=none))
 |[]=>by simp[aEP]
 |c::r=>by
  have a:=aGM r
  rw[List.findIdx?_cons]
  by_cases d:c=58
  ·subst d
   rw[jo (by rfl)]
   simp[aEP]
  ·by_cases f:c=47
   ·subst f
    rw[jo (by rfl)]
    simp[aEP]
   ·have i:sgn c=false:=by unfold sgn;simp[d,f]
    rw[jh (by rw[i];simp)]
    rw[show aEP (c::r)=(aEP r).map λx=>(c::x.1,x.2)from by rw[aEP,jh d,jh f]]
    cases g:r.findIdx? sgn with
    |none=>
     rw[g]at a
     simp only at a
     simp only[Option.map_none]
     rw[a];rfl
    |some k=>
     rw[g]at a
     simp only at a
     simp only[jcz]
     obtain⟨j,a⟩:=a
     refine⟨by simp;omega,?_⟩
     rcases a with⟨e1,b⟩|⟨e1,b⟩
     ·refine .inl ⟨by simpa using e1,?_⟩
      rw[b];simp
     ·refine .inr ⟨by simpa using e1,?_⟩
      rw[b];rfl
def aUY(l:jB):Int:=match aEP l with|none=>-1|some x=>(x.1.length:Int)
theorem aUZ(l:jB):decide (aUY l<0)=(aEP l).isNone:=by
 unfold aUY
 cases aEP l with
 |none=>rfl
 |some x=>simp
theorem aTH(s:jA)(w:World)(p:s.size<=1000000):
  Calls prog 90 #[.string s] w (jG (.int .i64 (aUY s.data.toList)) w):=by
 have c:=aGM s.data.toList
 have C:=aIj s w p
 unfold aIm at C
 cases j:s.data.toList.findIdx? sgn with
 |none=>
  rw[j]at c C
  simp only at c C
  have g:Hid (aUY s.data.toList=-1):=by unfold Hid aUY;rw[c]
  have f:Hid (Calls prog 139 #[.string s,.string ⟨#[58,47]⟩] w (jG (.int .i64 (-1)) w)):=C
  clear C c j
  go_enter func90,ntmps90
  go_wp2_with fail
  refine f.out.mono ?_
  rintro e m ⟨rfl,a⟩
  clear f
  go_wp2
  go_ret
  exact⟨by rw[g.out];rfl,a⟩
 |some k=>
  rw[j]at c C
  simp only at c C
  obtain⟨d,c⟩:=c
  have o:k<s.size:=by rw[Lib.size_eq];exact d
  have n:(k:Int)<(s.size:Int):=by omega
  have b:s.data.toList.getD k 0=s[k]:=by
   rw[jd,jc d];rfl
  have f:Hid (Calls prog 139 #[.string s,.string ⟨#[58,47]⟩] w (jG (.int .i64 (k:Int)) w)):=C
  clear C j
  rw[b]at c
  rcases c with⟨e1,i⟩|⟨e1,i⟩
  ·have g:Hid (aUY s.data.toList=(k:Int)):=by
    unfold Hid aUY;rw[i]
    simp only[jF]
    rw[jbf (by omega)]
   have l:((s[k].toNat:Int)==47)=false:=by rw[e1];rfl
   clear e1 i b d
   go_enter func90,ntmps90
   go_wp2_with fail
   refine f.out.mono ?_
   rintro e m ⟨rfl,a⟩
   clear f
   go_wp2
   go_ret
   exact⟨by rw[g.out];rfl,a⟩
  ·have g:Hid (aUY s.data.toList=-1):=by unfold Hid aUY;rw[i]
   have l:((s[k].toNat:Int)==47)=true:=by rw[e1];rfl
   clear e1 i b d
   go_enter func90,ntmps90
   go_wp2_with fail
   refine f.out.mono ?_
   rintro e m ⟨rfl,a⟩
   clear f
   go_wp2
   go_ret
   exact⟨by rw[g.out];rfl,a⟩
def aHi(hh eh hq eq hf ef ep pre pp es cn:Bool):Bool:=
 if(!hh&&!eh)||(!hq&&!eq)||(!hf&&!ef)then false
 else if hh then ep||pre
 else if !hh&&pp then false else !es||cn
theorem aHk(u:UL):aHj u=aHi u.hh u.hst.isEmpty u.hq u.qry.isEmpty u.hf u.frg.isEmpty u.pth.isEmpty (aNE u.pth) (aNF u.pth) u.sch.isEmpty (aEP u.pth).isNone:=rfl
theorem aI0(s:jA)(h:s.data.toList≠[]):s.data.toList.isEmpty=false:=by
 cases b:s.data.toList with
 |nil=>exact absurd b h
 |cons a l=>rfl
theorem aNC(s:jA)(h:s.data.toList≠[]):0<s.size:=by
 rw[Lib.size_eq];exact jbr.2 h
theorem aNK(s:jA)(h:0<s.size):aNE s.data.toList=((s[0].toNat:Int)==47):=by
 have e:=jE (i:=0) (l:=s.data.toList) (by rw[<-Lib.size_eq];exact h)
 rw[jbc]at e
 unfold aNE
 rw[e,List.head?_cons]
 show(some s[0]==some 47)=_
 rw[jW]
 simp only[jbp,jac]
 rw[<-jM]
 constructor
 ·intro h;rw[h];rfl
 ·intro h
  have:s[0].toNat=47:=by omega
  exact this
theorem aTS(u:UV)(V:u.short 1000000)(w:World):
  Calls prog 146 #[u.v] w (jG (.bool (aHj u.l)) w):=by
 obtain⟨a,hh,hst,pth,hq,qry,k,b⟩:=u
 obtain⟨_,_,j,_,_⟩:=V
 simp only at j
 have C:Hid (∀W,Calls prog 97 #[.agg (jU a hh hst pth hq qry k b)] W (jG (.bool (!hh&&aNF pth.data.toList)) W)):=λW=>aTV a hst pth qry b hh hq k W
 have t:Hid (∀W,Calls prog 90 #[.string pth] W (jG (.int .i64 (aUY pth.data.toList)) W)):=λW=>aTH pth W j
 obtain⟨R,J⟩:∃R,aHj (UV.l ⟨a,hh,hst,pth,hq,qry,k,b⟩)=R:=⟨_,rfl⟩
 have d:Hid (R=aHi hh hst.data.toList.isEmpty hq qry.data.toList.isEmpty k b.data.toList.isEmpty pth.data.toList.isEmpty (aNE pth.data.toList) (aNF pth.data.toList) a.data.toList.isEmpty (decide (aUY pth.data.toList<0))):=by unfold Hid;rw[<-J,aUZ];rfl
 have G:Hid (pth.data.toList.isEmpty=false->∃h:0<pth.size,aNE pth.data.toList=((pth[0].toNat:Int)==47)):=λh=>by
  have N:=aNC pth (λe=>by rw[e]at h;cases h)
  exact⟨N,aNK pth N⟩
 have e1:hst.toList.isEmpty=hst.data.toList.isEmpty:=by rw[jj]
 have e2:qry.toList.isEmpty=qry.data.toList.isEmpty:=by rw[jj]
 have e3:b.toList.isEmpty=b.data.toList.isEmpty:=by rw[jj]
 have e4:pth.toList.isEmpty=pth.data.toList.isEmpty:=by rw[jj]
 have e5:a.toList.isEmpty=a.data.toList.isEmpty:=by rw[jj]
 generalize hst.data.toList.isEmpty=D at*
 generalize qry.data.toList.isEmpty=I at*
 generalize b.data.toList.isEmpty=H at*
 generalize pth.data.toList.isEmpty=P at*
 generalize a.data.toList.isEmpty=S at*
 generalize aNF pth.data.toList=X at*
 generalize aNE pth.data.toList=ps at*
 generalize aUY pth.data.toList=Z at*
 obtain⟨i,c⟩:∃W,W=w.alloc (.cells (jU a hh hst pth hq qry k b) 85):=⟨_,rfl⟩
 obtain⟨A,g⟩:∃A,w.heap.size=A:=⟨_,rfl⟩
 have q:Hid (Below A w i):=by rw[c,<-g];exact ja _ _
 have M:i.cell? (jx A 0)=some (.string a):=by rw[c,<-g];simp
 have z1:i.cell? (jx A 1)=some (.bool hh):=by rw[c,<-g];simp
 have z2:i.cell? (jx A 2)=some (.string hst):=by rw[c,<-g];simp
 have O:i.cell? (jx A 3)=some (.string pth):=by rw[c,<-g];simp
 have z4:i.cell? (jx A 4)=some (.bool hq):=by rw[c,<-g];simp
 have z5:i.cell? (jx A 5)=some (.string qry):=by rw[c,<-g];simp
 have z6:i.cell? (jx A 6)=some (.bool k):=by rw[c,<-g];simp
 have z7:i.cell? (jx A 7)=some (.string b):=by rw[c,<-g];simp
 have y:Hid _:=c
 show Calls prog 146 #[.agg (jU a hh hst pth hq qry k b)] w λe w'=>e=.returned (.bool (aHj (UV.l ⟨a,hh,hst,pth,hq,qry,k,b⟩)))/\Below w.heap.size w w'
 rw[J]
 clear c J j
 go_enter func146,ntmps146
 go_upto_region 1 with fail
 rw[<-y.out]
 clear y
 go_cut[3] (λv B=>v=.bool (!hh&&!D)/\B=i)
 case first=>
  cases hh<;>cases D<;>(go_wp2_with fail;go_meet;exact⟨rfl,rfl⟩)
 case rest=>
 obtain⟨n,o⟩:=hcut
 rw[n,o]
 clear n o
 cases E:(!hh&&!D)with
 |true=>
  have f:Hid (R=false):=by unfold Hid;rw[d.out];simp[aHi,E]
  clear d
  go_wp2_with fail
  go_ret
  exact⟨by rw[f.out];rfl,q.out⟩
 |false=>
  go_upto_region 2 with fail
  go_cut[3] (λv B=>v=.bool (!hq&&!I)/\B=i)
  case first=>
   cases hq<;>cases I<;>(go_wp2_with fail;go_meet;exact⟨rfl,rfl⟩)
  case rest=>
  obtain⟨n,o⟩:=hcut
  rw[n,o]
  clear n o
  cases r:(!hq&&!I)with
  |true=>
   have f:Hid (R=false):=by unfold Hid;rw[d.out];simp[aHi,E,r]
   clear d
   go_wp2_with fail
   go_ret
   exact⟨by rw[f.out];rfl,q.out⟩
  |false=>
   go_upto_region 3 with fail
   go_cut[3] (λv B=>v=.bool (!k&&!H)/\B=i)
   case first=>
    cases k<;>cases H<;>(go_wp2_with fail;go_meet;exact⟨rfl,rfl⟩)
   case rest=>
   obtain⟨n,o⟩:=hcut
   rw[n,o]
   clear n o
   cases x:(!k&&!H)with
   |true=>
    have f:Hid (R=false):=by unfold Hid;rw[d.out];simp[aHi,E,r,x]
    clear d
    go_wp2_with fail
    go_ret
    exact⟨by rw[f.out];rfl,q.out⟩
   |false=>
    cases hh with
    |true=>
     cases P with
     |true=>
      have f:Hid (R=true):=by unfold Hid;rw[d.out];simp[aHi,r,x]
      clear d C t
      go_wp2_with fail
      go_ret
      exact⟨by rw[f.out];rfl,q.out⟩
     |false=>
      obtain⟨T,j⟩:=G.out rfl
      have U:(0:Int)<(pth.size:Int):=by omega
      have f:Hid (R=((pth[0].toNat:Int)==47)):=by unfold Hid;rw[d.out,<-j];simp[aHi,r,x]
      clear d C t j
      go_wp2_with fail
      go_ret
      exact⟨by rw[f.out];rfl,q.out⟩
    |false=>
     obtain rfl:D=true:=by simpa using E
     go_wp2_with fail
     refine(C.out _).mono ?_
     rintro e L ⟨rfl,m⟩
     have l:Hid (Below A w L):=q.out.trans (m.mono (by rw[<-g];exact q.out.size))
     have s:A<i.heap.size:=ji _ _ M
     have y0:L.cell? (jx A 0)=some (.string a):=(m.cell (p:=jx A 0) s).trans M
     have y3:L.cell? (jx A 3)=some (.string pth):=(m.cell (p:=jx A 3) s).trans O
     clear m M z1 z2 O z4 z5 z6 z7 C s
     cases X with
     |true=>
      have f:Hid (R=false):=by unfold Hid;rw[d.out];simp[aHi,r,x]
      clear d t
      go_wp2_with fail
      go_ret
      exact⟨by rw[f.out];rfl,by rw[g];exact l.out⟩
     |false=>
      cases S with
      |false=>
       have f:Hid (R=true):=by unfold Hid;rw[d.out];simp[aHi,r,x]
       clear d t
       go_wp2_with fail
       go_ret
       exact⟨by rw[f.out];rfl,by rw[g];exact l.out⟩
      |true=>
       have f:Hid (R=decide (Z<0)):=by unfold Hid;rw[d.out];simp[aHi,r,x]
       clear d
       go_wp2_with fail
       refine(t.out _).mono ?_
       rintro e Y ⟨rfl,z⟩
       have F:Hid (Below A w Y):=l.out.trans (z.mono (by rw[<-g];exact l.out.size))
       clear t z
       go_wp2_with fail
       go_ret
       exact⟨by rw[f.out];rfl,by rw[g];exact F.out⟩
end Go.Proofs.YtbbfcbodhmeanaaGreatDoor

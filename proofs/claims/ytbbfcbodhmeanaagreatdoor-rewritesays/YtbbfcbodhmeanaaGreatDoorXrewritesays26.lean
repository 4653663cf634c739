import Derived.Test.YtbbfcbodhmeanaaGreatDoorXrewritesays13
import Derived.Lib.Overlaps
import Derived.Lib.AppendZerosOnto
import Derived.Laws.CopyOwn
import Derived.Laws.Externs
import Derived.Lib.ConvBytes
import Derived.Shelf.Spec.SlicesInsert
set_option maxHeartbeats 8000000
set_option maxRecDepth 1000000
namespace Go.Proofs.YtbbfcbodhmeanaaGreatDoor
open Go.Proofs.Tryz
open Go.RowKit Go.WideMaps Go.Maps
def aB0(v:Value):Option (DataW Value×List MemPlace):=some (.held v,[])
theorem aJo:Keyed prog 3:=int_keyed underlying3
theorem aUS{k:Int}(a:-9223372036854775808<=k)(b:k<=9223372036854775807):(Lit.int .i64 k).wf=true:=WalkArith.wf_i64 ⟨a,b⟩
def aAO(w:World)(b n:Nat)(z:Value)(f:Int->Value):Prop:=∃D:DataW Value,w.ownsMap prog 3 aB0 b n D/\IsMap D/\∀k:Int,D.atKey (.int .i64 k) (.held z)=.held (f k)
theorem aK7(w:World)(z:Value):aAO (w.alloc (.map #[] 0)) w.heap.size 0 z (λ_=>z):=⟨.map [],World.ownsMap_made _ _ _ _,isMap_empty,λk=>by simp[DataW.atKey]⟩
theorem aAO.move{w w':World}{b n:Nat}{z:Value}{f:Int->Value}(h:aAO w b n z f)(e:w'.heap[b]?=w.heap[b]?):aAO w' b n z f:=by
 obtain⟨D,⟨c,a,j,F,k,i⟩,d,g⟩:=h
 exact⟨D,⟨c,a,e.trans j,F,k,i⟩,d,g⟩
theorem aAO.lt{w:World}{b n:Nat}{z:Value}{f:Int->Value}(h:aAO w b n z f):b<w.heap.size:=by
 obtain⟨D,a,_,_⟩:=h
 exact a.lt
theorem aAO.look{w:World}{b n:Nat}{z:Value}{f:Int->Value}(h:aAO w b n z f){t e:TypeId}(m:prog.underlying t=some (.map 3 e))(o:(zeroValue e).run prog w=.ok z w)(k:Int)(g:-9223372036854775808<=k)(i:k<=9223372036854775807):
  (Instr.lookup t (.map (some b)) (.int .i64 k) false).run prog w=.ok (f k) w:=by
 obtain⟨D,l,_,j⟩:=h
 obtain⟨v,p,a,d⟩:=l.lookup aJo m o (zd:=.held z) (zp:=[]) rfl (keyOf_int_mk underlying3 (aUS g i))
 rw[j k]at d
 have c:some ((DataW.held v:DataW Value),([]:List MemPlace))=some (.held (f k),p):=d
 have e:v=f k:=DataW.held.inj (Prod.mk.inj (jI c)).1
 rw[e]at a
 exact a
theorem aAO.put{w:World}{b n:Nat}{z:Value}{f:Int->Value}(h:aAO w b n z f){t e:TypeId}(q:prog.underlying t=some (.map 3 e))(p:n<maxLen)(k:Int)(d:-9223372036854775808<=k)(g:k<=9223372036854775807)(v:Value):
  ∃w',(Instr.mapUpdate t (.map (some b)) (.int .i64 k) v).run prog w=.ok () w'/\aAO w' b (n+1) z (λj=>if j=k then v else f j)/\w.grownBy w' (some b):=by
 obtain⟨D,o,c,i⟩:=h
 obtain⟨w',a,l,m⟩:=o.update aJo q p (keyOf_int_mk underlying3 (aUS d g)) (show aB0 v=some (.held v,[])from rfl)
 refine⟨w',a,⟨_,l,c.put _ _,λj=>?_⟩,m⟩
 by_cases e:j=k
 ·subst e
  simp only[jdl]
  exact atKey_put_same c (show WideAt.IsKeyLit (.int .i64 j)from trivial) _ _
 ·simp only
  rw[jh e,atKey_put_other (by intro h;injection h with _ h;exact e h)]
  exact i j
end Go.Proofs.YtbbfcbodhmeanaaGreatDoor
namespace Go.Proofs.YtbbfcbodhmeanaaGreatDoor
theorem aUx(s:jB)(h:(aUs s).2.2≠[]):(aUs s).2.1.length+1<=(aUs s).1.length:=by
 have a:0<(aUs s).2.2.length:=jbr.2 h
 have b:(aUs s).2.1.length+(aUs s).2.2.length<=(aUs s).1.length:=by
  cases s with
  |nil=>exact jf _
  |cons c t=>
   simp only[aUs]
   split
   ·have:=jab List.length (jak (p:=aLF c) (l:=t))
    rw[je]at this
    simp only[jH]
    omega
   ·have:=jab List.length (jak (p:=aIs) (l:=c::t))
    rw[je]at this
    simp only at*
    omega
 omega
theorem aCo(s:jB)(x:LK)(h:(aCg s).1=some x)(a:(aCg s).2≠[]):x.2.length+1<=x.1:=by
 unfold aCg at h a
 cases d:(((s.drop 1).dropWhile aIr).dropWhile spB)with
 |nil=>rw[d]at h;cases h
 |cons c t=>
  rw[d]at h a
  simp only[aCN]at h a
  split at h
  ·rename_i b
   rw[jo b]at a
   cases h
   exact aUx _ a
  ·cases h
theorem aRS(b:jB->jB):∀(n:Nat) (seen:List jB) (s:jB) (l:List LK),(aRz b n seen s).1=some l->∀x∈l,x.2.length+1<=x.1
 |0,_,_,_,h=>by cases h
 |n+1,seen,s,l,h=>by
  unfold aRz at h
  cases f:s.dropWhile aIt with
  |nil=>rw[f]at h;cases h
  |cons c t=>
   rw[f]at h
   simp only at h
   split at h
   ·cases h;intro x a;cases a
   ·simp only[jdf]at h
    obtain⟨j,d,rfl⟩:=h
    have g:(aCg (c::t)).2≠[]:=λe=>by rw[e,aRC]at d;cases d
    intro x a
    rcases jY.1 a with a|a
    ·unfold aLf at a
     split at a
     ·cases a
     ·rename_i y i
      split at a
      ·simp at a
       subst a
       exact aCo _ _ i g
      ·cases a
    ·exact aRS b n _ _ j d x a
theorem aM2(b:jB->jB)(s:jB):∀x∈(aMT b s).1,x.2.length+1<=x.1:=by
 unfold aMT
 split
 ·intro x a;cases a
 ·split
  ·intro x a;cases a
  ·split
   ·simp only[aRD]
    cases h:(aRz b ((List.dropWhile aIv (List.drop 1 s)).length+1) [] (List.dropWhile aIv (List.drop 1 s))).1 with
    |none=>intro x a;cases a
    |some l=>exact aRS b _ _ _ l h
   ·split<;>(intro x a;cases a)
theorem aGI(b:jB->jB):∀(n:Nat) (a:List LK) (s:jB) (L:List LK),aGw b n a s=some L->(∀x∈a,x.2.length+1<=x.1)->∀x∈L,x.2.length+1<=x.1
 |0,a,s,L,h,ha=>by simp only[aGw,jac]at h;rw[<-h];exact ha
 |n+1,a,s,L,h,ha=>by
  rw[aGw]at h
  split at h
  ·simp only[jac]at h;rw[<-h];exact ha
  ·split at h
   ·cases h
   ·refine aGI b n _ _ L h (λx c=>?_)
    rcases jY.1 c with c|c
    ·exact ha x c
    ·exact aM2 b s x c
theorem aGB(a:jB->jB)(b:jB)(l:List LK)(h:aGz a b=some l):∀x∈l,x.2.length+1<=x.1:=by
 unfold aGz at h
 split at h
 ·cases h
 ·exact aGI a _ _ _ l h (λx c=>by cases c)
theorem aGn(x:LK)(a:List LK)(s:jB):aGe (x::a) [] s=s:=by rw[aGe];intro _ _ _ _ _ h;cases h
theorem aGg:∀(l:List LK) (a:List jB) (b:jB) (d:Nat),Ord b.length d l->d<=b.length->aGe l a b=b.take d++aGe l a (b.drop d)
 |[],a,b,d,_,_=>by rw[aGh,aGh,jaq]
 |x::l,[],b,d,_,_=>by rw[aGn,aGn,jaq]
 |x::l,t::a,b,d,h,hd=>by
  by_cases c:t=[]
  ·subst c
   rw[aGj,aGj]
   exact aGg l a b d (h.2.2.2.mono (by have:=h.2.1;omega)) hd
  ·rw[aGp _ _ _ _ _ c,aGp _ _ _ _ _ c]
   have g:=h.1
   have f:=h.2.1
   rw[jH,jay,show d+(b.length-d-x.1+x.2.length)=b.length-x.1+x.2.length from by omega,<-jJ,<-jJ]
   congr 2
   have e:b.take (b.length-x.1)=b.take d++(b.drop d).take (b.length-x.1-d):=by
    rw[<-jaq d (b.take (b.length-x.1)),jbq,jbf f,List.drop_take]
   rw[e,show b.length-d-x.1=b.length-x.1-d from by omega]
theorem aGr:∀(l:List LK) (a:List jB) (s:jB),s≠[]->aGe l a s≠[]
 |[],a,s,h=>by rw[aGh];exact h
 |x::l,[],s,h=>by rw[aGn];exact h
 |x::l,t::a,s,h=>by
  by_cases b:t=[]
  ·subst b;rw[aGj];exact aGr l a s h
  ·rw[aGp _ _ _ _ _ b];simp[b]
def aRo(ts:List jB):Nat:=(ts.map List.length).sum
theorem aRp(t:jB)(a:List jB):aRo (t::a)=t.length+aRo a:=by simp[aRo]
theorem aGl:∀(l:List LK) (a:List jB) (s:jB),(aGe l a s).length<=s.length+aRo a
 |[],a,s=>by rw[aGh];omega
 |x::l,[],s=>by rw[aGn];omega
 |x::l,t::a,s=>by
  rw[aRp]
  by_cases b:t=[]
  ·subst b
   rw[aGj]
   have:=aGl l a s
   simp only[jag]
   omega
  ·rw[aGp _ _ _ _ _ b]
   have:=aGl l a (s.drop (s.length-x.1+x.2.length))
   rw[jH]at this
   rw[je,je,jF]
   omega
theorem aRq(a:List jB)(k:Nat):aRo (a.drop k)<=aRo a:=by
 induction a generalizing k with
 |nil=>simp[aRo]
 |cons t a b=>
  cases k with
  |zero=>exact jf _
  |succ k=>rw[List.drop_succ_cons,aRp];have:=b k;omega
theorem aL2:∀(l:List LK) (N d k:Nat),Ord N d l->∃a,Ord N a (l.drop k)
 |_,_,d,0,h=>⟨d,h⟩
 |[],_,d,_+1,_=>⟨d,trivial⟩
 |_::l,N,_,k+1,h=>aL2 l N _ k h.2.2.2
theorem aGs(l:List LK)(a:List jB)(b:jB)(f:Ord b.length 0 l)(d:∀x∈l,x.2.length+1<=x.1)(k:Nat)(m:k<l.length)(n:k<a.length)(v:a.getD k []≠[]):
  let X:=aGe (l.drop (k+1)) (a.drop (k+1)) b
  let i:=b.length-(l.getD k (0,[])).1
  let j:=b.length-(l.getD k (0,[])).1+(l.getD k (0,[])).2.length
  aGe (l.drop k) (a.drop k) b=X.take i++a.getD k []++X.drop j/\j<X.length:=by
 obtain⟨A,o⟩:=aL2 l b.length 0 k f
 have y:l.getD k (0,[])∈l:=by rw[jd,jc m];exact jQ m
 have z:=d _ y
 rw[aFy l k (0,[]) m]at o⊢
 rw[aFy a k [] n]
 generalize l.getD k (0,[])=x at*
 generalize a.getD k []=t at*
 have B:=o.1
 have r:b.length-x.1+x.2.length<b.length:=by omega
 have q:=aGg (l.drop (k+1)) (a.drop (k+1)) b _ o.2.2.2 (jds r)
 have s:=aGr (l.drop (k+1)) (a.drop (k+1)) (b.drop (b.length-x.1+x.2.length)) (by
  intro e
  have:=jab List.length e
  rw[jH]at this
  simp at this
  omega)
 have c:(b.take (b.length-x.1+x.2.length)).length=b.length-x.1+x.2.length:=by rw[jF];omega
 intro X i j
 show aGe (x::l.drop (k+1)) (t::a.drop (k+1)) b=X.take i++t++X.drop j/\j<X.length
 have g:X=b.take j++aGe (l.drop (k+1)) (a.drop (k+1)) (b.drop j):=q
 refine⟨?_,?_⟩
 ·rw[aGp _ _ _ _ _ v]
  have e1:X.take i=b.take i:=by
   rw[g,jaw (by rw[c];show b.length-x.1<=_;omega),jbq,jbf (jau _ _)]
  have p:X.drop j=aGe (l.drop (k+1)) (a.drop (k+1)) (b.drop j):=by
   rw[g,List.drop_append,c,jbh,jbc,jC (by rw[c];exact jf _),jaf]
  rw[e1,p]
 ·rw[g,je,c]
  exact Nat.lt_add_of_pos_right (jbr.2 s)
theorem aGk(l:List LK)(a:List jB)(b:jB)(k:Nat)(d:k<l.length)(c:k<a.length)(f:a.getD k []=[]):aGe (l.drop k) (a.drop k) b=aGe (l.drop (k+1)) (a.drop (k+1)) b:=by
 rw[aFy l k (0,[]) d,aFy a k [] c,f,aGj]
theorem aC5(t:jB):aC3 33 126 [34,39,60,62,38,61] t=aNs t:=by
 unfold aC3 aNs
 congr 1
end Go.Proofs.YtbbfcbodhmeanaaGreatDoor
namespace Go.Proofs.YtbbfcbodhmeanaaGreatDoor
open Go.Proofs.Tryz
open Go.RowKit
structure aBg(w:World)(base g cap:Nat)(X:jB)(cur:List Value)(vb vc:Nat)(T:jB):Prop where
 hb:base<=g
 hbw:base<=w.heap.size
 hg:w.heap[g]?=some (.cells cur.toArray 5 (0,0))
 hcl:cur.length=cap
 hcm:cap<=maxLen
 hX:cur.take X.length=bv X
 hXc:X.length<=cap
 hv:∃vcur:Array Value,w.heap[vb]?=some (.cells vcur 5 (vcur.size,vcur.size+1))/\T.length<=vcur.size
 hvs:∀j v,(bv T)[j]?=some v->w.cell? ⟨vb,0+j,none⟩=some v
 ne:vb≠g
 hT:0<T.length
 big:X.length+T.length<=140737488355328
def aBh(w:World)(base:Nat)(R:jB)(e:Ending)(w':World):Prop:=∃g' cap',e=.returned (.slice (some (jx g' 0)) R.length cap')/\Below base w w'/\w'.ownsRow base 5 1 (.slice (some (jx g' 0)) R.length cap') R.length (bv R)
theorem aBg.cell{w:World}{base g cap:Nat}{X:jB}{a:List Value}{d f:Nat}{T:jB}(h:aBg w base g cap X a d f T)(j:Nat)(v:Value)(b:(bv X)[j]?=some v):w.cell? (jx g (0+j))=some v:=by
 rw[j0,World.cell?,h.hg]
 have:a[j]?=some v:=by
  have c:j<X.length:=by
   have:=(jN.1 b).1
   rwa [aDq]at this
  rw[<-h.hX,jcx c]at b
  exact b
 simpa using this
theorem aL9{P:Program}{w:World}(m J e:TypeId)(G:P.underlying m=some (.slice e))(y:∀w,(Go.sizeOf e).run P w=.ok 1 w)(a b:Addr)(H z I C:Nat)(o:a.block≠b.block)(A B:Array Value)(t v:Nat×Nat)(p:w.heap[a.block]?=some (.cells A e t))(q:w.heap[b.block]?=some (.cells B e v))
  (D:(t=(0,0)/\v=(B.size,B.size+1)/\0<B.size/\b.off<B.size)\/(v=(0,0)/\t=(A.size,A.size+1)/\0<A.size/\a.off<A.size)):
  (Extern.SlicesOverlaps.overlaps #[m,m] #[J] #[.slice (some a) H z,.slice (some b) I C]).run P w=.ok (.bool false) w:=by
 have n:(a.block !=b.block)=true:=by simpa using o
 have c:(a.block==b.block)=false:=by simpa using o
 have j:w.shape? a.block=some (e,A.size):=by simp[World.shape?,p]
 have l:w.shape? b.block=some (e,B.size):=by simp[World.shape?,q]
 delta Extern.SlicesOverlaps.overlaps
 conv=>lhs;arg 2;whnf
 have F:∀k:Program->Sem Value,Sem.run P (Sem.program k) w=Sem.run P (k P) w:=λ_=>rfl
 have s:∀(x:TypeDesc) (f:TypeDesc->Sem Value),Sem.bind (pure x) f=f x:=λ_ _=>rfl
 rw[F]
 simp only[Sem.bind,G,show(#[m,m]:Array TypeId)[0]=m from rfl,s]
 rcases D with⟨rfl,rfl,M,E⟩|⟨rfl,rfl,L,E⟩
 ·have d:w.frozen? a=false:=by simp[World.frozen?,p]
  have i:w.frozen? {block:=a.block,off:=A.size}=false:=by simp[World.frozen?,p]
  have g:w.frozen? b=false:=by simp[World.frozen?,q];omega
  obtain⟨k,r⟩:∃k,B.size=k+1:=⟨B.size-1,by omega⟩
  rw[r]at l
  simp[y,n,c,frozen,noView,viewAt,mayBeOne,stringish,shape,Sem.run,j,l,d,i,g]
 ·have g:w.frozen? b=false:=by simp[World.frozen?,q]
  have i:w.frozen? {block:=b.block,off:=B.size}=false:=by simp[World.frozen?,q]
  have d:w.frozen? a=false:=by simp[World.frozen?,p];omega
  obtain⟨k,r⟩:∃k,A.size=k+1:=⟨A.size-1,by omega⟩
  rw[r]at j
  simp[y,n,c,frozen,noView,viewAt,mayBeOne,stringish,shape,Sem.run,j,l,d,i,g]
theorem aQk(w:World):(Go.sizeOf 5).run prog w=.ok 1 w:=by
 obtain⟨f,b,c,a,d⟩:=jao aIP
 simp[Go.sizeOf,typeInfo,b,a]
theorem aR2{α:Type}(L cs:List α)(off k:Nat)(h:off+cs.length<=L.length)(b:off+cs.length<=k):(splice L off cs).take k=L.take off++(cs++(L.drop (off+cs.length)).take (k-(off+cs.length))):=by
 unfold splice
 have a:(L.take off).length=off:=by rw[jF];omega
 rw[List.take_append,a,jK (by omega),List.take_append,jK (l:=cs) (by omega)]
 congr 3
 omega
theorem aQl:(prog.info? 5).map (·.size)=some 1:=by kernel_rfl
theorem aDr(l:jB):∀v∈bv l,v.oneCell'=true:=by
 intro u a
 simp only[bv,jbi]at a
 obtain⟨c,_,rfl⟩:=a
 rfl
structure aAY(g:Nat)(w w':World):Prop where
 os:w'.os=w.os
 tape:w'.tape=w.tape
 output:w'.output=w.output
 size:w'.heap.size=w.heap.size
 block:∀k,k≠g->w'.heap[k]?=w.heap[k]?
theorem aAY.refl(g:Nat)(w:World):aAY g w w:=⟨rfl,rfl,rfl,rfl,λ_ _=>rfl⟩
theorem aAY.drew(g:Nat)(w:World):aAY g w w.drew:=⟨rfl,rfl,rfl,rfl,λ_ _=>rfl⟩
theorem aAY.trans{g:Nat}{w w' a:World}(h:aAY g w w')(k:aAY g w' a):aAY g w a:=⟨k.os.trans h.os,k.tape.trans h.tape,k.output.trans h.output,k.size.trans h.size,λb c=>(k.block b c).trans (h.block b c)⟩
theorem aAY.below{g B:Nat}{w w':World}(h:aAY g w w')(a:B<=g):Below B w w':=⟨h.os,h.tape,h.output,Nat.le_of_eq h.size.symm,λk b=>h.block k (by omega)⟩
theorem aAY.cell{g:Nat}{w w':World}(h:aAY g w w')(a:Addr)(b:a.block≠g):w'.cell? a=w.cell? a:=jbw (h.block a.block b)
theorem aEF(w:World)(g off d:Nat)(a:Addr)(i:Nat)(b cs:List Value)(o:w.heap[g]?=some (.cells b.toArray 5 (0,0)))(r:cs.length=Nat.min i d)
  (m:∀j v,cs[j]?=some v->w.cell? (a.add j)=some v)(l:off+cs.length<=b.length)(p:∀v∈cs,v.oneCell'=true):
  ∃w',(∀n c f,(Builtin.copy_ #[22,22] n #[.slice (some ⟨g,off,none⟩) d c,.slice (some a) i f]).run prog w=.ok (goInt cs.length) w')/\w'.heap[g]?=some (.cells (splice b off cs).toArray 5 (0,0))/\aAY g w w':=by
 refine⟨w.setRow g (splice b off cs).toArray,λn c f=>?_,setRow_heap w g _ _ _ _ o,⟨rfl,rfl,rfl,by simp[World.setRow],λk q=>setRow_other w g k _ q⟩⟩
 have h:=run_copy_row (P:=prog) w 22 22 n 5 g off d c a i f b.toArray 5 cs underlying22 aQl o r m (by simpa using l) p
 rw[h]
 unfold splice
 simp
theorem aL8{w:World}(a b:Addr)(j g k i:Nat)(f:a.block≠b.block)(A B:Array Value)(c d:Nat×Nat)(l:w.heap[a.block]?=some (.cells A 5 c))(m:w.heap[b.block]?=some (.cells B 5 d))
  (n:(c=(0,0)/\d=(B.size,B.size+1)/\0<B.size/\b.off<B.size)\/(d=(0,0)/\c=(A.size,A.size+1)/\0<A.size/\a.off<A.size)):
  (callFunc 157 #[.slice (some a) j g,.slice (some b) k i]).run prog w=.ok (.value (.bool false)) w:=by
 rw[run_callFunc_extern func157 (by kernel_rfl) (by kernel_rfl) (by kernel_rfl) (e:=Extern.SlicesOverlaps.overlaps #[22,22] #[4]) (by kernel_rfl),
  aL9 22 4 5 underlying22 aQk a b j g k i f A B c d l m n]
 rfl
theorem aIS(w:World)(base g cap:Nat)(X:jB)(a:List Value)(q t:Nat)(T:jB)(h:aBg w base g cap X a q t T)(i n m:Nat)(I:n=X.length)(E:m=T.length)(hi:i<n)(N:n+m<=cap):
  Calls prog 156 #[.slice (some ⟨g,0,none⟩) n cap,.int .i64 i,.slice (some ⟨q,0,none⟩) m t] w λe w'=>aBh w base (X.take i++T++X.drop i) e w':=by
 obtain⟨l,C,O⟩:=h.hv
 have M:∀P H,(callFunc 157 #[.slice (some ⟨q,0,none⟩) m t,.slice (some ⟨g,i+m,none⟩) P H]).run prog w=.ok (.value (.bool false)) w:=λP H=>
  aL8 ⟨q,0,none⟩ ⟨g,i+m,none⟩ m t P H h.ne l a.toArray _ _ C h.hg (Or.inr ⟨rfl,rfl,by have:=h.hT;omega,by have:=h.hT;show 0<l.size;omega⟩)
 have ae:cap<=9223372036854775807:=h.hcm
 have ag:0<m:=by rw[E];exact h.hT
 have ak:¬((m:Int)=0):=by omega
 have al:¬((i:Int)=(n:Int)):=by omega
 have ai:IntKind.i64.wrap ((i:Int)+(m:Int))=(i:Int)+(m:Int):=by rw[ju];omega
 have aj:IntKind.i64.wrap ((n:Int)+(m:Int))=(n:Int)+(m:Int):=by rw[ju];omega
 have aa:(0:Int)<=(i:Int)+(m:Int):=by omega
 have af:i<=n:=by omega
 have ah:((i:Int)+(m:Int)).toNat=i+m:=by omega
 have ab:¬(cap=i+m):=by omega
 have ac:(i:Int)<=(n:Int)+(m:Int):=by omega
 have ad:¬(cap=i):=by omega
 have HH:Hid (aBg w base g cap X a q t T):=h
 have W:Hid _:=I
 have V:Hid _:=E
 have L:a.length=cap:=h.hcl
 obtain⟨D,r⟩:∃D,D=(bv X).drop i:=⟨_,rfl⟩
 have J:D.length=n-i:=by rw[r,jH,aDq,I]
 have HD:Hid _:=r
 have G:Hid (∀j v,D[j]?=some v->w.cell? ⟨g,i+j,none⟩=some v):=λj v s=>by
  rw[r,jax]at s
  have:=h.cell (i+j) v s
  rwa [j0]at this
 have F:Hid (∀v∈D,v.oneCell'=true):=λv S=>by rw[r]at S;exact aDr X v (jcr S)
 have b:Hid ((bv T).length=m):=by unfold Hid;rw[aDq,E]
 obtain⟨R,f,z,o⟩:=aEF w.drew g (i+m) (n+m-(i+m)) ⟨g,i,none⟩ (n+m-i) a D h.hg (by rw[J];simp only[jck];split<;>omega) (λj v s=>by rw[jaa];exact G.out j v s) (by omega) F.out
 have d:(splice a (i+m) D).length=cap:=by rw[length_splice _ _ _ (by omega)];exact L
 obtain⟨U,k,A,B⟩:=aEF R g i (n+m-i) ⟨q,0,none⟩ m (splice a (i+m) D) (bv T) z (by rw[b.out];simp only[jck];split<;>omega) (λj v s=>by rw[jaa,o.cell _ h.ne];exact h.hvs j v s) (by have:=b.out;omega) (aDr T)
 have x:Hid (∀p,(Builtin.copy_ #[22,22] p #[.slice (some ⟨g,i+m,none⟩) (n+m-(i+m)) (cap-(i+m)),.slice (some ⟨g,i,none⟩) (n+m-i) (cap-i)]).run prog w.drew=.ok (goInt D.length) R):=λp=>f p _ _
 have y:Hid (∀p,(Builtin.copy_ #[22,22] p #[.slice (some ⟨g,i,none⟩) (n+m-i) (cap-i),.slice (some ⟨q,0,none⟩) m t]).run prog R=.ok (goInt (bv T).length) U):=λp=>k p _ _
 have c:(X.take i++T++X.drop i).length=n+m:=by rw[je,je,jF,jH];omega
 have Y:Hid (aBh w base (X.take i++T++X.drop i) (.returned (.slice (some ⟨g,0,none⟩) (n+m) cap)) U):=by
  refine⟨g,cap,by rw[c],((aAY.drew g w).trans (o.trans B)).below h.hb,?_⟩
  refine⟨by rw[aDq];omega,.inr ⟨g,cap,_,rfl,h.hb,A,by omega,h.hcm,?_,?_⟩⟩
  ·rw[jdc,length_splice _ _ _ (by rw[b.out,d];omega),d];omega
  ·show List.take _ (splice (splice a (i+m) D) i (bv T))=_
   rw[c,jdx,aR2 _ _ _ _ (by rw[b.out,d];omega) (by rw[b.out];omega),b.out]
   have e1:(splice a (i+m) D).take i=bv (X.take i):=by
    unfold splice
    rw[jaw (by rw[jF];omega),jbq,jbf (by omega)]
    have h2:a.take i=(a.take X.length).take i:=by rw[jbq,jbf (by omega)]
    rw[h2,h.hX]
    unfold bv
    rw[List.map_take]
   have Z:((splice a (i+m) D).drop (i+m)).take (n+m-(i+m))=bv (X.drop i):=by
    unfold splice
    have h3:(a.take (i+m)).length=i+m:=by rw[jF];omega
    rw[List.drop_append,h3,jbh,jbc,jC (by omega),jaf,jaw (by omega),jK (by omega),r]
    unfold bv
    rw[List.map_drop]
   rw[e1,Z,aDo,aDo,jJ]
 clear r h I E C O f k z A o B d c
 go_enter func156,ntmps156
 go_wp2_with (simp only[M])
 go_region_law (refine step_copy_runI rfl _ _ 22 22 rfl _ _ (by simp[Act.eval,Act.put]) (by simp[Act.eval,Act.put]) (x.out _) ?_)
 go_wp2_with (refine wpList_copy_runI _ rfl _ _ 22 22 rfl _ _ rfl rfl (y.out _) ?_)
 go_ret
 exact Y.out
theorem aVx(w:World)(base g cap:Nat)(X:jB)(n:List Value)(D E:Nat)(T:jB)(h:aBg w base g cap X n D E T)(i k:Nat)(J:i<=X.length)(B:0<k)(a:cap<i+k)(x:i+k<=140737488355328)(kk:Int)(A:kk=(k:Int)):
  ∃m G b,(∀f,(Builtin.append_ #[22,3] f #[.slice (some ⟨g,0,none⟩) i cap,.int .i64 kk]).run prog w=.ok (.slice (some ⟨w.heap.size,0,none⟩) (i+k) G) m)/\
   m.heap[w.heap.size]?=some (.cells (List.toArray b) 5 (0,0))/\jb w m/\b.length=G/\i+k<=G/\G<=maxLen/\b.take i=bv (X.take i):=by
 obtain⟨y,p,s,t,d⟩:=jao aIP
 have c:(Builtin.firstCells y.size i (.slice (some ⟨g,0,none⟩) i cap)).run prog w.drew=.ok (bv (X.take i)).toArray w.drew:=by
  rw[t]
  exact run_firstCells_some w.drew 1 i ⟨g,0,none⟩ i cap (bv (X.take i)) (by rw[aDq,jF];omega) (λj v l=>by
   rw[jaa]
   refine h.cell j v ?_
   have r:j<i:=by have:=(jN.1 l).1;rw[aDq,jF]at this;omega
   unfold bv at l⊢
   rw[jas,jcx r]at l
   rw[jas]
   exact l)
 have C:=λf=>Lib.run_append_grow_zeros w 22 3 f 5 y _ .i64 .i64 underlying22 underlying3 p s (some ⟨g,0,none⟩) i cap (bv (X.take i)) c k B (by omega) a (by omega) (by rw[d];omega) (by rw[d];exact growslice_fits a (by omega))
 refine⟨_,_,(bv (X.take i)++((Builtin.zeroCells (Value.int .u8 0).cells k).toList++(Builtin.zeroCells (Value.int .u8 0).cells (grownCap w (i+k) cap 5-(i+k))).toList)),λf=>by rw[A];exact C f,?_,?_,?_,grownCap_ge _ _ _ _,grownCap_le_maxLen _ _ _ _ (by unfold maxLen;omega),?_⟩
 ·generalize Builtin.zeroCells (Value.int .u8 0).cells k=F
  generalize Builtin.zeroCells (Value.int .u8 0).cells (grownCap w (i+k) cap 5-(i+k))=H
  rw[show∀o,(w.drew.alloc o).heap[w.heap.size]?=some o from λo=>jel w.drew o]
  refine jab (λq=>some (Obj.cells q 5 (0,0))) ?_
  apply Array.ext'
  simp
 ·exact(jr _ _).drew.alloc (jf _) _
 ·have I:=grownCap_ge w (i+k) cap 5
  have e1:(Builtin.zeroCells (Value.int .u8 0).cells k).toList.length=k*1:=by rw[jbs,jdt];rfl
  have z:(Builtin.zeroCells (Value.int .u8 0).cells (grownCap w (i+k) cap 5-(i+k))).toList.length=(grownCap w (i+k) cap 5-(i+k))*1:=by rw[jbs,jdt];rfl
  rw[je,je,aDq,jF,e1,z]
  omega
 ·rw[jaw (by rw[aDq,jF];omega),jK (by rw[aDq,jF];omega)]
theorem aHZ(w:World)(base g cap:Nat)(X:jB)(E:List Value)(x C:Nat)(T:jB)(h:aBg w base g cap X E x C T)(i j k m:Nat)(Y:m=T.length)(Z:i<=j)(hj:j<X.length)(ek:k=m+(X.length-j))(B:World)(G:Nat)(a:List Value)
  (A:B.heap[w.heap.size]?=some (.cells a.toArray 5 (0,0)))(s:jb w B)(hl:a.length=G)(hG:i+k<=G)(J:G<=maxLen)(ht:a.take i=bv (X.take i))(b:World)(M:aAY w.heap.size B b)(N:b.heap[w.heap.size]?=B.heap[w.heap.size]?):
  ∃d,(∀n l,(Builtin.copy_ #[22,22] n #[.slice (some ⟨w.heap.size,i,none⟩) (i+k-i) l,.slice (some ⟨x,0,none⟩) m C]).run prog b=.ok (goInt m) d)/\
   (∀f,aAY w.heap.size d f->f.heap[w.heap.size]?=d.heap[w.heap.size]?->∃D,(∀n l V,(Builtin.copy_ #[22,22] n #[.slice (some ⟨w.heap.size,i+m,none⟩) (i+k-(i+m)) l,.slice (some ⟨g,j,none⟩) (X.length-j) V]).run prog f=.ok (goInt ((X.length-j:Nat):Int)) D)/\
    aBh w base (X.take i++T++X.drop j) (.returned (.slice (some ⟨w.heap.size,0,none⟩) (i+k) G)) D):=by
 have R:g<w.heap.size:=(jl.1 h.hg).1
 have U:x<w.heap.size:=by obtain⟨W,S,_⟩:=h.hv;exact(jl.1 S).1
 have r:(bv T).length=m:=by rw[aDq,Y]
 have c:((bv X).drop j).length=X.length-j:=by rw[jH,aDq]
 obtain⟨d,L,P,z⟩:∃d,(∀n l,(Builtin.copy_ #[22,22] n #[.slice (some ⟨w.heap.size,i,none⟩) (i+k-i) l,.slice (some ⟨x,0,none⟩) m C]).run prog b=.ok (goInt m) d)/\d.heap[w.heap.size]?=some (.cells (splice a i (bv T)).toArray 5 (0,0))/\aAY w.heap.size b d:=by
  have hk:=aEF b w.heap.size i (i+k-i) ⟨x,0,none⟩ m a (bv T) (N.trans A) (by rw[r];simp only[jck];split<;>omega) (λq v hq=>by
   rw[jaa,M.cell _ (by show x≠_;omega)]
   exact(s.cell (p:=⟨x,0+q,none⟩) U).trans (h.hvs q v hq)) (by omega) (aDr T)
  obtain⟨d,F,H,I⟩:=hk
  refine⟨d,λn l=>?_,H,I⟩
  have:=F n l C
  rw[r]at this
  exact this
 refine⟨d,L,λf y O=>?_⟩
 have t:(splice a i (bv T)).length=G:=by rw[length_splice _ _ _ (by omega)];exact hl
 obtain⟨D,F,H,I⟩:=aEF f w.heap.size (i+m) (i+k-(i+m)) ⟨g,j,none⟩ (X.length-j) (splice a i (bv T)) ((bv X).drop j) (O.trans P) (by rw[c];simp only[jck];split<;>omega) (λq v hq=>by
   rw[jaa,y.cell _ (by show g≠_;omega),z.cell _ (by show g≠_;omega),M.cell _ (by show g≠_;omega)]
   rw[jax]at hq
   have:=h.cell (j+q) v hq
   rw[j0]at this
   exact(s.cell (p:=⟨g,j+q,none⟩) R).trans this) (by omega) (λv S=>aDr X v (jcr S))
 refine⟨D,λn l V=>?_,?_⟩
 ·have:=F n l V
  rw[c]at this
  exact this
 ·have o:(X.take i++T++X.drop j).length=i+k:=by rw[je,je,jF,jH];omega
  refine⟨w.heap.size,G,by rw[o],(s.mono h.hbw).trans ((M.trans (z.trans (y.trans I))).below h.hbw),⟨by rw[aDq];omega,.inr ⟨w.heap.size,G,_,rfl,h.hbw,H,by omega,J,?_,?_⟩⟩⟩
  ·rw[jdc,length_splice _ _ _ (by rw[c,t];omega),t];omega
  ·show List.take _ (splice (splice a i (bv T)) (i+m) ((bv X).drop j))=_
   rw[o,jdx,aR2 _ _ _ _ (by rw[c,t];omega) (by rw[c];omega),c]
   have e1:(splice a i (bv T)).take (i+m)=bv (X.take i)++bv T:=by
    rw[aR2 _ _ _ _ (by omega) (by omega),r,ht,jbh,jcq,j6]
   rw[e1,show i+k-(i+m+(X.length-j))=0 from by omega,jcq,j6,aDo,aDo]
   unfold bv
   rw[List.map_drop]
theorem aIR(w:World)(base g cap:Nat)(X:jB)(f:List Value)(q r:Nat)(T:jB)(h:aBg w base g cap X f q r T)(i n m:Nat)(E:n=X.length)(z:m=T.length)(hi:i<n)(B:cap<n+m):
  Calls prog 156 #[.slice (some (jx g 0)) n cap,.int .i64 i,.slice (some (jx q 0)) m r] w λe w'=>aBh w base (X.take i++T++X.drop i) e w':=by
 have o:=h.big
 have A:=h.hXc
 have ab:0<m:=by rw[z];exact h.hT
 obtain⟨s,G,x,C,d,l,L,F,j,M⟩:=aVx w base g cap X f q r T h i (n+m-i) (by omega) (by omega) (by omega) (by omega) ((n:Int)+(m:Int)-(i:Int)) (by omega)
 obtain⟨D,k,b⟩:=aHZ w base g cap X f q r T h i i (n+m-i) m z (jf _) (by omega) (by omega) s G x d l L F j M s (aAY.refl _ _) rfl
 obtain⟨N,c,a⟩:=b D.drew (aAY.drew _ _) rfl
 rw[show i+(n+m-i)=n+m from by omega]at C k c a F
 rw[<-E]at c
 have P:Hid (∀p,(Builtin.append_ #[22,3] p #[.slice (some (jx g 0)) i cap,.int .i64 ((n:Int)+(m:Int)-(i:Int))]).run prog w=.ok (.slice (some (jx w.heap.size 0)) (n+m) G) s):=C
 have t:Hid (∀p y,(Builtin.copy_ #[22,22] p #[.slice (some (jx w.heap.size i)) (n+m-i) y,.slice (some (jx q 0)) m r]).run prog s=.ok (goInt m) D):=k
 have v:Hid (∀p y sc,(Builtin.copy_ #[22,22] p #[.slice (some (jx w.heap.size (i+m))) (n+m-(i+m)) y,.slice (some (jx g i)) (n-i) sc]).run prog D.drew=.ok (goInt ((n-i:Nat):Int)) N):=c
 have O:Hid (aBh w base (X.take i++T++X.drop i) (.returned (.slice (some (jx w.heap.size 0)) (n+m) G)) N):=a
 have V:cap<=9223372036854775807:=h.hcm
 have I:G<=9223372036854775807:=j
 have ah:¬((m:Int)=0):=by omega
 have ai:¬((i:Int)=(n:Int)):=by omega
 have aj:(cap:Int)<(n:Int)+(m:Int):=by omega
 have ae:IntKind.i64.wrap ((i:Int)+(m:Int))=(i:Int)+(m:Int):=by rw[ju];omega
 have af:IntKind.i64.wrap ((n:Int)+(m:Int))=(n:Int)+(m:Int):=by rw[ju];omega
 have ag:IntKind.i64.wrap ((n:Int)+(m:Int)-(i:Int))=(n:Int)+(m:Int)-(i:Int):=by rw[ju];omega
 have J:(0:Int)<=(i:Int)+(m:Int):=by omega
 have aa:i<=n:=by omega
 have ac:n<=cap:=by omega
 have W:i<=cap:=by omega
 have ad:((i:Int)+(m:Int)).toNat=i+m:=by omega
 have S:(i:Int)<=(n:Int)+(m:Int):=by omega
 have U:¬(cap=i):=by omega
 have R:¬(G=i):=by omega
 have H:¬(G=i+m):=by omega
 have Y:i<=n+m:=by omega
 have Z:i+m<=n+m:=by omega
 clear C k c a b d l L M h E z o A j
 go_enter func156,ntmps156
 go_wp2_with (first|(refine wpList_copy_runI _ rfl _ _ 22 22 rfl _ _ rfl rfl (t.out _ _) ?_)|(at_builtin;refine Lib.wpList_append_run _ rfl _ _ _ _ rfl _ _ rfl rfl _ _ (P.out _) ?_))
 go_region_law (refine step_copy_runI rfl _ _ 22 22 rfl _ _ (by simp[Act.eval,Act.put]) (by simp[Act.eval,Act.put]) (v.out _ (G-(i+m)) (cap-i)) ?_)
 go_wp2_with fail
 go_ret
 exact O.out
theorem aIQ(w:World)(base g cap:Nat)(X:jB)(a:List Value)(c d:Nat)(T:jB)(h:aBg w base g cap X a c d T)(i n m:Nat)(j:n=X.length)(f:m=T.length)(k:i<n):
  Calls prog 156 #[.slice (some (jx g 0)) n cap,.int .i64 i,.slice (some (jx c 0)) m d] w λe w'=>aBh w base (X.take i++T++X.drop i) e w':=by
 by_cases b:n+m<=cap
 ·exact aIS w base g cap X a c d T h i n m j f k b
 ·exact aIR w base g cap X a c d T h i n m j f k (by omega)
theorem aEj(w:World)(g off k cap:Nat)(a:List Value)(i:w.heap[g]?=some (.cells a.toArray 5 (0,0)))(f:off+(k+1)<=a.length):
  ∃w',(∀j,(Builtin.clear_ #[22] j #[.slice (some ⟨g,off,none⟩) (k+1) cap]).run prog w=.ok (.tuple #[]) w')/\(∃b,w'.heap[g]?=some (.cells (List.toArray b) 5 (0,0))/\b.length=a.length/\b.take off=a.take off)/\aAY g w w':=by
 have d:(Builtin.zeroCells (Value.int .u8 0).cells (k+1)).toList.length=k+1:=by rw[jbs,jdt];show(k+1)*1=_;omega
 have hst:=run_storeCells_at (P:=prog) g off 5 (Builtin.zeroCells (Value.int .u8 0).cells (k+1)).toList 0 a.toArray w i (by rw[d];simpa using f) (λv m=>by
  have c:v∈Builtin.zeroCells (Value.int .u8 0).cells (k+1):=by simpa using m
  unfold Builtin.zeroCells at c
  rw[Array.mem_map]at c
  obtain⟨q,_,rfl⟩:=c
  show((#[Value.int .u8 0]:Array Value)[q%1]!).oneCell'=true
  rw[Nat.mod_one]
  rfl)
 rw[jcd,d]at hst
 have l:(List.take off a.toArray.toList++(Builtin.zeroCells (Value.int .u8 0).cells (k+1)).toList++List.drop (off+(k+1)) a.toArray.toList).length=a.length:=by
  rw[je,je,d,jF,jH]
  show min off a.length+(k+1)+(a.length-(off+(k+1)))=a.length
  omega
 refine⟨_,λj=>?_,⟨_,setRow_heap w g _ _ _ _ i,l,?_⟩,⟨rfl,rfl,rfl,by simp[World.setRow],λq hq=>setRow_other w g q _ hq⟩⟩
 ·simp only[Builtin.clear_]
  simp[run_underlying underlying22,hst]
 ·rw[jJ,jaw (by rw[jF];show off<=min off a.length;omega),jbq,Nat.min_self]
theorem aBg.drew{w:World}{base g cap:Nat}{X:jB}{a:List Value}{b c:Nat}{T:jB}(h:aBg w base g cap X a b c T):aBg w.drew base g cap X a b c T:=⟨h.hb,h.hbw,h.hg,h.hcl,h.hcm,h.hX,h.hXc,h.hv,h.hvs,h.ne,h.hT,h.big⟩
theorem aBh.of_drew{w w':World}{base:Nat}{R:jB}{e:Ending}(h:aBh w.drew base R e w'):aBh w base R e w':=by
 obtain⟨b,a,c,d,f⟩:=h
 exact⟨b,a,c,(jr _ _).drew.trans d,f⟩
theorem aEk(p:jO)(c:Nat)(a:TypeId)(W:World):(Builtin.clear_ #[22] a #[.slice p 0 c]).run prog W=.ok (.tuple #[]) W:=by
 simp only[Builtin.clear_]
 cases p<;>simp[run_underlying underlying22]
theorem aOX{X T:jB}{i j m n d:Nat}(c:n=X.length)(b:m=T.length)(f:n-j=d)(a:i<=j)(g:j<=n):(X.take i++T++X.drop j).length=i+m+d:=by rw[je,je,jF,jH];omega
theorem aDs(X:jB)(i:Nat):bv (X.take i)=(bv X).take i:=by unfold bv;rw[List.map_take]
theorem aDp(X:jB)(i:Nat):bv (X.drop i)=(bv X).drop i:=by unfold bv;rw[List.map_drop]
theorem aOV(w:World)(base g cap:Nat)(X:jB)(k:List Value)(x y:Nat)(T:jB)(h:aBg w base g cap X k x y T)(i j n m d:Nat)(M:n=X.length)(E:m=T.length)(hd:n-j=d)(aj:i<j)(hj:j<n)(I:cap<i+m+d):
  Calls prog 116 #[.slice (some (jx g 0)) n cap,.int .i64 i,.int .i64 j,.slice (some (jx x 0)) m y] w λe w'=>aBh w base (X.take i++T++X.drop j) e w':=by
 have ae:cap<=9223372036854775807:=h.hcm
 have s:=h.big
 have F:=h.hXc
 have H:=h.hcl
 have ao:0<m:=by rw[E];exact h.hT
 have ap:n<=cap:=by omega
 obtain⟨z,G,C,J,f,r,U,N,l,Y⟩:=aVx w.drew base g cap X k x y T h.drew i (m+d) (by omega) (by omega) (by omega) (by omega) ((i:Int)+(m:Int)+(d:Int)-(i:Int)) (by omega)
 obtain⟨L,o,b⟩:=aHZ w.drew base g cap X k x y T h.drew i j (m+d) m E (by omega) (by omega) (by omega) z G C f r U N l Y z (aAY.refl _ _) rfl
 obtain⟨w3,c,a⟩:=b L.drew (aAY.drew _ _) rfl
 have P:G<=9223372036854775807:=l
 rw[<-M,hd]at c
 obtain⟨q,p⟩:∃t,i+(m+d)=t:=⟨_,rfl⟩
 rw[p]at J o c a N
 have HZ:Hid (∀v,(Builtin.append_ #[22,3] v #[.slice (some (jx g 0)) i cap,.int .i64 ((i:Int)+(m:Int)+(d:Int)-(i:Int))]).run prog w.drew=.ok (.slice (some (jx w.heap.size 0)) q G) z):=J
 have A:Hid (∀v D,(Builtin.copy_ #[22,22] v #[.slice (some (jx w.heap.size i)) (q-i) D,.slice (some (jx x 0)) m y]).run prog z=.ok (goInt m) L):=o
 have B:Hid (∀v D sc,(Builtin.copy_ #[22,22] v #[.slice (some (jx w.heap.size (i+m))) (q-(i+m)) D,.slice (some (jx g j)) d sc]).run prog L.drew=.ok (goInt (d:Int)) w3):=c
 have HP:Hid (aBh w base (X.take i++T++X.drop j) (.returned (.slice (some (jx w.heap.size 0)) q G)) w3):=a.of_drew
 have az:(cap:Int)<(i:Int)+(m:Int)+(d:Int):=by omega
 have ay:IntKind.i64.wrap ((i:Int)+(m:Int)+(d:Int)-(i:Int))=(i:Int)+(m:Int)+(d:Int)-(i:Int):=by rw[ju];omega
 have ab:¬(G=i):=by omega
 have O:¬(G=i+m):=by omega
 have ai:i<=q:=by omega
 have R:(i:Int)<=(q:Int):=by omega
 have ak:(i:Int)+(m:Int)<=(q:Int):=by omega
 have af:((n:Int)-(j:Int))=(d:Int):=by omega
 have an:(j:Int)<=(n:Int):=by omega
 have am:(j:Int)<=(cap:Int):=by omega
 have S:(i:Int)<=(j:Int):=by omega
 have ag:i<=n:=by omega
 have ah:i<=cap:=by omega
 have al:j<=n:=by omega
 have V:((i:Int)==(j:Int))=false:=by rw[jg];omega
 have W:((j:Int)==(n:Int))=false:=by rw[jg];omega
 have aw:IntKind.i64.wrap ((i:Int)+(m:Int))=(i:Int)+(m:Int):=by rw[ju];omega
 have ax:IntKind.i64.wrap ((i:Int)+(m:Int)+(d:Int))=(i:Int)+(m:Int)+(d:Int):=by rw[ju];omega
 have av:((i:Int)+(m:Int)).toNat=i+m:=by omega
 have Z:((i:Int)+(m:Int)+(d:Int)).toNat=i+m+d:=by omega
 have aq:(0:Int)<=(i:Int)+(m:Int):=by omega
 have ar:(0:Int)<=(i:Int)+(m:Int)+(d:Int):=by omega
 have ac:¬(cap=i):=by omega
 have ad:¬(cap=j):=by omega
 have aa:Hid _:=p
 clear J o c a b f r U Y h M E s F l p H
 go_enter func116,ntmps116
 go_upto_region 9 with fail
 go_region
 go_wp2_with (first|(refine wpList_copy_runI _ rfl _ _ 22 22 rfl _ _ rfl rfl (A.out _ _) ?_)|(at_builtin;refine Lib.wpList_append_run _ rfl _ _ _ _ rfl _ _ rfl rfl _ _ (HZ.out _) ?_))
 go_region_law (refine step_copy_runI rfl _ _ 22 22 rfl _ _ (by simp[Act.eval,Act.put]) (by simp[Act.eval,Act.put]) (B.out _ (G-(i+m)) (cap-j)) ?_)
 go_wp2_with fail
 go_ret
 exact HP.out
end Go.Proofs.YtbbfcbodhmeanaaGreatDoor

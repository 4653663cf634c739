import Derived.Test.YtbbfcbodhmeanaaGreatDoorXrewritesays4
import Derived.Laws.AppendOwnNone
import Derived.Lib.AppendZeros
import Derived.Lib.SlBytesConst
import Derived.Below
import Derived.Laws.Rows
import Derived.Lib.Replace
set_option maxHeartbeats 8000000
set_option maxRecDepth 1000000
namespace Go.Proofs.YtbbfcbodhmeanaaGreatDoor
open Go.Proofs.Tryz
open Go.RowKit
theorem aIF:(prog.info? 25).map (λi=>(i.zero,i.size,i.bytes))=some (some (.agg (jP jz jz jz jz 0 none 0 0 none 0 0)),7,120):=by kernel_rfl
theorem aB6{w:World}{i:Array Oper}{rest:List Oper}{o:Oper}{a:Act}{Q:Exit->Act->World->Prop}(g:o.guard=none)(s x:Operand)
  (D:o.op=.call {callee:=.builtin .append,args:=#[s,x],argTypes:=#[23,23]})
  (base:Nat)(v:Value)(n:Nat)(q:List Value)(E:a.eval s=v)(d:w.ownsRow base 25 7 v n q)
  (p:jO)(l:List Value)(m c:Nat)(B:l.length=m*7)(F:a.eval x=.slice p m c)(P:aAi w p l)(r:∀u∈l,u.oneCell'=true)(O:p=none->m=0/\c=0)
  (L:n+m<=100000000)(f:base<=w.heap.size)
  (h:∀k w',w'.ownsRow base 25 7 k (n+m) (q++l)->w.grownBy w' v.ownBlock->wpList prog i Q rest (a.put o.dst k) w'):wpList prog i Q (o::rest) a w:=by
 obtain⟨G,C,y,z,A⟩:=jao aIF
 cases p with
 |none=>
  obtain⟨rfl,rfl⟩:=O rfl
  have N:l=[]:=js.1 (B.trans (jdr _))
  subst N
  refine wpList_append_own_none g s x 23 D base 25 G 7 underlying23 C v n q E d F ?_
  refine h v w (by simpa using d) (World.grownBy.refl _ _)
 |some H=>
  refine jX _ g s x 23 D base 25 G (.agg (jP jz jz jz jz 0 none 0 0 none 0 0)) 7 120 underlying23 C y z A rfl (by decide) v n q E d H m c l F B ?_ r (by unfold maxLen;omega) (by omega) f (λk w' I J _=>h k w' I J)
  intro j u t
  obtain⟨b,R,e,M⟩:=P (λe=>by rw[e]at t;simp at t)
  obtain rfl:=jI e
  rw[jaa]
  exact M j u t
theorem aH0(N:Nat)(k:Int)(l:k=(N:Int))(t:N<=100000)(w:World):
  Calls prog 134 #[.slice none 0 0,.int .i64 k] w λe w'=>jb w w'/\∃p c,e=.returned (.slice p 0 c)/\w'.ownsRow w.heap.size 25 7 (.slice p 0 c) 0 []:=by
 subst l
 obtain⟨r,q,g,i,j⟩:=jao aIF
 rcases jbo N with b|b
 ·subst b
  go_enter func134,ntmps134
  go_wp2
  go_ret
  exact⟨jr _ _,none,0,rfl,jT _ _ _ _⟩
 ·have m:(0:Int)<(N:Int):=by omega
  have f:=λs=>Lib.run_append_nil_zeros (P:=prog) w 23 3 s 25 r (.agg (jP jz jz jz jz 0 none 0 0 none 0 0)) .i64 .i64 underlying23 underlying3 q g N b (by rw[i];decide) (by omega) (by rw[j];omega)
  obtain⟨G,a⟩:∃G,grownCap w N 0 25=G:=⟨_,rfl⟩
  have n:N<=G:=by rw[<-a];exact grownCap_ge w _ _ _
  have d:G<=maxLen:=by rw[<-a];exact grownCap_le_maxLen w N 0 25 (by unfold maxLen;omega)
  rw[a]at f
  have o:(N:Int)<=(G:Int):=by omega
  clear a
  go_enter func134,ntmps134
  go_wp2_with (at_builtin;refine Lib.wpList_append_run _ rfl (.tmp 20) (.tmp 21) 23 3 rfl _ _ rfl rfl _ _ (f _) ?_)
  clear f
  go_wp2
  go_ret
  refine⟨(ja _ _).drew,some (jx w.heap.size 0),G,rfl,?_⟩
  refine⟨rfl,.inr ⟨w.heap.size,G,Builtin.zeroCells (jP jz jz jz jz 0 none 0 0 none 0 0) N++Builtin.zeroCells (jP jz jz jz jz 0 none 0 0 none 0 0) (G-N),rfl,jf _,?_,jy _,d,?_,?_⟩⟩
  ·show(w.heap.push _)[w.heap.size]?=_
   simp
  ·rw[Array.size_append,jdt,jdt]
   show N*7+(G-N)*7=G*7
   omega
  ·simp
theorem aEz(g:Nat)(p q:jO)(n m c d:Nat)(L M:List Value)(J:L.length=n*7)(I:M.length=m*7)(w:World)(N:w.cell? (jx g 0)=some (.slice p n c))(O:w.cell? (jx g 1)=some (.slice q m d))
  (P:aAi w p L)(S:aAi w q M)(U:∀u∈L,u.oneCell'=true)(V:∀u∈M,u.oneCell'=true)(T:p=none->n=0/\c=0)(hq:q=none->m=0/\d=0)(hn:n+m<=50000):
  Calls prog 85 #[.slice (some (jx g 0)) 2 2] w λe w'=>jb w w'/\∃W H,e=.returned (.slice W (n+m) H)/\w'.ownsRow w.heap.size 25 7 (.slice W (n+m) H) (n+m) (L++M):=by
 have B:g<w.heap.size:=ji w _ N
 have F:Hid (L.length=n*7/\M.length=m*7):=⟨J,I⟩
 have Y:Hid (aAi w p L):=P
 have Z:Hid (aAi w q M):=S
 have HP:Hid _:=T
 have HQ:Hid _:=hq
 have G:Hid ((∀u∈L,u.oneCell'=true)/\(∀u∈M,u.oneCell'=true)):=⟨U,V⟩
 clear P S T hq J I U V
 go_enter func85,ntmps85
 go_wp2
 refine jek 3 ?_
 rw[jcj]
 go_wp2
 rw[jcj]
 go_wp2
 rw[jcj]
 go_wp2_with fail
 refine(aH0 (n+m) _ (by omega) (by omega) _).mono ?_
 rintro e D ⟨f,p1,c1,rfl,a⟩
 have y:D.cell? (jx g 0)=some (.slice p n c):=(f.cell (p:=jx g 0) B).trans N
 have z:D.cell? (jx g 1)=some (.slice q m d):=(f.cell (p:=jx g 1) B).trans O
 have s:Hid (aAi D p L):=Y.out.below f
 have l:=f.size
 go_wp2
 refine jek 3 ?_
 rw[jcj]
 go_wp2_with (at_builtin;refine aB6 rfl (.tmp 31) (.tmp 32) rfl w.heap.size _ _ _ rfl a p L n c F.out.1 rfl s.out G.out.1 HP.out (by omega) l ?_)
 intro v2 E b v
 have i:jb w E:=f.grown v l λj C=>(a.lt j C).1
 have r:E.cell? (jx g 1)=some (.slice q m d):=(i.cell (p:=jx g 1) B).trans O
 have t:Hid (aAi E q M):=Z.out.below i
 have o:=i.size
 clear v a y z s f
 go_wp2
 rw[jcj]
 go_wp2_with (at_builtin;refine aB6 rfl (.tmp 31) (.tmp 32) rfl w.heap.size _ _ _ rfl b q M m d F.out.2 rfl t.out G.out.2 HQ.out (by omega) o ?_)
 intro v3 X k x
 have A:jb w X:=i.grown x o λj C=>(b.lt j C).1
 have R:Hid (X.ownsRow w.heap.size 25 7 v3 (n+m) (L++M)):=by
  unfold Hid
  simpa using k
 obtain⟨p3,c3,rfl⟩:=aMi R.out
 clear x b k r t i
 go_wp2
 rw[jcj]
 go_wp2
 go_ret
 exact⟨A,p3,c3,rfl,R.out⟩
def sub(n:Nat)(x:PT×Option Nat):PT×Option Nat:=(x.1,some (match x.2 with|none=>0|some j=>j+n))
def abs(n:Nat)(inn:Int)(x:PT×Option Nat):PT×Int:=(x.1,match x.2 with|none=>inn|some j=>((n+j:Nat):Int))
def aTg:Nat->PT->List (PT×Option Nat)
 |0,_=>[]
 |f+1,p=>p.kids.foldl (λacc k=>acc++(aTg f k).map (sub acc.length)) [(p,none)]
def aHY(f:Nat)(acc:List (PT×Option Nat))(ks:List PT):List (PT×Option Nat):=ks.foldl (λacc k=>acc++(aTg f k).map (sub acc.length)) acc
theorem aH4(f:Nat)(a:List (PT×Option Nat)):aHY f a []=a:=rfl
theorem aH1(f:Nat)(a:List (PT×Option Nat))(k:PT)(b:List PT):aHY f a (k::b)=aHY f (a++(aTg f k).map (sub a.length)) b:=rfl
theorem aTj(f:Nat)(p:PT):aTg (f+1) p=aHY f [(p,none)] p.kids:=by rw[aTg];rfl
theorem aH3(f:Nat):∀(b:List PT) (a:List (PT×Option Nat)),a.length<=(aHY f a b).length
 |[],a=>jf _
 |k::b,a=>by
  rw[aH1]
  have:=aH3 f b (a++(aTg f k).map (sub a.length))
  rw[je]at this
  omega
theorem aTk(f:Nat)(p:PT):1<=(aTg (f+1) p).length:=by
 rw[aTj];exact aH3 f p.kids [(p,none)]
def lev:Nat->PT->Bool
 |0,_=>false
 |n+1,p=>p.kids.all (lev n)
theorem aJ7(n:Nat)(p:PT):lev (n+1) p=p.kids.all (lev n):=by rw[lev]
theorem aBH(n a:Nat)(b:Int)(x:PT×Option Nat):abs n b (sub a x)=abs (n+a) n x:=by
 obtain⟨x,j⟩:=x
 cases j with
 |none=>simp[abs,sub]
 |some j=>simp only[abs,sub];congr 1;omega
theorem aOc(f:Nat)(j:∀l p b,l.length<=12->put (f+1) l p (4-f) b=if lev f p=true/\l.length+(aTg (f+1) p).length<=12 then some (l++(aTg (f+1) p).map (abs l.length b))else none)(l:List (PT×Int))(b:Int):
  ∀(c:List PT) (a:List (PT×Option Nat)),l.length+a.length<=12->aN6 (f+1) (4-f) l.length (l++a.map (abs l.length b)) c=
   if c.all (lev f)=true/\l.length+(aHY (f+1) a c).length<=12 then some (l++(aHY (f+1) a c).map (abs l.length b))else none
 |[],a,h=>by rw[aN9,aH4,jo ⟨rfl,h⟩]
 |k::c,a,h=>by
  have d:=j (l++a.map (abs l.length b)) k l.length (by rw[je,jD];exact h)
  rw[je,jD]at d
  have m:=aH3 (f+1) c (a++(aTg (f+1) k).map (sub a.length))
  rw[je,jD]at m
  rw[aH1]
  by_cases g:lev f k=true/\l.length+a.length+(aTg (f+1) k).length<=12
  ·rw[jo g]at d
   rw[aOb _ _ _ _ _ _ _ d]
   have e:(l++a.map (abs l.length b))++(aTg (f+1) k).map (abs (l.length+a.length) l.length)=l++(a++(aTg (f+1) k).map (sub a.length)).map (abs l.length b):=by
    rw[jbg,jcm,jJ]
    congr 2
    exact List.map_congr_left λx _=>(aBH _ _ _ x).symm
   rw[e,aOc f j l b c _ (by rw[je,jD];omega),jcv,g.1,jcw]
  ·rw[jh g]at d
   rw[aOa _ _ _ _ _ _ d,jh]
   rintro ⟨i,n⟩
   rw[jcv,j7]at i
   exact g ⟨i.1,by omega⟩
theorem aOl:∀(f:Nat),f<=3->∀(l:List (PT×Int)) (p:PT) (a:Int),l.length<=12->
  put (f+1) l p (4-f) a=if lev f p=true/\l.length+(aTg (f+1) p).length<=12 then some (l++(aTg (f+1) p).map (abs l.length a))else none
 |0,_,l,p,a,_=>by rw[aOm _ _ _ _ _ (Or.inr (by omega)),jh (λh=>by have:=h.1;rw[lev]at this;cases this)]
 |f+1,hf,l,p,a,b=>by
  by_cases c:l.length=12
  ·rw[aOm _ _ _ _ _ (Or.inl c),jh]
   have:=aTk (f+1) p
   omega
  ·rw[aOi _ _ _ _ _ (by omega),show 4-(f+1)+1=4-f from by omega]
   have:=aOc f (λl p a b=>aOl f (by omega) l p a b) l a p.kids [(p,none)] (by simp;omega)
   rw[show l++[(p,none)].map (abs l.length a)=l++[(p,a)]from rfl]at this
   rw[this,<-aTj,<-aJ7]
theorem aNr(p:PT):put 4 [] p 1 (-1)=if lev 3 p=true/\(aTg 4 p).length<=12 then some ((aTg 4 p).map (abs 0 (-1)))else none:=by
 have:=aOl 3 (by omega) [] p (-1) (by simp)
 simpa using this
theorem aH5(f g:Nat):∀(b:List PT) (a:List (PT×Option Nat)),(∀k∈b,aTg g k=aTg f k)->aHY g a b=aHY f a b
 |[],_,_=>rfl
 |k::b,a,h=>by
  rw[aH1,aH1,h k (by simp)]
  exact aH5 f g b _ λx c=>h x (by simp[c])
theorem aTi:∀(f:Nat) (p:PT),lev f p=true->∀g,f<=g->aTg g p=aTg f p
 |0,p,h,_,_=>by rw[lev]at h;cases h
 |f+1,p,h,0,hg=>by omega
 |f+1,p,h,g+1,hg=>by
  rw[aJ7,jR]at h
  rw[aTj,aTj]
  exact aH5 f g p.kids _ λk a=>aTi f k (h k a) g (by omega)
theorem aCG:∀(L:List (PT×Int)),aGO L=0->∀x∈L,aEb x.1=0
 |[],_,x,hx=>by cases hx
 |y::L,h,x,hx=>by
  rw[aGO]at h
  split at h
  ·rename_i a
   rcases jad.1 hx with e|e
   ·subst e;exact a
   ·exact aCG L h x e
  ·rename_i a;exact absurd h a
def aDk:jB:=[60,97,32,104,114,101,102,61,39,99,39,62,60,105,109,103,32,83,82,67,61,99,105,100,58,120,62,60,97,32,104,114,101,102,61,35,100,62]
def aMG:PT:=⟨⟨#[116,101,120,116,47,104,116,109,108]⟩,⟨#[117,116,102,45,56]⟩,jz,jz,2,aDk,[]⟩
def aMH:PT:=⟨⟨#[105,109,97,103,101,47,112,110,103]⟩,jz,⟨#[120]⟩,⟨#[99]⟩,1,[1,2,3],[]⟩
def aQI:PT:=⟨⟨#[109,117,108,116,105,112,97,114,116,47,114,101,108,97,116,101,100]⟩,jz,jz,⟨#[104,116,116,112,58,47,47,104,47,97,47,98]⟩,0,[],[aMG,aMH]⟩
theorem aAf(w:World)(L:jB)(C:Array Value)(c:C=(bv L).toArray)(t:TypeId)(a:Nat×Nat)(b:Nat)(d:b=w.heap.size):aAe (w.alloc (.cells C t a)) (some ⟨b,0,none⟩) L:=by
 subst c d
 intro _
 refine⟨w.heap.size,0,rfl,λi f=>?_⟩
 rw[j0,World.cell?_alloc_mark w _ t a i]
 simp[bv,List.getD_eq_getElem?_getD,List.getElem?_eq_getElem f]
theorem aDF(w:World)(c:List Value)(t:TypeId)(b j k:Nat)(x:Value)(a:b=w.heap.size)(d:k=j)(h:c[j]?=some x):(w.alloc (.cells c.toArray t)).cell? ⟨b,k,none⟩=some x:=by
 subst d
 have:=aDM w c t b a k x h
 rwa [jaa,j0]at this
theorem aJ1(p:PT)(h:(decide (p.ty.size<=1000000)&&decide (p.cs.size<=1000000)&&decide (p.id.size<=1000000)&&decide (p.loc.size<=1000000)&&decide (-1000<=p.how)&&decide (p.how<=1000)&&decide (p.body.length<=1000000)&&decide (p.kids.length<=1000000))=true):aA5 p:=by
 simp only[j7,jam]at h
 obtain⟨⟨⟨⟨⟨⟨⟨a,b⟩,c⟩,d⟩,e⟩,f⟩,g⟩,k⟩:=h
 unfold aA5 maxLen
 omega
theorem aJi(w:World)(X:Obj)(C:Array Value)(n c:Nat):(convert 22 22 (.slice (some (jx (w.heap.size+1) 0)) n c)).run prog ((w.alloc X).alloc (.cells C 5))=.ok (.slice (some (jx (w.heap.size+1) 0)) n c) ((w.alloc X).alloc (.cells C 5 (C.size,C.size+1))):=by
 have h:=Lib.run_convert_bytes_const (P:=prog) (w.alloc X) 22 5 C n c underlying22 underlying5
 rw[World.size_alloc]at h
 exact h
theorem aNW(w:World):Calls prog 49 #[] w λe w'=>∃g,e=.returned (.agg #[.string aQI.ty,.string aQI.cs,.string aQI.id,.string aQI.loc,.int .i64 aQI.how,.slice none aQI.body.length 0,.slice (some ⟨g,0,none⟩) aQI.kids.length 2])/\aA3 w' 1 aQI none 0 (some ⟨g,0,none⟩) 2/\jb w w':=by
 have j:=λ(X:Obj) (C:Array Value) (n c:Nat)=>aJi w X C n c
 go_enter func49,ntmps49
 go_wp2
 (try simp only[Exit.inBlock,Exit.then])
 refine jt (v:=.agg #[.string aQI.ty,.string aQI.cs,.string aQI.id,.string aQI.loc,.int .i64 aQI.how,.slice none aQI.body.length 0,.slice (some ⟨w.heap.size+1+1+1,0,none⟩) aQI.kids.length 2]) ?_ rfl ⟨_,rfl,?_,?_⟩
 ·refine results_cell_row rfl _ _ w.heap.size 25 _ (0,0) _ rfl ?_ underlying25 rfl (by kernel_rfl)
  exact(j9 _ _ _ (by simp;omega)).trans ((j9 _ _ _ (by simp;omega)).trans ((j9 _ _ _ (by simp)).trans (jel w _)))
 ·have b:=aAf (w.alloc (.cells #[.string aQI.ty,.string aQI.cs,.string aQI.id,.string aQI.loc,.int .i64 aQI.how,.slice none 0 0,.slice (some ⟨w.heap.size+1+1+1,0,none⟩) 2 2] 25)) aDk _ rfl 5 (38,39) (w.heap.size+1) (by simp)
  have d:=aAf ((w.alloc (.cells #[.string aQI.ty,.string aQI.cs,.string aQI.id,.string aQI.loc,.int .i64 aQI.how,.slice none 0 0,.slice (some ⟨w.heap.size+1+1+1,0,none⟩) 2 2] 25)).alloc (.cells (bv aDk).toArray 5 (38,39))) [1,2,3] _ rfl 5 (0,0) (w.heap.size+1+1) (by simp)
  refine⟨aJ1 _ (by decide),⟨by decide,by decide,λ_=>rfl⟩,λh=>absurd rfl h,⟨by decide,by decide,λh=>by cases h⟩,KAt.mk λi f=>?_⟩
  have a:i<2:=f
  match i,a with
  |0,_=>
   refine⟨some ⟨w.heap.size+1,0,none⟩,38,none,0,⟨?_,?_,?_,?_,?_,?_,?_⟩,aJ1 _ (by decide),⟨by decide,by decide,λh=>by cases h⟩,?_,⟨by decide,by decide,λ_=>rfl⟩,rfl⟩
   ·exact aDF _ _ _ _ 0 _ _ (by simp) rfl rfl
   ·exact aDF _ _ _ _ 1 _ _ (by simp) rfl rfl
   ·exact aDF _ _ _ _ 2 _ _ (by simp) rfl rfl
   ·exact aDF _ _ _ _ 3 _ _ (by simp) rfl rfl
   ·exact aDF _ _ _ _ 4 _ _ (by simp) rfl rfl
   ·exact aDF _ _ _ _ 5 _ _ (by simp) rfl rfl
   ·exact aDF _ _ _ _ 6 _ _ (by simp) rfl rfl
   ·exact b.under ((ja _ _).alloc (by simp) _)
  |1,_=>
   refine⟨some ⟨w.heap.size+1+1,0,none⟩,3,none,0,⟨?_,?_,?_,?_,?_,?_,?_⟩,aJ1 _ (by decide),⟨by decide,by decide,λh=>by cases h⟩,?_,⟨by decide,by decide,λ_=>rfl⟩,rfl⟩
   ·exact aDF _ _ _ _ 7 _ _ (by simp) rfl rfl
   ·exact aDF _ _ _ _ 8 _ _ (by simp) rfl rfl
   ·exact aDF _ _ _ _ 9 _ _ (by simp) rfl rfl
   ·exact aDF _ _ _ _ 10 _ _ (by simp) rfl rfl
   ·exact aDF _ _ _ _ 11 _ _ (by simp) rfl rfl
   ·exact aDF _ _ _ _ 12 _ _ (by simp) rfl rfl
   ·exact aDF _ _ _ _ 13 _ _ (by simp) rfl rfl
   ·exact d.under (ja _ _)
 ·exact((((jr _ w).alloc (jf _) _).alloc (by simp) _).alloc (by simp;omega) _).alloc (by simp;omega) _
def aG3:Nat->PT->List PT
 |0,_=>[]
 |f+1,p=>p::p.kids.flatMap (aG3 f)
theorem aG4(f:Nat)(p:PT):aG3 (f+1) p=p::p.kids.flatMap (aG3 f):=by rw[aG3]
theorem aUc{w:World}{F:Nat}{p:PT}{c:jO}{a:Nat}{d:jO}{b:Nat}(h:aA3 w F p c a d b):aA3 w (F+1) p c a d b:=⟨h.1,h.2.1,h.2.2.1,h.2.2.2.1,KAt.up _ _ _ h.2.2.2.2⟩
theorem aRZ(l:List PT)(k:Nat)(h:k<l.length)(g:PT->List PT):(l.take (k+1)).flatMap g=(l.take k).flatMap g++g (l.getD k pt0):=by
 rw[jan,jc h,jbz,jd,jc h]
 congr 1
 show List.flatMap g [l[k]]=g l[k]
 simp only[jbm,List.flatMap_nil,j6]
theorem aR0(l:List PT)(k:Nat)(g:PT->List PT):((l.take k).flatMap g).length<=(l.flatMap g).length:=by
 conv=>rhs;rw[<-jaq k l,jbz,je]
 omega
def aAx(F:Nat)(l:List PT)(w:World)(e:Ending)(w':World):Prop:=
 ∃q c,e=.returned (.slice q l.length c)/\jb w w'/\(q=none->c=0)/\l.length<=c/\c<=maxLen/\KAt w' (F+1) q l/\
  ∃Z:List PZ,Z.map (·.1)=l/\w'.ownsRow w.heap.size 25 7 (.slice q l.length c) l.length (pzv Z)/\∀z∈Z,aA3 w' F z.1 z.2.1.1 z.2.1.2 z.2.2.1 z.2.2.2
theorem aG6:∀(f F:Nat) (p:PT) (r:jO) (l:Nat) (d:jO) (g:Nat) (w:World),lev f p=true->(aG3 f p).length<=1000->aA3 w F p r l d g->
  Calls prog 44 #[.agg (jP p.ty p.cs p.id p.loc p.how r p.body.length l d p.kids.length g)] w
   λe w'=>aAx F (aG3 f p) w e w':=by
 intro f
 induction f with
 |zero=>intro F p r l d g w hl;rw[lev]at hl;cases hl
 |succ f ih=>
  intro F p r l d g w hl t hH
  rw[aJ7,jR]at hl
  have HR:Hid (aG3 (f+1) p=p::p.kids.flatMap (aG3 f)):=aG4 f p
  rw[aG4,jm]at t
  obtain⟨s,a⟩:∃s,w.alloc (.cells (jP p.ty p.cs p.id p.loc p.how r p.body.length l d p.kids.length g) 25)=s:=⟨_,rfl⟩
  have am:jb w s:=by rw[<-a];exact ja _ _
  have ac:s.heap.size=w.heap.size+1:=by rw[<-a];simp
  have y0:s.cell? (jx w.heap.size 0)=some (.string p.ty):=by rw[<-a];simp
  have y1:s.cell? (jx w.heap.size 1)=some (.string p.cs):=by rw[<-a];simp
  have y2:s.cell? (jx w.heap.size 2)=some (.string p.id):=by rw[<-a];simp
  have y3:s.cell? (jx w.heap.size 3)=some (.string p.loc):=by rw[<-a];simp
  have y4:s.cell? (jx w.heap.size 4)=some (.int .i64 p.how):=by rw[<-a];simp
  have y5:s.cell? (jx w.heap.size 5)=some (.slice r p.body.length l):=by rw[<-a];simp
  have y6:s.cell? (jx w.heap.size 6)=some (.slice d p.kids.length g):=by rw[<-a];simp
  obtain⟨v,J⟩:∃v,s.alloc (.cells (jP p.ty p.cs p.id p.loc p.how r p.body.length l d p.kids.length g) 25)=v:=⟨_,rfl⟩
  have M:jb s v:=by rw[<-J];exact ja _ _
  have y:jb w v:=am.trans (M.mono am.size)
  have ae:Hid (∀w',jb v w'->w'.cell? (jx w.heap.size 6)=some (.slice d p.kids.length g)):=λw' hb=>by
   have h2:=(M.cell (ji s _ y6)).trans y6
   exact(hb.cell (ji v _ h2)).trans h2
  have ax:Hid (aAi v (some (jx (w.heap.size+1) 0)) (pzv [(p,(r,l),(d,g))])):=by
   intro _
   refine⟨w.heap.size+1,0,rfl,λj u hj=>?_⟩
   rw[<-J]
   exact aDF s _ _ _ j _ u ac.symm (j0 _) hj
  have az:Hid (aA3 v F p r l d g):=hH.below y
  have aE:Hid (v.ownsRow w.heap.size 25 7 (.slice (some (jx (w.heap.size+1) 0)) 1 1) 1 (pzv [(p,(r,l),(d,g))])):=by
   have:=World.ownsRow_lit (base:=w.heap.size) (e:=25) (size:=7) s (jP p.ty p.cs p.id p.loc p.how r p.body.length l d p.kids.length g) 1 (by rw[ac];omega) (by decide) rfl
   rw[J,ac]at this
   exact this
  have E:Hid (p.kids≠[]->∃O b o,F=O+1/\d=some (jx b o)/\∀i,i<p.kids.length->PAt v O b (o+i*7) (p.kids.getD i pt0)):=λI=>by
   have hk:KAt w F d p.kids:=hH.2.2.2.2
   cases F with
   |zero=>exact absurd hk I
   |succ O=>
    obtain⟨b,o,e1,e2⟩:=hk.each I
    exact⟨O,b,o,rfl,e1,λi hi=>(e2 i hi).below y⟩
  have aN:p.kids.length<=9223372036854775807:=by have:=hH.1.2.2.2.2.2.2.2;unfold maxLen at this;exact this
  have IH:Hid (∀(F:Nat) (k:PT) (r:jO) (l:Nat) (d:jO) (g:Nat) (w:World),k∈p.kids->(aG3 f k).length<=1000->aA3 w F k r l d g->
   Calls prog 44 #[.agg (jP k.ty k.cs k.id k.loc k.how r k.body.length l d k.kids.length g)] w λe w'=>aAx F (aG3 f k) w e w'):=λF k r l d g w hk h1 h2=>ih F k r l d g w (hl k hk) h1 h2
  have aD:Hid _:=t
  obtain⟨n,hn⟩:∃n,p.kids.length=n:=⟨_,rfl⟩
  have HN:Hid _:=hn
  rw[hn]at y6 ae E aN a J
  simp only[hn]
  clear hn ih hH hl t
  generalize aG3 (f+1) p=U at*
  generalize p.body.length=nb at*
  go_enter func44,ntmps44
  go_wp2_with fail
  go_loopw[3,4] (λov iv wr=>∃(k m c:Nat) (q:jO) (Z:List PZ),k<=n/\iv=.int .i64 k/\ov=.slice q m c/\(q=none->m=0/\c=0)/\m<=c/\c<=maxLen/\jb v wr/\Hid (Z.length=m)/\Hid (Z.map (·.1)=p::(p.kids.take k).flatMap (aG3 f))/\Hid (aAi wr q (pzv Z))/\Hid (wr.ownsRow w.heap.size 25 7 (.slice q m c) m (pzv Z))/\Hid (∀z∈Z,aA3 wr F z.1 z.2.1.1 z.2.1.2 z.2.2.1 z.2.2.2)) (λ_ iv _=>n-(intOf iv).toNat)
  case atStart=>exact⟨0,1,1,some (jx (w.heap.size+1) 0),[(p,(r,l),(d,g))],jy _,rfl,rfl,(λh=>by cases h),jf _,by decide,jr _ _,rfl,rfl,ax,aE,λz hz=>by obtain rfl:=List.mem_singleton.1 hz;exact az.out⟩
  case round=>
   obtain⟨k,m,c,q,Z,hk,rfl,rfl,av,aP,aM,C,G,T,af,aH,S⟩:=hrel
   have aQ:=C.size
   have c6:=ae.out wr C
   by_cases aq:k<n
   ·have aO:(k:Int)<(n:Int):=by omega
    have I:p.kids≠[]:=λe=>by have:=HN.out;rw[e]at this;simp at this;omega
    obtain⟨O,bp,op,aJ,rfl,aj⟩:=E.out I
    have ap:k<p.kids.length:=by rw[HN.out];exact aq
    have ad:=(aj k aq).below C
    have hT:=aRZ p.kids k ap (aG3 f)
    have ab:=aR0 p.kids (k+1) (aG3 f)
    rw[hT,je]at ab
    have D:p.kids.getD k pt0∈p.kids:=by simp[List.getD_eq_getElem?_getD,List.getElem?_eq_getElem ap]
    obtain⟨x,ai⟩:∃x,p.kids.getD k pt0=x:=⟨_,rfl⟩
    rw[ai]at ad hT ab D
    obtain⟨a1,a2,a3,a4,aI,ah⟩:=ad
    have aR:m+(aG3 f x).length<=1000:=by
     have h1:=jab List.length T.out
     rw[jD,jm,G.out]at h1
     have:=aD.out
     omega
    have H:Hid (Calls prog 44 #[.agg (jP x.ty x.cs x.id x.loc x.how a1 x.body.length a2 a3 x.kids.length a4)] wr λe aU=>aAx O (aG3 f x) wr e aU):=IH.out O x a1 a2 a3 a4 wr D (by omega) ah
    obtain⟨d0,d1,d2,d3,d4,d5,d6⟩:=aI
    have HT:Hid _:=hT
    clear aj ai ah E hT ab D
    obtain⟨X,hX⟩:∃X,aG3 f x=X:=⟨_,rfl⟩
    rw[hX]at H HT aR
    clear hX
    obtain⟨a5,aX,aZ,a0,aY,aS,aT⟩:=x
    simp only at d0 d1 d2 d3 d4 d5 d6 H
    generalize aS.length=m1 at*
    generalize aT.length=m2 at*
    go_wp2_with fail
    refine H.out.mono ?_
    rintro e w3 ⟨q3,c3,rfl,Y,ar,aW,aV,ao,-⟩
    obtain⟨L,W,ag,ak⟩:=ao.list
    have B:=Y.alloc Y.size (.cells #[.slice q m c,.slice q3 X.length c3] 23)
    have A:jb w3 (w3.alloc (.cells #[.slice q m c,.slice q3 X.length c3] 23)):=ja _ _
    have aw:L.length=X.length:=by have:=jab List.length W;simpa using this
    have CC:Hid (Calls prog 85 #[.slice (some (jx w3.heap.size 0)) 2 2] (w3.alloc (.cells #[.slice q m c,.slice q3 X.length c3] 23)) λe w'=>∃p' V,e=.returned (.slice p' (m+X.length) V)/\(p'=none->m+X.length=0/\V=0)/\m+X.length<=V/\V<=maxLen/\jb wr w'/\Hid (aAi w' p' (pzv (Z++L)))/\Hid (w'.ownsRow w.heap.size 25 7 (.slice p' (m+X.length) V) (m+X.length) (pzv (Z++L)))/\Hid (∀z∈Z++L,aA3 w' F z.1 z.2.1.1 z.2.1.2 z.2.2.1 z.2.2.2)):=by
     refine(aEz w3.heap.size q q3 m X.length c c3 (pzv Z) (pzv L) (by rw[aOy,G.out]) (by rw[aOy,aw]) _ (by simp) (by simp) (af.out.below B) (ag.below A) (aOz _) (aOz _) av (λh=>⟨by have:=ar h;omega,ar h⟩) (by omega)).mono ?_
     rintro e w' ⟨al,p',V,rfl,N⟩
     obtain⟨p2,c2,e2,g1,g2,g3,aL⟩:=aMb N
     injection e2 with e3 e4 e5
     subst e3 e5
     have an:=B.trans (al.mono B.size)
     refine⟨p',V,rfl,g3,g1,g2,an,by unfold Hid;rw[aOx];exact aL,by unfold Hid;rw[aOx];exact aMs N (by have h1:=y.size;have h2:=Y.size;simp;omega),λz hz=>?_⟩
     rcases jY.1 hz with h|h
     ·exact(S.out z h).below an
     ·have:=aUc ((ak z h).below (A.trans (al.mono A.size)))
      rw[<-aJ]at this
      exact this
    have aG:Hid ((Z++L).map (·.1)=p::(p.kids.take (k+1)).flatMap (aG3 f)):=by unfold Hid;rw[jbg,T.out,W,HT.out];rfl
    have aC:Hid ((Z++L).length=m+X.length):=by unfold Hid;rw[je,G.out,aw]
    generalize X.length=mx at*
    clear ao W ag ak H HT
    go_wp2_with fail
    refine CC.out.mono ?_
    rintro e w4 ⟨p4,c4,rfl,g1,g2,g3,aK,ay,aF,aA⟩
    have aa:jb v w4:=C.trans (aK.mono aQ)
    clear CC
    go_wp2_with fail
    go_roundw
    case rel=>exact⟨k+1,m+mx,c4,p4,Z++L,by omega,by go_num,rfl,g1,g2,g3,aa,aC,aG,ay,aF,aA⟩
    case measure=>simp[intOf];omega
   ·have aO:¬((k:Int)<(n:Int)):=by omega
    have R:Hid (Z.map (·.1)=U):=by unfold Hid;rw[T.out,jK (by rw[HN.out];omega),HR.out]
    have aB:Hid (KAt wr (F+1) q U):=by unfold Hid;rw[<-R.out];exact KAt.of_list af.out S.out
    have P:Hid (U.length=m):=by unfold Hid;rw[<-R.out,jD];exact G.out
    clear E IH
    go_wp2_with fail
    go_ret
    refine⟨q,c,?_,y.trans (C.mono y.size),λh=>(av h).2,by rw[P.out];exact aP,aM,aB.out,Z,R.out,by rw[P.out];exact aH.out,S.out⟩
    rw[P.out];rfl
def aBf(w:World)(g:Nat)(p:jA)(k:Int):Prop:=w.heap[g]?=some (.cells #[.string p,.int .i64 k] 121)
theorem aBf.page{w:World}{g:Nat}{p:jA}{k:Int}(h:aBf w g p k):w.cell? (jx g 0)=some (.string p):=(cell_of_row w g 0 #[.string p,.int .i64 k] 121 (0,0) h).trans rfl
theorem aBf.at_{w:World}{g:Nat}{p:jA}{k:Int}(h:aBf w g p k):w.cell? (jx g 1)=some (.int .i64 k):=(cell_of_row w g 1 #[.string p,.int .i64 k] 121 (0,0) h).trans rfl
theorem aBf.lt{w:World}{g:Nat}{p:jA}{k:Int}(h:aBf w g p k):g<w.heap.size:=(jl.1 h).1
theorem aBf.frozen{w:World}{g:Nat}{p:jA}{k:Int}(h:aBf w g p k)(o:Nat):w.frozen? (jx g o)=false:=by simp[World.frozen?,show w.heap[g]?=_ from h]
theorem aBf.set{w:World}{g:Nat}{p:jA}{k:Int}(h:aBf w g p k)(m:Int):aBf (w.setCell (jx g 1) (.int .i64 m)) g p m:=by
 unfold aBf
 rw[heap_setCell_same w g 1 #[.string p,.int .i64 k] 121 (.int .i64 m) h]
 rfl
theorem aBf.below{w w':World}{g:Nat}{p:jA}{k:Int}(h:aBf w g p k)(a:jb w w'):aBf w' g p k:=by
 unfold aBf
 rw[a.block g h.lt]
 exact h
theorem aBf.drew{w:World}{g:Nat}{p:jA}{k:Int}(h:aBf w g p k):aBf w.drew g p k:=h
theorem aOM(w:World)(p:jA)(k:Int):aBf (w.alloc (.cells #[.string p,.int .i64 k] 121)) w.heap.size p k:=by
 show(w.heap.push _)[w.heap.size]?=_
 rw[j2,jo rfl]
theorem aAe.moved{w:World}{q:jO}{l:jB}(h:aAe w q l){g:Nat}{p:jA}{k:Int}(d:aBf w g p k)(v:Value):aAe (w.setCell (jx g 1) v) q l:=by
 intro c
 obtain⟨b,o,e,j⟩:=h c
 refine⟨b,o,e,λi f=>?_⟩
 have a:=j i f
 rw[jae _ _ _ _ (λe=>by rw[<-e,d.at_]at a;cases a)]
 exact a
theorem aPZ(w:World)(g:Nat)(v:Value):(w.setCell (jx g 1) v).heap.size=w.heap.size:=by simp[World.setCell]
def aAQ(w:World)(g:Nat)(m:Int)(w':World):Prop:=Below w.heap.size (w.setCell (jx g 1) (.int .i64 m)) w'
theorem aAQ.rd{w w':World}{g:Nat}{p:jA}{k m:Int}(h:aAQ w g m w')(a:aBf w g p k):aBf w' g p m:=
 (a.set m).below (by show Below _ _ _;rw[aPZ];exact h)
theorem aAQ.size{w w':World}{g:Nat}{m:Int}(h:aAQ w g m w'):w.heap.size<=w'.heap.size:=by
 have b:Below w.heap.size (w.setCell (jx g 1) (.int .i64 m)) w':=h
 have a:=b.size
 rw[aPZ]at a
 exact a
theorem aAQ.block{w w':World}{g:Nat}{m:Int}(h:aAQ w g m w')(b:Nat)(c:b<w.heap.size)(d:b≠g):w'.heap[b]?=w.heap[b]?:=by
 have a:Below w.heap.size (w.setCell (jx g 1) (.int .i64 m)) w':=h
 rw[a.block b c,jp _ _ _ _ d]
theorem aAQ.trans{w a f:World}{g:Nat}{p:jA}{n m k:Int}(d:aAQ w g m a)(j:aAQ a g k f)(l:aBf w g p n):aAQ w g k f:=by
 have c1:=d.rd l
 have c2:=j.rd c1
 have b:Below w.heap.size (w.setCell (jx g 1) (.int .i64 m)) a:=d
 have c:Below a.heap.size (a.setCell (jx g 1) (.int .i64 k)) f:=j
 refine⟨c.os.trans b.os,c.tape.trans b.tape,c.output.trans b.output,?_,λi o=>?_⟩
 ·rw[aPZ]
  exact j1 d.size j.size
 ·by_cases e:i=g
  ·subst e
   rw[show f.heap[i]?=_ from c2,show(w.setCell (jx i 1) (.int .i64 k)).heap[i]?=_ from l.set k]
  ·rw[c.block i (jcb o d.size),jp _ _ _ _ e,b.block i o,jp _ _ _ _ e,jp _ _ _ _ e]
theorem aAQ.then{w a c:World}{g:Nat}{m:Int}(b:aAQ w g m a)(f:jb a c):aAQ w g m c:=by
 have d:Below w.heap.size (w.setCell (jx g 1) (.int .i64 m)) a:=b
 exact d.trans (f.mono b.size)
theorem aAQ.base{a w w':World}{g:Nat}{m:Int}(h:aAQ w g m w')(b:jb a w)(c:a.heap.size<=g):jb a w':=
 (b.setCell (p:=jx g 1) c (.int .i64 m)).trans (h.mono b.size)
theorem aAQ.owns{w w':World}{g:Nat}{m:Int}(h:aAQ w g m w'){B e s k:Nat}{v:Value}{b:List Value}(f:w.ownsRow B e s v k b)(d:g<B):w'.ownsRow B e s v k b:=by
 have c:=ownsRow_setCell_below f (a:=jx g 1) d (.int .i64 m)
 exact aMm c (by show Below _ _ _;rw[aPZ];exact h)
theorem aAQ.bytes{w w':World}{g:Nat}{p:jA}{k m:Int}(h:aAQ w g m w')(a:aBf w g p k){q:jO}{l:jB}(b:aAe w q l):aAe w' q l:=
 (b.moved a (.int .i64 m)).below (by show Below _ _ _;rw[aPZ];exact h)
theorem aAQ.still{w:World}{g:Nat}{p:jA}{k:Int}(a:aBf w g p k):aAQ w g k w:=by
 unfold aAQ
 refine⟨rfl,rfl,rfl,by simp[World.setCell],λi b=>?_⟩
 by_cases e:i=g
 ·subst e
  rw[show w.heap[i]?=_ from a,show(w.setCell (jx i 1) (.int .i64 k)).heap[i]?=_ from a.set k]
 ·rw[jp _ _ _ _ e]
theorem aAQ.of_set{w:World}{g:Nat}{m:Int}:aAQ w g m (w.setCell (jx g 1) (.int .i64 m)):=by
 unfold aAQ
 have:=jr w.heap.size (w.setCell (jx g 1) (.int .i64 m))
 exact this
def spB(c:UInt8):Bool:=[32,9,13,10,12].contains c
def aJ3(c:UInt8):Bool:=(decide (97<=c.toNat)&&decide (c.toNat<=122))||(decide (65<=c.toNat)&&decide (c.toNat<=90))
def aIv(c:UInt8):Bool:=!spB c&&c !=47&&c !=62
def aIt(c:UInt8):Bool:=spB c||c==47
def aIr(c:UInt8):Bool:=!spB c&&c !=47&&c !=62&&c !=61
def aIs(c:UInt8):Bool:=!spB c&&c !=62
def aLF(q c:UInt8):Bool:=c !=q
def aIg:jB:=[104,114,101,102]
def aQ8:jB:=[115,114,99]
def qB(c:UInt8):Bool:=c==34||c==39
abbrev LK:=Nat×jB
def aUs:jB->jB×jB×jB
 |[]=>([],[],[])
 |c::t=>if qB c=true then(t,t.takeWhile (aLF c),(t.dropWhile (aLF c)).drop 1)else(c::t,(c::t).takeWhile aIs,(c::t).dropWhile aIs)
def aCN:jB->Option LK×jB
 |[]=>(none,[])
 |c::t=>if c=61 then(some ((aUs (t.dropWhile spB)).1.length,(aUs (t.dropWhile spB)).2.1),(aUs (t.dropWhile spB)).2.2)else(none,c::t)
def aLm(s:jB):jB:=s.take 1++(s.drop 1).takeWhile aIr
def aCg(s:jB):Option LK×jB:=aCN (((s.drop 1).dropWhile aIr).dropWhile spB)
def aLf(seen:List jB)(nm:jB)(v:Option LK):List LK:=
 match v with
 |none=>[]
 |some x=>if seen.contains nm=false/\(nm=aIg\/nm=aQ8)then [x]else []
def aRz(low:jB->jB):Nat->List jB->jB->Option (List LK)×jB
 |0,_,_=>(none,[])
 |n+1,seen,s=>match s.dropWhile aIt with
  |[]=>(none,[])
  |c::t=>if c=62 then(some [],t)else
   ((aRz low n (low (aLm (c::t))::seen) (aCg (c::t)).2).1.map (aLf seen (low (aLm (c::t))) (aCg (c::t)).1++·),(aRz low n (low (aLm (c::t))::seen) (aCg (c::t)).2).2)
def aCT(m s:jB):jB:=if Lib.index s m<0 then []else s.drop ((Lib.index s m).toNat+m.length)
def aH9(s:jB):Bool:=match s with
 |[]=>false
 |c::_=>aJ3 c
def aRw(m s:jB):Bool:=m.isPrefixOf s&&aH9 (s.drop m.length)
def aRD(low:jB->jB)(s:jB):Option (List LK)×jB:=aRz low ((s.dropWhile aIv).length+1) [] (s.dropWhile aIv)
def aEm:jB:=[60,33,45,45]
def aEl:jB:=[45,45,62]
def aMT(low:jB->jB)(s:jB):List LK×jB:=
 if aEm.isPrefixOf s=true then([],aCT aEl (s.drop 4))
 else if([60,33]:jB).isPrefixOf s=true\/([60,63]:jB).isPrefixOf s=true then([],aCT [62] s)
 else if aRw [60] s=true then((aRD low (s.drop 1)).1.getD [],(aRD low (s.drop 1)).2)
 else if aRw [60,47] s=true then([],(aRD low (s.drop 2)).2)
 else([],s.drop 1)
def aGw(low:jB->jB):Nat->List LK->jB->Option (List LK)
 |0,acc,_=>some acc
 |n+1,acc,s=>if s=[]then some acc else if 60<(acc++(aMT low s).1).length then none else aGw low n (acc++(aMT low s).1) (aMT low s).2
def aGz(low:jB->jB)(s:jB):Option (List LK):=if 4000<s.length then none else aGw low s.length [] s
def aBY:jB:=[38,97,109,112,59]
def aTW(s:jB):jB:=Lib.replaceAll s aBY [38]
def okT(c:UInt8):Bool:=decide (33<=c.toNat)&&decide (c.toNat<=126)&&!([34,39,60,62,38,61]:jB).contains c
def aNs(t:jB):Bool:=t.all okT
def aGe:List LK->List jB->jB->jB
 |x::ls,t::ts,s=>if t=[]then aGe ls ts s else s.take (s.length-x.1)++t++aGe ls ts (s.drop (s.length-x.1+x.2.length))
 |_,_,s=>s
def aOd(low:jB->jB)(b:jB)(texts:List jB):jB×Nat:=
 match aGz low b with
 |none=>([],2)
 |some l=>if texts.length≠l.length then([],4)else if texts.all aNs=false then([],1)else if 4000<(aGe l texts b).length then([],2)else(aGe l texts b,0)
theorem aFz{α:Type}(p:α->Bool)(s:List α):(s.dropWhile p).length<=s.length:=by
 induction s with
 |nil=>exact jf _
 |cons c t a=>simp only[jat];split<;>simp<;>omega
theorem aUv(s:jB):(aUs s).2.2.length<=s.length:=by
 unfold aUs
 cases s with
 |nil=>exact jf _
 |cons c t=>
  simp only
  split
  ·have:=aFz (aLF c) t;simp only[jH,jm];omega
  ·exact aFz aIs (c::t)
theorem aCP(s:jB):(aCN s).2.length<=s.length:=by
 unfold aCN
 cases s with
 |nil=>exact jf _
 |cons c t=>
  simp only
  split
  ·have a:=aUv (t.dropWhile spB);have b:=aFz spB t;simp only[jm];omega
  ·exact jf _
theorem aCl(c:UInt8)(t:jB):(aCg (c::t)).2.length<=t.length:=by
 unfold aCg
 have a:=aCP ((((c::t).drop 1).dropWhile aIr).dropWhile spB)
 have b:=aFz spB (((c::t).drop 1).dropWhile aIr)
 have d:=aFz aIr ((c::t).drop 1)
 have f:((c::t).drop 1).length=t.length:=rfl
 omega
theorem aFx{p:UInt8->Bool}{s t:jB}{c:UInt8}(h:s.dropWhile p=c::t):t.length<s.length:=by
 have:=aFz p s;rw[h]at this;simp at this;omega
theorem aRA(a:jB->jB):∀(n m:Nat) (seen:List jB) (s:jB),s.length<n->s.length<m->aRz a n seen s=aRz a m seen s
 |0,_,_,s,h,_=>absurd h (jdo _)
 |_,0,_,s,_,h=>absurd h (jdo _)
 |n+1,m+1,seen,s,h1,h2=>by
  unfold aRz
  cases h:s.dropWhile aIt with
  |nil=>rfl
  |cons c t=>
   simp only
   have b:=aFx h
   have d:=aCl c t
   rw[aRA a n m _ _ (by omega) (by omega)]
theorem aRT(a:jB->jB):∀(n:Nat) (seen:List jB) (s:jB),(aRz a n seen s).2.length<=s.length
 |0,_,_=>jy _
 |n+1,seen,s=>by
  unfold aRz
  cases h:s.dropWhile aIt with
  |nil=>exact jy _
  |cons c t=>
   simp only
   have b:=aFx h
   have d:=aCl c t
   split
   ·simp only;omega
   ·have:=aRT a n (a (aLm (c::t))::seen) (aCg (c::t)).2
    simp only
    omega
theorem aCU(m s:jB):(aCT m s).length<=s.length:=by
 unfold aCT
 split
 ·exact jy _
 ·simp only[jH];omega
theorem aRE(a:jB->jB)(s:jB):(aRD a s).2.length<=s.length:=by
 unfold aRD
 have b:=aRT a ((s.dropWhile aIv).length+1) [] (s.dropWhile aIv)
 have c:=aFz aIv s
 omega
theorem aM3(a:jB->jB)(c:UInt8)(t:jB):(aMT a (c::t)).2.length<(c::t).length:=by
 unfold aMT
 split
 ·have:=aCU aEl ((c::t).drop 4);simp only[jH,jm]at*;omega
 ·split
  ·simp only[aCT];split
   ·simp
   ·simp only[jH,jm,jag];omega
  ·split
   ·have:=aRE a ((c::t).drop 1);simp only[jH,jm]at*;omega
   ·split
    ·have:=aRE a ((c::t).drop 2);simp only[jH,jm]at*;omega
    ·simp
theorem aGx(b:jB->jB):∀(n m:Nat) (a:List LK) (s:jB),s.length<=n->s.length<=m->aGw b n a s=aGw b m a s
 |0,0,_,_,_,_=>rfl
 |0,m+1,a,s,h,_=>by
  obtain rfl:s=[]:=js.1 (by omega)
  simp[aGw]
 |n+1,0,a,s,_,h=>by
  obtain rfl:s=[]:=js.1 (by omega)
  simp[aGw]
 |n+1,m+1,a,s,h1,h2=>by
  unfold aGw
  cases s with
  |nil=>rfl
  |cons c t=>
   have:=aM3 b c t
   rw[aGx b n m _ _ (by omega) (by omega)]
end Go.Proofs.YtbbfcbodhmeanaaGreatDoor

import Derived.Test.YtbbfcbodhmeanaaGreatDoorXrewritesays22
set_option maxHeartbeats 8000000
set_option maxRecDepth 1000000
namespace Go.Proofs.YtbbfcbodhmeanaaGreatDoor
open Go.RowKit
def gl0:GL:=⟨0,0,0,[],[],0⟩
def G6(w:World)(p:jO)(n:Nat)(l:List GL):Prop:=l.length=n/\(n≠0->∃b o,p=some (jx b o)/\∀i,i<n->w.cell? ⟨b,o+i*6,none⟩=some (.int .i64 (l.getD i gl0).part)/\w.cell? ⟨b,o+i*6+1,none⟩=some (.int .i64 (l.getD i gl0).fr)/\w.cell? ⟨b,o+i*6+2,none⟩=some (.int .i64 (l.getD i gl0).tt)/\w.cell? ⟨b,o+i*6+3,none⟩=some (.string (tx8 (l.getD i gl0).text))/\w.cell? ⟨b,o+i*6+4,none⟩=some (.string (tx8 (l.getD i gl0).led))/\w.cell? ⟨b,o+i*6+5,none⟩=some (.int .i64 (l.getD i gl0).find))
theorem G6.below{w w':World}{p:jO}{n:Nat}{l:List GL}(h:G6 w p n l)(a:jb w w'):G6 w' p n l:=by
 refine⟨h.1,λg=>?_⟩
 obtain⟨b,o,e,c⟩:=h.2 g
 refine⟨b,o,e,λi d=>?_⟩
 obtain⟨c0,c1,c2,c3,c4,c5⟩:=c i d
 have f:=ji w _ c0
 have k:∀j v,w.cell? (jx b j)=some v->w'.cell? (jx b j)=some v:=λj v h=>(a.cell (p:=jx b j) f).trans h
 exact⟨k _ _ c0,k _ _ c1,k _ _ c2,k _ _ c3,k _ _ c4,k _ _ c5⟩
theorem aHy:∀(l:List GL) (i:Nat),i<l.length->∀j x,(g1v (l.getD i gl0))[j]?=some x->(glv l)[i*6+j]?=some x
 |[],i,h,_,_,_=>by simp at h
 |y::l,0,_,j,x,hx=>by
  have e:glv (y::l)=g1v y++glv l:=by simp[glv]
  have a:(g1v y)[j]?=some x:=hx
  rw[e,jdr,j0,jbk (jN.1 a).1,a]
 |y::l,i+1,h,j,x,hx=>by
  have e:glv (y::l)=g1v y++glv l:=by simp[glv]
  have b:(g1v y).length=6:=rfl
  rw[e,jS (by rw[b];omega),b,show(i+1)*6+j-6=i*6+j from by omega]
  exact aHy l i (by simpa using h) j x hx
theorem aMc{w:World}{B:Nat}{v:Value}{l:List GL}(h:w.ownsRow B 42 6 v l.length (glv l)):∃p c,v=.slice p l.length c/\l.length<=c/\c<=maxLen/\G6 w p l.length l:=by
 have b:=λg n=>h.cells (g:=g) n
 rcases h.2 with⟨rfl,d⟩|⟨g,cap,m,rfl,_,_,r,q,_,_⟩
 ·exact⟨none,0,by rw[d],by omega,by decide,rfl,λa=>absurd d a⟩
 ·refine⟨some (jx g 0),cap,rfl,r,q,rfl,λa=>⟨g,0,rfl,λi o=>?_⟩⟩
  have k:∀j x,(g1v (l.getD i gl0))[j]?=some x->w.cell? ⟨g,0+i*6+j,none⟩=some x:=λj x s=>by
   have f:=b g rfl (i*6+j) _ (aHy l i o j x s)
   rw[jaa,j0]at f
   rw[j0]
   exact f
  exact⟨k 0 _ rfl,k 1 _ rfl,k 2 _ rfl,k 3 _ rfl,k 4 _ rfl,k 5 _ rfl⟩
def aDA(names:List NM):Nat->jA:=names.foldl (λc n i=>if(i:Int)=n.1 then n.2 else c i) (λ_=>jz)
def aR4(cl:Nat->jA)(g:GL):jA:=if 0<=g.find then cl g.find.toNat else⟨#[]⟩
def aSL(cl:Nat->jA)(gs:List GL):Nat->List jA:=gs.foldl (λt g i=>if(i:Int)=g.part then t i++[aR4 cl g]else t i) (λ_=>[])
theorem aDD(l:List NM)(n:NM):aDA (l++[n])=λ(i:Nat)=>if(i:Int)=n.1 then n.2 else aDA l i:=by unfold aDA;rw[jdz];rfl
theorem aSO(a:Nat->jA)(l:List GL)(g:GL):aSL a (l++[g])=λ(i:Nat)=>if(i:Int)=g.part then aSL a l i++[aR4 a g]else aSL a l i:=by unfold aSL;rw[jdz];rfl
theorem aQX{α:Type}{P:List α->Prop}(a:P [])(b:∀l x,P l->P (l++[x]))(l:List α):P l:=by
 have:∀r:List α,P r.reverse:=by
  intro r
  induction r with
  |nil=>exact a
  |cons x r c=>rw[List.reverse_cons];exact b _ _ c
 have h:=this l.reverse
 rwa [List.reverse_reverse]at h
theorem aDC(l:List NM)(h:∀n∈l,n.2.size<=maxLen)(i:Nat):(aDA l i).size<=maxLen:=by
 have:∀l:List NM,(∀n∈l,n.2.size<=maxLen)->(aDA l i).size<=maxLen:=by
  intro l
  refine aQX (P:=λl=>(∀n∈l,n.2.size<=maxLen)->(aDA l i).size<=maxLen) (λ_=>by show(⟨#[]⟩:ByteArray).size<=maxLen;decide) (λl x c a=>?_) l
  rw[aDD]
  simp only
  split
  ·exact a x (by simp)
  ·exact c (λn b=>a n (jcs _ b))
 exact this l h
theorem aR5(a:Nat->ByteArray)(h:∀i,(a i).size<=maxLen)(g:GL):(aR4 a g).size<=maxLen:=by
 unfold aR4
 split
 ·exact h _
 ·show(⟨#[]⟩:ByteArray).size<=maxLen;decide
theorem aSM(b:Nat->jA)(h:∀i,(b i).size<=maxLen)(a:List GL)(i:Nat):(aSL b a i).length<=a.length/\∀t∈aSL b a i,t.size<=maxLen:=by
 refine aQX (P:=λa=>(aSL b a i).length<=a.length/\∀t∈aSL b a i,t.size<=maxLen) ⟨jf _,(λt c=>by cases c)⟩ (λl x d=>?_) a
 rw[aSO,je]
 simp only
 split
 ·refine⟨by rw[je];simp;exact d.1,λt c=>?_⟩
  rcases jY.1 c with c|c
  ·exact d.2 t c
  ·obtain rfl:t=aR4 b x:=by simpa using c
   exact aR5 b h x
 ·exact⟨Nat.le_succ_of_le d.1,d.2⟩
abbrev aAb:Array Value:=#[.string jz,.string jz,.string jz,.string jz,.string jz,.string jz,.string jz,.string jz,.string jz,.string jz,.string jz,.string jz]
abbrev aAa:Array Value:=#[.slice none 0 0,.slice none 0 0,.slice none 0 0,.slice none 0 0,.slice none 0 0,.slice none 0 0,.slice none 0 0,.slice none 0 0,.slice none 0 0,.slice none 0 0,.slice none 0 0,.slice none 0 0]
def aAh(C:Nat)(cl:Nat->jA)(W:World):Prop:=∃cc:Array Value,W.heap[C]?=some (.cells cc 75)/\cc.size=12/\∀i,i<12->cc[i]?=some (.string (cl i))
theorem aAh.zero{C:Nat}{W:World}(h:W.heap[C]?=some (.cells aAb 75)):aAh C (aDA []) W:=by
 refine⟨aAb,h,rfl,λi a=>?_⟩
 have:i=0\/i=1\/i=2\/i=3\/i=4\/i=5\/i=6\/i=7\/i=8\/i=9\/i=10\/i=11:=by omega
 rcases this with rfl|rfl|rfl|rfl|rfl|rfl|rfl|rfl|rfl|rfl|rfl|rfl<;>rfl
theorem aAh.move{C:Nat}{b:Nat->jA}{W a:World}(h:aAh C b W)(i:a.heap[C]?=W.heap[C]?):aAh C b a:=by
 obtain⟨c,d,f,g⟩:=h
 exact⟨c,i.trans d,f,g⟩
theorem aAh.cell{C:Nat}{a:Nat->jA}{W:World}(h:aAh C a W)(m:Nat)(d:m<12):W.cell? (jx C m)=some (.string (a m))/\W.frozen? (jx C m)=false:=by
 obtain⟨f,b,g,c⟩:=h
 exact⟨(aDe b m).trans (c m d),aDg b m⟩
theorem aAh.set{C:Nat}{l:List NM}{n:NM}{W:World}(h:aAh C (aDA l) W)(m:Nat)(j:m<12)(a:n.1=(m:Int)):aAh C (aDA (l++[n])) (W.setCell (jx C m) (.string n.2)):=by
 obtain⟨b,c,d,f⟩:=h
 refine⟨b.setIfInBounds m (.string n.2),aP5 c m _,by rw[jcy];exact d,λi g=>?_⟩
 rw[aDD]
 simp only
 by_cases e:m=i
 ·subst e
  rw[jo (by rw[a]),jbu (by omega)]
 ·rw[jh (by rw[a];omega),jba e]
  exact f i g
def aRn(l:List jA):List Value:=l.map .string
structure aBx(w:World)(R C T8 B:Nat)(cl:Nat->jA)(tx:Nat->List jA)(v:Nat->Value)(W:World):Prop where
 bel:jb w W
 kR:W.heap[R]?=some (.cells aAa 98)
 kC:aAh C cl W
 kT:∃tt:Array Value,W.heap[T8]?=some (.cells tt 98)/\tt.size=12/\∀i,i<12->tt[i]?=some (v i)
 own:∀i,i<12->W.ownsRow B 9 1 (v i) (tx i).length (aRn (tx i))
 apart:∀i j,i<12->j<12->i≠j->∀g,(v i).ownBlock=some g->(v j).ownBlock≠some g
theorem aBx.below{w:World}{R C T8 B:Nat}{c:Nat->jA}{d:Nat->List jA}{v:Nat->Value}{W b:World}(m:aBx w R C T8 B c d v W)(n:w.heap.size<=W.heap.size)(a:jb W b):aBx w R C T8 B c d v b:=by
 obtain⟨o,g,j,k⟩:=m.kT
 obtain⟨f,c1,c2,c3⟩:=m.kC
 exact⟨m.bel.trans (a.mono n),aDj m.kR a,⟨f,aDj c1 a,c2,c3⟩,⟨o,aDj g a,j,k⟩,λi l=>aMm (m.own i l) a,m.apart⟩
theorem aBx.push{w:World}{R C T8 B:Nat}{a:Nat->jA}{l:List GL}{x:GL}{v:Nat->Value}{W y:World}{g F q:Nat}(m:aBx w R C T8 B a (aSL a l) v W)(ab:w.heap.size<=R)(J:R<B)(H:C<B)(M:T8<B)(L:R≠T8)(I:C≠T8)(S:w.heap.size<=T8)(aa:B<=W.heap.size)(hq:q<12)(X:x.part=(q:Int))
  (r:y.ownsRow B 9 1 (.slice (some (jx g 0)) ((aSL a l q).length+1) F) ((aSL a l q).length+1) (aRn (aSL a l q)++[.string (aR4 a x)]))(T:(W.alloc (.cells #[.string (aR4 a x)] 9)).drew.grownBy y (v q).ownBlock)(hl:(v q).ownBlock=some g\/g=W.heap.size+1):
  aBx w R C T8 B a (aSL a (l++[x])) (λi=>if i=q then .slice (some (jx g 0)) ((aSL a l q).length+1) F else v i) (y.setCell (jx T8 q) (.slice (some (jx g 0)) ((aSL a l q).length+1) F)):=by
 have z:∀b,b<W.heap.size->(v q).ownBlock≠some b->y.heap[b]?=W.heap[b]?:=λb c n=>by
  rw[T.block b (by show b<(W.alloc (.cells #[.string (aR4 a x)] 9)).heap.size;simp;omega) (λe=>n e.symm)]
  exact j9 _ _ _ c
 have E:∀b,(v q).ownBlock=some b->B<=b/\b<W.heap.size:=λb c=>(m.own q hq).lt b c
 have f:∀b,b<B->(v q).ownBlock≠some b:=λb c e=>by have:=(E b e).1;omega
 have d:∀b,b≠T8->b<W.heap.size->(v q).ownBlock≠some b->(y.setCell (jx T8 q) (.slice (some (jx g 0)) ((aSL a l q).length+1) F)).heap[b]?=W.heap[b]?:=λb G Y Z=>by rw[jp _ _ _ _ G];exact z b Y Z
 obtain⟨tt,t1,t2,t3⟩:=m.kT
 have t9:y.heap[T8]?=some (.cells tt 98):=(z T8 (by omega) (f T8 M)).trans t1
 have N:jb w y:=by
  have G:jb w (W.alloc (.cells #[.string (aR4 a x)] 9)).drew:=(m.bel.alloc m.bel.size _).drew
  exact G.grown T (by show w.heap.size<=(W.alloc (.cells #[.string (aR4 a x)] 9)).heap.size;have:=m.bel.size;simp;omega) (λb c=>by have:=(E b c).1;omega)
 refine⟨j5 (p:=jx T8 q) N S _,(d R L (by omega) (f R J)).trans m.kR,m.kC.move (d C I (by omega) (f C H)),⟨_,aP5 t9 q _,by rw[jcy];exact t2,λi o=>?_⟩,λi o=>?_,λi j o U n b c=>?_⟩
 ·by_cases e:q=i
  ·subst e
   simp only[jdl]
   rw[jbu (by omega)]
  ·rw[jh (jaz e),jba e]
   exact t3 i o
 ·rw[aSO]
  by_cases e:i=q
  ·subst e
   simp only[jdl]
   rw[jo X.symm,je]
   have s:aRn (aSL a l i++[aR4 a x])=aRn (aSL a l i)++[.string (aR4 a x)]:=by simp[aRn]
   rw[s]
   exact aMo r (λb c=>jp _ _ _ _ (by have:=(r.lt b c).1;show b≠T8;omega))
  ·simp only[jh e]
   rw[jh (by rw[X];omega)]
   refine aMo (m.own i o) (λb c=>?_)
   have P:=(m.own i o).lt b c
   exact d b (by omega) P.2 (m.apart i q o hq e b c)
 ·have A:∀k,k<12->k≠q->(v k).ownBlock≠some g:=λk V O D=>by
   rcases hl with h|h
   ·exact m.apart k q V hq O g D h
   ·have:=((m.own k V).lt g D).2;omega
  by_cases e1:i=q
  ·have s:j≠q:=λe=>n (e1.trans e.symm)
   simp only[jo e1]at c
   have t:g=b:=by simpa [Value.ownBlock] using c
   rw[jh s,<-t]
   exact A j U s
  ·simp only[jh e1]at c
   by_cases s:j=q
   ·rw[jo s]
    intro h
    have t:g=b:=by simpa [Value.ownBlock] using h
    rw[<-t]at c
    exact A i o e1 c
   ·rw[jh s]
    exact m.apart i j o U n b c
end Go.Proofs.YtbbfcbodhmeanaaGreatDoor
namespace Go.Proofs.YtbbfcbodhmeanaaGreatDoor
open Go.Proofs.Tryz
open Go.RowKit
def aBr(w:World)(tx:Nat->List jA)(e:Ending)(w':World):Prop:=
 ∃(tt:Array Value) (v:Nat->Value),e=.returned (.agg tt)/\jb w w'/\tt.size=12/\(∀i,i<12->tt[i]?=some (v i))/\∀i,i<12->w'.ownsRow w.heap.size 9 1 (v i) (tx i).length (aRn (tx i))
theorem setCells_at(b t:Nat):∀(a:List Value) (o:Nat) (W:World) (c:Array Value),W.heap[b]?=some (.cells c t)->∃d:Array Value,(W.setCells b o a).heap[b]?=some (.cells d t)/\d.size=c.size/\∀i,i<c.size->d[i]?=if o<=i/\i<o+a.length then a[i-o]? else c[i]?
 |[],o,W,c,h=>⟨c,h,rfl,λi _=>by rw[jh (by simp only[jag];omega)]⟩
 |x::a,o,W,c,h=>by
  obtain⟨d,g,j,k⟩:=setCells_at b t a (o+1) (W.setCell (jx b o) x) (c.setIfInBounds o x) (aP5 h o x)
  refine⟨d,g,by rw[j,jcy],λi f=>?_⟩
  rw[k i (by rw[jcy];exact f),jm]
  by_cases e:o=i
  ·subst e
   rw[jh (by omega),jo (by omega),jbu f,jbh]
   rfl
  ·rw[jba e]
   by_cases h:o+1<=i/\i<o+1+a.length
   ·rw[jo h,jo (by omega),show i-o=(i-(o+1))+1 from by omega,List.getElem?_cons_succ]
   ·rw[jh h,jh (by omega)]
theorem aSR{W:World}{R t:Nat}{c:Array Value}(h:W.heap[R]?=some (.cells c t))(a:c.size=12):W.there R 0 12:=by
 intro j b
 refine⟨?_,aDg h _⟩
 rw[aDe h (0+j),j0,jcc (by omega)]
 rfl
theorem aGt{W:World}{R t:Nat}{c a:Array Value}(h:W.heap[R]?=some (.cells c t))(l:c.size=12)(m:a.size=12):(W.setCells R 0 a.toList).heap[R]?=some (.cells a t):=by
 obtain⟨d,f,k,g⟩:=setCells_at R t a.toList 0 W c h
 have:d=a:=by
  apply Array.ext
  ·omega
  ·intro i j b
   have:=g i (by omega)
   rw[jo (by rw[jbs];omega),Nat.sub_zero,Array.getElem?_toList,jcc j,jcc b]at this
   exact jI this
 rw[f,this]
theorem aR1{α:Type}(l:List α)(k:Nat)(d:α)(h:k<l.length):l.take (k+1)=l.take k++[l.getD k d]:=by
 rw[jan,jc h,jd,jc h]
 rfl
theorem aSP(ga:jO)(gn gc:Nat)(a:List GL)(na:jO)(nn nc:Nat)(r:List NM)(en:nn=r.length)(bz:gn<=1000)(am:∀n∈r,∃m:Nat,m<12/\n.1=(m:Int))(ak:∀g∈a,(∃m:Nat,m<12/\g.part=(m:Int))/\(g.find<0\/∃q:Nat,q<12/\g.find=(q:Int)))(aB:aAS r)(w:World)(az:G6 w ga gn a)(a4:aAV w na r):
  Calls prog 61 #[.slice ga gn gc,.slice na nn nc] w λe w'=>aBr w (aSL (aDA r) a) e w':=by
 have bC:nn<=9223372036854775807:=by have:=aB.1;unfold maxLen at this;omega
 have aI:Hid _:=az.1
 have bc:Hid (∀W,jb w W->G6 W ga gn a):=λW hW=>az.below hW
 have be:Hid (∀W,jb w W->aAV W na r):=λW hW=>a4.below hW
 have aM:Hid _:=en
 have aL:Hid (∀n∈r,∃m:Nat,m<12/\n.1=(m:Int)):=am
 have aH:Hid (∀g∈a,(∃m:Nat,m<12/\g.part=(m:Int))/\(g.find<0\/∃q:Nat,q<12/\g.find=(q:Int))):=ak
 have aG:Hid (∀i,(aDA r i).size<=maxLen):=λi=>aDC r (λn hn=>(aB.2 n hn).2.2) i
 obtain⟨R,hR⟩:∃R,w.heap.size=R:=⟨_,rfl⟩
 have HR:Hid _:=hR
 obtain⟨W1,I⟩:∃W,W=(w.alloc (.cells aAa 98)).alloc (.cells aAb 75):=⟨_,rfl⟩
 have aF:Hid (jb w W1):=by unfold Hid;rw[I];exact(ja _ _).alloc (by simp) _
 have aJ:Hid (W1.heap[R]?=some (.cells aAa 98)):=by unfold Hid;rw[I,<-hR];exact aDj (aDi w _) (ja _ _)
 have an:Hid (W1.heap[R+1]?=some (.cells aAb 75)):=by
  unfold Hid
  rw[I,<-hR]
  have:=aDi (w.alloc (.cells aAa 98)) (.cells aAb 75)
  simpa using this
 have aO:Hid (R+2<=W1.heap.size):=by unfold Hid;rw[I,<-hR];simp
 have aY:Hid _:=I
 obtain⟨C,hC⟩:∃C,R+1=C:=⟨_,rfl⟩
 have HC:Hid _:=hC
 rw[hC]at an
 obtain⟨tx,aD⟩:∃tx,aSL (aDA r) a=tx:=⟨_,rfl⟩
 have ar:Hid _:=aD
 rw[aD]
 clear I az a4 en am ak aB aD
 go_enter func61,ntmps61
 go_upto_region 2 with fail
 rw[<-aY.out]
 clear aY hR hC
 go_wp2_with fail
 go_loopw[14] (λiv wr=>∃k:Nat,k<=nn/\iv=.int .i64 k/\Hid (jb w wr)/\Hid (R+2<=wr.heap.size)/\Hid (wr.heap[R]?=some (.cells aAa 98))/\Hid (aAh C (aDA (r.take k)) wr)) (λiv _=>nn-(intOf iv).toNat)
 case atStart=>exact⟨0,jy _,rfl,aF,aO,aJ,aAh.zero an.out⟩
 case round=>
  obtain⟨k,hk,rfl,HB,HS,HK,G⟩:=hrel
  clear aF aO aJ an
  by_cases ai:k<nn
  ·have aA:(k:Int)<(nn:Int):=by omega
   have D:k<r.length:=by rw[<-aM.out];exact ai
   obtain⟨b,o,bj,hc⟩:=be.out wr HB.out (λe=>by rw[e]at D;simp at D)
   subst bj
   obtain⟨d0,d1⟩:=hc k D
   have N:Hid (r.take (k+1)=r.take k++[r.getD k nm0]):=aR1 r k nm0 D
   obtain⟨m,d,hm⟩:=aL.out (r.getD k nm0) (by rw[jd,jc D];exact jQ D)
   clear hc D
   generalize r.getD k nm0=x at*
   obtain⟨x1,s⟩:=x
   simp only at d0 d1 hm
   subst hm
   obtain⟨l,t⟩:∃W,W=wr.alloc (.cells #[.int .i64 (m:Int),.string s] 56):=⟨_,rfl⟩
   have y:jb wr l:=by rw[t];exact ja _ _
   obtain⟨Y,hY⟩:∃Y,wr.heap.size=Y:=⟨_,rfl⟩
   have kx:l.heap[Y]?=some (.cells #[.int .i64 (m:Int),.string s] 56):=by rw[t,<-hY];exact aDi _ _
   have ax:aAh C (aDA (r.take k)) l:=G.out.move (y.block C (by have:=HS.out;have:=HC.out;omega))
   obtain⟨e1,e2⟩:=ax.cell m d
   have a8:Hid (jb w (l.setCell (jx C m) (.string s))):=j5 (p:=jx C m) (HB.out.trans (y.mono HB.out.size)) (show w.heap.size<=C by have:=HR.out;have:=HC.out;omega) _
   have bf:Hid (R+2<=(l.setCell (jx C m) (.string s)).heap.size):=by unfold Hid;have z:=HS.out;have S:=y.size;simp[World.setCell];omega
   have bd:Hid ((l.setCell (jx C m) (.string s)).heap[R]?=some (.cells aAa 98)):=by unfold Hid;rw[jp _ _ _ _ (show R≠C by have:=HC.out;omega)];exact aDj HK.out y
   have a9:Hid (aAh C (aDA (r.take (k+1))) (l.setCell (jx C m) (.string s))):=by unfold Hid;rw[N.out];exact ax.set m d rfl
   have P:Hid _:=t
   have bB:(m:Int)<12:=by omega
   have bA:(0:Int)<=(m:Int):=by omega
   have z0:l.cell? (jx Y 0)=some (.int .i64 (m:Int)):=(aDe kx 0).trans rfl
   have z1:l.cell? (jx Y 1)=some (.string s):=(aDe kx 1).trans rfl
   clear t y kx ax HB HS HK G N
   go_upto_region 5 with fail
   rw[<-P.out]
   clear P hY d0 d1
   go_wp2_with fail
   go_roundw
   case rel=>exact⟨k+1,by omega,by go_num,a8,bf,bd,a9⟩
   case measure=>simp[intOf];omega
  ·have aA:¬(k:Int)<(nn:Int):=by omega
   have Z:aDA (r.take k)=aDA r:=by rw[jK (by rw[<-aM.out];omega)]
   rw[Z]at G
   clear Z
   obtain⟨c,Z⟩:∃c,aDA r=c:=⟨_,rfl⟩
   rw[Z]at G ar aG
   clear Z
   obtain⟨T8,U⟩:∃T,wr.heap.size=T:=⟨_,rfl⟩
   obtain⟨A,X⟩:∃W,W=wr.alloc (.cells aAa 98):=⟨_,rfl⟩
   have ag:jb wr A:=by rw[X];exact ja _ _
   have a6:A.heap.size=T8+1:=by rw[X,<-U];simp
   have aU:Hid (aBx w R C T8 A.heap.size c (aSL c (a.take 0)) (λ_=>.slice none 0 0) A):=by
    refine⟨HB.out.trans (ag.mono HB.out.size),aDj HK.out ag,G.out.move (ag.block C (by have:=HS.out;have:=HC.out;omega)),⟨aAa,by rw[X,<-U];exact aDi _ _,rfl,λi hi=>?_⟩,λi _=>jT _ _ _ _,λi j _ _ _ g hg=>by cases hg⟩
    have:i=0\/i=1\/i=2\/i=3\/i=4\/i=5\/i=6\/i=7\/i=8\/i=9\/i=10\/i=11:=by omega
    rcases this with rfl|rfl|rfl|rfl|rfl|rfl|rfl|rfl|rfl|rfl|rfl|rfl<;>rfl
   have aW:Hid _:=X
   have ad:Hid (R+2<=T8/\A.heap.size=T8+1/\w.heap.size<=T8):=⟨by rw[<-U];exact HS.out,a6,by rw[<-U];exact HB.out.size⟩
   clear X ag a6 HB HS HK G
   go_upto_region 8 with fail
   rw[<-aW.out]
   clear aW U
   go_wp2_with fail
   go_loopw[26] (λiv wy=>∃(j:Nat) (v:Nat->Value),j<=gn/\iv=.int .i64 j/\Hid (A.heap.size<=wy.heap.size)/\Hid (aBx w R C T8 A.heap.size c (aSL c (a.take j)) v wy)) (λiv _=>gn-(intOf iv).toNat)
   case atStart=>exact⟨0,_,jy _,rfl,jf _,aU⟩
   case round=>
    obtain⟨j,v,hj,rfl,aX,F⟩:=hrel
    clear aU
    by_cases ai:j<gn
    ·have aA:(j:Int)<(gn:Int):=by omega
     have ah:j<a.length:=by rw[aI.out];exact ai
     obtain⟨b,o,bi,hc⟩:=(bc.out wr F.out.bel).2 (by omega)
     subst bi
     obtain⟨e0,e1,e2,e3,e4,e5⟩:=hc j ai
     have N:Hid (a.take (j+1)=a.take j++[a.getD j gl0]):=aR1 a j gl0 ah
     obtain⟨⟨m,d,hm⟩,a3⟩:=aH.out (a.getD j gl0) (by rw[jd,jc ah];exact jQ ah)
     clear hc
     have al:(aSL c (a.take j) m).length<=1000:=by have z:=(aSM c aG.out (a.take j) m).1;rw[jF]at z;omega
     generalize a.getD j gl0=x at*
     have aZ:Hid _:=hm
     have H:Hid (aR4 c x=if 0<=x.find then c x.find.toNat else⟨#[]⟩):=rfl
     obtain⟨TX,ay⟩:∃T,aR4 c x=T:=⟨_,rfl⟩
     have O:Hid _:=ay
     rw[ay]at H
     rw[hm]at e0
     generalize x.fr=fr at*
     generalize x.tt=tb at*
     generalize tx8 x.text=sx at*
     generalize tx8 x.led=lx at*
     obtain⟨fd,aj⟩:∃f,x.find=f:=⟨_,rfl⟩
     rw[aj]at e5 a3 H
     clear ah hm ay aj
     obtain⟨l,t⟩:∃W,W=wr.alloc (.cells #[.int .i64 (m:Int),.int .i64 fr,.int .i64 tb,.string sx,.string lx,.int .i64 fd] 42):=⟨_,rfl⟩
     have y:jb wr l:=by rw[t];exact ja _ _
     obtain⟨Y,hY⟩:∃Y,wr.heap.size=Y:=⟨_,rfl⟩
     have kx:l.heap[Y]?=some (.cells #[.int .i64 (m:Int),.int .i64 fr,.int .i64 tb,.string sx,.string lx,.int .i64 fd] 42):=by rw[t,<-hY];exact aDi _ _
     have V:=F.out.below F.out.bel.size y
     obtain⟨B,aa,J,L⟩:=V.kT
     have aC:=V.own m d
     obtain⟨qv,cv,ab⟩:=aMi aC
     have aK:Hid _:=kx
     have aV:Hid (aBx w R C T8 A.heap.size c (aSL c (a.take j)) v l):=V
     have ac:Hid _:=aa
     have aQ:Hid (B[m]?=some (.slice qv (aSL c (a.take j) m).length cv)):=by unfold Hid;rw[L m d,ab]
     have ao:Hid (l.ownsRow A.heap.size 9 1 (.slice qv (aSL c (a.take j) m).length cv) (aSL c (a.take j) m).length (aRn (aSL c (a.take j) m))):=by unfold Hid;rw[<-ab];exact aC
     have aw:Hid _:=ab
     have ae:Hid (A.heap.size<=l.heap.size):=j1 aX.out y.size
     have bh:A.heap.size<=Y:=by rw[<-hY];exact aX.out
     have a1:Hid (Y≠T8):=by unfold Hid;have:=ad.out.2.1;omega
     have a0:Hid ((Value.slice qv (aSL c (a.take j) m).length cv).ownBlock≠some Y):=λe=>by
      have z:=F.out.own m d
      rw[ab]at z
      have:=(z.lt Y e).2
      omega
     have aT:Hid ((Value.slice qv (aSL c (a.take j) m).length cv).ownBlock≠some T8):=λe=>by
      have:=(ao.out.lt T8 e).1
      have:=ad.out.2.1
      omega
     have bb:Hid (aAh C c l):=V.kC
     have E:Hid (∀(g cc:Nat) (w9:World),w9.ownsRow A.heap.size 9 1 (.slice (some (jx g 0)) ((aSL c (a.take j) m).length+1) cc) ((aSL c (a.take j) m).length+1) (aRn (aSL c (a.take j) m)++[.string TX])->(l.alloc (.cells #[.string TX] 9)).drew.grownBy w9 (Value.slice qv (aSL c (a.take j) m).length cv).ownBlock->((Value.slice qv (aSL c (a.take j) m).length cv).ownBlock=some g\/g=l.heap.size+1)->Hid (A.heap.size<=(w9.setCell (jx T8 m) (.slice (some (jx g 0)) ((aSL c (a.take j) m).length+1) cc)).heap.size)/\∃v',Hid (aBx w R C T8 A.heap.size c (aSL c (a.take (j+1))) v' (w9.setCell (jx T8 m) (.slice (some (jx g 0)) ((aSL c (a.take j) m).length+1) cc)))):=λg cc w9 z S h3=>by
      have bE:l.heap.size+1<=w9.heap.size:=by
       have h:=S.size
       have e:(l.alloc (.cells #[.string TX] 9)).drew.heap.size=l.heap.size+1:=by
        show(l.alloc (.cells #[.string TX] 9)).heap.size=_
        simp
       omega
      refine⟨by unfold Hid;have h:=ae.out;simp[World.setCell];omega,(λi=>if i=m then .slice (some (jx g 0)) ((aSL c (a.take j) m).length+1) cc else v i),?_⟩
      unfold Hid
      rw[N.out]
      have hc:=ad.out
      have hr:=HR.out
      have bx:=HC.out
      exact aV.out.push (by omega) (by omega) (by omega) (by omega) (by omega) (by omega) hc.2.2 ae.out d aZ.out (by rw[O.out];exact z) (by rw[O.out,aw.out];exact S) (by rw[aw.out];exact h3)
     have P:Hid _:=t
     have z5:l.cell? (jx Y 5)=some (.int .i64 fd):=(aDe kx 5).trans rfl
     clear t y kx V aa J L aC ab F N aw O aZ bh
     generalize bg:(aSL c (a.take j) m).length=ln at*
     generalize aRn (aSL c (a.take j) m)=XS at*
     clear bg
     go_upto_region 11 with fail
     rw[<-P.out]
     clear P hY e0 e1 e2 e3 e4 e5
     rcases a3 with bw|⟨q,a5,rfl⟩
     ·have a2:decide (0<=fd)=false:=by simp;omega
      have af:TX=jz:=by rw[H.out,jh (by omega)]
      subst af
      clear H
      go_upto_region 14 with fail
      refine aKX l Y T8 A.heap.size m ln cv d qv _ _ _ _ _ _ B XS aK.out ac.out aQ.out ao.out ae.out al a1.out a0.out aT.out _ ?_
      intro bk bl bm bn bo bp bq br bs bt g cc w9 z S h3 h4
      obtain⟨av,v',aq⟩:=E.out g cc w9 z S h3
      clear z S h3 h4 E z5
      go_wp2_with fail
      go_roundw
      case rel=>exact⟨j+1,v',by omega,by go_num,av,aq⟩
      case measure=>simp[intOf];omega
     ·have a2:(0:Int)<=(q:Int):=by omega
      have bD:(q:Int)<12:=by omega
      have af:TX=c q:=by rw[H.out,jo a2,jco]
      obtain⟨cq,_⟩:=bb.out.cell q a5
      rw[<-af]at cq
      clear H af
      go_upto_region 14 with fail
      refine aKX l Y T8 A.heap.size m ln cv d qv TX _ _ _ _ _ B XS aK.out ac.out aQ.out ao.out ae.out al a1.out a0.out aT.out _ ?_
      intro bk bl bm bn bo bp bq br bs bt g cc w9 z S h3 h4
      obtain⟨av,v',aq⟩:=E.out g cc w9 z S h3
      clear z S h3 h4 E z5 cq
      go_wp2_with fail
      go_roundw
      case rel=>exact⟨j+1,v',by omega,by go_num,av,aq⟩
      case measure=>simp[intOf];omega
    ·have aA:¬(j:Int)<(gn:Int):=by omega
     have a7:a.take j=a:=jK (by rw[aI.out];omega)
     rw[a7,ar.out]at F
     obtain⟨B,aa,J,L⟩:=F.out.kT
     have ac:Hid _:=aa
     have aR:Hid (wr.there R 0 12):=aSR F.out.kR rfl
     have aN:Hid ((wr.setCells R 0 B.toList).heap[R]?=some (.cells B 98)):=aGt F.out.kR rfl J
     have aE:Hid (B.all (·.oneCell')=true):=by
      unfold Hid
      rw[Array.all_eq_true]
      intro i hi
      have z:=L i (by omega)
      rw[jcc hi]at z
      have S:=F.out.own i (by omega)
      obtain⟨qa,ca,hq⟩:=aMi S
      rw[hq]at z
      rw[jI z]
      rfl
     have ap:Hid (aBr w tx (.returned (.agg B)) (wr.setCells R 0 B.toList)):=by
      have hc:=ad.out
      refine⟨B,v,rfl,aP1 (W:=wr) (by have:=HR.out;omega) _ _ _ F.out.bel,J,L,λi hi=>?_⟩
      refine aMs (aMo (F.out.own i hi) (λg hg=>aP2 R _ _ _ g ?_)) (by have:=HC.out;omega)
      have:=((F.out.own i hi).lt g hg).1
      omega
     have aP:Hid _:=J
     clear F a7 aa J L ar
     have M:Hid ((prog.info? 98).map (·.size)=some B.size):=by unfold Hid;rw[aP.out];kernel_rfl
     have aS:Hid (wr.there R 0 B.size):=by unfold Hid;rw[aP.out];exact aR.out
     clear aR
     go_upto_region 16 with fail
     go_wp2_with (first
      |(refine wpList_load_row rfl 98 (.tmp 8) rfl T8 rfl 98 B (0,0) _ ac.out underlying98 rfl M.out ?_)
      |(refine wpList_store_mid rfl 98 (.tmp 4) (.tmp 48) rfl R 0 B rfl rfl aS.out M.out aE.out ?_))
     refine jt (v:=.agg B) ?_ rfl ap.out
     exact results_cell_row rfl _ _ R 98 B (0,0) _ rfl aN.out underlying98 rfl M.out
def aFC(E:PT->Nat->Nat×PT×Nat):List PT->Nat->Nat×List PT×Nat
 |[],k=>(0,[],k)
 |x::l,k=>if(E x k).1≠0 then((E x k).1,[],(E x k).2.2)else((aFC E l (E x k).2.2).1,(E x k).2.1::(aFC E l (E x k).2.2).2.1,(aFC E l (E x k).2.2).2.2)
def aFH(tx:Nat->List jA):Nat->PT->Nat->Nat×PT×Nat
 |0,p,k=>(0,p,k)
 |f+1,p,k=>if(aGb (tx k) p.body).2≠0 then((aGb (tx k) p.body).2,p,k+1)else((aFC (aFH tx f) p.kids (k+1)).1,{p with body:=(aGb (tx k) p.body).1,kids:=(aFC (aFH tx f) p.kids (k+1)).2.1},(aFC (aFH tx f) p.kids (k+1)).2.2)
theorem aFD(E:PT->Nat->Nat×PT×Nat)(x:PT)(l:List PT)(k:Nat)(h:(E x k).1≠0):aFC E (x::l) k=((E x k).1,[],(E x k).2.2):=by rw[aFC,jo h]
theorem aFG(E:PT->Nat->Nat×PT×Nat)(x:PT)(l:List PT)(k:Nat)(h:(E x k).1=0):aFC E (x::l) k=((aFC E l (E x k).2.2).1,(E x k).2.1::(aFC E l (E x k).2.2).2.1,(aFC E l (E x k).2.2).2.2):=by rw[aFC,jh (by rw[h];simp)]
theorem aFF(E:PT->Nat->Nat×PT×Nat):∀(l:List PT) (k:Nat),(aFC E l k).1=0->(aFC E l k).2.1.length=l.length
 |[],k,_=>rfl
 |x::l,k,h=>by
  by_cases a:(E x k).1=0
  ·rw[aFG E x l k a]at h⊢
   simp only at h⊢
   rw[jm,jm,aFF E l _ h]
  ·rw[aFD E x l k a]at h
   exact absurd h a
theorem aFJ(a:Nat->List jA)(f:Nat)(p:PT)(k:Nat)(h:(aFH a f p k).1=0):(aFH a f p k).2.1.ty=p.ty/\(aFH a f p k).2.1.cs=p.cs/\(aFH a f p k).2.1.id=p.id/\(aFH a f p k).2.1.loc=p.loc/\(aFH a f p k).2.1.how=p.how/\(aFH a f p k).2.1.kids.length=p.kids.length:=by
 cases f with
 |zero=>exact⟨rfl,rfl,rfl,rfl,rfl,rfl⟩
 |succ f=>
  rw[aFH]at h⊢
  split at h
  ·rename_i b
   exact absurd h b
  ·rename_i b
   rw[jh b]
   exact⟨rfl,rfl,rfl,rfl,rfl,aFF _ _ _ h⟩
theorem aFE(a:Nat->List jA)(f:Nat)(c:∀p k,lev f p=true->(aFH a f p k).1=0->(aFH a f p k).2.2=k+(aG3 f p).length):∀(l:List PT) (k:Nat),(∀x∈l,lev f x=true)->(aFC (aFH a f) l k).1=0->(aFC (aFH a f) l k).2.2=k+(l.flatMap (aG3 f)).length
 |[],k,_,_=>by simp[aFC]
 |x::l,k,hl,h=>by
  by_cases b:(aFH a f x k).1=0
  ·rw[aFG _ x l k b]at h⊢
   simp only at h⊢
   rw[aFE a f c l _ (λy d=>hl y (jbe _ d)) h,c x k (hl x (by simp)) b,jbm,je]
   omega
  ·rw[aFD _ x l k b]at h
   exact absurd h b
theorem aFI(a:Nat->List jA):∀(f:Nat) (p:PT) (k:Nat),lev f p=true->(aFH a f p k).1=0->(aFH a f p k).2.2=k+(aG3 f p).length
 |0,p,k,hl,_=>by rw[lev]at hl;cases hl
 |f+1,p,k,hl,h=>by
  rw[aJ7,jR]at hl
  rw[aFH]at h⊢
  split at h
  ·rename_i b
   exact absurd h b
  ·rename_i b
   rw[jh b]
   simp only at h⊢
   rw[aFE a f (aFI a f) _ _ hl h,aG4,jm]
   omega
theorem aOt(A B:List PZ)(z y:PZ)(b:y.1.ty=z.1.ty)(c:y.1.cs=z.1.cs)(d:y.1.id=z.1.id)(f:y.1.loc=z.1.loc)(g:y.1.how=z.1.how)(i:y.1.kids.length=z.1.kids.length)(j:y.2.2=z.2.2):(pzv (A++z::B)).set (A.length*7+5) (.slice y.2.1.1 y.1.body.length y.2.1.2)=pzv (A++y::B):=by
 have e1:∀z:PZ,pzv (A++z::B)=pzv A++(pzc z++pzv B):=λz=>by rw[aOx];simp[pzv]
 have a:(pzv A).length=A.length*7:=aOy A
 rw[e1,e1,jef _ _ (by rw[a];omega),a,jdb]
 unfold pzc
 rw[b,c,d,f,g,i,j]
 rfl
def aA0(W:World)(X:Nat->Prop)(f g hi:Nat)(y:PY3):Prop:=g<y.2.1/\y.2.1<=y.2.2/\y.2.2<=hi/\InB (BK X y.2.1 y.2.2 y.1.2.2.1 y.1.1.kids) y.1.2.1.1/\aA4 (λa l=>RT W X f y.2.1 y.2.2 a y.1.2.2.2 l) W y.1.1 y.1.2.1.1 y.1.2.1.2 y.1.2.2.1 y.1.2.2.2
theorem aA0.move{W c:World}{X:Nat->Prop}{f g d:Nat}{y:PY3}(h:aA0 W X f g d y)(i:∀b,(y.2.1<=b/\b<y.2.2)\/X b->b<W.heap.size->c.heap[b]?=W.heap[b]?):aA0 c X f g d y:=by
 obtain⟨l,m,n,j,o,p,q,r,s⟩:=h
 exact⟨l,m,n,j,o,p,aAe.move i q (λa k=>(j a k).out),r,RT.move f _ _ _ _ _ i s⟩
structure aAn(X:Nat->Prop)(f lo hi nb g n ck kk:Nat)(w1:World)(Yd Yr:List PY3)(W:World):Prop where
 tch:Tch w1 W (λx=>x=nb\/(g<=x/\x<hi))
 num:aAX W nb (kk:Int)
 own:W.ownsRow lo 25 7 (.slice (some (jx g 0)) n ck) n (pzv ((Yd++Yr).map (·.1)))
 pw:(Yd++Yr).Pairwise (λx y=>x.2.2<=y.2.1)
 each:∀y∈Yd++Yr,aA0 W X f g hi y
def aAo(W:World)(b o nb lo hi:Nat)(X:Nat->Prop)(f:Nat)(R:Nat×PT×Nat)(pk:jO)(ck:Nat)(e:Ending)(w':World):Prop:=
 e=.returned (.int .i64 (R.1:Int))/\Tch W w' (λx=>x=b\/x=nb\/(lo<=x/\x<hi))/\
  (R.1=0->aAX w' nb (R.2.2:Int)/\∃pb cb,w'.heap[b]?=(W.setCell (jx b (o+5)) (.slice pb R.2.1.body.length cb)).heap[b]?/\InB (BK X lo hi pk R.2.1.kids) pb/\aA4 (λa l=>RT w' X f lo hi a ck l) w' R.2.1 pb cb pk ck)
theorem aAn.step{X:Nat->Prop}{f lo q r g n H kk:Nat}{S:World}{i l:List PY3}{y:PY3}{W C:World}(m:aAn X f lo q r g n H kk S i (y::l) W)(D:Nat)(V:X=λx=>D<=x)(ab:q<=D)(O:r<D)(F:¬(lo<=r/\r<q))(ac:lo<=g)(aa:g<q)
  (k:Nat->List jA)(e:Ending)(J:(aFH k f y.1.1 kk).1=0)(hp:aAo W g (i.length*7) r y.2.1 y.2.2 X f (aFH k f y.1.1 kk) y.1.2.2.1 y.1.2.2.2 e C):
  ∃T:PY3,T.1.1=(aFH k f y.1.1 kk).2.1/\aAn X f lo q r g n H (aFH k f y.1.1 kk).2.2 S (i++[T]) l C:=by
 obtain⟨_,P,G⟩:=hp
 obtain⟨hn,B,s,Z,E,hh⟩:=G J
 obtain⟨s1,s2,s3,s4,s5,s6⟩:=aFJ k f y.1.1 kk J
 obtain⟨k1,k2,k3,k4,k5⟩:=m.each y (by simp)
 have A:=m.pw
 rw[jen,List.pairwise_cons]at A
 obtain⟨pd,⟨R,pr⟩,p⟩:=A
 refine⟨(((aFH k f y.1.1 kk).2.1,(B,s),y.1.2.2),y.2.1,y.2.2),rfl,?_,hn,?_,?_,?_⟩
 ·exact m.tch.trans (P.mono λx _ c=>by
   rcases c with c|c|c
   ·exact .inr ⟨by omega,by omega⟩
   ·exact .inl c
   ·exact .inr ⟨by omega,by omega⟩)
 ·have L:=m.own
  have e1:(i++y::l).map (·.1)=i.map (·.1)++y.1::l.map (·.1):=by simp
  rw[e1]at L
  have M:=(L.stored (i.length*7+5) (.slice B (aFH k f y.1.1 kk).2.1.body.length s)).1
  have I:=aOt (i.map (·.1)) (l.map (·.1)) y.1 ((aFH k f y.1.1 kk).2.1,(B,s),y.1.2.2) s1 s2 s3 s4 s5 s6 rfl
  rw[jD]at I
  rw[I]at M
  have U:(i++[(((aFH k f y.1.1 kk).2.1,(B,s),y.1.2.2),y.2.1,y.2.2)]++l).map (·.1)=i.map (·.1)++((aFH k f y.1.1 kk).2.1,(B,s),y.1.2.2)::l.map (·.1):=by simp
  rw[U]
  exact aMo M (λx c=>by
   obtain rfl:g=x:=by simpa [Value.ownBlock] using c
   exact Z)
 ·rw[jJ,jen,jdh,List.pairwise_cons]
  refine⟨pd,⟨R,pr⟩,λa N b j=>?_⟩
  rcases jad.1 j with rfl|j
  ·exact p a N y (by simp)
  ·exact p a N b (jbe _ j)
 ·have v:∀z∈i++y::l,(z.2.2<=y.2.1\/y.2.2<=z.2.1)->aA0 C X f g q z:=λz d t=>by
   have o:=m.each z d
   refine o.move λb j hl=>P.block b hl (λc=>?_)
   have z1:=o.1
   have z3:=o.2.2.1
   rw[V]at j
   simp only at j
   rcases j with j|j
   ·rcases c with c|c|c
    ·omega
    ·rw[c]at j;exact F ⟨by omega,by omega⟩
    ·rcases t with Y|Y<;>omega
   ·rcases c with c|c|c<;>omega
  intro z d
  rw[jJ,jdh]at d
  rcases jY.1 d with d|d
  ·exact v z (jcs _ d) (.inl (p z d y (by simp)))
  ·rcases jad.1 d with rfl|d
   ·exact⟨k1,k2,k3,E,hh⟩
   ·exact v z (List.mem_append_right _ (jbe _ d)) (.inr (R z d))
end Go.Proofs.YtbbfcbodhmeanaaGreatDoor

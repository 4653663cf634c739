import Derived.Test.YtbbfcbodhmeanaaGreatDoorXrewritesays12
set_option maxHeartbeats 8000000
set_option maxRecDepth 1000000
namespace Go.Proofs.YtbbfcbodhmeanaaGreatDoor
open Go.Proofs.Tryz
open Go.RowKit
def aBa(w:World)(r:jB×Nat)(e:Ending)(w':World):Prop:=jb w w'/\
 ((r.2≠0/\e=.returned (.tuple #[.slice none 0 0,.int .i64 (r.2:Int)]))\/(r.2=0/\∃v,e=.returned (.tuple #[v,.int .i64 0])/\w'.ownsRow w.heap.size 5 1 v r.1.length (bv r.1)))
theorem aSX(a:List jA)(k:Nat)(h:k<a.length):((tls a).drop k).all aNs=(aNs (a.getD k jz).data.toList&&((tls a).drop (k+1)).all aNs):=by
 rw[aFy (tls a) k [] (by simp[tls];exact h),jcv]
 congr 2
 simp[tls,List.getD_eq_getElem?_getD,List.getElem?_eq_getElem h]
theorem aAr.put{w d w':World}{a:jB}{e:Ending}(h:aAr d a e w')(b:jb w d):aBa w (if 4000<a.length then([],2)else(a,0)) e w':=by
 obtain⟨f,g⟩:=h
 refine⟨b.trans (f.mono b.size),?_⟩
 rcases g with⟨c,rfl⟩|⟨c,v,rfl,i⟩
 ·left;rw[jo c];exact⟨by decide,rfl⟩
 ·right;rw[jh (by omega)];exact⟨rfl,v,rfl,aMl i b.size⟩
theorem aOg(w0:World)(Z:aAI w0)(q:jO)(n c:Nat)(b:jB)(A:n=b.length)(ad:n<=c)(P:c<=maxLen)(F:jO)(m c2:Nat)(a:List jA)(M:m=a.length)(ac:m<=maxLen)(r:∀t∈a,t.size<=maxLen)
  (w:World)(hb:jb w0 w)(U:aAe w q b)(hq:q=none->n=0/\c=0)(V:aBA w F a):
  Calls prog 38 #[.slice q n c,.slice F m c2] w λe w'=>aBa w (aOd aKG b (tls a)) e w':=by
 have i:Hid (Calls prog 35 #[.slice q n c] w λe w'=>aAv w b.length (aGz aKG b) e w'):=aGF w0 Z q n c b A w hb U hq
 cases o:aGz aKG b with
 |none=>
  rw[o]at i
  have v:Hid (aOd aKG b (tls a)=([],2)):=by unfold Hid aOd;rw[o]
  clear o Z r A M hq V U
  go_enter func38,ntmps38
  go_wp2_with fail
  refine i.out.mono ?_
  rintro e G ⟨d,rfl⟩
  clear i
  go_wp2_with fail
  go_ret2
  show aBa _ _ _ _
  rw[v.out]
  exact⟨d,.inl ⟨by decide,rfl⟩⟩
 |some l=>
  rw[o]at i
  obtain⟨ho,af,ak⟩:=aGK aKG b l o
  have g:=aGA aKG b l o
  by_cases p:m=l.length
  ·have CP:Hid (∀(k:Nat) (W:World),k<m->Calls prog 77 #[.string (a.getD k jz)] W λe w'=>e=.returned (.bool (aNs (a.getD k jz).data.toList))/\w'=W):=λk W hk=>aNt _ W (r _ (by rw[jd,jc (by omega)];exact jQ _))
   have HS:Hid (aBA w F a):=V
   have HA:Hid (∀k,k<m->((tls a).drop k).all aNs=(aNs (a.getD k jz).data.toList&&((tls a).drop (k+1)).all aNs)):=λk hk=>aSX a k (by omega)
   have HZ:Hid (((tls a).drop m).all aNs=true):=by unfold Hid;rw[jC (by simp[tls];omega)];rfl
   have H:Hid ((tls a).all aNs=false->aOd aKG b (tls a)=([],1)):=λh=>by
    unfold aOd;rw[o];simp only
    rw[jh (by simp[tls];omega),jo h]
   have J:Hid ((tls a).all aNs=true->aOd aKG b (tls a)=if 4000<(aGe l (tls a) b).length then([],2)else(aGe l (tls a) b,0)):=λh=>by
    unfold aOd;rw[o];simp only
    rw[jh (by simp[tls];omega),jh (by rw[h];decide)]
   have HF:Hid (∀x c1 W,l.length<=c1->c1<=maxLen->jb w W->aAH W x b.length l->Calls prog 78 #[.slice q n c,.slice x m c1,.slice F m c2] W λe w'=>aAr W (aGe l (tls a) b) e w'):=λx c1 W h1 h2 h3 N=>
    aGv q n c b A (by omega) ad P x m c1 l p h2 (by omega) F c2 a M r W (U.below h3) hq (A▸N) (V.below h3) (A▸ho) g
   have L:Hid _:=M
   unfold maxLen at ac
   have ag:m<=60:=by omega
   unfold aAv at i
   simp only at i
   rw[<-p]at i
   have y:Hid _:=p
   clear o Z r A M hq V U ho g p P
   go_enter func38,ntmps38
   go_wp2_with fail
   refine i.out.mono ?_
   rintro e G ⟨d,v1,rfl,f⟩
   have s:G.ownsRow w.heap.size 40 3 v1 l.length (lv b.length l):=by rw[<-y.out];exact f
   obtain⟨x,c1,rfl,ai,ab,aj,S⟩:=aMe s
   rw[<-y.out]
   have HK:Hid (aAH G x b.length l):=S
   have aa:Hid (aBA G F a):=HS.out.below d
   clear i f s S HS
   go_wp2_with fail
   go_loop [25] (λiv=>∃k:Nat,k<=m/\iv=.int .i64 k/\Hid (((tls a).drop k).all aNs=(tls a).all aNs)) (λiv=>m-(intOf iv).toNat)
   case atStart=>exact⟨0,jy _,rfl,rfl⟩
   case round=>
    obtain⟨k,hk,rfl,E⟩:=hrel
    by_cases B:k<m
    ·obtain⟨bt,ot,e2,R⟩:=aa.out (λe=>by have:=L.out;rw[e]at this;simp at this;omega)
     subst e2
     have k3:=R k (by rw[<-L.out];exact B)
     have al:(k:Int)<(m:Int):=by omega
     have Y:Hid (∀W,Calls prog 77 #[.string (a.getD k jz)] W λe w'=>e=.returned (.bool (aNs (a.getD k jz).data.toList))/\w'=W):=λW=>CP.out k W B
     have j:=HA.out k B
     have an:IntKind.i64.wrap ((k:Int)+1)=((k+1:Nat):Int):=by rw[ju];omega
     clear R
     generalize a.getD k jz=T at*
     cases hp:aNs T.data.toList with
     |true=>
      rw[hp]at Y j
      have v:Hid (((tls a).drop (k+1)).all aNs=(tls a).all aNs):=by unfold Hid;rw[<-E.out,j];rfl
      clear j E hp
      go_wp2_with fail
      refine(Y.out _).mono ?_
      rintro e w3 ⟨rfl,C⟩
      have D:=C.symm
      subst D
      go_wp2_with fail
      go_round
      case rel=>exact⟨k+1,by omega,by go_num,v⟩
      case measure=>simp[intOf];omega
     |false=>
      rw[hp]at Y j
      have v:Hid (aOd aKG b (tls a)=([],1)):=H.out (by rw[<-E.out,j];rfl)
      clear j E hp
      go_wp2_with fail
      refine(Y.out _).mono ?_
      rintro e w3 ⟨rfl,C⟩
      have D:=C.symm
      subst D
      go_wp2_with fail
      go_ret2
      show aBa _ _ _ _
      rw[v.out]
      exact⟨d,.inl ⟨by decide,rfl⟩⟩
    ·obtain rfl:k=m:=by omega
     have v:=J.out (by rw[<-E.out];exact HZ.out)
     have I:Hid _:=v
     clear v E
     go_wp2_with fail
     refine(HF.out x c1 G (by have:=y.out;omega) ab d HK.out).mono ?_
     rintro e w3 ae
     obtain⟨O,hd⟩:=ae
     rcases hd with⟨N,rfl⟩|⟨N,v3,rfl,X⟩
     ·have z:Hid (aBa w (aOd aKG b (tls a)) (.returned (.tuple #[.slice none 0 0,.int .i64 2])) w3):=by
       unfold Hid
       rw[I.out]
       exact aAr.put ⟨O,.inl ⟨N,rfl⟩⟩ d
      go_wp2_with fail
      go_ret2
      exact z.out
     ·have z:Hid (aBa w (aOd aKG b (tls a)) (.returned (.tuple #[v3,.int .i64 0])) w3):=by
       unfold Hid
       rw[I.out]
       exact aAr.put ⟨O,.inr ⟨N,v3,rfl,X⟩⟩ d
      go_wp2_with fail
      go_ret2
      exact z.out
  ·have v:Hid (aOd aKG b (tls a)=([],4)):=by
    unfold Hid aOd;rw[o];simp only
    rw[jo (by simp[tls];omega)]
   have am:((m:Int)==(l.length:Int))=false:=by rw[jg];omega
   have ah:¬(m:Int)=(l.length:Int):=by omega
   unfold aAv at i
   simp only at i
   clear o Z r A M hq V U ho g p
   generalize l.length=nl at*
   go_enter func38,ntmps38
   go_wp2_with fail
   refine i.out.mono ?_
   rintro e G ⟨d,v1,rfl,f⟩
   obtain⟨x,c1,rfl,_⟩:=aQC f
   clear i f
   go_wp2_with fail
   go_ret2
   show aBa _ _ _ _
   rw[v.out]
   exact⟨d,.inl ⟨by decide,rfl⟩⟩
def aGb(ts:List jA)(b:jB):jB×Nat:=if ts=[]then(b,0)else aOd aKG b (tls ts)
def aAp(W:World)(b o:Nat)(R:jB×Nat)(ts:List jA)(e:Ending)(w':World):Prop:=
 (ts=[]/\e=.returned (.int .i64 0)/\w'=W)\/(ts≠[]/\R.2≠0/\e=.returned (.int .i64 (R.2:Int))/\jb W w')\/
   (ts≠[]/\R.2=0/\e=.returned (.int .i64 0)/\∃W1 q c,jb W W1/\W1.ownsRow W.heap.size 5 1 (.slice q R.1.length c) R.1.length (bv R.1)/\w'=W1.setCell (jx b (o+5)) (.slice q R.1.length c))
theorem aGf(E:World)(G:aAI E)(b o:Nat)(a:jB)(s:jO)(n g:Nat)(J:n=a.length)(j:n<=g)(i:g<=maxLen)(hq:s=none->n=0/\g=0)(C:jO)(m c2:Nat)(x:List jA)(D:m=x.length)(O:m<=maxLen)(l:∀t∈x,t.size<=maxLen)(W:World)(L:jb E W)(B:W.cell? (jx b (o+5))=some (.slice s n g))(N:∀A,jb W A->A.frozen? (jx b (o+5))=false)(P:aAe W s a)(S:aBA W C x):
  Calls prog 65 #[.pointer (some (jx b o)),.slice C m c2] W λe w'=>aAp W b o (aGb x a) x e w':=by
 unfold maxLen at O
 cases x with
 |nil=>
  obtain rfl:m=0:=D
  clear G J j i hq L B N P S l
  go_enter func65,ntmps65
  go_wp2_with fail
  go_ret
  exact .inl ⟨rfl,rfl,rfl⟩
 |cons t0 r=>
  have aa:0<m:=by rw[D];simp
  have ab:¬(m:Int)=0:=by omega
  have F:Hid (Calls prog 38 #[.slice s n g,.slice C m c2] W λe w'=>aBa W (aOd aKG a (tls (t0::r))) e w'):=aOg E G s n g a J j i C m c2 (t0::r) D (by unfold maxLen;omega) l W L P hq S
  have U:Hid (aGb (t0::r) a=aOd aKG a (tls (t0::r))):=rfl
  have H:Hid (∀A,jb W A->A.frozen? (jx b (o+5))=false):=N
  have M:b<W.heap.size:=ji W _ B
  have Y:Hid _:=B
  have z:Hid (t0::r≠[]):=by unfold Hid;simp
  rw[U.out]
  generalize aOd aKG a (tls (t0::r))=R at*
  generalize t0::r=TS at*
  obtain⟨RB,V⟩:=R
  clear G J j i hq L N P S l D U
  go_enter func65,ntmps65
  go_wp2_with fail
  refine F.out.mono ?_
  rintro e T ⟨d,h1⟩
  have y:Hid _:=d
  rcases h1 with⟨k,rfl⟩|⟨X,v,rfl,f⟩
  ·simp only at k
   have hz:((V:Int)==0)=false:=by rw[jg];omega
   have ac:¬(V:Int)=0:=by omega
   have I:Hid _:=k
   clear k d F B
   go_wp2_with fail
   go_ret
   exact .inr (.inl ⟨z.out,I.out,rfl,y.out⟩)
  ·simp only at X
   subst X
   obtain⟨q,c,rfl⟩:=aMi f
   have Z:Hid _:=f
   have c1:T.cell? (jx b (o+5))=some (.slice s n g):=(d.cell (p:=jx b (o+5)) M).trans Y.out
   have f1:T.frozen? (jx b (o+5))=false:=H.out _ d
   clear f d F B
   go_wp2_with fail
   go_ret
   exact .inr (.inr ⟨z.out,rfl,rfl,T,q,c,y.out,Z.out,rfl⟩)
structure Tch(W W':World)(T:Nat->Prop):Prop where
 os:W'.os=W.os
 tape:W'.tape=W.tape
 output:W'.output=W.output
 size:W.heap.size<=W'.heap.size
 block:∀k,k<W.heap.size->¬T k->W'.heap[k]?=W.heap[k]?
theorem Tch.refl(W:World)(T:Nat->Prop):Tch W W T:=⟨rfl,rfl,rfl,jf _,λ_ _ _=>rfl⟩
theorem Tch.trans{W c d:World}{T:Nat->Prop}(a:Tch W c T)(b:Tch c d T):Tch W d T:=
 ⟨b.os.trans a.os,b.tape.trans a.tape,b.output.trans a.output,j1 a.size b.size,λk g f=>(b.block k (jcb g a.size) f).trans (a.block k g f)⟩
theorem Tch.mono{W b:World}{T a:Nat->Prop}(h:Tch W b T)(d:∀k,k<W.heap.size->T k->a k):Tch W b a:=⟨h.os,h.tape,h.output,h.size,λk c f=>h.block k c (λg=>f (d k c g))⟩
theorem Tch.below{W a:World}{T:Nat->Prop}(h:jb W a):Tch W a T:=⟨h.os,h.tape,h.output,h.size,λk b _=>h.block k b⟩
theorem Tch.set(W:World)(b o:Nat)(v:Value):Tch W (W.setCell (jx b o) v) (λk=>k=b):=⟨rfl,rfl,rfl,by simp[World.setCell],λk _ a=>jp _ _ _ _ a⟩
theorem Tch.under{A:Nat}{w W b:World}{T:Nat->Prop}(h:Tch W b T)(a:Below A w W)(g:A<=W.heap.size)(c:∀k,T k->A<=k):Below A w b:=
 ⟨h.os.trans a.os,h.tape.trans a.tape,h.output.trans a.output,j1 a.size h.size,λk d=>(h.block k (by omega) (λf=>by have:=c k f;omega)).trans (a.block k d)⟩
theorem aBA.move{W c:World}{a:jO}{g:List jA}(h:aBA W a g)(m:∀d,a=some d->c.heap[d.block]?=W.heap[d.block]?):aBA c a g:=by
 intro f
 obtain⟨b,o,e,k⟩:=h f
 refine⟨b,o,e,λi l=>?_⟩
 have j:=k i l
 rw[jbw (show c.heap[b]?=W.heap[b]? from m _ e)]
 exact j
structure aBy(T0 TB:Nat)(tx:Nat->List jA)(W:World):Prop where
 lt:T0<TB
 le:TB<=W.heap.size
 cs:∃cs:Array Value,W.heap[T0]?=some (.cells cs 98)/\∀i,i<12->∃a c,cs[i]?=some (.slice a (tx i).length c)/\aBA W a (tx i)/\∀ad,a=some ad->ad.block<TB
 len:∀i,i<12->(tx i).length<=maxLen/\∀t∈tx i,t.size<=maxLen
theorem aBy.move{b d:Nat}{l:Nat->List jA}{W f:World}(h:aBy b d l W)(t:W.heap.size<=f.heap.size)(j:∀k,k<d->f.heap[k]?=W.heap[k]?):aBy b d l f:=by
 obtain⟨cs,n,o⟩:=h.cs
 refine⟨h.lt,j1 h.le t,⟨cs,by rw[j b h.lt];exact n,λi s=>?_⟩,h.len⟩
 obtain⟨a,c,p,q,g⟩:=o i s
 exact⟨a,c,p,q.move (λm r=>j _ (g m r)),g⟩
theorem aBy.tch{b a:Nat}{f:Nat->List jA}{W c:World}{T:Nat->Prop}(h:aBy b a f W)(d:Tch W c T)(g:∀k,T k->a<=k):aBy b a f c:=h.move d.size λk j=>d.block k (by have:=h.le;omega) (λi=>by have:=g k i;omega)
def aAX(W:World)(g:Nat)(n:Int):Prop:=W.heap[g]?=some (.cells #[.int .i64 n] 3)
def aAm(W:World)(b o nb k:Nat)(Q:Nat->Prop)(R:jB×Nat)(e:Ending)(w':World):Prop:=
 e=.returned (.int .i64 (R.2:Int))/\aAX w' nb ((k+1:Nat):Int)/\Tch W w' (λx=>x=b\/x=nb)/\
  (R.2=0->∃pb cb,w'.heap[b]?=(W.setCell (jx b (o+5)) (.slice pb R.1.length cb)).heap[b]?/\aAe w' pb R.1/\(R.1.length<=cb/\cb<=maxLen/\(pb=none->cb=0))/\InB (λx=>Q x\/W.heap.size<=x) pb)
theorem aP4{W:World}{b t:Nat}{c:Array Value}(h:W.heap[b]?=some (.cells c t))(k:Nat)(v:Value)(d:c[k]?=some v):(W.setCell (jx b k) v).heap[b]?=W.heap[b]?:=by
 rw[aP5 h,h]
 congr 2
 apply Array.ext
 ·simp
 ·intro i f a
  by_cases e:k=i
  ·subst e
   rw[Array.getElem_setIfInBounds_self]
   exact(jl.1 d).2.symm
  ·rw[Array.getElem_setIfInBounds_ne a e]
theorem aFj(B:World)(HE:aAI B)(T0 TB f:Nat)(i:Nat->List jA)(ah:B.heap.size<=TB)(al:TB<=f)(b o k:Nat)(G:b≠f)(hk:k<12)(d:jB)(I:jO)(n J:Nat)(en:n=d.length)(g:n<=J/\J<=maxLen/\(I=none->J=0))(Q:Nat->Prop)(hQ:InB Q I)(N:∀x,Q x->x≠f/\x≠b)
  (W:World)(hW:jb B W)(hT:aBy T0 TB i W)(M:aAX W f (k:Int))(c:Array Value)(L:W.heap[b]?=some (.cells c 25))(h5:c[o+5]?=some (.slice I n J))(hr:aAe W I d):
  Calls prog 64 #[.pointer (some (jx b o)),.pointer (some (jx T0 0)),.pointer (some (jx f 0))] W λe w'=>aAm W b o f k Q (aGb (i k) d) e w':=by
 obtain⟨cs,S,z⟩:=hT.cs
 obtain⟨a,ca,P,A,Y⟩:=z k hk
 have t1:W.cell? (jx T0 k)=some (.slice a (i k).length ca):=(aDe S k).trans P
 have n1:W.cell? (jx f 0)=some (.int .i64 (k:Int)):=(aDe M 0).trans rfl
 have nf:W.frozen? (jx f 0)=false:=aDg M 0
 have ak:(k:Int)<12:=by omega
 have aj:(0:Int)<=(k:Int):=by omega
 have an:IntKind.i64.wrap ((k:Int)+1)=(k:Int)+1:=by rw[ju];omega
 have ag:T0≠f:=by have:=hT.lt;omega
 obtain⟨l,j⟩:∃V,V=W.setCell (jx f 0) (.int .i64 ((k:Int)+1)):=⟨_,rfl⟩
 have aa:l.heap.size=W.heap.size:=by rw[j];simp[World.setCell]
 have r:∀x,x≠f->l.heap[x]?=W.heap[x]?:=λx y=>by rw[j];exact jp _ _ _ _ y
 have O:aBA l a (i k):=A.move λC D=>r _ (by have:=Y C D;omega)
 have s:l.heap[b]?=some (.cells c 25):=by rw[r b G];exact L
 have H:aAe l I d:=aAe.move (Q:=Q) (λx y _=>r x (N x y).1) hr hQ
 have ab:jb B l:=by rw[j];exact j5 (p:=jx f 0) hW (show B.heap.size<=f by omega) _
 have v:aAX l f ((k+1:Nat):Int):=by rw[j];exact(aP5 M 0 _).trans rfl
 obtain⟨U,X⟩:=hT.len k hk
 have CF:Hid (Calls prog 65 #[.pointer (some (jx b o)),.slice a (i k).length ca] l λe w'=>aAp l b o (aGb (i k) d) (i k) e w'):=aGf B HE b o d I n J en g.1 g.2.1 (λe=>⟨by have:=g.2.2 e;omega,g.2.2 e⟩) a (i k).length ca (i k) rfl U X l ab ((aDe s (o+5)).trans h5) (λW' t=>aDg (aDj s t) (o+5)) H O
 have am:f<W.heap.size:=(jl.1 M).1
 have ai:b<W.heap.size:=(jl.1 L).1
 have m:Hid (∀e w',aAp l b o (aGb (i k) d) (i k) e w'->∃E:Nat,e=.returned (.int .i64 (E:Int))/\aAm W b o f k Q (aGb (i k) d) (.returned (.int .i64 (E:Int))) w'):=by
  have t2:Tch W l (λx=>x=b\/x=f):=by rw[j];exact(Tch.set W f 0 _).mono λx _ y=>.inr y
  rintro e w' (⟨h0,rfl,rfl⟩|⟨af,h1,rfl,t⟩|⟨af,h1,rfl,W3,q,cq,F,Z,rfl⟩)
  ·have hf:aGb (i k) d=(d,0):=by unfold aGb;rw[jo h0]
   refine⟨0,rfl,?_⟩
   rw[hf]
   refine⟨rfl,v,t2,λ_=>⟨I,J,?_,H,⟨by rw[<-en];exact g.1,g.2.1,g.2.2⟩,λC D=>.inl (hQ C D)⟩⟩
   rw[aP4 L (o+5) _ (by rw[<-en];exact h5),r b G]
  ·refine⟨(aGb (i k) d).2,rfl,rfl,by unfold aAX;rw[t.block f (by omega)];exact v,t2.trans (Tch.below t),λh=>absurd h h1⟩
  ·refine⟨0,rfl,by rw[h1],?_,?_,λ_=>?_⟩
   ·unfold aAX
    rw[jp _ _ _ _ (jaz G),F.block f (by omega)]
    exact v
   ·exact(t2.trans (Tch.below F)).trans ((Tch.set W3 b (o+5) _).mono λx _ y=>.inl y)
   ·obtain⟨q',c',e',g1,g2,g3,g4⟩:=aMg Z
    cases e'
    have ae:W3.heap[b]?=some (.cells c 25):=by rw[F.block b (by omega)];exact s
    have T:=aMa Z (jf _)
    refine⟨q,cq,by rw[aP5 ae,aP5 L],?_,⟨g1,g2,λe=>(g3 e).2⟩,λC D=>.inr (by rw[<-aa];exact(T C D).1)⟩
    exact aAe.move (Q:=λx=>x≠b) (λx y _=>jp _ _ _ _ y) g4 (λC D=>by have:=(T C D).1;omega)
 generalize aGb (i k) d=R at*
 generalize (i k).length=tl at*
 have ac:Hid _:=j
 clear S z P A Y j aa r O s H ab v U X hT M L hr hW h5 hQ N g en HE
 go_enter func64,ntmps64
 go_wp2_with fail
 rw[<-ac.out]
 refine CF.out.mono ?_
 rintro e w' hP
 obtain⟨E,rfl,hD⟩:=m.out e w' hP
 have HD:Hid (aAm W b o f k Q R (.returned (.int .i64 (E:Int))) w'):=hD
 clear hP hD CF m t1 n1 nf
 go_wp2_with fail
 go_ret
 exact HD.out
theorem aIN:(prog.info? 9).map (λi=>(i.zero,i.size,i.bytes))=some (some (.string jz),1,16):=by kernel_rfl
theorem aDJ(w:World)(v:Value)(t:TypeId):∀j x,[v][j]?=some x->(w.alloc (.cells #[v] t)).cell? (((jx w.heap.size 0):Addr).add j)=some x:=by
 intro j x a
 match j,a with
 |0,a=>simp at a;subst a;simp[Addr.add]
theorem aL0(T:jA):∀u∈[Value.string T],u.oneCell'=true:=by
 intro u a
 simp at a
 subst a
 rfl
theorem aKX(W:World)(Y T8 B m c t:Nat)(hm:m<12)(x:Option Addr)(r:ByteArray)(a1 a2 a3 a4 a5:Value)(R:Array Value)(xs:List Value)(hY:W.heap[Y]?=some (.cells #[.int .i64 (m:Int),a1,a2,a3,a4,a5] 42))(ab:W.heap[T8]?=some (.cells R 98))(I:R[m]?=some (.slice x c t))(hO:W.ownsRow B 9 1 (.slice x c t) c xs)(hB:B<=W.heap.size)(a0:c<=1000)(aM:Y≠T8)(aN:(Value.slice x c t).ownBlock≠some Y)(aL:(Value.slice x c t).ownBlock≠some T8){c0 c1 c2 c3 c4 c5 c6 c7 c9 af ag ah ai aj ak al am an ao ap aq ar av aw ax ay az aA aB aC aD aE aF aG aQ aR aS aT aU aV aW aX aY aZ aH aI:Value}(Q:Exit->Act->World->Prop)
  (ac:∀{a6 a7 a8 a9 bb bc bd be bf bg:Value},∀(g J:Nat) (d:World),d.ownsRow B 9 1 (.slice (some ⟨g,0,none⟩) (c+1) J) (c+1) (xs++[.string r])->(W.alloc (.cells #[.string r] 9)).drew.grownBy d (Value.slice x c t).ownBlock->((Value.slice x c t).ownBlock=some g\/g=W.heap.size+1)->g<d.heap.size->Q .normal ⟨(c0::c1::c2::c3::c4::c5::c6::c7::.pointer (some ⟨T8,0,none⟩)::c9::.pointer (some ⟨Y,0,none⟩)::.string r::af::ag::ah::ai::aj::ak::al::am::an::ao::ap::aq::ar::av::aw::ax::ay::az::aA::aB::aC::aD::aE::aF::aG::a6::a7::a8::a9::bb::bc::bd::be::bf::bg::aH::aI::[]).toArray,[]⟩ (d.setCell ⟨T8,m,none⟩ (.slice (some ⟨g,0,none⟩) (c+1) J))):
  Code.wp prog (aOP f61 14) Q ⟨(c0::c1::c2::c3::c4::c5::c6::c7::.pointer (some ⟨T8,0,none⟩)::c9::.pointer (some ⟨Y,0,none⟩)::.string r::af::ag::ah::ai::aj::ak::al::am::an::ao::ap::aq::ar::av::aw::ax::ay::az::aA::aB::aC::aD::aE::aF::aG::aQ::aR::aS::aT::aU::aV::aW::aX::aY::aZ::aH::aI::[]).toArray,[]⟩ W:=by
 have HX:Hid _:=@ac
 clear ac
 conv=>arg 2;whnf
 obtain⟨z,aa⟩:∃z,z=#[.int .i64 (m:Int),a1,a2,a3,a4,a5]:=⟨_,rfl⟩
 have aO:Hid (z[0]?=some (.int .i64 (m:Int))):=by unfold Hid;rw[aa];rfl
 rw[<-aa]at hY
 clear aa
 have bj:(m:Int)<12:=by omega
 have bi:(0:Int)<=(m:Int):=by omega
 have n:Hid (∀V:World,V.heap[Y]?=some (.cells z 42)->V.cell? ⟨Y,0,none⟩=some (.int .i64 (m:Int))):=λV h=>(aDe h 0).trans aO.out
 have HO:Hid (W.ownsRow B 9 1 (.slice x c t) c xs):=hO
 have ae:Hid ((Value.slice x c t).ownBlock≠some Y):=aN
 have ad:Hid ((Value.slice x c t).ownBlock≠some T8):=aL
 have k:Hid ((W.alloc (.cells #[.string r] 9)).heap[Y]?=some (.cells z 42)):=aDj hY ((jr _ _).alloc (jf _) _)
 have y:Hid ((W.alloc (.cells #[.string r] 9)).heap[T8]?=some (.cells R 98)):=aDj ab ((jr _ _).alloc (jf _) _)
 have aP:Hid (W.heap[T8]?=some (.cells R 98)):=ab
 have bh:Hid (W.heap[Y]?=some (.cells z 42)):=hY
 have M:Y<(W.alloc (.cells #[.string r] 9)).heap.size:=(jl.1 k.out).1
 have L:T8<(W.alloc (.cells #[.string r] 9)).heap.size:=(jl.1 y.out).1
 have N:c+1<=maxLen:=by unfold maxLen;omega
 have O:(c+1)*16<=140737488355328:=by omega
 have aJ:B<=(W.alloc (.cells #[.string r] 9)).heap.size:=by simp;omega
 have P:(W.alloc (.cells #[.string r] 9)).heap.size=W.heap.size+1:=by simp
 have aK:W.drew.heap[Y]?=some (.cells z 42):=hY
 clear hO aN aL ab hY hB a0
 refine wp_region_noPanic ?_
 refine wp_region_held_drew (S:=λV=>V.heap[Y]?=some (.cells z 42)) (by kernel_rfl) aK (λa=>?_)
 refine wpAnyH_take (i:=0) (oi:={dst:=some 37,op:=Op.fieldAddr 42 (.tmp 10) 0,type:=_,pos:=_,after:=_,guard:=_}) (v:=.pointer (some ⟨Y,0,none⟩)) rfl (by kernel_rfl) (by kernel_rfl) (by kernel_rfl) (λ_ _ _ h=>h) (Or.inl ⟨by rfl,?_⟩) (by assumption) ?_
 ·intro s b
  have b0:=n.out s b
  clear b
  go_simp
 try simp only[Act.put,jn,jv,jw]
 refine wpAnyH_take (i:=1) (oi:={dst:=some 38,op:=Op.load _ (.tmp 37),type:=_,pos:=_,after:=_,guard:=_}) (v:=.int .i64 (m:Int)) rfl (by kernel_rfl) (by kernel_rfl) (by kernel_rfl) (λ_ _ _ h=>h) (Or.inl ⟨by rfl,?_⟩) (by assumption) ?_
 ·intro s b
  have b0:=n.out s b
  clear b
  go_simp
 try simp only[Act.put,jn,jv,jw]
 refine wpAnyH_take (i:=2) (oi:={dst:=some 39,op:=Op.fieldAddr 42 (.tmp 10) 0,type:=_,pos:=_,after:=_,guard:=_}) (v:=.pointer (some ⟨Y,0,none⟩)) rfl (by kernel_rfl) (by kernel_rfl) (by kernel_rfl) (λ_ _ _ h=>h) (Or.inl ⟨by rfl,?_⟩) (by assumption) ?_
 ·intro s b
  have b0:=n.out s b
  clear b
  go_simp
 try simp only[Act.put,jn,jv,jw]
 refine wpAnyH_take (i:=3) (oi:={dst:=some 40,op:=Op.load _ (.tmp 39),type:=_,pos:=_,after:=_,guard:=_}) (v:=.int .i64 (m:Int)) rfl (by kernel_rfl) (by kernel_rfl) (by kernel_rfl) (λ_ _ _ h=>h) (Or.inl ⟨by rfl,?_⟩) (by assumption) ?_
 ·intro s b
  have b0:=n.out s b
  clear b
  go_simp
 try simp only[Act.put,jn,jv,jw]
 refine wpAnyH_take (i:=4) (oi:={dst:=some 41,op:=Op.indexAddr 98 (.tmp 8) (.tmp 40),type:=_,pos:=_,after:=_,guard:=_}) (v:=.pointer (some ⟨T8,m,none⟩)) rfl (by kernel_rfl) (by kernel_rfl) (by kernel_rfl) (λ_ _ _ h=>h) (Or.inl ⟨by rfl,?_⟩) (by assumption) ?_
 ·intro s b
  have b0:=n.out s b
  clear b
  go_simp
 try simp only[Act.put,jn,jv,jw]
 refine wpAnyH_take (i:=6) (oi:={dst:=some 43,op:=Op.move (.tmp 11),type:=_,pos:=_,after:=_,guard:=_}) (v:=.string r) rfl (by kernel_rfl) (by kernel_rfl) (by kernel_rfl) (λ_ _ _ h=>h) (Or.inl ⟨by rfl,?_⟩) (by assumption) ?_
 ·intro s b
  have b0:=n.out s b
  clear b
  go_simp
 try simp only[Act.put,jn,jv,jw]
 refine wpAnyH_ready (rs:=[5,7]) (by kernel_rfl) (by simp) ?_
 refine AllReadyH.cons (o:={dst:=some 42,op:=Op.load 26 (.tmp 41),type:=_,pos:=_,after:=_,guard:=_}) rfl (λK f=>?_) (AllReadyH.cons (o:={dst:=some 44,op:=Op.buildSlice 26 1 _,type:=_,pos:=_,after:=_,guard:=_}) rfl (λK f=>?_) AllReadyH.nil)
 ·have z1:W.cell? ⟨T8,m,none⟩=some (.slice x c t):=(aDe aP.out m).trans I
  clear a
  go_simp
  clear z1
  refine f.out _ _ aK (λa=>?_)
  clear f K
  try simp only[Act.put,jn,jv,jw]
  refine wpAnyH_ready (rs:=[7]) (by kernel_rfl) (by simp) (AllReadyH.cons (o:={dst:=some 44,op:=Op.buildSlice 26 1 _,type:=_,pos:=_,after:=_,guard:=_}) rfl (λK f=>?_) AllReadyH.nil)
  clear a
  go_simp
  refine f.out _ _ k.out (λa=>?_)
  clear f K
  try simp only[Act.put,jn,jv,jw]
  refine wpAnyH_ready (rs:=[8]) (by kernel_rfl) (by simp) (AllReadyH.cons (o:={dst:=some 45,op:=Op.call _,type:=_,pos:=_,after:=_,guard:=_}) rfl (λK f=>?_) AllReadyH.nil)
  obtain⟨i0,hi,F,G,H⟩:=jao aIN
  refine step_append_lies _ rfl (.tmp 42) (.tmp 44) 26 rfl B 9 i0 (.string ⟨#[]⟩) 1 16 underlying26 hi F G H rfl (by decide) (.slice x c t) c xs rfl (HO.out.alloc _) ⟨W.heap.size,0,none⟩ 1 1 [.string r] rfl rfl (aDJ W _ _) (aL0 _) (by decide) N O aJ (W.heap.size+1) P ?_
  intro g J d q l j p
  clear hi F G H
  have E:d.heap[Y]?=some (.cells z 42):=by
   rw[l.block Y M (λe=>ae.out e.symm)]
   exact k.out
  have D:d.heap[T8]?=some (.cells R 98):=by
   rw[l.block T8 L (λe=>ad.out e.symm)]
   exact y.out
  have C:Hid (d.heap[Y]?=some (.cells z 42)):=E
  have A:Hid (d.heap[T8]?=some (.cells R 98)):=D
  have Z:Hid (d.ownsRow B 9 1 (.slice (some ⟨g,0,none⟩) (c+1) J) (c+1) (xs++[.string r])):=q
  have T:Hid _:=l
  have U:Hid _:=j
  have X:Hid (g<d.heap.size):=p
  clear q l j p E D
  refine f.out _ _ C.out (λa=>?_)
  clear f K
  try simp only[Act.put,jn,jv,jw]
  refine wpAnyH_take (i:=9) (oi:={dst:=some 46,op:=Op.indexAddr 98 (.tmp 8) (.tmp 38),type:=_,pos:=_,after:=_,guard:=_}) (v:=.pointer (some ⟨T8,m,none⟩)) rfl (by kernel_rfl) (by kernel_rfl) (by kernel_rfl) (λ_ _ _ h=>h) (Or.inl ⟨by rfl,?_⟩) (by assumption) ?_
  ·intro s b
   have b0:=n.out s b
   clear b
   go_simp
  try simp only[Act.put,jn,jv,jw]
  refine wpAnyH_ready (rs:=[10]) (by kernel_rfl) (by simp) (AllReadyH.cons (o:={dst:=none,op:=Op.store 26 (.tmp 46) (.tmp 45),type:=_,pos:=_,after:=_,guard:=_}) rfl (λK f=>?_) AllReadyH.nil)
  have q1:d.cell? ⟨T8,m,none⟩=some (.slice x c t):=(aDe A.out m).trans I
  have q2:d.frozen? ⟨T8,m,none⟩=false:=aDg A.out m
  clear a
  go_simp
  refine f.out _ _ (by show(d.setCell ⟨T8,m,none⟩ _).heap[Y]?=_;rw[jp _ _ _ _ aM];exact C.out) (λa=>?_)
  clear f K q1 q2
  try simp only[Act.put]
  refine wpAnyH_done (by kernel_rfl) ?_ _
  refine NoPanic.normal ?_
  exact HX.out g J d Z.out T.out U.out X.out
 ·clear a
  go_simp
  refine f.out _ _ k.out (λa=>?_)
  clear f K
  try simp only[Act.put,jn,jv,jw]
  refine wpAnyH_ready (rs:=[5]) (by kernel_rfl) (by simp) (AllReadyH.cons (o:={dst:=some 42,op:=Op.load 26 (.tmp 41),type:=_,pos:=_,after:=_,guard:=_}) rfl (λK f=>?_) AllReadyH.nil)
  have z1:(W.alloc (.cells #[.string r] 9)).cell? ⟨T8,m,none⟩=some (.slice x c t):=(aDe y.out m).trans I
  clear a
  go_simp
  clear z1
  refine f.out _ _ k.out (λa=>?_)
  clear f K
  try simp only[Act.put,jn,jv,jw]
  refine wpAnyH_ready (rs:=[8]) (by kernel_rfl) (by simp) (AllReadyH.cons (o:={dst:=some 45,op:=Op.call _,type:=_,pos:=_,after:=_,guard:=_}) rfl (λK f=>?_) AllReadyH.nil)
  obtain⟨i0,hi,F,G,H⟩:=jao aIN
  refine step_append_lies _ rfl (.tmp 42) (.tmp 44) 26 rfl B 9 i0 (.string ⟨#[]⟩) 1 16 underlying26 hi F G H rfl (by decide) (.slice x c t) c xs rfl (HO.out.alloc _) ⟨W.heap.size,0,none⟩ 1 1 [.string r] rfl rfl (aDJ W _ _) (aL0 _) (by decide) N O aJ (W.heap.size+1) P ?_
  intro g J d q l j p
  clear hi F G H
  have E:d.heap[Y]?=some (.cells z 42):=by
   rw[l.block Y M (λe=>ae.out e.symm)]
   exact k.out
  have D:d.heap[T8]?=some (.cells R 98):=by
   rw[l.block T8 L (λe=>ad.out e.symm)]
   exact y.out
  have C:Hid (d.heap[Y]?=some (.cells z 42)):=E
  have A:Hid (d.heap[T8]?=some (.cells R 98)):=D
  have Z:Hid (d.ownsRow B 9 1 (.slice (some ⟨g,0,none⟩) (c+1) J) (c+1) (xs++[.string r])):=q
  have T:Hid _:=l
  have U:Hid _:=j
  have X:Hid (g<d.heap.size):=p
  clear q l j p E D
  refine f.out _ _ C.out (λa=>?_)
  clear f K
  try simp only[Act.put,jn,jv,jw]
  refine wpAnyH_take (i:=9) (oi:={dst:=some 46,op:=Op.indexAddr 98 (.tmp 8) (.tmp 38),type:=_,pos:=_,after:=_,guard:=_}) (v:=.pointer (some ⟨T8,m,none⟩)) rfl (by kernel_rfl) (by kernel_rfl) (by kernel_rfl) (λ_ _ _ h=>h) (Or.inl ⟨by rfl,?_⟩) (by assumption) ?_
  ·intro s b
   have b0:=n.out s b
   clear b
   go_simp
  try simp only[Act.put,jn,jv,jw]
  refine wpAnyH_ready (rs:=[10]) (by kernel_rfl) (by simp) (AllReadyH.cons (o:={dst:=none,op:=Op.store 26 (.tmp 46) (.tmp 45),type:=_,pos:=_,after:=_,guard:=_}) rfl (λK f=>?_) AllReadyH.nil)
  have q1:d.cell? ⟨T8,m,none⟩=some (.slice x c t):=(aDe A.out m).trans I
  have q2:d.frozen? ⟨T8,m,none⟩=false:=aDg A.out m
  clear a
  go_simp
  refine f.out _ _ (by show(d.setCell ⟨T8,m,none⟩ _).heap[Y]?=_;rw[jp _ _ _ _ aM];exact C.out) (λa=>?_)
  clear f K q1 q2
  try simp only[Act.put]
  refine wpAnyH_done (by kernel_rfl) ?_ _
  refine NoPanic.normal ?_
  exact HX.out g J d Z.out T.out U.out X.out
def aQF(c:UInt8):Bool:=decide (97<=c.toNat)&&decide (c.toNat<=122)
def aLl(c:UInt8):Bool:=aQF c||(decide (48<=c.toNat)&&decide (c.toNat<=57))||decide (c.toNat=46)
def aLa(s:jB):Bool:=match s with
 |[]=>false
 |c::t=>decide (t.length+1<=30)&&aQF c&&(c::t).all aLl
theorem aLb(c:UInt8)(t:jB):aLa (c::t)=(decide (t.length+1<=30)&&aQF c&&(c::t).all aLl):=rfl
def aLM(x:Nat):Bool:=!(decide (97<=x)&&decide (x<=122))&&(decide (x<48)||decide (57<x))&&decide (x≠46)
theorem aI3(x:Nat)(f:x<=1114111)(w:World):
  Calls prog 117 #[.int .i32 (x:Int)] w λe w'=>e=.returned (.bool (decide (97<=x)&&decide (x<=122)))/\w'=w:=by
 by_cases c:97<=x
 ·have e1:(97:Int)<=(x:Int):=by omega
  by_cases d:x<=122
  ·have b:(x:Int)<=122:=by omega
   have a:Hid ((decide (97<=x)&&decide (x<=122))=true):=by unfold Hid;simp[c,d]
   go_enter func117,ntmps117
   go_wp2
   go_ret
   exact⟨by rw[a.out];rfl,rfl⟩
  ·have b:decide ((x:Int)<=122)=false:=by simp;omega
   have a:Hid ((decide (97<=x)&&decide (x<=122))=false):=by unfold Hid;simp;omega
   go_enter func117,ntmps117
   go_wp2
   go_ret
   exact⟨by rw[a.out];rfl,rfl⟩
 ·have e1:decide ((97:Int)<=(x:Int))=false:=by simp;omega
  have a:Hid ((decide (97<=x)&&decide (x<=122))=false):=by unfold Hid;simp;omega
  go_enter func117,ntmps117
  go_wp2
  go_ret
  exact⟨by rw[a.out];rfl,rfl⟩
theorem aLN(x:Nat)(j:x<=1114111)(w:World):
  Calls prog 119 #[.int .i32 (x:Int)] w λe w'=>e=.returned (.bool (aLM x))/\∃q,w'=w.drewN q:=by
 have C:Hid (∀W,Calls prog 117 #[.int .i32 (x:Int)] W λe w'=>e=.returned (.bool (decide (97<=x)&&decide (x<=122)))/\w'=W):=λW=>aI3 x j W
 cases c:(decide (97<=x)&&decide (x<=122))with
 |true=>
  rw[c]at C
  have d:Hid (aLM x=false):=by unfold Hid aLM;rw[c];rfl
  clear c
  go_enter func119,ntmps119
  go_wp2_with fail
  refine(C.out _).mono ?_
  rintro e w' ⟨rfl,b⟩
  have a:=b.symm
  subst a
  go_wp2
  go_ret
  exact⟨by rw[d.out];rfl,0,rfl⟩
 |false=>
  rw[c]at C
  have d:Hid (aLM x=((decide ((x:Int)<48)||decide (57<(x:Int)))&&decide ((x:Int)≠46))):=by
   unfold Hid aLM
   rw[c]
   have f:decide ((x:Int)<48)=decide (x<48):=jar.2 (by omega)
   have g:decide (57<(x:Int))=decide (57<x):=jar.2 (by omega)
   have i:decide ((x:Int)≠46)=decide (x≠46):=jar.2 (by omega)
   rw[f,g,i]
   rfl
  clear c
  go_enter func119,ntmps119
  go_wp2_with fail
  refine(C.out _).mono ?_
  rintro e w' ⟨rfl,b⟩
  have a:=b.symm
  subst a
  go_wp2
  all_goals (
   go_ret
   refine⟨aO8 ?_,0,rfl⟩
   rw[d.out,jW]
   simp
   try omega)
theorem aLO(s:jA)(w:World):
  Calls prog 118 #[.string s,.func (Fn.func 119) #[] #[]] w (jG (.bool (s.data.toList.any λc=>aLM c.toNat)) w):=by
 refine(strings_ContainsFunc_runes 119 #[] (enters_of func119 (by kernel_rfl) rfl) aLM s w (λW x a _=>aLN x a W)).mono ?_
 rintro e w' ⟨rfl,b⟩
 refine⟨?_,b⟩
 rw[show Lib.idxFunc aLM true s=Lib.idxFuncFrom aLM true s s.size 0 from rfl,aIp aLM s (.inl λx a=>by unfold aLM;simp;omega) s.size 0 (by omega)]
 rfl
theorem aB2(l:jB):(!(l.any λc=>aLM c.toNat))=l.all aLl:=by
 rw[List.not_any_eq_all_not]
 congr 1
 funext c
 unfold aLM aLl aQF
 rw[jW]
 simp
theorem aLd(s:jA)(y:s.size<=maxLen)(w:World):
  Calls prog 69 #[.string s] w (jG (.bool (aLa s.data.toList)) w):=by
 unfold maxLen at y
 have b:=Lib.size_eq s
 have a:s.toList.isEmpty=s.data.toList.isEmpty:=by rw[jj]
 cases d:s.data.toList with
 |nil=>
  rw[d]at a b
  have f:Hid (aLa []=false):=rfl
  have o:s.toList.isEmpty=true:=a
  clear d b a
  go_enter func69,ntmps69
  go_wp2
  go_ret
  exact⟨by rw[f.out];rfl,jr _ _⟩
 |cons c t=>
  rw[d]at a b
  have o:s.toList.isEmpty=false:=a
  rw[jm]at b
  by_cases r:s.size<=30
  ·have g:¬(30:Int)<(s.size:Int):=by omega
   have j:0<s.size:=by omega
   have p:(0:Int)<(s.size:Int):=by omega
   have v:s[0]'j=c:=by
    have q:s.data.toList[0]'(by rw[d];simp)=c:=by simp only[d];rfl
    exact q
   have n:Hid (∀W,Calls prog 117 #[.int .i32 (c.toNat:Int)] W λe w'=>e=.returned (.bool (aQF c))/\w'=W):=λW=>aI3 c.toNat (by have:=jem c;omega) W
   have m:Hid (∀w,Calls prog 118 #[.string s,.func (Fn.func 119) #[] #[]] w (jG (.bool (s.data.toList.any λc=>aLM c.toNat)) w)):=λw=>aLO s w
   have x:=jem c
   have z:IntKind.i32.wrap (c.toNat:Int)=(c.toNat:Int):=by rw[IntKind.wrap_i32];omega
   have f:Hid (aLa (c::t)=(aQF c&&!(s.data.toList.any λc=>aLM c.toNat))):=by
    unfold Hid
    rw[aB2,d]
    rw[aLb,j3 (by omega:t.length+1<=30)]
    rfl
   generalize (s.data.toList.any λc=>aLM c.toNat)=V at*
   generalize aQF c=U at*
   clear d b a
   go_enter func69,ntmps69
   go_wp2_with fail
   refine(n.out _).mono ?_
   rintro e w' ⟨rfl,l⟩
   have i:=l.symm
   subst i
   cases U with
   |false=>
    go_wp2_with fail
    go_ret
    exact⟨by rw[f.out];rfl,jr _ _⟩
   |true=>
    go_wp2_with fail
    refine(m.out _).mono ?_
    rintro e A ⟨rfl,k⟩
    go_wp2_with fail
    go_ret
    exact⟨by rw[f.out];cases V<;>rfl,k⟩
  ·have g:(30:Int)<(s.size:Int):=by omega
   have f:Hid (aLa (c::t)=false):=by unfold Hid;rw[aLb,jV (by omega)];rfl
   clear d b a
   go_enter func69,ntmps69
   go_wp2
   go_ret
   exact⟨by rw[f.out];rfl,jr _ _⟩
abbrev NM:=Int×jA
def nm0:NM:=(0,jz)
def aDT(parts:Int):Int->List jB->List NM->Nat
 |_,_,[]=>0
 |last,seen,n::l=>if n.1<0\/parts<=n.1 then 5 else if aLa n.2.data.toList=false then 1 else if seen.contains n.2.data.toList=true\/n.1<=last then 6 else aDT parts n.1 (n.2.data.toList::seen) l
def aAV(w:World)(p:jO)(l:List NM):Prop:=l≠[]->∃b o,p=some (jx b o)/\∀i,i<l.length->w.cell? ⟨b,o+i*2,none⟩=some (.int .i64 (l.getD i nm0).1)/\w.cell? ⟨b,o+i*2+1,none⟩=some (.string (l.getD i nm0).2)
theorem aAV.below{w w':World}{p:jO}{l:List NM}(h:aAV w p l)(c:jb w w'):aAV w' p l:=by
 intro a
 obtain⟨b,o,e,f⟩:=h a
 refine⟨b,o,e,λi g=>?_⟩
 obtain⟨c0,c1⟩:=f i g
 have d:=ji w _ c0
 exact⟨(c.cell (p:=⟨b,o+i*2,none⟩) d).trans c0,(c.cell (p:=⟨b,o+i*2+1,none⟩) d).trans c1⟩
def aAS(l:List NM):Prop:=l.length<=maxLen/\∀n∈l,-9223372036854775808<=n.1/\n.1<=9223372036854775807/\n.2.size<=maxLen
theorem aAS.at{l:List NM}(h:aAS l)(i:Nat)(a:i<l.length):-9223372036854775808<=(l.getD i nm0).1/\(l.getD i nm0).1<=9223372036854775807/\(l.getD i nm0).2.size<=maxLen:=by
 rw[jd,jc a]
 exact h.2 _ (jQ a)
theorem aDZ(parts a:Int)(seen:List jB)(l:List NM)(k:Nat)(b:k<l.length):aDT parts a seen (l.drop k)=if(l.getD k nm0).1<0\/parts<=(l.getD k nm0).1 then 5 else if aLa (l.getD k nm0).2.data.toList=false then 1 else if seen.contains (l.getD k nm0).2.data.toList=true\/(l.getD k nm0).1<=a then 6 else aDT parts (l.getD k nm0).1 ((l.getD k nm0).2.data.toList::seen) (l.drop (k+1)):=by
 rw[jE b,aDT,jd,jc b]
 rfl
theorem aEJ{seen:List jB}{x:jB}(h:seen.contains x=true):0<seen.count x:=List.count_pos_iff.2 (by simpa using h)
theorem aEG{seen:List jB}{x:jB}(h:seen.contains x=false):seen.count x=0:=List.count_eq_zero.2 (by simpa using h)
theorem aO4(a b:jB)(g:b.length<=a.length):∀(k:Nat) (s:jB),(Lib.replaceK a b k s).length<=s.length
 |0,s=>by rw[Lib.replaceK];exact jf _
 |k+1,s=>by
  rcases Lib.index_spec s a with⟨c,_⟩|⟨i,c,_,_,_⟩
  ·rw[Lib.replaceK,c]
   simp
  ·rw[Lib.replaceK_hit a b k s i c]
   have d:=aO4 a b g k (s.drop (i+a.length))
   have f:=Lib.index_room s a (by rw[c];omega)
   rw[c]at f
   rw[jH]at d
   rw[je,je,jF]
   omega
theorem aTY(s:jB):(aTW s).length<=s.length:=by
 unfold aTW Lib.replaceAll
 exact aO4 aBY [38] (by decide) _ s
end Go.Proofs.YtbbfcbodhmeanaaGreatDoor

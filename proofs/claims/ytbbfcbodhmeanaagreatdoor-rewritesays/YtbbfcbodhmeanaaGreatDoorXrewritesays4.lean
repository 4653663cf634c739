import Derived.Test.YtbbfcbodhmeanaaGreatDoorXrewritesays3
import Derived.Deep.SlicePairs
import Derived.ChangeSlices
set_option maxHeartbeats 8000000
set_option maxRecDepth 1000000
namespace Go.Proofs.YtbbfcbodhmeanaaGreatDoor
open Go.Proofs.Tryz
open Go.RowKit
theorem PLs.below{w w':World}{X:List PX}{L:List (PT×Int)}(h:PLs w X L)(a:jb w w'):PLs w' X L:=
 ⟨h.1,λi x q c hq=>by
  obtain⟨e,f,b⟩:=h.2 i x q c hq
  exact⟨e,f,b.below a⟩⟩
theorem aMs{w:World}{B b e s n:Nat}{v:Value}{c:List Value}(h:w.ownsRow B e s v n c)(f:b<=B):w.ownsRow b e s v n c:=by
 refine⟨h.1,?_⟩
 rcases h.2 with h|⟨g,cap,a,e1,d,r⟩
 ·exact .inl h
 ·exact .inr ⟨g,cap,a,e1,by omega,r⟩
theorem aDl{w:World}{F:Nat}{p:PT}{d:jO}{a:Nat}{f:jO}{b:Nat}(h:aA3 w F p d a f b)(t:TypeId)(c:Array Value)(g:c=(jP p.ty p.cs p.id p.loc p.how d p.body.length a f p.kids.length b)):
  PAt (w.alloc (.cells c t)) F w.heap.size 0 p:=by
 subst g
 refine⟨d,a,f,b,⟨?_,?_,?_,?_,?_,?_,?_⟩,h.below (ja _ _)⟩<;>simp
def aAj(w:World)(r:Nat×List (PT×Int))(e:Ending)(w':World):Prop:=
 jb w w'/\(r.1≠0->e=.returned (.tuple #[.slice none 0 0,.int .i64 (r.1:Int)]))/\
 (r.1=0->∃q c X,e=.returned (.tuple #[.slice q r.2.length c,.int .i64 0])/\w'.ownsRow w.heap.size 117 2 (.slice q r.2.length c) r.2.length (plv X)/\PLs w' X r.2)
theorem aNl(p:PT)(h:put 4 [] p 1 (-1)=none):aNh p=(2,[]):=by unfold aNh;rw[h]
theorem aNi(p:PT)(L:List (PT×Int))(h:put 4 [] p 1 (-1)=some L)(a:aGO L≠0):aNh p=(aGO L,[]):=by unfold aNh;rw[h];simp only;rw[jh a]
theorem aNm(p:PT)(L:List (PT×Int))(h:put 4 [] p 1 (-1)=some L)(a:aGO L=0):aNh p=(0,L):=by unfold aNh;rw[h];simp only;rw[jo a]
theorem aNf(X:List PX)(k:Nat)(x:PX)(h:X[k]?=some x):(plv X)[k*2]?=some (.pointer (some (jx x.1.1 x.1.2)))/\(plv X)[k*2+1]?=some (.int .i64 x.2):=by
 induction X generalizing k with
 |nil=>simp at h
 |cons y X a=>
  cases k with
  |zero=>obtain rfl:=jI h;exact⟨rfl,rfl⟩
  |succ k=>
   have:=a k (by simpa using h)
   rw[show(k+1)*2=k*2+2 from by omega]
   exact this
theorem aGR(L:List (PT×Int))(k:Nat)(q:PT×Int)(h:L[k]?=some q)(a:aGO (L.drop k)=aGO L)(hq:aEb q.1≠0):aGO L=aEb q.1:=by
 obtain⟨b,e⟩:=jN.1 h
 rw[<-a,jE b,e,aGO,jh hq]
theorem aGQ(L:List (PT×Int))(k:Nat)(q:PT×Int)(h:L[k]?=some q)(a:aGO (L.drop k)=aGO L)(hq:aEb q.1=0):aGO (L.drop (k+1))=aGO L:=by
 obtain⟨b,e⟩:=jN.1 h
 rw[<-a,jE b,e,aGO,jo hq]
theorem aD5(p:PT)(pb:jO)(Y:Nat)(pk:jO)(Z F:Nat)(w:World)(hH:aA3 w F p pb Y pk Z):
  Calls prog 73 #[.agg (jP p.ty p.cs p.id p.loc p.how pb p.body.length Y pk p.kids.length Z)] w λe w'=>aAj w (aNh p) e w':=by
 obtain⟨c0,E⟩:∃c0,c0=#[Value.string p.ty,.string p.cs,.string p.id,.string p.loc,.int .i64 p.how,.slice pb p.body.length Y,.slice pk p.kids.length Z]:=⟨_,rfl⟩
 have B:=aDl hH 25 _ E
 obtain⟨A,z⟩:∃A,w.alloc (.cells c0 25)=A:=⟨_,rfl⟩
 have s:jb w A:=by rw[<-z];exact ja _ _
 rw[z]at B
 have N:Hid (Calls prog 128 #[.slice none 0 0,.pointer (some (jx w.heap.size 0)),.int .i64 1,.int .i64 (-1)] A λe w'=>aA7 A (put 4 [] p 1 (-1)) e w'):=
  aNn A 3 F (.slice none 0 0) [] [] w.heap.size 0 p 1 1 (-1) A (by omega) (by omega) rfl (by simp) (jr _ _) (jT _ _ _ _) (PLs.nil _) B
 have am:w.alloc (.cells #[Value.string p.ty,.string p.cs,.string p.id,.string p.loc,.int .i64 p.how,.slice pb p.body.length Y,.slice pk p.kids.length Z] 25)=A:=by rw[<-E];exact z
 clear B hH z E
 cases a:put 4 [] p 1 (-1)with
 |none=>
  have HR:Hid (aNh p=(2,[])):=aNl p a
  rw[a]at N
  clear a
  go_enter func73,ntmps73
  go_wp2_with fail
  refine N.out.mono ?_
  rintro e m ⟨r,rfl⟩
  go_wp2_with fail
  go_ret2
  show aAj _ _ _ _
  rw[HR.out]
  exact⟨s.trans (r.mono s.size),λ_=>rfl,λh=>by cases h⟩
 |some L=>
  have aa:Hid (aGO L≠0->aNh p=(aGO L,[])):=aNi p L a
  have ab:Hid (aGO L=0->aNh p=(0,L)):=aNm p L a
  have S:=(aOk 4 [] L p 1 (-1) (by simp) a).2
  rw[a]at N
  clear a
  generalize aNh p=R at*
  go_enter func73,ntmps73
  go_wp2_with fail
  refine N.out.mono ?_
  rintro e m ⟨r,v1,X,rfl,b,hX⟩
  obtain⟨q,c,rfl⟩:=aMi b
  have i:=s.trans (r.mono s.size)
  have T:X.length=L.length:=hX.1
  have C:PLs m X L:=hX.below r
  obtain⟨n,hn⟩:∃n,L.length=n:=⟨_,rfl⟩
  rw[hn]at b T S
  have HN:Hid _:=hn
  simp only[hn]
  have d:Hid (∀k,k<n->∃(g:Nat) (x:PX) (y:PT×Int),q=some (jx g 0)/\X[k]?=some x/\L[k]?=some y/\m.cell? ⟨g,k*2,none⟩=some (.pointer (some (jx x.1.1 x.1.2)))/\m.cell? ⟨g,k*2+1,none⟩=some (.int .i64 x.2)/\x.2=y.2/\∃f,PAt m f x.1.1 x.1.2 y.1):=λk hk=>by
   rcases b.2 with⟨M,h2⟩|⟨g,cap,ao,M,_⟩
   ·omega
   ·injection M with M
    subst M
    have I:k<X.length:=by omega
    have W:k<L.length:=by omega
    have e1:=aNf X k X[k] (jc I)
    refine⟨g,X[k],L[k],rfl,jc I,jc W,?_,?_,C.2 k X[k] L[k] (jc I) (jc W)⟩
    ·rw[b.cellAt (k*2) (by omega),e1.1]
    ·rw[b.cellAt (k*2+1) (by omega),e1.2]
  have P:Hid (m.ownsRow w.heap.size 117 2 (.slice q n c) n (plv X)):=aMs b s.size
  have ac:Hid (PLs m X L):=C
  clear b hX C N r hn T
  go_wp2_with fail
  go_loopw[17] (λiv wr=>∃k:Nat,k<=n/\iv=.int .i64 k/\jb m wr/\Hid (aGO (L.drop k)=aGO L)) (λiv _=>n-(intOf iv).toNat)
  case atStart=>exact⟨0,jy _,rfl,jr _ _,rfl⟩
  case round=>
   obtain⟨k,hk,rfl,l,J⟩:=hrel
   have ah:=l.size
   by_cases af:k<n
   ·have ag:(k:Int)<(n:Int):=by omega
    obtain⟨g,x,y,rfl,hx,hy,G,H,ai,f,t⟩:=d.out k af
    clear ai
    have U:=(l.cell (ji m _ G)).trans G
    have V:=(l.cell (ji m _ H)).trans H
    obtain⟨⟨bx,ox⟩,ix⟩:=x
    simp only at U V t
    clear G H
    have O:Hid (∀w',jb m w'->Calls prog 129 #[.pointer (some (jx bx ox))] w' λe al=>e=.returned (.int .i64 (aEb y.1:Nat))/\jb w' al):=λw' hb=>by
     obtain⟨aj,ad,ak,ae,M,h2⟩:=t.below hb
     exact aBU bx ox y.1 aj ad ak ae w' M h2.1
    have v:=l.alloc ah (.cells #[Value.pointer (some (jx bx ox)),.int .i64 ix] 117)
    by_cases hq:aEb y.1=0
    ·have o:Hid (aGO (L.drop (k+1))=aGO L):=aGQ L k y hy J.out hq
     rw[hq]at O
     clear hq J hy hx t d
     go_wp2_with fail
     refine(O.out _ v).mono ?_
     rintro e w2 ⟨rfl,D⟩
     have j:=v.trans (D.mono (by simp;omega))
     clear O
     go_wp2_with fail
     go_roundw
     case rel=>exact⟨k+1,by omega,by go_num,j,o⟩
     case measure=>simp[intOf];omega
    ·have o:Hid (R=(aEb y.1,[])):=by
      unfold Hid
      have e:=aGR L k y hy J.out hq
      rw[aa.out (by rw[e];exact hq),e]
     have ap:(((aEb y.1:Nat):Int)==0)=false:=by rw[jg];omega
     clear J hy hx t d
     generalize aEb y.1=an at*
     go_wp2_with fail
     refine(O.out _ v).mono ?_
     rintro e w2 ⟨rfl,D⟩
     have j:=v.trans (D.mono (by simp;omega))
     clear O
     go_wp2_with fail
     go_ret2
     show aAj _ _ _ _
     rw[o.out]
     exact⟨i.trans (j.mono i.size),λ_=>rfl,λh=>absurd h hq⟩
   ·have ag:¬((k:Int)<(n:Int)):=by omega
    have o:Hid (R=(0,L)):=by
     unfold Hid
     refine ab.out ?_
     rw[<-J.out,jC (by rw[HN.out];omega)];rfl
    clear J d
    go_wp2_with fail
    go_ret2
    show aAj _ _ _ _
    rw[o.out]
    refine⟨i.trans (l.mono i.size),λh=>absurd rfl h,λ_=>⟨q,c,X,?_,?_,ac.out.below l⟩⟩
    ·simp only[HN.out];rfl
    ·simp only[HN.out];exact aMm P.out l
def izv(l:List Int):List Value:=l.map λz=>Value.int .i64 z
def aAE(w:World)(q:jO)(l:List Int):Prop:=l≠[]->∃b o,q=some (jx b o)/\∀i,i<l.length->w.cell? (jx b (o+i))=some (.int .i64 (l.getD i 0))
theorem aAE.below{w w':World}{q:jO}{l:List Int}(h:aAE w q l)(c:jb w w'):aAE w' q l:=by
 intro a
 obtain⟨b,o,rfl,d⟩:=h a
 refine⟨b,o,rfl,λi f=>?_⟩
 have:=d i f
 rw[c.cell (p:=jx b (o+i)) (ji w _ this)]
 exact this
theorem aMd{w:World}{B:Nat}{v:Value}{l:List Int}(h:w.ownsRow B 3 1 v l.length (izv l)):∃p c,v=.slice p l.length c/\l.length<=c/\c<=maxLen/\(p=none->l.length=0/\c=0)/\aAE w p l:=by
 have n:=h
 rcases h.2 with⟨rfl,a⟩|⟨g,cap,m,rfl,q,hh,d,b,o,j⟩
 ·refine⟨none,0,by rw[a],by omega,by decide,λ_=>⟨a,rfl⟩,λf=>absurd (js.1 a) f⟩
 ·refine⟨some (jx g 0),cap,rfl,d,b,λe=>(by cases e),λ_=>⟨g,0,rfl,λi k=>?_⟩⟩
  rw[j0,n.cellAt i (by omega),izv,jas,jc k,jd,jc k]
  rfl
theorem aDH(w:World)(v:Value)(t:TypeId)(b:Nat)(a:b=w.heap.size):∀j x,[v][j]?=some x->(w.alloc (.cells #[v] t)).cell? (((jx b 0):Addr).add j)=some x:=by
 subst a
 exact aDL w v t rfl
def aBF(w:World)(r:Nat×List (PT×Int))(e:Ending)(w':World):Prop:=
 jb w w'/\(r.1≠0->e=.returned (.tuple #[.slice none 0 0,.int .i64 (r.1:Int)]))/\
 (r.1=0->∃q c,e=.returned (.tuple #[.slice q r.2.length c,.int .i64 0])/\r.2.length<=c/\c<=maxLen/\(q=none->c=0)/\aAE w' q (r.2.map (·.2)))
theorem aNk(p:PT):(aNh p).2.length<=12:=by
 unfold aNh
 cases h:put 4 [] p 1 (-1)with
 |none=>simp
 |some L=>
  simp only
  split
  ·exact(aOk 4 [] L p 1 (-1) (by simp) h).2
  ·simp
theorem aNg{w:World}{B n:Nat}{q:jO}{c:Nat}{X:List PX}{L:List (PT×Int)}(a:w.ownsRow B 117 2 (.slice q n c) n (plv X))(l:PLs w X L)(v:n=L.length)(k:Nat)(t:k<n):
  ∃(g:Nat) (b o:Nat) (y:PT×Int),q=some (jx g 0)/\L[k]?=some y/\w.cell? ⟨g,k*2,none⟩=some (.pointer (some (jx b o)))/\w.cell? ⟨g,k*2+1,none⟩=some (.int .i64 y.2)/\∃f,PAt w f b o y.1:=by
 rcases a.2 with⟨j,s⟩|⟨g,cap,m,j,_⟩
 ·omega
 ·injection j with j
  subst j
  have i:k<X.length:=by rw[l.1];omega
  have d:k<L.length:=by omega
  have e1:=aNf X k X[k] (jc i)
  obtain⟨p,f,r⟩:=l.2 k X[k] L[k] (jc i) (jc d)
  refine⟨g,X[k].1.1,X[k].1.2,L[k],rfl,jc d,?_,?_,f,r⟩
  ·rw[a.cellAt (k*2) (by omega),e1.1]
  ·rw[a.cellAt (k*2+1) (by omega),e1.2,p]
theorem aMn{w:World}{k e1 s q l i t r:Nat}{c j:Value}{v x:List Value}(n:w.ownsRow k e1 s c q v)(o:w.ownsRow l i t j r x)(b:e1≠i):c.ownBlock=none\/c.ownBlock≠j.ownBlock:=by
 rcases n.2 with⟨rfl,_⟩|⟨g,cap,m,rfl,_,p,_⟩
 ·exact .inl rfl
 ·rcases o.2 with⟨rfl,_⟩|⟨y,d,f,rfl,_,a,_⟩
  ·exact .inr (by simp[Value.ownBlock])
  ·refine .inr λe=>?_
   simp only[Value.ownBlock,jac]at e
   subst e
   rw[p]at a
   injection a with a
   injection a with _ h _
   exact b h
theorem aMp{w:World}{B e s n:Nat}{v:Value}{c:List Value}(h:w.ownsRow B e s v n c)(a:Addr)(u:Value)(i:a.block<B):(w.setCell a u).ownsRow B e s v n c:=by
 refine⟨h.1,?_⟩
 rcases h.2 with h|⟨g,cap,b,e1,d,f,r⟩
 ·exact .inl h
 ·exact .inr ⟨g,cap,b,e1,d,by rw[heap_setCell_other w a g u (by omega)];exact f,r⟩
theorem aP7{w:World}{b i j:Nat}{v:Value}(h:i≠j):(w.setCell (jx b i) v).cell? (jx b j)=w.cell? (jx b j):=jae _ _ _ _ (λe=>h (jab Addr.off e))
theorem aCL(m:jO)(d:jB)(n j:Nat)(r:n=d.length)(w:World)(p:aAe w m d)(x:n<=140737488355328):
  Calls prog 74 #[.slice m n j] w λe w'=>∃q c,e=.returned (.slice q n c)/\w'.ownsRow w.heap.size 5 1 (.slice q n c) n (bv d)/\jb w w':=by
 subst r
 cases m with
 |none=>
  have s:d=[]:=by
   cases k:d with
   |nil=>rfl
   |cons a l=>obtain⟨b,o,e,_⟩:=p (by rw[k];simp);cases e
  subst s
  refine(bytes_Clone_nil 0 j w).mono ?_
  rintro e w' ⟨rfl,rfl⟩
  exact⟨none,0,rfl,jT _ _ _ _,jr _ _⟩
 |some a=>
  refine(bytes_Clone_at a d.length j (d.map λc=>((c.toNat:Nat):Int)) w (by simp) x (λi g=>?_)).mono ?_
  ·obtain⟨b,o,e,t⟩:=p (λh=>by rw[h]at g;simp at g)
   obtain rfl:=jI e
   have:=t i g
   rw[jaa,this]
   simp[List.getD_eq_getElem?_getD,List.getElem?_eq_getElem g]
  ·rintro e w' ⟨v,rfl,f,_,k⟩
   obtain⟨q,c,rfl⟩:=aMi f
   refine⟨q,c,rfl,?_,k⟩
   rw[jcm]at f
   exact f
abbrev PY:=PT×jO×Nat
def pav(Y:List PY):List Value:=Y.flatMap λy=>[.string y.1.ty,.string y.1.cs,.string y.1.id,.string y.1.loc,.int .i64 y.1.how,.slice y.2.1 y.1.body.length y.2.2,.slice none 0 0]
theorem aMR(Y:List PY)(y:PY):pav (Y++[y])=pav Y++[.string y.1.ty,.string y.1.cs,.string y.1.id,.string y.1.loc,.int .i64 y.1.how,.slice y.2.1 y.1.body.length y.2.2,.slice none 0 0]:=by simp[pav]
theorem aMt(Y:List PY)(k:Nat)(y:PY)(h:Y[k]?=some y)(j:Nat)(v:Value)(a:[Value.string y.1.ty,.string y.1.cs,.string y.1.id,.string y.1.loc,.int .i64 y.1.how,.slice y.2.1 y.1.body.length y.2.2,.slice none 0 0][j]?=some v):(pav Y)[k*7+j]?=some v:=by
 induction Y generalizing k with
 |nil=>simp at h
 |cons z Y c=>
  have b:j<7:=by have:=(jN.1 a).1;simpa using this
  show([Value.string z.1.ty,.string z.1.cs,.string z.1.id,.string z.1.loc,.int .i64 z.1.how,.slice z.2.1 z.1.body.length z.2.2,.slice none 0 0]++pav Y)[k*7+j]?=some v
  cases k with
  |zero=>
   obtain rfl:=jI h
   rw[jbk (by simp;omega),jdr,j0]
   exact a
  |succ k=>
   rw[jS (by simp;omega)]
   have:=c k (by simpa using h)
   rw[<-this]
   congr 1
   simp
   omega
def aAg(w:World)(B:Nat)(Y:List PY):Prop:=∀y∈Y,y.1.kids=[]/\aA5 y.1/\w.ownsRow B 5 1 (.slice y.2.1 y.1.body.length y.2.2) y.1.body.length (bv y.1.body)
theorem aMf{w:World}{B:Nat}{v:Value}{Y:List PY}(h:w.ownsRow B 25 7 v Y.length (pav Y))(s:aAg w B Y):∃p c,v=.slice p Y.length c/\Y.length<=c/\c<=maxLen/\(p=none->Y.length=0/\c=0)/\KAt w 1 p (Y.map (·.1)):=by
 have r:=h
 rcases h.2 with⟨rfl,d⟩|⟨g,cap,n,rfl,I,hh,k,f,t,l⟩
 ·refine⟨none,0,by rw[d],by omega,by decide,λ_=>⟨d,rfl⟩,?_⟩
  rw[js.1 d]
  exact KAt.nil _ _ _
 ·refine⟨some (jx g 0),cap,rfl,k,f,λe=>(by cases e),KAt.mk λi x=>?_⟩
  have b:i<Y.length:=by simpa using x
  have z:Y[i]?=some Y[i]:=jc b
  have e:(Y.map (·.1)).getD i pt0=Y[i].1:=by simp[List.getD_eq_getElem?_getD,b]
  obtain⟨m,A,C⟩:=s Y[i] (jQ b)
  obtain⟨q,c,o,D,E,F,G⟩:=aMg C
  injection o with e3 e4 e5
  rw[e]
  have a:∀j v,[Value.string Y[i].1.ty,.string Y[i].1.cs,.string Y[i].1.id,.string Y[i].1.loc,.int .i64 Y[i].1.how,.slice Y[i].2.1 Y[i].1.body.length Y[i].2.2,.slice none 0 0][j]?=some v->j<7->w.cell? ⟨g,0+i*7+j,none⟩=some v:=λj v y H=>by
   rw[r.cellAt (0+i*7+j) (by omega),j0]
   exact aMt Y i Y[i] z j v y
  refine⟨Y[i].2.1,Y[i].2.2,none,0,⟨a 0 _ rfl (by omega),a 1 _ rfl (by omega),a 2 _ rfl (by omega),a 3 _ rfl (by omega),a 4 _ rfl (by omega),a 5 _ rfl (by omega),by rw[m];exact a 6 _ rfl (by omega)⟩,A,?_,?_,?_,?_⟩
  ·rw[e5];exact⟨D,E,λh=>(F (e3▸h)).2⟩
  ·rw[e3];exact G
  ·rw[m];exact⟨jf _,by decide,λ_=>rfl⟩
  ·exact m
def aAc(w:World)(r:Nat×List (PT×Int))(e:Ending)(w':World):Prop:=
 jb w w'/\(r.1≠0->e=.returned (.tuple #[.slice none 0 0,.int .i64 (r.1:Int)]))/\
 (r.1=0->∃q c,e=.returned (.tuple #[.slice q r.2.length c,.int .i64 0])/\r.2.length<=c/\c<=maxLen/\(q=none->c=0)/\KAt w' 1 q (r.2.map λx=>x.1.alone))
theorem aIJ:(prog.info? 25).map (λi=>(i.zero,i.size,i.bytes))=some (some (.agg (jP jz jz jz jz 0 none 0 0 none 0 0)),7,120):=by kernel_rfl
theorem aDM(w:World)(c:List Value)(t:TypeId)(b:Nat)(a:b=w.heap.size):∀j x,c[j]?=some x->(w.alloc (.cells c.toArray t)).cell? ((⟨b,0,none⟩:Addr).add j)=some x:=by
 subst a
 intro j x d
 rw[jaa,j0]
 simp[d]
theorem aK4{w i:World}{t:TypeId}{a b c d e f g:Value}(j:Below (w.alloc (.cells #[a,b,c,d,e,f,g] t)).heap.size (w.alloc (.cells #[a,b,c,d,e,f,g] t)) i)(k:Nat)(l:k=w.heap.size):
  i.cell? (jx k 0)=some a/\i.cell? (jx k 1)=some b/\i.cell? (jx k 2)=some c/\i.cell? (jx k 3)=some d/\i.cell? (jx k 4)=some e/\i.cell? (jx k 5)=some f/\i.cell? (jx k 6)=some g/\
   i.frozen? (jx k 5)=false/\i.frozen? (jx k 6)=false/\k<i.heap.size/\jb w i:=by
 subst l
 have m:=j.size
 rw[World.size_alloc]at m
 refine⟨?_,?_,?_,?_,?_,?_,?_,?_,?_,by omega,(ja _ _).trans (j.mono (by simp))⟩
 ·rw[j.cell (p:=jx w.heap.size 0) (by simp)];simp
 ·rw[j.cell (p:=jx w.heap.size 1) (by simp)];simp
 ·rw[j.cell (p:=jx w.heap.size 2) (by simp)];simp
 ·rw[j.cell (p:=jx w.heap.size 3) (by simp)];simp
 ·rw[j.cell (p:=jx w.heap.size 4) (by simp)];simp
 ·rw[j.cell (p:=jx w.heap.size 5) (by simp)];simp
 ·rw[j.cell (p:=jx w.heap.size 6) (by simp)];simp
 ·rw[j.frozen (p:=jx w.heap.size 5) (by simp)];simp
 ·rw[j.frozen (p:=jx w.heap.size 6) (by simp)];simp
theorem aGP:∀(L:List (PT×Int)),aGO L=0->∀x∈L,aEb x.1=0
 |[],_,x,hx=>by cases hx
 |y::L,h,x,hx=>by
  rw[aGO]at h
  split at h
  ·rename_i a
   rcases jad.1 hx with e|e
   ·subst e;exact a
   ·exact aGP L h x e
  ·rename_i a;exact absurd h a
theorem aNj(p:PT):∀x∈(aNh p).2,aEb x.1=0:=by
 unfold aNh
 cases c:put 4 [] p 1 (-1)with
 |none=>intro x b;cases b
 |some L=>
  simp only
  by_cases a:aGO L=0
  ·rw[jo a];exact aGP L a
  ·rw[jh a];intro x b;cases b
theorem aEc(p:PT)(h:aEb p=0):p.body.length<=4000:=by
 unfold aEb at h
 split at h
 ·cases h
 ·split at h
  ·cases h
  ·split at h
   ·cases h
   ·omega
def aAi(w:World)(p:jO)(l:List Value):Prop:=l≠[]->∃b o,p=some (jx b o)/\∀j u,l[j]?=some u->w.cell? (jx b (o+j))=some u
theorem aAi.below{w w':World}{p:jO}{l:List Value}(h:aAi w p l)(c:jb w w'):aAi w' p l:=by
 intro a
 obtain⟨b,o,rfl,d⟩:=h a
 refine⟨b,o,rfl,λj u f=>?_⟩
 have:=d j u f
 rw[c.cell (p:=jx b (o+j)) (ji w _ this)]
 exact this
abbrev PZ:=PT×(jO×Nat)×(jO×Nat)
def pzc(z:PZ):List Value:=[.string z.1.ty,.string z.1.cs,.string z.1.id,.string z.1.loc,.int .i64 z.1.how,.slice z.2.1.1 z.1.body.length z.2.1.2,.slice z.2.2.1 z.1.kids.length z.2.2.2]
def pzv(Z:List PZ):List Value:=Z.flatMap pzc
theorem aOx(Y Z:List PZ):pzv (Y++Z)=pzv Y++pzv Z:=by simp[pzv]
theorem aOy:∀Z:List PZ,(pzv Z).length=Z.length*7
 |[]=>rfl
 |z::Z=>by show(pzc z++pzv Z).length=_;rw[je,aOy Z];simp[pzc];omega
theorem aOz(Z:List PZ):∀u∈pzv Z,u.oneCell'=true:=by
 intro u a
 simp only[pzv,jct]at a
 obtain⟨z,_,b⟩:=a
 simp only[pzc,jad,List.not_mem_nil,or_false]at b
 rcases b with rfl|rfl|rfl|rfl|rfl|rfl|rfl<;>rfl
theorem aOr(Z:List PZ)(k:Nat)(z:PZ)(h:Z[k]?=some z)(j:Nat)(v:Value)(a:(pzc z)[j]?=some v):(pzv Z)[k*7+j]?=some v:=by
 have b:j<7:=by have:=(jN.1 a).1;simpa [pzc] using this
 induction Z generalizing k with
 |nil=>simp at h
 |cons y Z c=>
  show(pzc y++pzv Z)[k*7+j]?=some v
  cases k with
  |zero=>
   obtain rfl:=jI h
   rw[jbk (by simp[pzc];omega),jdr,j0]
   exact a
  |succ k=>
   rw[jS (by simp[pzc];omega)]
   have:=c k (by simpa using h)
   rw[<-this]
   congr 1
   simp[pzc]
   omega
theorem aOs:∀(Z:List PZ) (j:Nat) (v:Value),(pzv Z)[j]?=some v->∃z,Z[j/7]?=some z/\(pzc z)[j%7]?=some v
 |[],j,v,h=>by simp[pzv]at h
 |y::Z,j,v,h=>by
  have a:(pzc y++pzv Z)[j]?=some v:=h
  by_cases b:j<7
  ·rw[jbk (by simp[pzc];omega)]at a
   exact⟨y,by rw[Nat.div_eq_of_lt b];rfl,by rw[Nat.mod_eq_of_lt b];exact a⟩
  ·rw[jS (by simp[pzc];omega)]at a
   obtain⟨z,c,d⟩:=aOs Z (j-7) v (by simpa [pzc] using a)
   refine⟨z,?_,?_⟩
   ·rw[show j/7=(j-7)/7+1 from by omega];exact c
   ·rw[show j%7=(j-7)%7 from by omega];exact d
theorem KAt.list{w:World}{f:Nat}{a:jO}{l:List PT}(h:KAt w (f+1) a l):∃Z:List PZ,Z.map (·.1)=l/\aAi w a (pzv Z)/\∀z∈Z,aA3 w f z.1 z.2.1.1 z.2.1.2 z.2.2.1 z.2.2.2:=by
 by_cases m:l=[]
 ·subst m
  exact⟨[],rfl,λh=>absurd rfl h,λz d=>by cases d⟩
 ·obtain⟨b,o,rfl,A⟩:=h.each m
  have g:∀i,i<l.length->∃z:PZ,z.1=l.getD i pt0/\aA1 w b (o+i*7) z.1 z.2.1.1 z.2.1.2 z.2.2.1 z.2.2.2/\aA3 w f z.1 z.2.1.1 z.2.1.2 z.2.2.1 z.2.2.2:=λi q=>by
   obtain⟨E,v,F,x,s,n⟩:=A i q
   exact⟨(_,(E,v),(F,x)),rfl,s,n⟩
  haveI:Inhabited PZ:=⟨(pt0,(none,0),(none,0))⟩
  obtain⟨Q,p⟩:=Go.Deep.choose_lt g
  refine⟨(List.range l.length).map Q,?_,λ_=>⟨b,o,rfl,λj u B=>?_⟩,λz d=>?_⟩
  ·apply List.ext_getElem (by simp)
   intro i s n
   simp only[List.getElem_map,List.getElem_range]
   rw[(p i n).1,jd,jc n]
   rfl
  ·obtain⟨z,d,c⟩:=aOs _ j u B
   have C:=(jN.1 d).1
   have k:j/7<l.length:=by simpa using C
   have y:z=Q (j/7):=by
    rw[jas,List.getElem?_range k]at d
    exact(jI d).symm
   obtain⟨_,t,_⟩:=p (j/7) k
   rw[<-y]at t
   obtain⟨c0,c1,c2,c3,c4,c5,c6⟩:=t
   have D:j%7<7:=Nat.mod_lt _ (by decide)
   rw[show o+j=o+j/7*7+j%7 from by omega]
   generalize j%7=r at*
   match r,D with
   |0,_=>obtain rfl:=jI c;exact c0
   |1,_=>obtain rfl:=jI c;exact c1
   |2,_=>obtain rfl:=jI c;exact c2
   |3,_=>obtain rfl:=jI c;exact c3
   |4,_=>obtain rfl:=jI c;exact c4
   |5,_=>obtain rfl:=jI c;exact c5
   |6,_=>obtain rfl:=jI c;exact c6
  ·obtain⟨i,q,rfl⟩:=jbi.1 d
   exact(p i (by simpa using q)).2.2
theorem KAt.of_list{w:World}{f:Nat}{a:jO}{Z:List PZ}(p:aAi w a (pzv Z))(hh:∀z∈Z,aA3 w f z.1 z.2.1.1 z.2.1.2 z.2.2.1 z.2.2.2):KAt w (f+1) a (Z.map (·.1)):=by
 intro k
 have n:Z≠[]:=λe=>k (by rw[e];rfl)
 obtain⟨b,o,e,g⟩:=p (λe=>by have:=aOy Z;rw[e]at this;cases Z with|nil=>exact n rfl|cons a l=>simp at this)
 refine⟨b,o,e,λi q=>?_⟩
 have d:i<Z.length:=by simpa using q
 have m:(Z.map (·.1)).getD i pt0=Z[i].1:=by simp[List.getD_eq_getElem?_getD,d]
 have s:Z[i]?=some Z[i]:=jc d
 have c:∀j v,(pzc Z[i])[j]?=some v->w.cell? ⟨b,o+i*7+j,none⟩=some v:=λj v r=>by
  have:=g (i*7+j) v (aOr Z i Z[i] s j v r)
  rwa [<-jcf]at this
 rw[m]
 exact⟨Z[i].2.1.1,Z[i].2.1.2,Z[i].2.2.1,Z[i].2.2.2,⟨c 0 _ rfl,c 1 _ rfl,c 2 _ rfl,c 3 _ rfl,c 4 _ rfl,c 5 _ rfl,c 6 _ rfl⟩,hh _ (jQ d)⟩
theorem aMb{w:World}{B e s n:Nat}{v:Value}{q:List Value}(h:w.ownsRow B e s v n q):∃p c,v=.slice p n c/\n<=c/\c<=maxLen/\(p=none->n=0/\c=0)/\aAi w p q:=by
 have l:=h
 rcases h.2 with⟨rfl,a⟩|⟨g,cap,r,rfl,x,hh,f,b,t,k⟩
 ·refine⟨none,0,by rw[a],by omega,by decide,λ_=>⟨a,rfl⟩,λi=>?_⟩
  have o:=h.1
  rw[a,jdr]at o
  exact absurd (js.1 o) i
 ·refine⟨some (jx g 0),cap,rfl,f,b,λe=>(by cases e),λ_=>⟨g,0,rfl,λj u m=>?_⟩⟩
  have d:=(jN.1 m).1
  rw[j0,l.cellAt j (by rw[<-l.1];exact d),m]
end Go.Proofs.YtbbfcbodhmeanaaGreatDoor
namespace Go.Proofs.YtbbfcbodhmeanaaGreatDoor
open Go.Proofs.Tryz
open Go.ChangeShapes Go.WideShapes Go.ChangeAt Go.RowKit
theorem KAt.up{w:World}:∀(f:Nat) (a:jO) (l:List PT),KAt w f a l->KAt w (f+1) a l
 |0,a,l,h=>λc=>absurd h c
 |f+1,a,l,h=>λc=>by
  obtain⟨b,o,e,m⟩:=h c
  refine⟨b,o,e,λi n=>?_⟩
  obtain⟨p,g,q,j,k,d⟩:=m i n
  exact⟨p,g,q,j,k,d.1,d.2.1,d.2.2.1,d.2.2.2.1,KAt.up f _ _ d.2.2.2.2⟩
theorem aMK:∃f0 f1 f2 f3 f4 f5 f6:Field,prog.underlying 25=some (.struct #[f0,f1,f2,f3,f4,f5,f6])/\
  (f0.offset=0/\f1.offset=1/\f2.offset=2/\f3.offset=3/\f4.offset=4/\f5.offset=5/\f6.offset=6)/\
  (f0.type=9/\f1.type=9/\f2.type=9/\f3.type=9/\f4.type=3/\f5.type=22/\f6.type=23):=
 ⟨_,_,_,_,_,_,_,underlying25,⟨rfl,rfl,rfl,rfl,rfl,rfl,rfl⟩,⟨rfl,rfl,rfl,rfl,rfl,rfl,rfl⟩⟩
theorem aDt{H:Type}{enc:TypeId×Value->H}{W:World}{g:Bool}{f:Nat}{cs:List Value}{x:DataW H×List MemPlace}
  (h:DataW.trod enc prog W 0 (λ_=>true) g f 22 cs=some x):
  ∃(a:jO) (c:Nat) (L:jB),cs=[.slice a L.length c]/\L.length<=c/\c<=maxLen/\(a=none->c=0)/\aAe W a L:=by
 rcases open_ints underlying22 underlying5 (by kernel_rfl) h with⟨d,_⟩|⟨a,l,c,zs,d,_,n,o,p,_,b,i⟩
 ·exact⟨none,0,[],d,jf _,by decide,λ_=>rfl,λh=>absurd rfl h⟩
 ·obtain⟨L,e,j,k,q,m⟩:=aI2 (w:=W) (a:=some a) (len:=l) (cap:=c) (zs:=zs) (.inr ⟨_,rfl,n,o,by simpa using p,b,i⟩)
  subst e
  exact⟨some a,c,L,d,j,k,(λh=>by cases h),m⟩
theorem aMI{H:Type}{enc:TypeId×Value->H}{W:World}{I:Bool}:∀(c:Nat) (cs:List Value) (x:DataW H×List MemPlace),
  DataW.trod enc prog W 0 (λ_=>true) I c 25 cs=some x->
  ∃(p:PT) (O:jO) (C:Nat) (pk:jO) (ck:Nat),cs=[.string p.ty,.string p.cs,.string p.id,.string p.loc,.int .i64 p.how,.slice O p.body.length C,.slice pk p.kids.length ck]/\aA3 W c p O C pk ck:=by
 intro c
 induction c using Nat.strongRecOn with
 |_ c ih=>
  intro cs x h
  obtain⟨f0,f1,f2,f3,f4,f5,f6,hu,⟨o0,o1,o2,o3,o4,o5,o6⟩,⟨t0,t1,t2,t3,t4,t5,t6⟩⟩:=aMK
  obtain⟨xs,n,aa,_,r,ac,A⟩:=DataW.trod_struct hu h
  have y:prog.cellsOf 25=7:=by kernel_rfl
  have k:prog.cellsOf 9=1:=by kernel_rfl
  have V:prog.cellsOf 3=1:=by kernel_rfl
  have T:prog.cellsOf 22=1:=by kernel_rfl
  have X:prog.cellsOf 23=1:=by kernel_rfl
  rw[y]at r
  match xs,ac,cs,r with
  |[y0,y1,y2,y3,y4,y5,y6],_,[v0,v1,v2,v3,v4,v5,v6],_=>
   have g0:=A 0 f0 rfl
   have g1:=A 1 f1 rfl
   have g2:=A 2 f2 rfl
   have g3:=A 3 f3 rfl
   have g4:=A 4 f4 rfl
   have g5:=A 5 f5 rfl
   have g6:=A 6 f6 rfl
   rw[t0,o0,k]at g0
   rw[t1,o1,k]at g1
   rw[t2,o2,k]at g2
   rw[t3,o3,k]at g3
   rw[t4,o4,V]at g4
   rw[t5,o5,T]at g5
   rw[t6,o6,X]at g6
   simp only[jbc,List.drop_succ_cons,List.take_succ_cons,jcq,List.getElem?_cons_zero,List.getElem?_cons_succ]at g0 g1 g2 g3 g4 g5 g6
   obtain⟨s0,e0,_,l0⟩:=jdd underlying9 g0
   obtain⟨s1,e1,_,l1⟩:=jdd underlying9 g1
   obtain⟨s2,e2,_,l2⟩:=jdd underlying9 g2
   obtain⟨s3,e3,_,l3⟩:=jdd underlying9 g3
   obtain⟨z,e4,_,hz⟩:=DataW.trod_int underlying3 g4
   obtain⟨O,C,d,e5,R,S,b3,b4⟩:=aDt g5
   have l:-9223372036854775808<=z/\z<=9223372036854775807:=by
    simp only[Lit.wf,j7,jam]at hz
    exact hz
   have F:d.length<=maxLen:=j1 R S
   rcases DataW.trod_slice underlying23 g6 with⟨Y,_⟩|⟨a,len,cap,Z,rest,m,hm,Y,_,_,M,G,ad,J,_,_⟩
   ·refine⟨⟨s0,s1,s2,s3,z,d,[]⟩,O,C,none,0,?_,⟨l0,l1,l2,l3,l.1,l.2,F,jy _⟩,⟨R,S,b3⟩,b4,⟨jf _,by decide,λ_=>rfl⟩,KAt.nil _ _ _⟩
    rw[(j4 e0).1,(j4 e1).1,(j4 e2).1,(j4 e3).1,(j4 e4).1,(j4 e5).1,(j4 Y).1]
    rfl
   ·have g:0<len->a.spot=none:=λf=>by
     have E:=J 0 f
     rw[y,jc (by omega)]at E
     obtain⟨U,v,B⟩:=Option.bind_eq_some_iff.1 E
     obtain⟨q,qb,qc,qk,qd,e,hq⟩:=ih m (by omega) U _ B
     obtain⟨_,_,t⟩:=World.cells?_some v
     subst e
     have:=t 0 (by omega)
     simpa [Addr.add] using World.cell?_spot (this.trans rfl)
    have D:∀i,i<len->∃q:PT,PAt W m a.block (a.off+i*7) q:=λi hi=>by
     have E:=J i hi
     rw[y,jc (by omega)]at E
     obtain⟨U,v,B⟩:=Option.bind_eq_some_iff.1 E
     obtain⟨q,qb,qc,qk,qd,e,hq⟩:=ih m (by omega) U _ B
     obtain⟨_,_,t⟩:=World.cells?_some v
     subst e
     have N:=g (by omega)
     obtain⟨b,o,P⟩:=a
     simp only at N
     subst N
     refine⟨q,qb,qc,qk,qd,?_,hq⟩
     have s:∀j,j<7->W.cell? ⟨b,o+i*7+j,none⟩=[Value.string q.ty,.string q.cs,.string q.id,.string q.loc,.int .i64 q.how,.slice qb q.body.length qc,.slice qk q.kids.length qd][j]?:=λj hj=>by
      have:=t j hj
      rw[jaa,jaa]at this
      exact this
     exact⟨s 0 (by omega),s 1 (by omega),s 2 (by omega),s 3 (by omega),s 4 (by omega),s 5 (by omega),s 6 (by omega)⟩
    haveI:Inhabited PT:=⟨pt0⟩
    obtain⟨Q,hQ⟩:=Go.Deep.choose_lt D
    refine⟨⟨s0,s1,s2,s3,z,d,(List.range len).map Q⟩,O,C,some a,cap,?_,⟨l0,l1,l2,l3,l.1,l.2,F,?_⟩,⟨R,S,b3⟩,b4,⟨?_,G,λh=>by cases h⟩,?_⟩
    ·rw[(j4 e0).1,(j4 e1).1,(j4 e2).1,(j4 e3).1,(j4 e4).1,(j4 e5).1,(j4 Y).1]
     simp
    ·simp;exact j1 M G
    ·simp;exact M
    ·rw[aa,hm]
     refine KAt.up _ _ _ λab=>?_
     have f:0<len:=by
      rcases jbo len with e|e
      ·subst e;exact absurd rfl ab
      ·exact e
     have N:=g f
     obtain⟨b,o,P⟩:=a
     simp only at N
     subst N
     refine⟨b,o,rfl,λi hi=>?_⟩
     have L:i<len:=by simpa using hi
     have e1:((List.range len).map Q).getD i pt0=Q i:=by simp[List.getD_eq_getElem?_getD,L]
     show PAt W m b (o+i*7) (((List.range len).map Q).getD i pt0)
     rw[e1]
     exact hQ i L
theorem aMJ{H:Type}{enc:TypeId×Value->H}{W:World}{base:Nat}{b:Bool}{a:Nat}{v:Value}{x:DataW H×List MemPlace}
  (k:Value.okWide prog W .any base 25 v)(h:DataW.trod enc prog W 0 (λ_=>true) b a 25 v.cells.toList=some x):
  ∃(p:PT) (f:jO) (c:Nat) (g:jO) (d F:Nat),v=.agg (jP p.ty p.cs p.id p.loc p.how f p.body.length c g p.kids.length d)/\aA3 W F p f c g d:=by
 obtain⟨cs,rfl,j⟩:=okWide_struct underlying25 k
 obtain⟨p,f,c,g,d,e,i⟩:=aMI a _ x h
 refine⟨p,f,c,g,d,a,?_,i⟩
 congr 1
 apply jbj.1
 exact e
end Go.Proofs.YtbbfcbodhmeanaaGreatDoor
namespace Go.Proofs.YtbbfcbodhmeanaaGreatDoor
open Go.RowKit
def InB(Q:Nat->Prop)(p:jO):Prop:=∀a,p=some a->Q a.block
def aAG(w:World)(Q:Nat->Prop):Nat->jO->List PT->Prop
 |0,_,l=>l=[]
 |f+1,a,l=>l≠[]->∃b o,a=some (jx b o)/\Q b/\∀i,i<l.length->∃pb cb pk ck,aA1 w b (o+i*7) (l.getD i pt0) pb cb pk ck/\InB Q pb/\aA4 (aAG w Q f) w (l.getD i pt0) pb cb pk ck
def aA2(w:World)(Q:Nat->Prop)(f:Nat)(p:PT)(pb:jO)(cb:Nat)(pk:jO)(ck:Nat):Prop:=InB Q pb/\aA4 (aAG w Q f) w p pb cb pk ck
theorem aAG.at{w:World}{Q:Nat->Prop}:∀(f:Nat) (a:jO) (l:List PT),aAG w Q f a l->KAt w f a l
 |0,_,_,h=>h
 |f+1,a,l,h=>λd=>by
  obtain⟨b,o,e,_,m⟩:=h d
  refine⟨b,o,e,λi n=>?_⟩
  obtain⟨p,g,q,j,k,_,c⟩:=m i n
  exact⟨p,g,q,j,k,c.1,c.2.1,c.2.2.1,c.2.2.2.1,aAG.at f _ _ c.2.2.2.2⟩
theorem aA2.held{w:World}{Q:Nat->Prop}{f:Nat}{p:PT}{c:jO}{a:Nat}{d:jO}{b:Nat}(h:aA2 w Q f p c a d b):aA3 w f p c a d b:=⟨h.2.1,h.2.2.1,h.2.2.2.1,h.2.2.2.2.1,aAG.at f _ _ h.2.2.2.2.2⟩
theorem aAG.nil(w:World)(Q:Nat->Prop)(f:Nat)(a:jO):aAG w Q f a []:=by
 cases f with
 |zero=>rfl
 |succ f=>exact λh=>absurd rfl h
theorem aAG.up{w:World}{Q:Nat->Prop}:∀(f:Nat) (a:jO) (l:List PT),aAG w Q f a l->aAG w Q (f+1) a l
 |0,a,l,h=>λc=>absurd h c
 |f+1,a,l,h=>λc=>by
  obtain⟨b,o,e,m,n⟩:=h c
  refine⟨b,o,e,m,λi p=>?_⟩
  obtain⟨q,g,r,j,k,hq,d⟩:=n i p
  exact⟨q,g,r,j,k,hq,d.1,d.2.1,d.2.2.1,d.2.2.2.1,aAG.up f _ _ d.2.2.2.2⟩
theorem aAe.move{w w':World}{Q:Nat->Prop}(g:∀b,Q b->b<w.heap.size->w'.heap[b]?=w.heap[b]?){p:jO}{l:jB}(h:aAe w p l)(hq:InB Q p):aAe w' p l:=by
 intro a
 obtain⟨b,o,e,f⟩:=h a
 refine⟨b,o,e,λi d=>?_⟩
 have c:=f i d
 rw[jbw (g b (hq _ e) (ji w _ c))]
 exact c
theorem aAG.move{w w':World}{Q:Nat->Prop}(g:∀b,Q b->b<w.heap.size->w'.heap[b]?=w.heap[b]?):∀(f:Nat) (a:jO) (l:List PT),aAG w Q f a l->aAG w' Q f a l
 |0,_,_,h=>h
 |f+1,a,l,h=>λm=>by
  obtain⟨b,o,e,n,s⟩:=h m
  refine⟨b,o,e,n,λi t=>?_⟩
  obtain⟨v,p,x,q,r,hq,c⟩:=s i t
  obtain⟨c0,c1,c2,c3,c4,c5,c6⟩:=r
  have d:=g b n (ji w _ c0)
  have k:∀j,w'.cell? (jx b j)=w.cell? (jx b j):=λj=>jbw d
  exact⟨v,p,x,q,⟨(k _).trans c0,(k _).trans c1,(k _).trans c2,(k _).trans c3,(k _).trans c4,(k _).trans c5,(k _).trans c6⟩,hq,c.1,c.2.1,aAe.move g c.2.2.1 hq,c.2.2.2.1,aAG.move g f _ _ c.2.2.2.2⟩
theorem aA2.move{w w':World}{Q:Nat->Prop}(d:∀b,Q b->b<w.heap.size->w'.heap[b]?=w.heap[b]?){f:Nat}{p:PT}{g:jO}{a:Nat}{i:jO}{c:Nat}(h:aA2 w Q f p g a i c):aA2 w' Q f p g a i c:=
 ⟨h.1,h.2.1,h.2.2.1,aAe.move d h.2.2.2.1 h.1,h.2.2.2.2.1,aAG.move d f _ _ h.2.2.2.2.2⟩
theorem aAG.kind{w:World}{Q j:Nat->Prop}(d:∀b,Q b->j b):∀(f:Nat) (a:jO) (l:List PT),aAG w Q f a l->aAG w j f a l
 |0,_,_,h=>h
 |f+1,a,l,h=>λg=>by
  obtain⟨b,o,e,q,r⟩:=h g
  refine⟨b,o,e,d b q,λi s=>?_⟩
  obtain⟨t,k,v,m,n,hq,c⟩:=r i s
  exact⟨t,k,v,m,n,(λa p=>d _ (hq a p)),c.1,c.2.1,c.2.2.1,c.2.2.2.1,aAG.kind d f _ _ c.2.2.2.2⟩
theorem aA2.kind{w:World}{Q c:Nat->Prop}(i:∀b,Q b->c b){f:Nat}{p:PT}{j:jO}{d:Nat}{k:jO}{g:Nat}(h:aA2 w Q f p j d k g):aA2 w c f p j d k g:=
 ⟨λa l=>i _ (h.1 a l),h.2.1,h.2.2.1,h.2.2.2.1,h.2.2.2.2.1,aAG.kind i f _ _ h.2.2.2.2.2⟩
theorem aA2.below{w w':World}{Q:Nat->Prop}{f:Nat}{p:PT}{g:jO}{c:Nat}{i:jO}{d:Nat}(h:aA2 w Q f p g c i d)(j:jb w w'):aA2 w' Q f p g c i d:=h.move λb _ a=>j.block b a
theorem aMa{w:World}{B b e s n k c:Nat}{p:jO}{o:List Value}(h:w.ownsRow B e s (.slice p n c) k o)(i:b<=B):∀a,p=some a->b<=a.block/\a.block<w.heap.size:=by
 intro a j
 subst j
 rcases h.2 with⟨f,_⟩|⟨g,cap,d,m,l,hh,_⟩
 ·cases f
 ·cases m
  exact⟨j1 i l,(jl.1 hh).1⟩
theorem aAG.of_list{w:World}{Q:Nat->Prop}{f B n:Nat}{v:Value}{Z:List PZ}(p:w.ownsRow B 25 7 v n (pzv Z))(E:n=Z.length)(y:∀b,B<=b->b<w.heap.size->Q b)(hh:∀z∈Z,aA2 w Q f z.1 z.2.1.1 z.2.1.2 z.2.2.1 z.2.2.2):
  ∃q c,v=.slice q n c/\n<=c/\c<=maxLen/\(q=none->c=0)/\aAG w Q (f+1) q (Z.map (·.1)):=by
 subst E
 obtain⟨q,c,rfl,s,t,x,C⟩:=aMb p
 refine⟨q,c,rfl,s,t,λh=>(x h).2,λl=>?_⟩
 have A:Z≠[]:=λe=>l (by rw[e];rfl)
 have F:pzv Z≠[]:=λe=>by
  have:=jab List.length e
  rw[aOy,jag]at this
  exact A (js.1 (by omega))
 obtain⟨b,o,rfl,d⟩:=C F
 have m:=aMa p (jf _) _ rfl
 refine⟨b,o,rfl,y b m.1 m.2,λi k=>?_⟩
 rw[jD]at k
 have r:Z[i]?=some Z[i]:=jc k
 have e1:(Z.map (·.1)).getD i pt0=Z[i].1:=by simp[List.getD_eq_getElem?_getD,List.getElem?_map,r]
 have a:∀j u,(pzc Z[i])[j]?=some u->w.cell? ⟨b,o+i*7+j,none⟩=some u:=λj u D=>by
  have:=d (i*7+j) u (aOr Z i Z[i] r j u D)
  rwa [<-jcf]at this
 have g:=hh _ (jQ k)
 rw[e1]
 exact⟨Z[i].2.1.1,Z[i].2.1.2,Z[i].2.2.1,Z[i].2.2.2,⟨a 0 _ rfl,a 1 _ rfl,a 2 _ rfl,a 3 _ rfl,a 4 _ rfl,a 5 _ rfl,a 6 _ rfl⟩,g.1,g.2⟩
end Go.Proofs.YtbbfcbodhmeanaaGreatDoor

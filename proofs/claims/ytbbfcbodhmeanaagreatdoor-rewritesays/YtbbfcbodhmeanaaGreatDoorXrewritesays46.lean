import Derived.Test.YtbbfcbodhmeanaaGreatDoorXrewritesays45
set_option maxHeartbeats 8000000
set_option maxRecDepth 1000000
namespace Go.Proofs.YtbbfcbodhmeanaaGreatDoor
open Go.Proofs.Tryz
open Go.RowKit
theorem aIO:(prog.info? 9).map (λi=>(i.zero,i.size,i.bytes))=some (some (.string jz),1,16):=by kernel_rfl
theorem aDK(w:World)(v:Value)(t:TypeId):∀j x,[v][j]?=some x->(w.alloc (.cells #[v] t)).cell? (((jx w.heap.size 0):Addr).add j)=some x:=by
 intro j x a
 match j,a with
 |0,a=>simp at a;subst a;simp[Addr.add]
theorem aL1(T:jA):∀u∈[Value.string T],u.oneCell'=true:=by
 intro u a
 simp at a
 subst a
 rfl
theorem aQD{w:World}{B e s n:Nat}{v:Value}{d:List Value}(h:w.ownsRow B e s v n d):∃a c,v=.slice a n c:=by
 rcases h.2 with⟨rfl,rfl⟩|⟨g,cap,b,rfl,_⟩
 ·exact⟨none,0,rfl⟩
 ·exact⟨some (jx g 0),cap,rfl⟩
theorem aST(a:Array Obj)(x y z:Obj):(((a.push x).push y).push z)[a.size]?=some x/\(((a.push x).push y).push z)[a.size+1]?=some y/\(((a.push x).push y).push z)[a.size+2]?=some z:=by
 have b:(a.push x).size=a.size+1:=Array.size_push ..
 have c:((a.push x).push y).size=a.size+2:=by rw[Array.size_push,b]
 refine⟨?_,?_,?_⟩
 ·rw[j2,jh (by omega),j2,jh (by omega),j2,jo rfl]
 ·rw[j2,jh (by omega),j2,jo (by omega)]
 ·rw[j2,jo (by omega)]
abbrev FnW(g g2:Nat):Value:=.func (Fn.func 60) #[] #[.pointer (some (jx g 0)),.pointer (some (jx g2 0))]
structure WAt(w:World)(g g2:Nat)(W:World)(acc:List jB):Prop where
 bel:jb w W
 hg:w.heap.size<=g
 hg2:g<g2
 out:∃v,W.heap[g]?=some (.cells #[v] 26)/\W.ownsRow (g2+1) 9 1 v acc.length (wtv acc)
 wk:W.heap[g2]?=some (.cells #[FnW g g2] 97)
theorem WAt.below{w:World}{g d:Nat}{W c:World}{a:List jB}(h:WAt w g d W a)(b:jb W c):WAt w g d c a:=by
 obtain⟨v,f,i⟩:=h.out
 exact⟨h.bel.trans (b.mono h.bel.size),h.hg,h.hg2,⟨v,aDj f b,aMm i b⟩,aDj h.wk b⟩
theorem aVo(a:List jB)(x:jB):wtv (a++[x])=wtv a++[.string (tx8 x)]:=by simp[wtv]
theorem WAt.push{w:World}{g c:Nat}{W d:World}{a:List jB}{x:jB}{v r:Value}{o:Obj}(h:WAt w g c W a)(y:W.heap[g]?=some (.cells #[v] 26))(F:W.ownsRow (c+1) 9 1 v a.length (wtv a))
  (j:d.ownsRow (c+1) 9 1 r (a.length+1) (wtv a++[.string (tx8 x)]))(f:(W.alloc o).grownBy d v.ownBlock):WAt w g c (d.setCell (jx g 0) r) (a++[x]):=by
 have q:g<W.heap.size:=(jl.1 y).1
 have i:c<W.heap.size:=(jl.1 h.wk).1
 have b:=F.lt
 have t:=h.hg
 have A:=h.hg2
 have e1:d.heap[g]?=some (.cells #[v] 26):=by rw[f.block g (by simp;omega) (λe=>by have:=b g e.symm;omega),j9 _ _ _ q];exact y
 have z:d.heap[c]?=some (.cells #[FnW g c] 97):=by rw[f.block c (by simp;omega) (λe=>by have:=b c e.symm;omega),j9 _ _ _ i];exact h.wk
 have n:jb w d:=(h.bel.alloc h.bel.size o).grown f (by have:=h.bel.size;simp;omega) (λk E=>by have:=b k E;omega)
 refine⟨n.setCell (p:=jx g 0) t _,t,A,⟨r,?_,?_⟩,?_⟩
 ·rw[heap_setCell_same d g 0 _ _ _ e1]
  rfl
 ·rw[aVo,je]
  refine⟨j.1,?_⟩
  rcases j.2 with m|⟨s,cap,l,m,B,C,D⟩
  ·exact .inl m
  ·refine .inr ⟨s,cap,l,m,B,?_,D⟩
   show(d.heap.modify g _)[s]?=_
   rw[jah,jh (by omega)]
   exact C
 ·show(d.heap.modify g _)[c]?=_
  rw[jah,jh (by omega)]
  exact z
theorem aUU(w:World)(hM:∀W,Below w.heap.size w W->aAP W)(g d:Nat):∀(f F:Nat) (p:PT) (A:Option Addr) (y:Nat) (m:Option Addr) (s:Nat) (c:List UInt8) (a:List (List UInt8)) (W:World),lev f p=true->c.length<=120->a.length+(aU4 f p c).length<=1000->aA3 w F p A y m s->WAt w g d W a->
  Calls prog 60 #[.agg #[.string p.ty,.string p.cs,.string p.id,.string p.loc,.int .i64 p.how,.slice A p.body.length y,.slice m p.kids.length s],.string (tx8 c),.pointer (some ⟨g,0,none⟩),.pointer (some ⟨d,0,none⟩)] W
   λe w'=>e=.returned (.tuple #[])/\WAt w g d w' (a++aU4 f p c):=by
 intro f
 induction f with
 |zero=>intro F p A y m s c a W hl;rw[lev]at hl;cases hl
 |succ f ih=>
  intro F p A y m s c a W hl a8 z hH U
  rw[aJ7,jR]at hl
  have HR:Hid (aU4 (f+1) p c=meR c p::p.kids.flatMap λk=>aU4 f k (meR c p)):=aU5 f p c
  rw[aU5,jm]at z
  obtain⟨bo,aR⟩:=aLe c p a8
  have aO:p.loc.size<=maxLen:=hH.1.2.2.2.1
  have CL:Hid (∀D,Below w.heap.size w D->Calls prog 13 #[.string (tx8 (aBM c)),.string p.loc] D λe w'=>e=.returned (.string (tx8 (aJT (aBM c) p.loc.data.toList)))/\Below D.heap.size D w'):=λD hb=>aPh (tx8 (aBM c)) p.loc (by show(aBM c).toArray.size<=maxLen;simp;unfold maxLen;omega) aO D (hM D hb)
  have L:Hid (p.kids≠[]->∃F' b o,F=F'+1/\m=some ⟨b,o,none⟩/\∀i,i<p.kids.length->PAt w F' b (o+i*7) (p.kids.getD i pt0)):=λP=>by
   have hk:KAt w F m p.kids:=hH.2.2.2.2
   cases F with
   |zero=>exact absurd hk P
   |succ F'=>
    obtain⟨b,o,e1,e2⟩:=hk.each P
    exact⟨F',b,o,rfl,e1,e2⟩
  have bc:p.kids.length<=9223372036854775807:=by have:=hH.1.2.2.2.2.2.2.2;unfold maxLen at this;exact this
  have IH:Hid (∀(F:Nat) (k:PT) (A:Option Addr) (y:Nat) (m:Option Addr) (s:Nat) (bh:List UInt8) (a:List (List UInt8)) (W:World),k∈p.kids->bh.length<=120->a.length+(aU4 f k bh).length<=1000->aA3 w F k A y m s->WAt w g d W a->
   Calls prog 60 #[.agg #[.string k.ty,.string k.cs,.string k.id,.string k.loc,.int .i64 k.how,.slice A k.body.length y,.slice m k.kids.length s],.string (tx8 bh),.pointer (some ⟨g,0,none⟩),.pointer (some ⟨d,0,none⟩)] W λe w'=>e=.returned (.tuple #[])/\WAt w g d w' (a++aU4 f k bh)):=λF k A y m s bh a W hk h1 h2 h3 h4=>ih F k A y m s bh a W (hl k hk) h1 h2 h3 h4
  obtain⟨i0,hi,be,bf,bg⟩:=jao aIO
  obtain⟨n,hn⟩:∃n,p.kids.length=n:=⟨_,rfl⟩
  have HN:Hid (p.kids.length=n):=hn
  obtain⟨nb,aS⟩:∃n,p.body.length=n:=⟨_,rfl⟩
  rw[hn]at L bc⊢
  rw[aS]
  have ab:Hid (a.length+((p.kids.flatMap λk=>aU4 f k (meR c p)).length+1)<=1000):=z
  obtain⟨t,M⟩:∃w1,W.alloc (.cells #[.string p.ty,.string p.cs,.string p.id,.string p.loc,.int .i64 p.how,.slice A nb y,.slice m n s] 25)=w1:=⟨_,rfl⟩
  have G:Below W.heap.size W t:=by rw[<-M];exact(jr _ _).alloc (jf _) _
  have k1:t.heap[W.heap.size]?=some (.cells #[.string p.ty,.string p.cs,.string p.id,.string p.loc,.int .i64 p.how,.slice A nb y,.slice m n s] 25):=by rw[<-M];exact aDi W _
  have aw:Hid (WAt w g d t a):=U.below G
  have aG:Hid (W.alloc (.cells #[.string p.ty,.string p.cs,.string p.id,.string p.loc,.int .i64 p.how,.slice A nb y,.slice m n s] 25)=t):=M
  obtain⟨v,hv,am⟩:=U.out
  have I:=am.lt
  have bq:=U.hg
  have bl:=U.hg2
  have T:Below w.heap.size w t:=U.bel.trans (G.mono U.bel.size)
  have aV:=aDj hv G
  have X:=aMm am G
  have bb:g<W.heap.size:=(jl.1 hv).1
  have aN:d<W.heap.size:=(jl.1 U.wk).1
  have aF:Hid (t.heap[g]?=some (.cells #[v] 26)):=aV
  have aD:Hid (t.ownsRow (d+1) 9 1 v a.length (wtv a)):=X
  have az:Hid (Below w.heap.size w t):=T
  obtain⟨J,ai⟩:∃b,W.heap.size=b:=⟨_,rfl⟩
  rw[ai]at k1 I bb aN
  have aA:Hid (W.heap.size=J):=ai
  have aB:Hid (t.heap[J]?=some (.cells #[.string p.ty,.string p.cs,.string p.id,.string p.loc,.int .i64 p.how,.slice A nb y,.slice m n s] 25)):=k1
  have S:Hid (∀k,v.ownBlock=some k->d+1<=k/\k<J):=I
  have y3:t.cell? ⟨J,3,none⟩=some (.string p.loc):=(aDe k1 3).trans rfl
  have bk:=ab.out
  clear hn aS ih hH hl z U M hv am I G aV X k1 ai T
  go_enter func60,ntmps60
  go_upto_region 1 with fail
  rw[aG.out,aA.out]
  go_upto_if 10 with fail
  go_cut[1] (λu w'=>u=.string (tx8 (aBM c))/\w'=t)
  case first=>
   by_cases B:c=[]
   ·have j:(tx8 c).toList.isEmpty=true:=by rw[jj,B];rfl
    have aa:Hid (tx8 (aBM c)=⟨#[116,104,105,115,109,101,115,115,97,103,101,58,47]⟩):=by unfold Hid aBM;rw[jo B];rfl
    clear B
    rw[j]
    go_wp2_with fail
    go_meet
    exact⟨by rw[aa.out],rfl⟩
   ·have j:(tx8 c).toList.isEmpty=false:=by
     rw[jj]
     cases h:c with
     |nil=>exact absurd h B
     |cons _ _=>rfl
    have aa:Hid (tx8 (aBM c)=tx8 c):=by unfold Hid aBM;rw[jh B]
    clear B
    rw[j]
    go_wp2_with fail
    go_meet
    exact⟨by rw[aa.out],rfl⟩
  case rest=>
  obtain⟨aT,Y⟩:=hcut
  rw[aT,Y]
  clear aT Y
  go_upto_if 14 with fail
  go_cut[6] (λu w'=>u=.string (tx8 (meR c p))/\Below t.heap.size t w')
  case first=>
   by_cases B:p.loc.data.toList=[]
   ·have j:p.loc.toList.isEmpty=true:=by rw[jj,B];rfl
    have ac:Hid (tx8 (meR c p)=tx8 (aBM c)):=by unfold Hid meR;rw[jo B]
    clear B CL
    rw[j]
    go_wp2_with fail
    go_meet
    exact⟨by rw[ac.out],jr _ _⟩
   ·have j:p.loc.toList.isEmpty=false:=by
     rw[jj]
     cases h:p.loc.data.toList with
     |nil=>exact absurd h B
     |cons _ _=>rfl
    have ac:Hid (tx8 (meR c p)=tx8 (aJT (aBM c) p.loc.data.toList)):=by unfold Hid meR;rw[jh B]
    clear B
    rw[j]
    go_wp2_with fail
    refine(CL.out _ az.out).mono ?_
    rintro e w' ⟨rfl,aM⟩
    have aZ:Hid (Below t.heap.size t w'):=aM
    clear CL aM
    go_wp2_with fail
    go_meet
    exact⟨by rw[ac.out],aZ.out⟩
  case rest=>
  obtain⟨aU,C⟩:=hcut
  rw[aU]
  obtain⟨w2,aX⟩:∃W,W=wc:=⟨_,rfl⟩
  rw[<-aX]at C⊢
  clear aU aX
  have an:=aDj aF.out C
  have ad:Hid (w2.ownsRow (d+1) 9 1 v a.length (wtv a)):=aMm aD.out C
  have ax:Hid (WAt w g d w2 a):=aw.out.below C
  have aj:=aDj aB.out C
  have bm:J<w2.heap.size:=(jl.1 aj).1
  have ae:Hid (w2.heap[g]?=some (.cells #[v] 26)):=an
  have aC:Hid (w2.heap[J]?=some (.cells #[.string p.ty,.string p.cs,.string p.id,.string p.loc,.int .i64 p.how,.slice A nb y,.slice m n s] 25)):=aj
  have cg:w2.cell? ⟨g,0,none⟩=some v:=(aDe an 0).trans rfl
  obtain⟨r,aQ⟩:∃x,meR c p=x:=⟨_,rfl⟩
  rw[aQ]at HR ab aR⊢
  clear aQ C an aj aw aF aD aB CL y3 az aG aA
  go_wp2_with (at_builtin;refine jX _ rfl (.tmp 19) (.tmp 21) 26 rfl (d+1) 9 i0 (.string ⟨#[]⟩) 1 16 underlying26 hi be bf bg rfl (by decide) _ _ _ rfl (ad.out.alloc _) ⟨w2.heap.size,0,none⟩ 1 1 [.string (tx8 r)] rfl rfl (aDK _ _ _) (aL1 _) ?d1 ?d2 ?d3 ?_)
  case d1=>unfold maxLen;omega
  case d2=>omega
  case d3=>simp;omega
  intro v9 w9 l O _
  obtain⟨p9,c9,aW⟩:=aQD l
  rw[aW]at l⊢
  clear aW
  have HP:Hid (WAt w g d (w9.setCell ⟨g,0,none⟩ (.slice p9 (a.length+1) c9)) (a++[r])):=ax.out.push ae.out ad.out l O
  have e1:w9.heap[g]?=some (.cells #[v] 26):=by rw[O.block g (by simp;omega) (λe=>by have:=S.out g e.symm;omega),j9 _ _ _ (by omega)];exact ae.out
  have e2:w9.heap[J]?=some (.cells #[.string p.ty,.string p.cs,.string p.id,.string p.loc,.int .i64 p.how,.slice A nb y,.slice m n s] 25):=by rw[O.block J (by simp;omega) (λe=>by have:=S.out J e.symm;omega),j9 _ _ _ (by omega)];exact aC.out
  have a0:w9.cell? ⟨g,0,none⟩=some v:=(aDe e1 0).trans rfl
  have a5:w9.frozen? ⟨g,0,none⟩=false:=aDg e1 0
  obtain⟨W4,N⟩:∃W,w9.setCell ⟨g,0,none⟩ (.slice p9 (a.length+1) c9)=W:=⟨_,rfl⟩
  have c6:W4.cell? ⟨J,6,none⟩=some (.slice m n s):=by
   rw[<-N]
   exact(jae _ _ _ _ (λe=>by injection e with e;omega)).trans ((aDe e2 6).trans rfl)
  rw[N]at HP
  have aH:Hid (w9.setCell ⟨g,0,none⟩ (.slice p9 (a.length+1) c9)=W4):=N
  clear N l O e1 e2 ax ae ad aC cg
  go_upto_region 7 with fail
  rw[aH.out]
  clear a0 a5 aH
  go_wp2_with fail
  go_loopw[26] (λiv wr=>∃k:Nat,k<=n/\iv=.int .i64 k/\Hid (WAt w g d wr (a++r::(p.kids.take k).flatMap λk=>aU4 f k r))) (λiv _=>n-(intOf iv).toNat)
  case atStart=>exact⟨0,jy _,rfl,HP⟩
  case round=>
   obtain⟨k,hk,rfl,HJ⟩:=hrel
   clear HP c6
   by_cases aP:k<n
   ·have bd:(k:Int)<(n:Int):=by omega
    have P:p.kids≠[]:=λe=>by have:=HN.out;rw[e]at this;simp at this;omega
    obtain⟨F',bp,op,bn,rfl,aL⟩:=L.out P
    have ak:k<p.kids.length:=by rw[HN.out];exact aP
    have aE:=aL k aP
    have H:p.kids.getD k pt0∈p.kids:=by simp[List.getD_eq_getElem?_getD,List.getElem?_eq_getElem ak]
    have hT:(p.kids.take (k+1)).flatMap (λk=>aU4 f k r)=(p.kids.take k).flatMap (λk=>aU4 f k r)++aU4 f (p.kids.getD k pt0) r:=by
     rw[jan,jc ak,jbz,jd,jc ak]
     congr 1
     show List.flatMap _ [p.kids[k]]=_
     simp
    have al:((p.kids.take (k+1)).flatMap λk=>aU4 f k r).length<=(p.kids.flatMap λk=>aU4 f k r).length:=by
     conv=>rhs;rw[<-jaq (k+1) p.kids,jbz,je]
     omega
    rw[hT,je]at al
    obtain⟨E,aK⟩:∃E,p.kids.getD k pt0=E:=⟨_,rfl⟩
    rw[aK]at aE hT al H
    obtain⟨a1,a2,a3,a4,a6,aJ⟩:=aE
    obtain⟨d0,d1,d2,d3,d4,d5,d6⟩:=a6
    have a9:bp<w.heap.size:=ji w _ d0
    have Z:∀o v,w.cell? ⟨bp,o,none⟩=some v->wr.cell? ⟨bp,o,none⟩=some v:=λo v h=>(HJ.out.bel.cell (p:=⟨bp,o,none⟩) a9).trans h
    have x0:=Z _ _ d0
    have x1:=Z _ _ d1
    have x2:=Z _ _ d2
    have x3:=Z _ _ d3
    have x4:=Z _ _ d4
    have x5:=Z _ _ d5
    have x6:=Z _ _ d6
    have af:Hid (∀D,WAt w g d D (a++r::(p.kids.take k).flatMap λk=>aU4 f k r)->Calls prog 60 #[.agg #[.string E.ty,.string E.cs,.string E.id,.string E.loc,.int .i64 E.how,.slice a1 E.body.length a2,.slice a3 E.kids.length a4],.string (tx8 r),.pointer (some ⟨g,0,none⟩),.pointer (some ⟨d,0,none⟩)] D λe w'=>e=.returned (.tuple #[])/\WAt w g d w' (a++r::(p.kids.take (k+1)).flatMap λk=>aU4 f k r)):=λD a7=>by
     have h:=IH.out F' E a1 a2 a3 a4 r _ D H aR (by have:=ab.out;simp only[je,jm];omega) aJ a7
     rw[hT]
     rw[jJ,jL]at h
     exact h
    clear aL aK aJ L hT al H d0 d1 d2 d3 d4 d5 d6 Z IH
    obtain⟨av,ao,aq,ar,ap,bi,bj⟩:=E
    simp only at x0 x1 x2 x3 x4 x5 x6 af
    generalize bi.length=m1 at*
    generalize bj.length=m2 at*
    generalize (a++r::(p.kids.take k).flatMap λk=>aU4 f k r)=A0 at*
    go_upto_region 10 with fail
    obtain⟨V,hV⟩:∃W,W=wr.alloc (.cells #[.string av,.string ao,.string aq,.string ar,.int .i64 ap,.slice a1 m1 a2,.slice a3 m2 a4] 25):=⟨_,rfl⟩
    have R:V.heap[wr.heap.size]?=some (.cells #[.string av,.string ao,.string aq,.string ar,.int .i64 ap,.slice a1 m1 a2,.slice a3 m2 a4] 25):=by rw[hV];exact aDi wr _
    have ag:WAt w g d V A0:=by rw[hV];exact HJ.out.below ((jr _ _).alloc (jf _) _)
    rw[<-hV]
    obtain⟨q,hq⟩:∃k,wr.heap.size=k:=⟨_,rfl⟩
    rw[hq]at R⊢
    have ay:Hid (WAt w g d V A0):=ag
    have cw:V.cell? ⟨d,0,none⟩=some (FnW g d):=(aDe ag.wk 0).trans rfl
    have z0:V.cell? ⟨q,0,none⟩=some (.string av):=(aDe R 0).trans rfl
    have z1:V.cell? ⟨q,1,none⟩=some (.string ao):=(aDe R 1).trans rfl
    have z2:V.cell? ⟨q,2,none⟩=some (.string aq):=(aDe R 2).trans rfl
    have z3:V.cell? ⟨q,3,none⟩=some (.string ar):=(aDe R 3).trans rfl
    have z4:V.cell? ⟨q,4,none⟩=some (.int .i64 ap):=(aDe R 4).trans rfl
    have z5:V.cell? ⟨q,5,none⟩=some (.slice a1 m1 a2):=(aDe R 5).trans rfl
    have z6:V.cell? ⟨q,6,none⟩=some (.slice a3 m2 a4):=(aDe R 6).trans rfl
    clear hV ag R hq x0 x1 x2 x3 x4 x5 x6 HJ
    go_wp2_with fail
    refine(af.out _ ay.out).mono ?_
    rintro e w' ⟨rfl,aI⟩
    have aY:Hid _:=aI
    clear af ay cw z0 z1 z2 z3 z4 z5 z6 aI
    go_wp2_with fail
    go_roundw
    case rel=>exact⟨k+1,by omega,by go_num,aY⟩
    case measure=>simp[intOf];omega
   ·have bd:¬((k:Int)<(n:Int)):=by omega
    have HF:Hid (WAt w g d wr (a++aU4 (f+1) p c)):=by
     unfold Hid
     rw[HR.out]
     have h:=HJ.out
     rw[jK (by rw[HN.out];omega)]at h
     exact h
    clear HJ IH L
    go_wp2_with fail
    go_end0
    exact⟨rfl,HF.out⟩
theorem aPM(f F:Nat)(p:PT)(j:jO)(c:Nat)(k:jO)(d:Nat)(w:World)(G:∀W,jb w W->aAP W)(H:lev f p=true)(a:(aU4 f p []).length<=1000)(E:aA3 w F p j c k d):
  Calls prog 16 #[.agg (jP p.ty p.cs p.id p.loc p.how j p.body.length c k p.kids.length d)] w
   λe w'=>∃v,e=.returned v/\jb w w'/\w'.ownsRow w.heap.size 9 1 v (aU4 f p []).length (wtv (aU4 f p [])):=by
 have A:Hid (∀g m W,WAt w g m W []->Calls prog 60 #[.agg (jP p.ty p.cs p.id p.loc p.how j p.body.length c k p.kids.length d),.string jz,.pointer (some (jx g 0)),.pointer (some (jx m 0))] W λe w'=>e=.returned (.tuple #[])/\WAt w g m w' (aU4 f p [])):=λg m W R=>by
  have h:=aUU w G g m f F p j c k d [] [] W H (by simp) (by simpa using a) E R
  rw[jaf]at h
  exact h
 generalize aU4 f p []=b at*
 generalize p.body.length=z at*
 generalize p.kids.length=n at*
 clear E H a G
 obtain⟨V,l⟩:∃W,W=((w.alloc (.cells (jP p.ty p.cs p.id p.loc p.how j z c k n d) 25)).alloc (.cells #[.slice none 0 0] 26)).alloc (.cells #[FnW (w.heap.size+1) (w.heap.size+2)] 97):=⟨_,rfl⟩
 have o:jb w V:=by rw[l];exact((ja _ _).alloc (by simp) _).alloc (by simp;omega) _
 have s:V.heap[w.heap.size+2]?=some (.cells #[FnW (w.heap.size+1) (w.heap.size+2)] 97):=by rw[l];exact(aST w.heap _ _ _).2.2
 have D:V.heap[w.heap.size+1]?=some (.cells #[.slice none 0 0] 26):=by rw[l];exact(aST w.heap _ _ _).2.1
 have b0:V.heap[w.heap.size]?=some (.cells (jP p.ty p.cs p.id p.loc p.how j z c k n d) 25):=by rw[l];exact(aST w.heap _ _ _).1
 have B:Hid (WAt w (w.heap.size+1) (w.heap.size+2) V []):=⟨o,by omega,by omega,⟨.slice none 0 0,D,jT _ _ _ _⟩,s⟩
 have C:Hid _:=l
 have N:V.cell? (jx (w.heap.size+2) 0)=some (FnW (w.heap.size+1) (w.heap.size+2)):=(aDe s 0).trans rfl
 have S:V.cell? (jx w.heap.size 0)=some (.string p.ty):=(aDe b0 0).trans rfl
 have T:V.cell? (jx w.heap.size 1)=some (.string p.cs):=(aDe b0 1).trans rfl
 have U:V.cell? (jx w.heap.size 2)=some (.string p.id):=(aDe b0 2).trans rfl
 have X:V.cell? (jx w.heap.size 3)=some (.string p.loc):=(aDe b0 3).trans rfl
 have Y:V.cell? (jx w.heap.size 4)=some (.int .i64 p.how):=(aDe b0 4).trans rfl
 have Z:V.cell? (jx w.heap.size 5)=some (.slice j z c):=(aDe b0 5).trans rfl
 have z6:V.cell? (jx w.heap.size 6)=some (.slice k n d):=(aDe b0 6).trans rfl
 clear l o b0 D s
 go_enter func16,ntmps16
 go_upto_region 4 with fail
 rw[<-C.out]
 go_wp2_with fail
 refine(A.out _ _ _ B.out).mono ?_
 rintro e w' ⟨rfl,i⟩
 obtain⟨v,y,q⟩:=i.out
 obtain⟨J,I,r⟩:=aQD q
 rw[r]at y q
 have cv:w'.cell? (jx (w.heap.size+1) 0)=some (.slice J b.length I):=(aDe y 0).trans rfl
 have L:Hid _:=i.bel
 have M:Hid (w'.ownsRow w.heap.size 9 1 (.slice J b.length I) b.length (wtv b)):=by
  refine⟨q.1,?_⟩
  rcases q.2 with x|⟨O,cap,t,x,h4,P⟩
  ·exact .inl x
  ·exact .inr ⟨O,cap,t,x,by omega,P⟩
 clear i y q r A B N S T U X Y Z z6 C
 go_wp2_with fail
 go_ret
 exact⟨_,rfl,L.out,M.out⟩
theorem aCC:∀(l:List PT),aCB l=0->∀x∈l,aEb x=0
 |[],_,x,a=>by simp at a
 |y::l,h,x,a=>by
  rw[aCB]at h
  split at h
  ·rename_i b
   rcases jad.1 a with rfl|a
   ·exact b
   ·exact aCC l h x a
  ·rename_i b
   exact absurd h b
theorem aEe(p:PT)(h:(aNh p).1=0):∀x∈aG3 4 p,aEb x=0:=by
 refine aCC _ ?_
 have b:=aNr p
 unfold aNh at h
 by_cases c:lev 3 p=true/\(aTg 4 p).length<=12
 ·rw[jo c]at b
  rw[b]at h
  simp only at h
  by_cases a:aGO ((aTg 4 p).map (abs 0 (-1)))=0
  ·rw[<-aCD,jcm]at a
   rw[<-aTh]
   exact a
  ·rw[jh a]at h
   exact absurd h a
 ·rw[jh c]at b
  rw[b]at h
  cases h
theorem aEh{x:PT}(h:aEb x=0):x.id.size<=120/\x.body.length<=4000:=by
 unfold aEb at h
 split at h
 ·cases h
 ·rename_i d
  split at h
  ·cases h
  ·split at h
   ·cases h
   ·rename_i c
    refine⟨?_,by omega⟩
    have a:aSK x=true:=by cases f:aSK x<;>simp_all
    unfold aSK at a
    simp only[j7]at a
    have b:=a.1.2
    unfold aVe at b
    simp only[j7,jam]at b
    rw[Lib.size_eq]
    exact b.1
def aAw(V:World)(ab ao:Nat)(L:List PT):Prop:=∀i,i<L.length->(∃pb cb pk ck,aA1 V ab (ao+i*7) (L.getD i pt0) pb cb pk ck/\aAe V pb (L.getD i pt0).body/\(pb=none->(L.getD i pt0).body.length=0/\cb=0))/\(L.getD i pt0).ty.size<=maxLen
def aBp(V:World)(wb wo:Nat)(wh:List jB):Prop:=∀i,i<wh.length->V.cell? (jx wb (wo+i))=some (.string (tx8 (wh.getD i [])))
theorem aHa{V:World}{F:Nat}{d f:Nat}{L:List PT}(h:KAt V (F+1) (some (jx d f)) L):aAw V d f L:=by
 intro i c
 obtain⟨b,o,e,m⟩:=h (λe=>by rw[e]at c;simp at c)
 cases e
 obtain⟨n,g,p,j,k,a⟩:=m i c
 refine⟨⟨n,g,p,j,k,a.2.2.1,λe=>?_⟩,a.1.1⟩
 have l:=a.2.1.2.2 e
 have q:=a.2.1.1
 exact⟨by omega,l⟩
theorem aBp.below{w w':World}{a b:Nat}{d:List jB}(h:aBp w a b d)(f:jb w w'):aBp w' a b d:=λi c=>(f.cell (p:=jx a (b+i)) (ji w _ (h i c))).trans (h i c)
theorem aMk{w:World}{B:Nat}{v:Value}{l:List jB}(b:l≠[])(h:w.ownsRow B 9 1 v l.length (wtv l)):∃g c,v=.slice (some (jx g 0)) l.length c/\aBp w g 0 l:=by
 have a:=λg k=>h.cells (g:=g) k
 rcases h.2 with⟨rfl,j⟩|⟨g,cap,f,rfl,_,_,o,n,_,_⟩
 ·exact absurd (js.1 j) b
 ·refine⟨g,cap,rfl,λi m=>?_⟩
  have d:=a g rfl i (.string (tx8 (l.getD i []))) (by
   unfold wtv
   rw[jas,jd,jc m]
   rfl)
  rw[jaa]at d
  exact d
def aBe(w:World)(r:Option (List GL))(e:Ending)(w':World):Prop:=
 jb w w'/\match r with
  |none=>e=.returned (.tuple #[.slice none 0 0,.int .i64 2])
  |some l=>∃v,e=.returned (.tuple #[v,.int .i64 0])/\w'.ownsRow w.heap.size 42 6 v l.length (glv l)
theorem aHD{f V:World}(r:aAI f)(k:jb f V){g j m n:Nat}{L:List PT}{d:List jB}(l:∀W,jb V W->aAw W g j L)(v:∀W,jb V W->aBp W m n d)(t:d.length=L.length)(s:∀x∈L,aEb x=0)(b:∀i,(d.getD i []).length<=120)(A:L.length<=12):aAz V V.heap.size g j m n L d:=
 ⟨λW c i a=>by obtain⟨⟨y,o,z,p,q,_⟩,_⟩:=l W c i a;exact⟨y,o,z,p,q⟩,λW c i a=>v W c i (by rw[t];exact a),λW c=>r.max (k.trans (c.mono k.size)),λi a=>⟨(l V (jr _ _) i a).2,by
  have:=(aEh (s (L.getD i pt0) (by rw[jd,jc a];exact jQ a))).1
  omega⟩,b,by omega⟩
theorem aPa(O:World)(hE:aAI O)(F:Nat)(p:PT)(I:jO)(G:Nat)(J:jO)(H:Nat)(w:World)(hb:jb O w)(hH:aA3 w F p I G J H)(C:(aNh p).1=0):
  Calls prog 14 #[.agg (jP p.ty p.cs p.id p.loc p.how I p.body.length G J p.kids.length H)] w λe w'=>aBe w (aHM aQJ (aG3 4 p) (aU4 4 p []) 0 (aG3 4 p) []) e w':=by
 obtain⟨B,ai,al⟩:=aNo p C
 have A:=aEe p C
 have E:(aU4 4 p []).length=(aG3 4 p).length:=by rw[<-aU8 p C,aU2,<-al,jD]
 have D:∀i,((aU4 4 p []).getD i []).length<=120:=by
  intro i
  rw[<-aU8 p C,jd]
  cases hx:(aU0 (aNh p).2)[i]? with
  |none=>simp
  |some y=>simpa using aU1 _ y (jav hx)
 have Z:aG3 4 p≠[]:=by rw[aG4];simp
 obtain⟨a,M⟩:∃W,W=w.alloc (.cells (jP p.ty p.cs p.id p.loc p.how I p.body.length G J p.kids.length H) 25):=⟨_,rfl⟩
 have f:jb w a:=by rw[M];exact ja _ _
 have S:a.heap[w.heap.size]?=some (.cells (jP p.ty p.cs p.id p.loc p.how I p.body.length G J p.kids.length H) 25):=by rw[M];exact aDi _ _
 have o:∀W,jb a W->jb O W:=λW d=>hb.trans ((f.trans (d.mono f.size)).mono hb.size)
 have X:∀W,jb a W->aA3 W F p I G J H:=λW d=>hH.below (f.trans (d.mono f.size))
 obtain⟨n,hn⟩:∃n,n=(aG3 4 p).length:=⟨_,rfl⟩
 have CF:Hid (∀W,jb a W->Calls prog 44 #[.agg (jP p.ty p.cs p.id p.loc p.how I p.body.length G J p.kids.length H)] W λe w'=>∃t x ca,e=.returned (.slice (some (jx t x)) n ca)/\jb a w'/\jb W w'/\Hid (∀V,jb w' V->aAw V t x (aG3 4 p))):=λW d=>by
  refine(aG6 4 F p I G J H W B (by omega) (X W d)).mono ?_
  rintro e w' ⟨q,c,rfl,m,_,_,_,hK,_⟩
  obtain⟨t,x,rfl,_⟩:=hK Z
  exact⟨t,x,c,by rw[hn],d.trans (m.mono d.size),m,λV Y=>aHa (KAt.below Y _ _ _ hK)⟩
 have CW:Hid (∀W,jb a W->Calls prog 16 #[.agg (jP p.ty p.cs p.id p.loc p.how I p.body.length G J p.kids.length H)] W λe w'=>∃P R cw,e=.returned (.slice (some (jx P R)) n cw)/\jb a w'/\jb W w'/\Hid (∀V,jb w' V->aBp V P R (aU4 4 p []))):=λW d=>by
  refine(aPM 4 F p I G J H W (λV Y=>hE.max (o V (d.trans (Y.mono d.size)))) B (by omega) (X W d)).mono ?_
  rintro e w' ⟨v,rfl,m,an⟩
  obtain⟨g,c,rfl,ht⟩:=aMk (λe=>by rw[e]at E;exact Z (js.1 E.symm)) an
  exact⟨g,0,c,by rw[hn,E],d.trans (m.mono d.size),m,λV Y=>ht.below Y⟩
 have T:Hid (∀(V:World) (t x P R:Nat),jb a V->(∀W,jb V W->aAw W t x (aG3 4 p))->(∀W,jb V W->aBp W P R (aU4 4 p []))->aAz V V.heap.size t x P R (aG3 4 p) (aU4 4 p [])):=λV t x P R Y hf ht=>aHD hE (o V Y) hf ht E A D ai
 have H4:Hid (∀i,i<(aG3 4 p).length->((aG3 4 p).getD i pt0).body.length<=4000):=λi hi=>(aEh (A _ (by rw[jd,jc hi];exact jQ hi))).2
 have s:Hid (∀(e:Ending) (w':World) (r:Option (List GL)),jb a w'->aBe a r e w'->aBe w r e w'):=λe w' r m hp=>⟨f.trans (m.mono f.size),by
  cases r with
  |none=>exact hp.2
  |some l=>
   obtain⟨v,he,ho⟩:=hp.2
   exact⟨v,he,aMs ho f.size⟩⟩
 have af:Hid (∀W,jb a W->jb O W):=o
 have HE:Hid (aAI O):=hE
 have HN:Hid _:=hn
 have e0:∀W,jb a W->W.cell? (jx w.heap.size 0)=some (.string p.ty):=λW h=>(aDe (aDj S h) 0).trans rfl
 have e1:∀W,jb a W->W.cell? (jx w.heap.size 1)=some (.string p.cs):=λW h=>(aDe (aDj S h) 1).trans rfl
 have e2:∀W,jb a W->W.cell? (jx w.heap.size 2)=some (.string p.id):=λW h=>(aDe (aDj S h) 2).trans rfl
 have e3:∀W,jb a W->W.cell? (jx w.heap.size 3)=some (.string p.loc):=λW h=>(aDe (aDj S h) 3).trans rfl
 have e4:∀W,jb a W->W.cell? (jx w.heap.size 4)=some (.int .i64 p.how):=λW h=>(aDe (aDj S h) 4).trans rfl
 have e5:∀W,jb a W->W.cell? (jx w.heap.size 5)=some (.slice I p.body.length G):=λW h=>(aDe (aDj S h) 5).trans rfl
 have e6:∀W,jb a W->W.cell? (jx w.heap.size 6)=some (.slice J p.kids.length H):=λW h=>(aDe (aDj S h) 6).trans rfl
 have N:jb a a.drew:=(jr _ _).drew
 have aX:Hid _:=M
 clear M f S o X E A D Z B ai al C hE hb hH hn
 obtain⟨L,hL⟩:∃L,aG3 4 p=L:=⟨_,rfl⟩
 obtain⟨wh,ac⟩:∃l,aU4 4 p []=l:=⟨_,rfl⟩
 rw[hL]at CF T H4 HN
 rw[ac]at CW T
 rw[hL,ac]
 obtain⟨U,z⟩:∃r,aHM aQJ L wh 0 L []=r:=⟨_,rfl⟩
 have ag:Hid _:=z
 rw[z]
 clear hL ac z
 generalize p.body.length=nb at*
 generalize p.kids.length=nk at*
 go_enter func14,ntmps14
 go_upto_region 1 with fail
 rw[<-aX.out]
 go_region_held3 (λW=>jb a W) (first|assumption|exact N) (first
  |(go_at_call 44;refine(CF.out _ ?_).mono ?_;(first|assumption|exact N);rintro e w2 ⟨t,x,ca,rfl,aY,aZ,ad⟩)
  |(go_at_call 16;refine(CW.out _ ?_).mono ?_;(first|assumption|exact N);rintro e w3 ⟨P,R,cw,rfl,ak,aa,ah⟩))
 ·have b:Hid _:=ak
  have ae:Hid (∀W,jb w3 W->aAw W t x L):=λW d=>ad.out W (aa.trans (d.mono aa.size))
  have aW:Hid (∀W,jb w3 W->aBp W P R wh):=ah.out
  clear aY aZ ad ak aa ah e0 e1 e2 e3 e4 e5 e6 CF CW N
  try clear hHeld
  go_wp2_with fail
  refine lg1 O HE.out t x P R n ca cw L wh HN.out w3 (af.out _ b.out) (T.out _ _ _ _ _ b.out ae.out aW.out) (λW d i hi=>(ae.out W d i hi).1) H4.out U ag.out _ ?_ ?_
  ·intro q2 q3 q8 q9 a0 a1 a2 a3 a4 a5 a6 a7 a8 a9 bb bc bd be bf bg bh bi bj bk bl bm bn bo bp bq br bs bt bw bx bz bA bB bC bD bE bF bG bH bI bJ bK bL bM bN bO bP bQ bR bS bT bU bV bW bX bY bZ b0 b1 b2 b3 b4 b5 b6 b7 b8 b9 cc cd ce cf cg ch ci cj cl cm cn cp cq cr cs ap aq ar av aw ax ay az aA aB aC aD aE aF aG aH aI aJ aK aL aM aN aO aP aQ aR aS aT aU aV qy ny cy w9 ct j k am _ aj
   have HP:Hid (aBe w U (.returned (.tuple #[.slice qy ny cy,.int .i64 0])) w9):=by
    refine s.out _ _ _ (b.out.trans (k.mono b.out.size)) ⟨b.out.trans (k.mono b.out.size),?_⟩
    rw[j]
    refine⟨_,rfl,?_⟩
    rw[<-am]
    exact aMs aj b.out.size
   clear j k am aj
   go_wp2_with fail
   go_ret2
   exact HP.out
  ·intro q7 q8 q9 a0 a1 a2 a3 a4 a5 a6 a7 a8 a9 bb bc bd be bf bg bh bi bj bk bl bm bn bo bp bq br bs bt bw bx bz bA bB bC bD bE bF bG bH bI bJ bK bL bM bN bO bP bQ bR bS bT bU bV bW bX bY bZ b0 b1 b2 b3 b4 b5 b6 b7 b8 b9 cc cd ce cf cg ch ci cj cl cm cn cp cq cr cs ap aq ar av aw ax ay az aA aB aC aD aE aF aG aH aI aJ aK aL aM aN aO aP aQ aR aS aT aU aV w9 j k
   have HP:Hid (aBe w U (.returned (.tuple #[.slice none 0 0,.int .i64 2])) w9):=by
    refine s.out _ _ _ (b.out.trans (k.mono b.out.size)) ⟨b.out.trans (k.mono b.out.size),?_⟩
    rw[j]
   clear j k
   go_wp2_with fail
   go_ret2
   exact HP.out
end Go.Proofs.YtbbfcbodhmeanaaGreatDoor

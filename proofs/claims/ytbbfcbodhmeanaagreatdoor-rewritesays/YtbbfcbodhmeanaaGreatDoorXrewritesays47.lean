import Derived.Test.YtbbfcbodhmeanaaGreatDoorXrewritesays35
import Derived.Test.YtbbfcbodhmeanaaGreatDoorXrewritesays46
set_option maxHeartbeats 8000000
set_option maxRecDepth 1000000
namespace Go.Proofs.YtbbfcbodhmeanaaGreatDoor
open Go.Proofs.Tryz
open Go.RowKit
variable {cl:Int->jA}
def aBi(w:World)(R:Nat×PT)(e:Ending)(w':World):Prop:=
 jb w w'/\(R.1≠0->e=.returned (.tuple #[.agg z7,.int .i64 (R.1:Int)]))/\(R.1=0->∃(qb:jO) (db:Nat) (qk:jO) (dk:Nat),e=.returned (.tuple #[.agg (jP R.2.ty R.2.cs R.2.id R.2.loc R.2.how qb R.2.body.length db qk R.2.kids.length dk),.int .i64 0])/\aA3 w' 4 R.2 qb db qk dk)
theorem aPr(n:Int)(w:World):
  Calls prog 66 #[.int .i64 n] w λe w'=>e=.returned (.tuple #[.agg z7,.int .i64 n])/\jb w w':=by
 go_enter func66,ntmps66
 go_wp2
 refine jt (v:=.tuple #[.agg z7,.int .i64 n]) ?_ rfl ⟨rfl,?_⟩
 ·rw[jq rfl]
  go_simp
 ·exact ja _ _
theorem aHc:∀(f:Nat) (p:PT),lev f p=true->∀x∈aG3 f p,x.kids.length+1<=(aG3 f p).length
 |0,p,h,_,_=>by rw[lev]at h;cases h
 |f+1,p,h,x,c=>by
  rw[aJ7,jR]at h
  have g:∀(l:List PT),(∀k∈l,lev f k=true)->l.length<=(l.flatMap (aG3 f)).length:=by
   intro l
   induction l with
   |nil=>intro _;exact jy _
   |cons k l n=>
    intro d
    rw[jbm,je,jm]
    have i:=n (λy m=>d y (jbe _ m))
    have j:1<=(aG3 f k).length:=by
     have:=d k (by simp)
     cases f with
     |zero=>rw[lev]at this;cases this
     |succ f=>rw[aG4,jm];omega
    omega
  rw[aG4,jad]at c
  rw[aG4,jm]
  rcases c with rfl|c
  ·have:=g x.kids h
   omega
  ·obtain⟨k,d,c⟩:=jct.1 c
   have i:=aHc f k (h k d) x c
   have j:(aG3 f k).length<=(p.kids.flatMap (aG3 f)).length:=by
    obtain⟨a,b,hab⟩:=List.append_of_mem d
    rw[hab,jbz,jbm,je,je]
    omega
   omega
theorem aRs:∀a:List jA,(∀t∈a,t.size<=30)->aRo (tls a)<=30*a.length
 |[],_=>jf _
 |t::a,h=>by
  have d:=aRs a (λx c=>h x (jbe _ c))
  have b:=h t (by simp)
  rw[Lib.size_eq]at b
  show aRo (t.data.toList::tls a)<=_
  rw[aRp,jm]
  omega
theorem aSN(parts:Int)(a:List NM)(d:aDT parts (-1) [] a=0)(c:List GL)(k:Nat):∀t∈aSL (aDA a) c k,t.size<=30:=by
 intro t b
 rw[aSQ]at b
 obtain⟨g,_,rfl⟩:=jbi.1 b
 unfold aR4
 split
 ·exact aDB parts a d _
 ·decide
theorem aTC{V:World}{i q:Nat}{l:Int->jA}{o:List GL}{v:Int->Value}{n:Nat}{W:World}(m:aBw V i q (aSG l o) v n W)(f:Nat->List jA)(g:∀k:Nat,aSG l o (k:Int)=f k)(s:∀k,aRo (tls (f k))<=1100000)(r:∀k,(f k).length<=1000):aBz W i q f:=by
 refine⟨λj b=>(aDe (aDj m.tb b) 0).trans rfl,λk t=>?_,s,r⟩
 have d:=m.rows (k:Int)
 rw[g k]at d
 obtain⟨a,c,p⟩:=aMi d
 refine⟨a,c,λj b=>⟨?_,?_⟩⟩
 ·have h:=(m.map.move (b.block _ m.map.lt)).look underlying106 (aVw j) (k:Int) (by omega) (by omega)
  rw[p]at h
  exact h
 ·rw[p]at d
  exact(aTD (aMm d b)).1
theorem aS0(V:World):aBw V (V.heap.size+1) V.heap.size (aSG cl []) (λ_=>.slice none 0 0) 0 ((V.alloc (.map #[] 0)).alloc (.cells #[.map (some V.heap.size)] 106)):=by
 have c:(V.alloc (.map #[] 0)).heap.size=V.heap.size+1:=by simp
 have a:=(jr (V.alloc (.map #[] 0)).heap.size (V.alloc (.map #[] 0))).alloc (jf _) (.cells #[.map (some V.heap.size)] 106)
 refine⟨(ja _ _).alloc (by simp) _,by rw[<-c];exact aDi _ _,(aK7 V _).move (a.block _ (by rw[c];omega)),λ_=>jT _ _ _ _,λ_ _ _ b a=>by cases a⟩
theorem aSW(W:World)(a b c:Obj):jb W (((W.alloc a).alloc b).alloc c)/\(((W.alloc a).alloc b).alloc c).heap[W.heap.size]?=some a/\(((W.alloc a).alloc b).alloc c).heap[W.heap.size+1]?=some b/\(((W.alloc a).alloc b).alloc c).heap[W.heap.size+2]?=some c:=by
 refine⟨((ja _ _).alloc (by simp) _).alloc (by simp;omega) _,?_⟩
 exact aST W.heap a b c
theorem aPq(p:PT)(Z:jO)(X:Nat)(pk:jO)(Y F:Nat)(na:jO)(nn nc:Nat)(C:List NM)(en:nn=C.length)(a6:aAS C)(w:World)(hE:aAI w)(hH:aA3 w F p Z X pk Y)(br:aAV w na C):
  Calls prog 22 #[.agg (jP p.ty p.cs p.id p.loc p.how Z p.body.length X pk p.kids.length Y),.slice na nn nc] w λe w'=>aBi w (aLq p C) e w':=by
 obtain⟨a,ay⟩:∃W,W=(w.alloc (.cells (jP p.ty p.cs p.id p.loc p.how Z p.body.length X pk p.kids.length Y) 25)).alloc (.cells z7 25):=⟨_,rfl⟩
 have ao:jb w a:=by rw[ay];exact(ja _ _).alloc (by simp) _
 have kA:a.heap[w.heap.size]?=some (.cells (jP p.ty p.cs p.id p.loc p.how Z p.body.length X pk p.kids.length Y) 25):=by rw[ay];exact aDj (aDi w _) (ja _ _)
 have kR:a.heap[w.heap.size+1]?=some (.cells z7 25):=by
  rw[ay]
  have:=aDi (w.alloc (.cells (jP p.ty p.cs p.id p.loc p.how Z p.body.length X pk p.kids.length Y) 25)) (.cells z7 25)
  simpa using this
 obtain⟨A,hA⟩:∃A,w.heap.size=A:=⟨_,rfl⟩
 obtain⟨R0,a0⟩:∃r,A+1=r:=⟨_,rfl⟩
 have HA:Hid _:=hA
 have af:Hid _:=a0
 have j:∀W,jb a W->jb w W:=λW L=>ao.trans (L.mono ao.size)
 have bb:Hid (∀W,jb a W->jb w W):=j
 have HE:Hid (∀W,jb a W->aAI W):=λW L=>hE.below (j W L)
 have aU:Hid (∀W,jb a W->aA3 W F p Z X pk Y):=λW L=>hH.below (j W L)
 have bx:Hid (aA3 w F p Z X pk Y):=hH
 have bd:Hid (∀W,jb a W->aAV W na C):=λW L=>br.below (j W L)
 have bw:Hid (aAS C):=a6
 have bt:Hid _:=en
 have CC:Hid (∀W,jb a W->Calls prog 10 #[.agg (jP p.ty p.cs p.id p.loc p.how Z p.body.length X pk p.kids.length Y)] W λe w'=>e=.returned (.int .i64 ((aNh p).1:Int))/\jb W w'):=λW L=>(aOJ F p Z X pk Y W (aU.out W L) (λV hV=>(hE V (j V (L.trans (hV.mono L.size)))).u8)).mono λe w' h=>⟨by rw[<-aDV];exact h.1,h.2⟩
 have ag:Hid (∀(n:Int) (W:World),Calls prog 66 #[.int .i64 n] W λe w'=>e=.returned (.tuple #[.agg z7,.int .i64 n])/\jb W w'):=λn W=>aPr n W
 have aa:Hid (∀W,jb a W->Calls prog 25 #[.slice na nn nc,.int .i64 ((aNh p).2.length:Int)] W λe w'=>e=.returned (.int .i64 (aDT ((aNh p).2.length:Int) (-1) [] C:Nat))/\jb W w'):=λW L=>aPs na nn nc C en _ a6 W (bd.out W L)
 have ad:jb a a:=jr _ _
 have t:∀(D:Nat×PT) (E:Nat),E≠0->D=(E,aOw)->∀V,jb a V->aBi w D (.returned (.tuple #[.agg z7,.int .i64 (E:Int)])) (aNZ V R0 (.string jz) (.string jz) (.string jz) (.string jz) (.int .i64 0) (.slice none 0 0) (.slice none 0 0)):=by
  intro D E bB d V hV
  subst d
  refine⟨aN0 (j V hV) (by omega) _ _ _ _ _ _ _,λ_=>rfl,λh=>absurd h bB⟩
 rw[hA]at kA kR
 rw[a0]at kR
 have M:Hid _:=kA
 have am:Hid _:=kR
 have ac:Hid _:=ay
 have hw:∀D,D=aLq p C->Calls prog 22 #[.agg (jP p.ty p.cs p.id p.loc p.how Z p.body.length X pk p.kids.length Y),.slice na nn nc] w λe w'=>aBi w D e w':=by
  intro D d
  unfold aLq at d
  clear ay kA kR hA a0 br a6 hH
  by_cases B:(aNh p).1=0
  ·rw[jh (by rw[B];simp)]at d
   obtain⟨T,aY,aI⟩:=aNo p B
   have aJ:(aNh p).2.length=(aG3 4 p).length:=by rw[<-aI,jD]
   have aj:Hid (∀W,jb a W->Calls prog 44 #[.agg (jP p.ty p.cs p.id p.loc p.how Z p.body.length X pk p.kids.length Y)] W λe w'=>∃q c,e=.returned (.slice q (aNh p).2.length c)/\jb W w'):=λW L=>(aG6 4 F p Z X pk Y W T (by omega) (aU.out W L)).mono λe w' h=>by
    obtain⟨q,c,h1,h2,_⟩:=h
    exact⟨q,c,by rw[aJ];exact h1,h2⟩
   rw[B]at CC
   by_cases hc:aDT ((aNh p).2.length:Int) (-1) [] C=0
   ·rw[jh (by rw[hc];simp)]at d
    rw[hc]at aa
    have ak:∀W,jb a W->Calls prog 14 #[.agg (jP p.ty p.cs p.id p.loc p.how Z p.body.length X pk p.kids.length Y)] W λe w'=>aBe W (aHR p) e w':=λW L=>by
     have h:=aPa w hE F p Z X pk Y W (j W L) (aU.out W L) B
     rw[<-aHW p B]at h
     exact h
    cases hg:aHR p with
    |none=>
     rw[hg]at d ak
     simp only at d
     have CG:Hid (∀W,jb a W->Calls prog 14 #[.agg (jP p.ty p.cs p.id p.loc p.how Z p.body.length X pk p.kids.length Y)] W λe w'=>e=.returned (.tuple #[.slice none 0 0,.int .i64 2])/\jb W w'):=λW L=>(ak W L).mono λe w' h=>⟨h.2,h.1⟩
     have G:Hid (∀V,jb a V->aBi w D (.returned (.tuple #[.agg z7,.int .i64 2])) (aNZ V R0 (.string jz) (.string jz) (.string jz) (.string jz) (.int .i64 0) (.slice none 0 0) (.slice none 0 0))):=t D 2 (by decide) d
     obtain⟨nb,I⟩:∃n,p.body.length=n:=⟨_,rfl⟩
     obtain⟨nk,J⟩:∃n,p.kids.length=n:=⟨_,rfl⟩
     simp only[I,J]at*
     clear I J
     clear t ak d hg hc B T aY aI aJ j ao hE en
     go_enter func22,ntmps22
     go_upto_region 2 with fail
     rw[HA.out,af.out]
     rw[<-ac.out]
     clear ac
     obtain⟨z0,z1,z2,z3,z4,z5,z6,zf⟩:=aLK M.out
     go_wp2_with fail
     refine(CC.out _ ad).mono ?_
     rintro e w2 ⟨rfl,f⟩
     clear z0 z1 z2 z3 z4 z5 z6 zf CC ad
     go_upto_region 5 with fail
     obtain⟨z0,z1,z2,z3,z4,z5,z6,zf⟩:=aLK (aDj M.out f)
     go_wp2_with fail
     refine(aj.out _ f).mono ?_
     rintro e w3 ⟨fq,fc,rfl,y⟩
     have o:jb a w3:=f.trans (y.mono f.size)
     clear z0 z1 z2 z3 z4 z5 z6 zf aj y f
     go_wp2_with fail
     refine(aa.out _ o).mono ?_
     rintro e w4 ⟨rfl,z⟩
     have s:jb a w4:=o.trans (z.mono o.size)
     clear z o aa
     go_upto_region 8 with fail
     obtain⟨z0,z1,z2,z3,z4,z5,z6,zf⟩:=aLK (aDj M.out s)
     go_wp2_with fail
     refine(CG.out _ s).mono ?_
     rintro e w5 ⟨rfl,ae⟩
     have aA:jb a w5:=s.trans (ae.mono s.size)
     clear z0 z1 z2 z3 z4 z5 z6 zf CG ae s
     go_wp2_with fail
     refine(ag.out (2) _).mono ?_
     rintro e w9 ⟨rfl,H⟩
     have l:jb a w9:=aA.trans (H.mono aA.size)
     obtain⟨r0,r1,r2,r3,r4,r5,r6,rf⟩:=aLK (aDj am.out l)
     have m:Hid (aBi w D (.returned (.tuple #[.agg z7,.int .i64 2])) (aNZ w9 R0 (.string jz) (.string jz) (.string jz) (.string jz) (.int .i64 0) (.slice none 0 0) (.slice none 0 0))):=G.out w9 l
     clear H l
     go_wp2_with fail
     refine jt (v:=.tuple #[.agg z7,.int .i64 2]) ?_ rfl m.out
     rw[jq rfl]
     go_simp
    |some gs=>
     rw[hg]at d ak
     simp only at d
     have CG:Hid (∀W,jb a W->Calls prog 14 #[.agg (jP p.ty p.cs p.id p.loc p.how Z p.body.length X pk p.kids.length Y)] W λe w'=>∃q c,e=.returned (.tuple #[.slice q gs.length c,.int .i64 0])/\jb W w'/\G6 w' q gs.length gs):=λW L=>(ak W L).mono λe w' h=>by
      obtain⟨v,he,ho⟩:=h.2
      obtain⟨q,c,rfl,_,_,hk⟩:=aMc ho
      exact⟨q,c,he,h.1,hk⟩
     have bD:=(aHT p gs hg).2
     have a9:Hid (∀g∈gs,GIn g/\-1<=g.find):=aHS p gs hg
     obtain⟨N,aK⟩:∃N,N=aSL (aDA C) gs:=⟨_,rfl⟩
     have bi:Hid (∀k:Nat,aSG (aDw C) gs (k:Int)=N k):=λk=>by rw[aK];exact aSI C gs (λn hn=>((aD1 _ C (-1) [] hc).2 n hn).2.1) k
     have bh:Hid (∀k,(N k).length<=1000):=λk=>by
      rw[<-bi.out k]
      have:=aSH (aDw C) gs (k:Int)
      omega
     have bA:Hid (∀k,aRo (tls (N k))<=1100000):=λk=>by
      have h1:=aRs (N k) (by rw[aK];exact aSN _ C hc gs k)
      have h2:=bh.out k
      omega
     have bs:∀x∈aG3 4 p,x.kids.length<=1000/\x.body.length<=4000:=λx hx=>by
      have h1:=aHc 4 p T x hx
      exact⟨by omega,aEc x ((aNq p B).2 x hx)⟩
     have aQ:Hid (∀(V:World) (TB mb S P FB:Nat) (W:World),jb a V->aBz V TB mb N->V.heap.size<=S->V.heap.size<=P->S≠P->FB≠S->FB≠P->aBG V TB S P FB 0 0 W->Calls prog 67 #[.agg (jP p.ty p.cs p.id p.loc p.how Z p.body.length X pk p.kids.length Y),.pointer (some (jx TB 0)),.pointer (some (jx S 0)),.pointer (some (jx P 0)),.pointer (some (jx FB 0))] W λen w'=>aBC w.heap.size S P 4 (aUK N 4 p 0 0) W en w'):=λV TB mb S P FB W hV h1 h2 h3 h4 h5 h6 h7=>aUP w V (j V hV) (HE.out V hV) TB mb S P FB N h1 h2 h3 h4 h5 h6 4 F p Z X pk Y 0 0 W T bs (by omega) bx.out h7
     rw[<-aK]at d
     have bl:Hid (((aFH N 4 p 0).1=0->aUK N 4 p 0 0=((aFH N 4 p 0).2.1,(aFH N 4 p 0).2.2,0))/\((aFH N 4 p 0).1≠0->(aUK N 4 p 0 0).2.2=(aFH N 4 p 0).1)):=aUN N 4 p 0
     obtain⟨R,hR⟩:∃R,aUK N 4 p 0 0=R:=⟨_,rfl⟩
     have aw:Hid ((R.2.2=0->D=(0,R.1))/\(R.2.2≠0->D=(R.2.2,aOw))):=by
      have h1:=bl.out
      rw[hR]at h1
      by_cases he:(aFH N 4 p 0).1=0
      ·rw[jh (by rw[he];simp)]at d
       have h2:=h1.1 he
       refine⟨λ_=>by rw[d,h2],λh=>absurd (by rw[h2]) h⟩
      ·rw[jo he]at d
       have h2:=h1.2 he
       refine⟨λh=>absurd (h2.symm.trans h) he,λ_=>by rw[d,h2]⟩
     rw[hR]at aQ
     have aL:Hid (∀E:Nat,E≠0->D=(E,aOw)->∀V,jb a V->aBi w D (.returned (.tuple #[.agg z7,.int .i64 (E:Int)])) (aNZ V R0 (.string jz) (.string jz) (.string jz) (.string jz) (.int .i64 0) (.slice none 0 0) (.slice none 0 0))):=t D
     obtain⟨gn,bp⟩:∃n,gs.length=n:=⟨_,rfl⟩
     rw[bp]at CG bD
     obtain⟨nb,I⟩:∃n,p.body.length=n:=⟨_,rfl⟩
     obtain⟨nk,J⟩:∃n,p.kids.length=n:=⟨_,rfl⟩
     simp only[I,J]at*
     clear I J
     clear t ak d hg hc B T aY aI aJ j ao hE en bs hR bl aK bp
     go_enter func22,ntmps22
     go_upto_region 2 with fail
     rw[HA.out,af.out]
     rw[<-ac.out]
     clear ac
     obtain⟨z0,z1,z2,z3,z4,z5,z6,zf⟩:=aLK M.out
     go_wp2_with fail
     refine(CC.out _ ad).mono ?_
     rintro e w2 ⟨rfl,f⟩
     clear z0 z1 z2 z3 z4 z5 z6 zf CC ad
     go_upto_region 5 with fail
     obtain⟨z0,z1,z2,z3,z4,z5,z6,zf⟩:=aLK (aDj M.out f)
     go_wp2_with fail
     refine(aj.out _ f).mono ?_
     rintro e w3 ⟨fq,fc,rfl,y⟩
     have o:jb a w3:=f.trans (y.mono f.size)
     clear z0 z1 z2 z3 z4 z5 z6 zf aj y f
     go_wp2_with fail
     refine(aa.out _ o).mono ?_
     rintro e w4 ⟨rfl,z⟩
     have s:jb a w4:=o.trans (z.mono o.size)
     clear z o aa
     go_upto_region 8 with fail
     obtain⟨z0,z1,z2,z3,z4,z5,z6,zf⟩:=aLK (aDj M.out s)
     go_wp2_with fail
     refine(CG.out _ s).mono ?_
     rintro e w5 ⟨ga,gc,rfl,ae,bo⟩
     have aA:jb a w5:=s.trans (ae.mono s.size)
     have a8:Hid (G6 w5 ga gn gs):=bo
     have aF:Hid _:=aA
     clear z0 z1 z2 z3 z4 z5 z6 zf CG ae s bo aA
     have bE:=@run_makeMap prog
     go_wp2_with fail
     obtain⟨aX,aC⟩:∃k,w5.heap.size=k:=⟨_,rfl⟩
     rw[aC]
     refine aPm w5 na nn nc C bt.out bw.out (bd.out w5 aF.out) aX aC _ ?_
     intro bH bJ bK bL bM bN bO bP bQ bR bS w6 aB bq
     have aR:Hid _:=aF.out.trans (aB.mono aF.out.size)
     have aM:Hid (G6 w6 ga gn gs):=a8.out.below aB
     have bc:Hid (aAO w6 aX nn (.string jz) (λi=>.string (aDw C i))):=bq
     clear aB bq aF a8 aC
     obtain⟨mb,a5⟩:∃k,w6.heap.size=k:=⟨_,rfl⟩
     obtain⟨TB,a1⟩:∃k,mb+1=k:=⟨_,rfl⟩
     obtain⟨W7,a2⟩:∃W,W=(w6.alloc (.map #[] 0)).alloc (.cells #[.map (some mb)] 106):=⟨_,rfl⟩
     have bf:Hid (aBw w6 TB mb (aSG (aDw C) []) (λ_=>.slice none 0 0) 0 W7):=by
      rw[a2,<-a1,<-a5]
      exact aS0 w6
     have aT:Hid (w6.heap.size=mb/\mb+1=TB):=⟨a5,a1⟩
     have bj:Hid _:=a2
     clear a2
     go_upto_region 18 with fail
     rw[<-bj.out]
     clear bj a5 a1 bE
     go_wp2_with fail
     refine aPn w6 ga gn gc gs aM.out (by omega) a9.out aX nn (aDw C) bc.out TB mb (by have:=aT.out;omega) (by have:=aT.out;omega) W7 bf.out _ ?_
     intro bI bT bU bV bW bX bY bZ b0 b1 b2 b3 b4 b5 b6 b7 b8 b9 ca v w8 aH
     have bz:Hid (aBw w6 TB mb (aSG (aDw C) gs) v gn w8):=aH
     have al:Hid _:=aR.out.trans (aH.bel.mono aR.out.size)
     have bg:Hid (aBz w8 TB mb N):=aTC aH N bi.out bA.out bh.out
     clear aH bf aM bc bz aR aT a9
     obtain⟨S,ax⟩:∃k,w8.heap.size=k:=⟨_,rfl⟩
     obtain⟨P,aZ⟩:∃k,S+1=k:=⟨_,rfl⟩
     obtain⟨FB,bm⟩:∃k,P+1=k:=⟨_,rfl⟩
     obtain⟨W9,a3⟩:∃W,W=((w8.alloc (.cells #[.int .i64 0] 3)).alloc (.cells #[.int .i64 0] 27)).alloc (.cells #[FnR TB S P FB] 45):=⟨_,rfl⟩
     have h3:=aSW w8 (.cells #[.int .i64 0] 3) (.cells #[.int .i64 0] 27) (.cells #[FnR TB S P FB] 45)
     rw[<-a3]at h3
     have aW:Hid (aBG w8 TB S P FB 0 0 W9):=by
      refine⟨h3.1,?_,?_,?_⟩
      ·rw[<-ax];exact h3.2.1
      ·rw[<-aZ,<-ax];exact h3.2.2.1
      ·have h4:=h3.2.2.2
       rw[ax,show S+2=FB from by omega]at h4
       exact h4
     have ar:Hid _:=al.out.trans (h3.1.mono al.out.size)
     have U:Hid (w8.heap.size=S/\S+1=P/\P+1=FB):=⟨ax,aZ,bm⟩
     have bk:Hid _:=a3
     clear a3 h3
     go_upto_region 27 with fail
     skip
     rw[<-bk.out]
     clear bk ax aZ bm
     obtain⟨z0,z1,z2,z3,z4,z5,z6,zf⟩:=aLK (aDj M.out ar.out)
     have cf:W9.cell? (jx FB 0)=some (FnR TB S P FB):=(aDe aW.out.fb 0).trans rfl
     have CW:Hid (Calls prog 67 #[.agg (jP p.ty p.cs p.id p.loc p.how Z nb X pk nk Y),.pointer (some (jx TB 0)),.pointer (some (jx S 0)),.pointer (some (jx P 0)),.pointer (some (jx FB 0))] W9 λen w'=>aBC w.heap.size S P 4 R W9 en w'):=aQ.out w8 TB mb S P FB W9 al.out bg.out (by have:=U.out;omega) (by have:=U.out;omega) (by have:=U.out;omega) (by have:=U.out;omega) (by have:=U.out;omega) aW.out
     go_wp2_with fail
     refine CW.out.mono ?_
     rintro en O ⟨qb,db,qk,dk,rfl,hM,hL⟩
     obtain⟨q,kq,eq⟩:=R
     simp only at hM hL aw⊢
     obtain⟨ap,aD⟩:∃n,q.body.length=n:=⟨_,rfl⟩
     obtain⟨aq,aE⟩:∃n,q.kids.length=n:=⟨_,rfl⟩
     have be:Hid (q.body.length=ap/\q.kids.length=aq):=⟨aD,aE⟩
     rw[aD,aE]
     obtain⟨OB,aG⟩:∃n,O.heap.size=n:=⟨_,rfl⟩
     obtain⟨an,ah⟩:∃W,W=O.alloc (.cells (jP q.ty q.cs q.id q.loc q.how qb ap db qk aq dk) 25):=⟨_,rfl⟩
     have ai:jb O an:=by rw[ah];exact ja _ _
     have aS:Hid (an.heap[OB]?=some (.cells (jP q.ty q.cs q.id q.loc q.how qb ap db qk aq dk) 25)):=by rw[ah,<-aG];exact aDi _ _
     have aP:a.heap.size<=W9.heap.size/\a.heap.size<=w8.heap.size:=⟨ar.out.size,al.out.size⟩
     have az:jb a O:=hM.base ar.out aP.1 (by have:=U.out;omega) (by have:=U.out;omega)
     have ab:Hid _:=az.trans (ai.mono az.size)
     have a7:Hid _:=aDj hM.eb ai
     have HL:Hid (aAM w.heap.size W9.heap.size O.heap.size O 4 (q,(qb,db),(qk,dk))):=hL
     have aV:Hid (O.heap.size=OB/\W9.heap.size<=OB/\R0<W9.heap.size):=by
      refine⟨aG,by rw[<-aG];exact hM.size,?_⟩
      have:=(jl.1 am.out).1
      omega
     have av:Hid (∀b,b<O.heap.size->an.heap[b]?=O.heap[b]?):=λb hb=>ai.block b hb
     have aN:Hid _:=ah
     clear ah hM hL ai az aP z0 z1 z2 z3 z4 z5 z6 zf cf CW aQ aW bg aD aE
     go_upto_region 28 with fail
     rw[<-aN.out]
     clear aN aG
     have e0:an.cell? (jx P 0)=some (.int .i64 (eq:Int)):=(aDe a7.out 0).trans rfl
     by_cases a4:eq=0
     ·subst a4
      obtain⟨o0,o1,o2,o3,o4,o5,o6,of⟩:=aLK aS.out
      obtain⟨r0,r1,r2,r3,r4,r5,r6,rf⟩:=aLK (aDj am.out ab.out)
      have m:Hid (aBi w D (.returned (.tuple #[.agg (jP q.ty q.cs q.id q.loc q.how qb ap db qk aq dk),.int .i64 0])) (aNZ an R0 (.string q.ty) (.string q.cs) (.string q.id) (.string q.loc) (.int .i64 q.how) (.slice qb ap db) (.slice qk aq dk))):=by
       have d:=aw.out.1 rfl
       rw[d]
       refine⟨aN0 (bb.out _ ab.out) (by have:=HA.out;have:=af.out;omega) _ _ _ _ _ _ _,λh=>absurd rfl h,λ_=>⟨qb,db,qk,dk,?_,?_⟩⟩
       ·show _=Ending.returned (.tuple #[.agg (jP q.ty q.cs q.id q.loc q.how qb q.body.length db qk q.kids.length dk),.int .i64 0])
        rw[be.out.1,be.out.2]
       ·refine HL.out _ λb hb=>?_
        have h1:=aV.out
        rw[aN1 an R0 _ _ _ _ _ _ _ b (by have:=HA.out;have:=af.out;omega)]
        exact av.out b (by have:=HA.out;have:=af.out;omega)
      clear aS ab a7 HL aV av aw U ar al
      go_wp2_with fail
      refine jt (v:=.tuple #[.agg (jP q.ty q.cs q.id q.loc q.how qb ap db qk aq dk),.int .i64 0]) ?_ rfl m.out
      rw[jq rfl]
      go_simp
     ·have bG:((eq:Int)==0)=false:=by rw[jg];omega
      have bF:¬(eq:Int)=0:=by omega
      have G:Hid (∀V,jb a V->aBi w D (.returned (.tuple #[.agg z7,.int .i64 (eq:Int)])) (aNZ V R0 (.string jz) (.string jz) (.string jz) (.string jz) (.int .i64 0) (.slice none 0 0) (.slice none 0 0))):=aL.out eq a4 (aw.out.2 a4)
      have aO:=ab.out
      clear aL aw HL aV av U ar al aS ab
      generalize (eq:Int)=EQ at*
      go_wp2_with fail
      refine(ag.out (EQ) _).mono ?_
      rintro e w9 ⟨rfl,H⟩
      have l:jb a w9:=aO.trans (H.mono aO.size)
      obtain⟨r0,r1,r2,r3,r4,r5,r6,rf⟩:=aLK (aDj am.out l)
      have m:Hid (aBi w D (.returned (.tuple #[.agg z7,.int .i64 EQ])) (aNZ w9 R0 (.string jz) (.string jz) (.string jz) (.string jz) (.int .i64 0) (.slice none 0 0) (.slice none 0 0))):=G.out w9 l
      clear H l
      go_wp2_with fail
      refine jt (v:=.tuple #[.agg z7,.int .i64 EQ]) ?_ rfl m.out
      rw[jq rfl]
      go_simp
   ·rw[jo hc]at d
    have G:Hid (∀V,jb a V->aBi w D (.returned (.tuple #[.agg z7,.int .i64 (aDT ((aNh p).2.length:Int) (-1) [] C:Nat)])) (aNZ V R0 (.string jz) (.string jz) (.string jz) (.string jz) (.int .i64 0) (.slice none 0 0) (.slice none 0 0))):=t D _ hc d
    have bC:(((aDT ((aNh p).2.length:Int) (-1) [] C:Nat):Int)==0)=false:=by rw[jg];omega
    have bn:¬((aDT ((aNh p).2.length:Int) (-1) [] C:Nat):Int)=0:=by omega
    generalize ((aDT ((aNh p).2.length:Int) (-1) [] C:Nat):Int)=CN at*
    obtain⟨nb,I⟩:∃n,p.body.length=n:=⟨_,rfl⟩
    obtain⟨nk,J⟩:∃n,p.kids.length=n:=⟨_,rfl⟩
    simp only[I,J]at*
    clear I J
    clear t d hc B T aY aI aJ j ao hE en
    go_enter func22,ntmps22
    go_upto_region 2 with fail
    rw[HA.out,af.out]
    rw[<-ac.out]
    clear ac
    obtain⟨z0,z1,z2,z3,z4,z5,z6,zf⟩:=aLK M.out
    go_wp2_with fail
    refine(CC.out _ ad).mono ?_
    rintro e w2 ⟨rfl,f⟩
    clear z0 z1 z2 z3 z4 z5 z6 zf CC ad
    go_upto_region 5 with fail
    obtain⟨z0,z1,z2,z3,z4,z5,z6,zf⟩:=aLK (aDj M.out f)
    go_wp2_with fail
    refine(aj.out _ f).mono ?_
    rintro e w3 ⟨fq,fc,rfl,y⟩
    have o:jb a w3:=f.trans (y.mono f.size)
    clear z0 z1 z2 z3 z4 z5 z6 zf aj y f
    go_wp2_with fail
    refine(aa.out _ o).mono ?_
    rintro e w4 ⟨rfl,z⟩
    have s:jb a w4:=o.trans (z.mono o.size)
    clear z o aa
    go_wp2_with fail
    refine(ag.out (CN) _).mono ?_
    rintro e w9 ⟨rfl,H⟩
    have l:jb a w9:=s.trans (H.mono s.size)
    obtain⟨r0,r1,r2,r3,r4,r5,r6,rf⟩:=aLK (aDj am.out l)
    have m:Hid (aBi w D (.returned (.tuple #[.agg z7,.int .i64 CN])) (aNZ w9 R0 (.string jz) (.string jz) (.string jz) (.string jz) (.int .i64 0) (.slice none 0 0) (.slice none 0 0))):=G.out w9 l
    clear H l
    go_wp2_with fail
    refine jt (v:=.tuple #[.agg z7,.int .i64 CN]) ?_ rfl m.out
    rw[jq rfl]
    go_simp
  ·rw[jo B]at d
   have G:Hid (∀V,jb a V->aBi w D (.returned (.tuple #[.agg z7,.int .i64 ((aNh p).1:Int)])) (aNZ V R0 (.string jz) (.string jz) (.string jz) (.string jz) (.int .i64 0) (.slice none 0 0) (.slice none 0 0))):=t D _ B d
   have bC:(((aNh p).1:Int)==0)=false:=by rw[jg];omega
   have bn:¬((aNh p).1:Int)=0:=by omega
   generalize ((aNh p).1:Int)=CN at*
   obtain⟨nb,I⟩:∃n,p.body.length=n:=⟨_,rfl⟩
   obtain⟨nk,J⟩:∃n,p.kids.length=n:=⟨_,rfl⟩
   simp only[I,J]at*
   clear I J
   clear t d B j ao hE en aa
   go_enter func22,ntmps22
   go_upto_region 2 with fail
   rw[HA.out,af.out]
   rw[<-ac.out]
   clear ac
   obtain⟨z0,z1,z2,z3,z4,z5,z6,zf⟩:=aLK M.out
   go_wp2_with fail
   refine(CC.out _ ad).mono ?_
   rintro e w2 ⟨rfl,f⟩
   clear z0 z1 z2 z3 z4 z5 z6 zf CC ad
   go_wp2_with fail
   refine(ag.out (CN) _).mono ?_
   rintro e w9 ⟨rfl,H⟩
   have l:jb a w9:=f.trans (H.mono f.size)
   obtain⟨r0,r1,r2,r3,r4,r5,r6,rf⟩:=aLK (aDj am.out l)
   have m:Hid (aBi w D (.returned (.tuple #[.agg z7,.int .i64 CN])) (aNZ w9 R0 (.string jz) (.string jz) (.string jz) (.string jz) (.int .i64 0) (.slice none 0 0) (.slice none 0 0))):=G.out w9 l
   clear H l
   go_wp2_with fail
   refine jt (v:=.tuple #[.agg z7,.int .i64 CN]) ?_ rfl m.out
   rw[jq rfl]
   go_simp
 exact hw _ rfl
end Go.Proofs.YtbbfcbodhmeanaaGreatDoor

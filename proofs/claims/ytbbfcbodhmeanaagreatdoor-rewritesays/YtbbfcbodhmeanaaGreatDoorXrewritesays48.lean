import Derived.Test.YtbbfcbodhmeanaaGreatDoorXrewritesays44
set_option maxHeartbeats 8000000
set_option maxRecDepth 1000000
namespace Go.Proofs.YtbbfcbodhmeanaaGreatDoor
open Go.Proofs.Tryz
open Go.RowKit
theorem aHb:∀(f:Nat) (p:PT),lev f p=true->∀x∈aG3 f p,x.kids.length+1<=(aG3 f p).length
 |0,p,h,_,_=>by rw[lev]at h;cases h
 |f+1,p,h,x,c=>by
  rw[aJ7,jR]at h
  have g:∀(l:List PT),(∀k∈l,lev f k=true)->l.length<=(l.flatMap (aG3 f)).length:=by
   intro l
   induction l with
   |nil=>intro _;exact jy _
   |cons k l n=>
    intro d
    rw[jbm,je,jm]
    have i:=n (λy m=>d y (jbe _ m))
    have j:1<=(aG3 f k).length:=by
     have:=d k (by simp)
     cases f with
     |zero=>rw[lev]at this;cases this
     |succ f=>rw[aG4,jm];omega
    omega
  rw[aG4,jad]at c
  rw[aG4,jm]
  rcases c with rfl|c
  ·have:=g x.kids h
   omega
  ·obtain⟨k,d,c⟩:=jct.1 c
   have i:=aHb f k (h k d) x c
   have j:(aG3 f k).length<=(p.kids.flatMap (aG3 f)).length:=by
    obtain⟨a,b,hab⟩:=List.append_of_mem d
    rw[hab,jbz,jbm,je,je]
    omega
   omega
theorem aEf{x:PT}(h:aEb x=0):x.body.length<=4000:=by
 unfold aEb at h
 split at h
 ·cases h
 ·split at h
  ·cases h
  ·split at h
   ·cases h
   ·omega
theorem aEg(p:PT)(h:(aNh p).1=0):∀x∈aG3 4 p,aEb x=0:=by
 have b:=(aNo p h).2.2
 intro x a
 rw[<-b,jbi]at a
 obtain⟨y,c,rfl⟩:=a
 refine aCG (aNh p).2 ?_ y c
 unfold aNh at h⊢
 cases hq:put 4 [] p 1 (-1)with
 |none=>rw[hq]at h;cases h
 |some l=>
  rw[hq]at h
  simp only at h⊢
  split
  ·assumption
  ·rfl
theorem aLr(p:PT)(Y:jO)(M:Nat)(Z:jO)(N F:Nat)(na:jO)(nn nc:Nat)(s:List NM)(en:nn=s.length)(bk:aAS s)(w:World)(hE:aAI w)(hH:aA3 w F p Y M Z N)(bM:aAV w na s):
  Calls prog 21 #[.agg (jP p.ty p.cs p.id p.loc p.how Y p.body.length M Z p.kids.length N),.slice na nn nc] w λe w'=>aAU w (aLq p s) e w':=by
 obtain⟨d,aq⟩:∃W,W=(w.alloc (.cells (jP p.ty p.cs p.id p.loc p.how Y p.body.length M Z p.kids.length N) 25)).alloc (.cells (jP jz jz jz jz 0 none 0 0 none 0 0) 25):=⟨_,rfl⟩
 have bg:jb w d:=by rw[aq];exact(ja _ _).alloc (by simp) _
 have bq:d.heap[w.heap.size]?=some (.cells (jP p.ty p.cs p.id p.loc p.how Y p.body.length M Z p.kids.length N) 25):=by rw[aq];exact aDj (aDi w _) (ja _ _)
 have aV:d.heap[w.heap.size+1]?=some (.cells (jP jz jz jz jz 0 none 0 0 none 0 0) 25):=by
  rw[aq]
  have:=aDi (w.alloc (.cells (jP p.ty p.cs p.id p.loc p.how Y p.body.length M Z p.kids.length N) 25)) (.cells (jP jz jz jz jz 0 none 0 0 none 0 0) 25)
  simpa using this
 obtain⟨A,hA⟩:∃A,w.heap.size=A:=⟨_,rfl⟩
 obtain⟨r,hr⟩:∃r,A+1=r:=⟨_,rfl⟩
 have HR:Hid (w.heap.size=A/\A+1=r):=⟨hA,hr⟩
 have bO:d.heap.size=r+1:=by rw[aq];simp;omega
 rw[hA]at bq aV
 rw[hr]at aV
 have bt:Hid _:=bO
 have S:∀W,jb d W->jb w W:=λW y=>bg.trans (y.mono bg.size)
 have z:Hid (∀W,jb d W->jb w W):=S
 have az:Hid _:=aV
 have ay:Hid _:=bq
 have HE:Hid (aAI w):=hE
 have aa:Hid (∀W,jb d W->aA3 W F p Y M Z N):=λW y=>hH.below (S W y)
 have al:Hid (∀W,jb d W->aAV W na s):=λW y=>bM.below (S W y)
 have CA:Hid (∀W,jb d W->Calls prog 33 #[.agg (jP p.ty p.cs p.id p.loc p.how Y p.body.length M Z p.kids.length N)] W λe w'=>aAc W (aNh p) e w'):=λW y=>aBR p Y M Z N F W (aa.out W y)
 have CC:Hid (∀W,jb d W->Calls prog 24 #[.slice na nn nc,.int .i64 ((aNh p).2.length:Int)] W λe w'=>e=.returned (.int .i64 (aDT ((aNh p).2.length:Int) (-1) [] s:Nat))/\jb W w'):=λW y=>aLv na nn nc s en _ bk W (al.out W y)
 have CG:Hid (∀W,jb d W->Calls prog 9 #[.agg (jP p.ty p.cs p.id p.loc p.how Y p.body.length M Z p.kids.length N)] W λe w'=>aAA W (aNh p) e w'):=λW y=>aDb p Y M Z N F W (hE.below (S W y)) (aa.out W y)
 have ak:Hid (aAS s):=bk
 have aA:Hid _:=en
 have ah:=aNk p
 have bc:Hid (aHR p=aHM aKG ((aNh p).2.map λx=>x.1.alone) (aU0 (aNh p).2) 0 ((aNh p).2.map λx=>x.1.alone) []):=rfl
 have am:Hid ((aNh p).1=0->lev 4 p=true/\(aG3 4 p).length<=12):=λh=>⟨(aNo p h).1,(aNo p h).2.1⟩
 have bb:Hid ((aNh p).1=0->∀W,jb d W->Calls prog 62 #[.agg (jP p.ty p.cs p.id p.loc p.how Y p.body.length M Z p.kids.length N)] W λe w'=>aBE 4 p W e w'):=λh W y=>aVb 4 F p Y M Z N W (am.out h).1 (λx hx=>⟨by have:=aHb 4 p (am.out h).1 x hx;have:=(am.out h).2;omega,by have:=aEf (aEg p h x hx);omega⟩) (aa.out W y)
 have aC:Hid _:=aq
 have bC:jb d d:=jr _ _
 have aQ:Hid (aLq p s=if(aNh p).1≠0 then((aNh p).1,aOw)else if aDT ((aNh p).2.length:Int) (-1) [] s≠0 then(aDT ((aNh p).2.length:Int) (-1) [] s,aOw)else match aHR p with|none=>(2,aOw)|some f=>if(aFH (aSL (aDA s) f) 4 p 0).1≠0 then((aFH (aSL (aDA s) f) 4 p 0).1,aOw)else(0,(aFH (aSL (aDA s) f) 4 p 0).2.1)):=rfl
 generalize aLq p s=C at*
 clear aq bg bq aV S hE hH bM bk en bO
 by_cases D:(aNh p).1=0
 ·have bT:Hid _:=D
  have aX:=bb.out D
  have H:Hid (∀W,jb d W->Calls prog 62 #[.agg (jP p.ty p.cs p.id p.loc p.how Y p.body.length M Z p.kids.length N)] W λe w'=>aBE 4 p W e w'):=aX
  have br:=am.out D
  have I:Hid _:=br
  have ad:=aQ.out
  rw[jh (by rw[D];simp)]at ad
  have J:Hid _:=ad
  clear ad aX br bb am aQ
  have aj:Hid (∀W,jb d W->Calls prog 33 #[.agg (jP p.ty p.cs p.id p.loc p.how Y p.body.length M Z p.kids.length N)] W λe w'=>∃q c,e=.returned (.tuple #[.slice q (aNh p).2.length c,.int .i64 0])/\jb d w'):=λW y=>(CA.out W y).mono λe w' h=>by
   obtain⟨q,c,he,_⟩:=h.2.2 D
   exact⟨q,c,he,y.trans (h.1.mono y.size)⟩
  obtain⟨CE,bf⟩:∃E,aDT ((aNh p).2.length:Int) (-1) [] s=E:=⟨_,rfl⟩
  have a9:Hid (CE=0->∀n∈s,∃m:Nat,m<12/\n.1=(m:Int)):=λh n hn=>by
   have:=aD0 _ s (-1) [] (bf.trans h) n hn
   exact⟨n.1.toNat,by omega,by omega⟩
  have aM:Hid (∀W,jb d W->Calls prog 9 #[.agg (jP p.ty p.cs p.id p.loc p.how Y p.body.length M Z p.kids.length N)] W λe w'=>(aHR p=none->e=.returned (.tuple #[.slice none 0 0,.int .i64 2]))/\(∀f,aHR p=some f->∃q c,e=.returned (.tuple #[.slice q f.length c,.int .i64 0])/\G6 w' q f.length f)/\jb d w'):=λW y=>(CG.out W y).mono λe w' h=>by
   have h2:=h.2.2 D
   have aR:=y.trans (h.1.mono y.size)
   rw[<-bc.out]at h2
   refine⟨λhn=>by rw[hn]at h2;exact h2,λf hg=>?_,aR⟩
   rw[hg]at h2
   obtain⟨v,he,ho⟩:=h2
   obtain⟨q,c,rfl,_,_,hk⟩:=aMc ho
   exact⟨q,c,he,hk⟩
  rw[bf]at CC J
  have ae:Hid (∀f,aHR p=some f->(∀g∈f,GIn g)/\f.length<=720):=λf h=>aHT p f h
  clear bf CG bc CA bT D
  generalize (aNh p).2.length=PL at*
  obtain⟨bl,aS⟩:∃n,p.body.length=n:=⟨_,rfl⟩
  obtain⟨kl,aT⟩:∃n,p.kids.length=n:=⟨_,rfl⟩
  have av:Hid (p.body.length=bl/\p.kids.length=kl):=⟨aS,aT⟩
  rw[aS,aT]at aj aM H ay aC
  rw[aS,aT]
  clear aS aT
  go_enter func21,ntmps21
  go_upto_region 1 with fail
  rw[<-aC.out]
  obtain⟨z0,z1,z2,z3,z4,z5,z6,zf⟩:=aLK ay.out
  go_wp2_with fail
  refine(aj.out _ bC).mono ?_
  rintro e w2 ⟨q2,c2,rfl,ab⟩
  clear z0 z1 z2 z3 z4 z5 z6 zf aC hA hr aj
  go_wp2_with fail
  refine(CC.out _ ab).mono ?_
  rintro e w3 ⟨rfl,a4⟩
  have aI:jb d w3:=ab.trans (a4.mono ab.size)
  clear a4 ab CC
  by_cases bF:CE=0
  ·subst bF
   have ax:Hid (∀n∈s,∃m:Nat,m<12/\n.1=(m:Int)):=a9.out rfl
   clear a9
   have ad:=J.out
   rw[jh (by simp)]at ad
   have af:Hid _:=ad
   obtain⟨z0,z1,z2,z3,z4,z5,z6,zf⟩:=aLK (aDj ay.out aI)
   clear ad J
   go_wp2_with fail
   refine(aM.out _ aI).mono ?_
   rintro e w4 ⟨bm,bn,aJ⟩
   clear z0 z1 z2 z3 z4 z5 z6 zf aM aI
   cases ac:aHR p with
   |none=>
    obtain rfl:=bm ac
    have o:Hid (C=(2,aOw)):=by unfold Hid;rw[af.out,ac]
    have h2:¬(2:Nat)=0:=by decide
    clear bm bn ac af ae ax aa al ak aA HE ah H I
    have j:Hid (aAU w C (.returned (.tuple #[.agg (jP jz jz jz jz 0 none 0 0 none 0 0),.int .i64 ((2:Nat):Int)])) (aNZ w4 r (.string jz) (.string jz) (.string jz) (.string jz) (.int .i64 0) (.slice none 0 0) (.slice none 0 0))):=by
     unfold Hid
     rw[o.out]
     exact⟨aN0 (z.out _ aJ) (by have:=HR.out;omega) _ _ _ _ _ _ _,λ_=>rfl,λh=>absurd h (by assumption)⟩
    obtain⟨r0,r1,r2,r3,r4,r5,r6,rf⟩:=aLK (aDj az.out aJ)
    go_wp2_with fail
    refine jt (v:=.tuple #[.agg (jP jz jz jz jz 0 none 0 0 none 0 0),.int .i64 ((2:Nat):Int)]) ?_ rfl j.out
    rw[jq rfl]
    go_simp
   |some f=>
    obtain⟨q4,c4,rfl,bG⟩:=bn f ac
    obtain⟨a7,bU⟩:=ae.out f ac
    have o:Hid (C=if(aFH (aSL (aDA s) f) 4 p 0).1≠0 then((aFH (aSL (aDA s) f) 4 p 0).1,aOw)else(0,(aFH (aSL (aDA s) f) 4 p 0).2.1)):=by unfold Hid;rw[af.out,ac]
    have CT:Hid (Calls prog 61 #[.slice q4 f.length c4,.slice na nn nc] w4 λe w'=>aBr w4 (aSL (aDA s) f) e w'):=aSP q4 f.length c4 f na nn nc s aA.out (by omega) ax.out a7 ak.out w4 bG (al.out w4 aJ)
    have be:Hid (∀i,i<12->(aSL (aDA s) f i).length<=maxLen/\∀t∈aSL (aDA s) f i,t.size<=maxLen):=λi _=>by
     have h1:=aSM (aDA s) (λi=>aDC s (λn hn=>(ak.out.2 n hn).2.2) i) f i
     exact⟨by have:=h1.1;unfold maxLen;omega,h1.2⟩
    obtain⟨tx,bP⟩:∃x,aSL (aDA s) f=x:=⟨_,rfl⟩
    obtain⟨gl,bH⟩:∃x,f.length=x:=⟨_,rfl⟩
    rw[bP]at o be CT
    rw[bH]at CT bU⊢
    clear bP bH
    have a8:Hid _:=aJ
    clear bm bn ac af ae ax al ak aA ah bG a7 aJ
    go_wp2_with fail
    refine CT.out.mono ?_
    rintro e w5 ⟨tt,v,rfl,a5,aU,bo,aL⟩
    have aN:Hid _:=a8.out.trans (a5.mono a8.out.size)
    obtain⟨L,aF⟩:∃T,w5.heap.size=T:=⟨_,rfl⟩
    obtain⟨V5,ao⟩:∃V,V=(w5.alloc (.cells aAa 98)).setCells L 0 tt.toList:=⟨_,rfl⟩
    have aK:(w5.alloc (.cells aAa 98)).heap[L]?=some (.cells aAa 98):=by rw[<-aF];exact aDi _ _
    have aH:V5.heap.size=L+1:=by rw[ao,setCells_size,<-aF];simp
    have a1:∀k,k<L->V5.heap[k]?=w5.heap[k]?:=λk hk=>by rw[ao,aP2 _ _ _ _ k (by omega),j9 _ _ _ (by omega)]
    have a2:V5.heap[L]?=some (.cells tt 98):=by rw[ao];exact aGt aK rfl aU
    have aD:jb d V5:=by
     rw[ao]
     exact aP1 (W:=w5) (by rw[<-aF];exact aN.out.size) _ _ _ (aN.out.alloc aN.out.size _)
    have bx:Hid (aBy L (L+1) tx V5):=aTB (w:=w4) (W:=w5) (v:=v) aF.symm aH a2 (λk hk=>a1 k (by omega)) bo aL be.out
    have bw:Hid ((w5.alloc (.cells aAa 98)).there L 0 tt.size):=by unfold Hid;rw[aU];exact aSR aK rfl
    have aY:Hid ((prog.info? 98).map (·.size)=some tt.size):=by unfold Hid;rw[aU];kernel_rfl
    have aW:Hid (tt.all (·.oneCell')=true):=by
     unfold Hid
     rw[Array.all_eq_true]
     intro i hi
     have h1:=bo i (by omega)
     rw[jcc hi]at h1
     obtain⟨qa,ca,hq⟩:=aMi (aL i (by omega))
     rw[hq]at h1
     rw[jI h1]
     rfl
    have bz:Hid _:=ao
    have aw:Hid _:=aD
    have an:Hid _:=aH
    have bB:Hid (Calls prog 62 #[.agg (jP p.ty p.cs p.id p.loc p.how Y bl M Z kl N)] V5 λe w'=>aBE 4 p V5 e w'):=H.out V5 aD
    clear a5 aU bo aL ao aK aH a1 a2 aD CT be H a8 aN
    go_upto_region 11 with(refine wpList_store_mid rfl 98 (.tmp 10) (.tmp 41) rfl L 0 tt rfl rfl bw.out aY.out aW.out ?_)
    rw[<-bz.out]
    clear bz bw aY aW aF
    obtain⟨z0,z1,z2,z3,z4,z5,z6,zf⟩:=aLK (aDj ay.out aw.out)
    go_wp2_with fail
    refine bB.out.mono ?_
    rintro e w6 ⟨ob,oc,U,X,rfl,ar,bJ,bV⟩
    rw[av.out.1,av.out.2]
    clear z0 z1 z2 z3 z4 z5 z6 zf bB
    have ag:jb d w6:=aw.out.trans (ar.mono aw.out.size)
    obtain⟨O,hO⟩:∃O,w6.heap.size=O:=⟨_,rfl⟩
    obtain⟨nb,bj⟩:∃n,O+1=n:=⟨_,rfl⟩
    obtain⟨V7,ap⟩:∃V,V=(w6.alloc (.cells (jP p.ty p.cs p.id p.loc p.how ob bl oc U kl X) 25)).alloc (.cells #[.int .i64 0] 3):=⟨_,rfl⟩
    have G:jb w6 V7:=by rw[ap];exact(ja _ _).alloc (by simp) _
    have kO:V7.heap[O]?=some (.cells (jP p.ty p.cs p.id p.loc p.how ob bl oc U kl X) 25):=by rw[ap,<-hO];exact aDj (aDi w6 _) (ja _ _)
    have kN:aAX V7 nb ((0:Nat):Int):=by
     rw[ap,<-bj,<-hO]
     have:=aDi (w6.alloc (.cells (jP p.ty p.cs p.id p.loc p.how ob bl oc U kl X) 25)) (.cells #[.int .i64 0] 3)
     simpa [aAX] using this
    have a3:V7.heap.size=nb+1:=by rw[ap];simp;omega
    have aE:jb d V7:=ag.trans (G.mono ag.size)
    have bE:aBy L (L+1) tx V7:=bx.out.move (by have:=ar.size;have:=G.size;omega) (λk hk=>by rw[G.block k (by have:=ar.size;have:=an.out;omega),ar.block k (by have:=an.out;omega)])
    have aG:L+1<=O:=by have:=ar.size;have:=an.out;omega
    have bQ:w.heap.size<=L+1:=by have:=(z.out _ aw.out).size;have:=an.out;omega
    obtain⟨p1,p2,p3,p4,p5⟩:=bV
    have a0:aA4 (λa l=>RT V7 (aHm (nb+1)) 4 V5.heap.size O a X l) V7 p ob oc U X:=⟨p1,p2,p3.under G,p4,RT.kind (λb (hb:noB b)=>hb.elim) 4 _ _ _ _ _ (by rw[<-hO];exact RT.below p5 G)⟩
    have aZ:InB (BK (aHm (nb+1)) V5.heap.size O U p.kids) ob:=λa ha=>by
     have:=bJ a ha
     rw[hO]at this
     exact this.imp_right λh=>h.elim
    have aP:Hid (Calls prog 63 #[.pointer (some (jx O 0)),doF L nb] V7 λe w'=>aAo V7 O 0 nb V5.heap.size O (aHm (nb+1)) 4 (aFH tx 4 p 0) U X e w'):=aFK w HE.out L (L+1) nb (nb+1) tx bQ (by omega) (by omega) 4 p O 0 V5.heap.size O 0 ob oc U X (jP p.ty p.cs p.id p.loc p.how ob bl oc U kl X) V7 I.out.1 (by have:=I.out.2;omega) aG (by omega) (by omega) (by have:=an.out;omega) (by omega) (by omega) (by omega) (z.out _ aE) (by omega) bE kN kO (by rw[av.out.1];rfl) (by rw[av.out.2];rfl) aZ a0
    have bd:Hid _:=kO
    have aO:Hid _:=aE
    have aB:Hid (O+1=nb/\V7.heap.size=nb+1/\L+1<=O/\d.heap.size<=V5.heap.size/\d.heap.size<=O):=⟨bj,a3,aG,aw.out.size,by rw[<-hO];exact ag.size⟩
    have bA:Hid _:=ap
    have B:Hid ((aFH tx 4 p 0).1=0->(aFH tx 4 p 0).2.1.ty=p.ty/\(aFH tx 4 p 0).2.1.cs=p.cs/\(aFH tx 4 p 0).2.1.id=p.id/\(aFH tx 4 p 0).2.1.loc=p.loc/\(aFH tx 4 p 0).2.1.how=p.how/\(aFH tx 4 p 0).2.1.kids.length=p.kids.length):=aFJ tx 4 p 0
    clear ag ap G kO kN a3 aE bE aG bQ p1 p2 p3 p4 p5 a0 aZ bJ ar bx an aa I HE
    go_upto_region 13 with fail
    rw[<-bA.out]
    clear bA hO bj
    obtain⟨R,hR⟩:∃R,aFH tx 4 p 0=R:=⟨_,rfl⟩
    rw[hR]at aP o B
    clear hR
    obtain⟨RE,RP,RK⟩:=R
    simp only at o B
    go_wp2_with fail
    refine aP.out.mono ?_
    rintro e w8 ⟨rfl,bp,ai⟩
    simp only at ai
    have P:jb d w8:=bp.under aO.out aO.out.size (λk hk=>by have:=aB.out;rcases hk with hk|hk|hk<;>omega)
    by_cases bN:RE=0
    ·subst bN
     obtain⟨_,fb,fc,bi,bK,bI⟩:=ai rfl
     obtain⟨fl,bh⟩:∃n,RP.body.length=n:=⟨_,rfl⟩
     rw[bh]at bi
     have bS:w8.heap[O]?=some (.cells (jP p.ty p.cs p.id p.loc p.how fb fl fc U kl X) 25):=by rw[bi,aP5 bd.out];rfl
     obtain⟨s1,s2,s3,s4,s5,s6⟩:=B.out rfl
     have j:Hid (aAU w C (.returned (.tuple #[.agg (jP p.ty p.cs p.id p.loc p.how fb fl fc U kl X),.int .i64 0])) (aNZ w8 r (.string p.ty) (.string p.cs) (.string p.id) (.string p.loc) (.int .i64 p.how) (.slice fb fl fc) (.slice U kl X))):=by
      have hn:=aB.out
      have bX:=bt.out
      unfold Hid
      rw[o.out,jh (by simp)]
      obtain⟨p1,p2,p3,p4,p5⟩:=bI
      have bL:∀V:World,(∀b,w.heap.size<=b->b<(aNZ w8 r (.string p.ty) (.string p.cs) (.string p.id) (.string p.loc) (.int .i64 p.how) (.slice fb fl fc) (.slice U kl X)).heap.size->V.heap[b]?=(aNZ w8 r (.string p.ty) (.string p.cs) (.string p.id) (.string p.loc) (.int .i64 p.how) (.slice fb fl fc) (.slice U kl X)).heap[b]?)->∀b,(V5.heap.size<=b/\b<O)\/aHm (nb+1) b->b<w8.heap.size->V.heap[b]?=w8.heap[b]?:=λV hV b hb hl=>by
       have aR:(V5.heap.size<=b/\b<O)\/nb+1<=b:=hb
       have bY:=HR.out
       have h1:w.heap.size<=b:=by rcases aR with h|h<;>omega
       have h2:b≠r:=by rcases aR with h|h<;>omega
       rw[hV b h1 (by rw[aN3];exact hl)]
       exact aN1 w8 r _ _ _ _ _ _ _ b h2
      have a6:aAR w (aNZ w8 r (.string p.ty) (.string p.cs) (.string p.id) (.string p.loc) (.int .i64 p.how) (.slice fb fl fc) (.slice U kl X)) RP fb fc U X:=λV hV=>⟨p1,p2,aAe.move (bL V hV) p3 (λa ha=>(bK a ha).out),p4,RT.at 4 _ _ _ _ _ (RT.move 4 _ _ _ _ _ (bL V hV) p5)⟩
      refine⟨aN0 (z.out _ P) (by have:=HR.out;omega) _ _ _ _ _ _ _,λh=>absurd rfl h,λ_=>⟨fb,fc,U,X,?_,a6.held,a6⟩⟩
      simp only
      rw[s1,s2,s3,s4,s5,s6,av.out.2,bh]
     have bW:¬O=r:=by have:=aB.out;have:=bt.out;omega
     obtain⟨z0,z1,z2,z3,z4,z5,z6,zf⟩:=aLK bS
     obtain⟨r0,r1,r2,r3,r4,r5,r6,rf⟩:=aLK (aDj az.out P)
     clear bi bK bI bS s1 s2 s3 s4 s5 s6 o B aP bd aO bp ai bh P
     go_wp2_with fail
     refine jt (v:=.tuple #[.agg (jP p.ty p.cs p.id p.loc p.how fb fl fc U kl X),.int .i64 0]) ?_ rfl j.out
     rw[jq rfl]
     go_simp
    ·have hz:((RE:Int)==0)=false:=by rw[jg];omega
     have bR:¬(RE:Int)=0:=by omega
     have bs:Hid (C=(RE,aOw)):=by unfold Hid;rw[o.out,jo bN]
     clear o B aP bd aO bp ai
     have j:Hid (aAU w C (.returned (.tuple #[.agg (jP jz jz jz jz 0 none 0 0 none 0 0),.int .i64 (RE:Int)])) (aNZ w8 r (.string jz) (.string jz) (.string jz) (.string jz) (.int .i64 0) (.slice none 0 0) (.slice none 0 0))):=by
      unfold Hid
      rw[bs.out]
      exact⟨aN0 (z.out _ P) (by have:=HR.out;omega) _ _ _ _ _ _ _,λ_=>rfl,λh=>absurd h (by assumption)⟩
     obtain⟨r0,r1,r2,r3,r4,r5,r6,rf⟩:=aLK (aDj az.out P)
     go_wp2_with fail
     refine jt (v:=.tuple #[.agg (jP jz jz jz jz 0 none 0 0 none 0 0),.int .i64 (RE:Int)]) ?_ rfl j.out
     rw[jq rfl]
     go_simp
  ·have o:Hid (C=(CE,aOw)):=by unfold Hid;rw[J.out,jo bF]
   have hz:((CE:Int)==0)=false:=by rw[jg];omega
   have bR:¬(CE:Int)=0:=by omega
   clear J ae a9 aM aa al ak aA HE ah H I
   have j:Hid (aAU w C (.returned (.tuple #[.agg (jP jz jz jz jz 0 none 0 0 none 0 0),.int .i64 (CE:Int)])) (aNZ w3 r (.string jz) (.string jz) (.string jz) (.string jz) (.int .i64 0) (.slice none 0 0) (.slice none 0 0))):=by
    unfold Hid
    rw[o.out]
    exact⟨aN0 (z.out _ aI) (by have:=HR.out;omega) _ _ _ _ _ _ _,λ_=>rfl,λh=>absurd h (by assumption)⟩
   obtain⟨r0,r1,r2,r3,r4,r5,r6,rf⟩:=aLK (aDj az.out aI)
   go_wp2_with fail
   refine jt (v:=.tuple #[.agg (jP jz jz jz jz 0 none 0 0 none 0 0),.int .i64 (CE:Int)]) ?_ rfl j.out
   rw[jq rfl]
   go_simp
 ·have aj:Hid (∀W,jb d W->Calls prog 33 #[.agg (jP p.ty p.cs p.id p.loc p.how Y p.body.length M Z p.kids.length N)] W λe w'=>e=.returned (.tuple #[.slice none 0 0,.int .i64 ((aNh p).1:Int)])/\jb d w'):=λW y=>(CA.out W y).mono λe w' h=>⟨h.2.1 D,y.trans (h.1.mono y.size)⟩
  have o:Hid (C=((aNh p).1,aOw)):=by unfold Hid;rw[aQ.out,jo D]
  obtain⟨E,bD⟩:∃E,(aNh p).1=E:=⟨_,rfl⟩
  rw[bD]at aj o D
  have hz:((E:Int)==0)=false:=by rw[jg];omega
  have bR:¬(E:Int)=0:=by omega
  clear aQ bc am bb CC CG bD CA al aa ak aA HE ah
  generalize p.body.length=bl at*
  generalize p.kids.length=kl at*
  go_enter func21,ntmps21
  go_upto_region 1 with fail
  rw[<-aC.out]
  obtain⟨z0,z1,z2,z3,z4,z5,z6,zf⟩:=aLK ay.out
  go_wp2_with fail
  refine(aj.out _ bC).mono ?_
  rintro e w2 ⟨rfl,ab⟩
  clear z0 z1 z2 z3 z4 z5 z6 zf aC hA hr
  have j:Hid (aAU w C (.returned (.tuple #[.agg (jP jz jz jz jz 0 none 0 0 none 0 0),.int .i64 (E:Int)])) (aNZ w2 r (.string jz) (.string jz) (.string jz) (.string jz) (.int .i64 0) (.slice none 0 0) (.slice none 0 0))):=by
   unfold Hid
   rw[o.out]
   exact⟨aN0 (z.out _ ab) (by have:=HR.out;omega) _ _ _ _ _ _ _,λ_=>rfl,λh=>absurd h (by assumption)⟩
  obtain⟨r0,r1,r2,r3,r4,r5,r6,rf⟩:=aLK (aDj az.out ab)
  go_wp2_with fail
  refine jt (v:=.tuple #[.agg (jP jz jz jz jz 0 none 0 0 none 0 0),.int .i64 (E:Int)]) ?_ rfl j.out
  rw[jq rfl]
  go_simp
def hab:jB:=[104,116,116,112,58,47,47,104,47,97,47,98]
def hac:jB:=[104,116,116,112,58,47,47,104,47,97,47,99]
def aH7:jB:=[104,116,116,112,58,47,47,104,47,97,47,98,35,100]
theorem aQQ:aNh aQI=(0,[(aQI,-1),(aMG,0),(aMH,0)]):=by kernel_rfl
theorem aQS:aU0 [(aQI,-1),(aMG,0),(aMH,0)]=[hab,hab,hac]:=by kernel_rfl
def aQG:List GL:=[⟨1,9,10,[99],hac,2⟩,⟨1,21,26,[99,105,100,58,120],[99,105,100,58,120],2⟩,⟨1,35,37,[35,100],aH7,-1⟩]
theorem aQN:aHM aKG [aQI.alone,aMG.alone,aMH.alone] [hab,hab,hac] 0 [aQI.alone,aMG.alone,aMH.alone] []=some aQG:=by kernel_rfl
def aOR:jB:=[60,97,32,104,114,101,102,61,39,112,46,112,110,103,39,62,60,105,109,103,32,83,82,67,61,112,46,112,110,103,62,60,97,32,104,114,101,102,61,35,100,62]
def aNy:jA:=⟨#[112,46,112,110,103]⟩
def aQH:PT:={aQI with kids:=[{aMG with body:=aOR},aMH]}
theorem aQL:aDT 3 (-1) [] [(2,aNy)]=0:=by kernel_rfl
theorem aQM:aFH (aSL (aDA [(2,aNy)]) aQG) 4 aQI 0=(0,aQH,3):=by kernel_rfl
theorem aQO:aHR aQI=some aQG:=by
 unfold aHR
 rw[aQQ]
 show aHM aKG [aQI.alone,aMG.alone,aMH.alone] (aU0 [(aQI,-1),(aMG,0),(aMH,0)]) 0 [aQI.alone,aMG.alone,aMH.alone] []=some aQG
 rw[aQS]
 exact aQN
theorem aQP:aLq aQI [(2,aNy)]=(0,aQH):=by
 unfold aLq
 rw[aQO,aQQ]
 simp only[ne_eq,not_true_eq_false,jei]
 rw[jh (by show¬¬aDT 3 (-1) [] [(2,aNy)]=0;rw[aQL];simp),aQM]
 rfl
theorem aOS:((lba aOR).toList==[60,97,32,104,114,101,102,61,39,112,46,112,110,103,39,62,60,105,109,103,32,83,82,67,61,112,46,112,110,103,62,60,97,32,104,114,101,102,61,35,100,62])=true:=by kernel_rfl
def T8(w:World)(p:jO)(n:Nat)(xs:List jB):Prop:=xs.length=n/\(n≠0->∃b o,p=some (jx b o)/\∀i,i<n->w.cell? (jx b (o+i))=some (.string (tx8 (xs.getD i []))))
theorem T8.below{w w':World}{p:jO}{n:Nat}{d:List jB}(h:T8 w p n d)(f:jb w w'):T8 w' p n d:=by
 refine⟨h.1,λg=>?_⟩
 obtain⟨b,o,e,a⟩:=h.2 g
 exact⟨b,o,e,λi c=>(f.cell (p:=jx b (o+i)) (ji w _ (a i c))).trans (a i c)⟩
theorem aNz:aAS [(2,aNy)]:=⟨by decide,λn a=>by
 obtain rfl:n=(2,aNy):=by simpa using a
 exact⟨by decide,by decide,by decide⟩⟩
theorem aNA{w:World}{b:Nat}(h:w.heap[b]?=some (.cells #[.int .i64 2,.string aNy] 56)):aAV w (some (jx b 0)) [(2,aNy)]:=λ_=>⟨b,0,rfl,λi a=>by
 obtain rfl:i=0:=by simp at a;exact a
 exact⟨(aDe h 0).trans rfl,(aDe h 1).trans rfl⟩⟩
theorem aLp{w w':World}{e:Ending}(h:aAU w (aLq aQI [(2,aNy)]) e w'):jb w w'/\∃(j:jO) (f b o g:Nat) (a:jO) (c:Nat),e=.returned (.tuple #[.agg (jP aQH.ty aQH.cs aQH.id aQH.loc aQH.how j 0 f (some (jx b o)) 2 g),.int .i64 0])/\b<w'.heap.size/\w'.cell? (jx b (o+5))=some (.slice a aOR.length c)/\aAe w' a aOR/\(a=none->aOR.length=0/\c=0):=by
 obtain⟨k,_,d⟩:=h
 refine⟨k,?_⟩
 rw[aQP]at d
 obtain⟨j,f,s,g,m,hh,_⟩:=d rfl
 obtain⟨_,_,_,_,n⟩:=hh
 obtain⟨b,o,rfl,l⟩:=n (by unfold aQH;simp)
 obtain⟨a,c,v,t,⟨c0,c1,c2,c3,c4,c5,c6⟩,r,i,p,_⟩:=l 0 (by show 0<2;decide)
 rw[jdr,jcd]at c0 c5
 exact⟨j,f,b,o,g,a,c,m,ji w' _ c0,c5,p,λe=>⟨by have q:=i.2.2 e;have d:=i.1;show aOR.length=0;have:aOR.length<=c:=d;omega,i.2.2 e⟩⟩
theorem aOT(w:World)(M:aAI w):Calls prog 23 #[] w (jG (.bool true) w):=by
 have P:Hid (aAI w):=M
 clear M
 go_enter func23,ntmps23
 go_wp2_with fail
 refine(aNW _).mono ?_
 rintro e n ⟨J,rfl,s,l⟩
 obtain⟨m,f⟩:∃W,W=n.alloc (.cells #[.int .i64 2,.string ⟨#[112,46,112,110,103]⟩] 56):=⟨_,rfl⟩
 have d:jb n m:=by rw[f];exact ja _ _
 have z:m.heap[n.heap.size]?=some (.cells #[.int .i64 2,.string aNy] 56):=by rw[f];exact aDi _ _
 have c:jb w m:=l.trans (d.mono l.size)
 have H:Hid (Calls prog 21 #[.agg (jP aQI.ty aQI.cs aQI.id aQI.loc aQI.how none aQI.body.length 0 (some (jx J 0)) aQI.kids.length 2),.slice (some (jx n.heap.size 0)) 1 1] m λe w'=>aAU m (aLq aQI [(2,aNy)]) e w'):=aLr aQI none 0 (some (jx J 0)) 2 1 (some (jx n.heap.size 0)) 1 1 [(2,aNy)] rfl aNz m (P.out.below c) (s.below d) (aNA z)
 have q:Hid _:=f
 clear f z s d l
 go_wp2_with fail
 rw[<-q.out]
 clear q
 refine H.out.mono ?_
 intro e B L
 obtain⟨t,O,I,b,o,D,F,G,rfl,v,x,i,A⟩:=aLp L
 have j:Hid _:=c.trans (t.mono c.size)
 obtain⟨k,g⟩:∃W,W=B.alloc (.cells (jP aQH.ty aQH.cs aQH.id aQH.loc aQH.how O 0 I (some (jx b o)) 2 D) 25):=⟨_,rfl⟩
 have a:jb B k:=by rw[g];exact ja _ _
 have N:k.heap[B.heap.size]?=some (.cells (jP aQH.ty aQH.cs aQH.id aQH.loc aQH.how O 0 I (some (jx b o)) 2 D) 25):=by rw[g];exact aDi _ _
 have T:k.cell? (jx B.heap.size 6)=some (.slice (some (jx b o)) 2 D):=(aDe N 6).trans rfl
 have c5:k.cell? (jx b (o+5))=some (.slice F aOR.length G):=(a.cell (p:=jx b (o+5)) v).trans x
 have y:(convert 22 9 (.slice F aOR.length G)).run prog k=.ok (.string (lba aOR)) k:=aED k F aOR.length G aOR rfl (i.under a) A
 have E:=aOS
 have C:Hid _:=j.out.trans (a.mono j.out.size)
 have r:Hid _:=g
 clear g a N x i A v L t H c j
 generalize lba aOR=R at y E
 generalize aOR.length=S at c5 y
 go_upto_region 2 with fail
 rw[<-r.out]
 clear r
 go_wp2_with fail
 go_ret
 exact⟨rfl,C.out⟩
theorem aDv(l:jB):Lib.bytesOf (l.map λc=>((c.toNat:Nat):Int))=l:=by
 unfold Lib.bytesOf
 rw[jcm]
 have:((λn:Int=>UInt8.ofNat n.toNat)∘λc:UInt8=>((c.toNat:Nat):Int))=id:=by funext c;simp
 rw[this,List.map_id]
def aPO(p q:PT):Bool:=decide (p.ty.data.toList=q.ty.data.toList)&&decide (p.cs.data.toList=q.cs.data.toList)&&decide (p.id.data.toList=q.id.data.toList)&&decide (p.loc.data.toList=q.loc.data.toList)&&decide (p.how=q.how)&&decide (p.body=q.body)
theorem aCv{a b:jA}(h:a.data.toList=b.data.toList):a=b:=jbv (jbj.1 h)
theorem aPP(p q:PT):aPO p q=true↔p.alone=q.alone:=by
 unfold aPO
 simp only[j7,jam]
 constructor
 ·rintro ⟨⟨⟨⟨⟨a,b⟩,c⟩,d⟩,f⟩,g⟩
  obtain⟨i,j,k,l,m,n,o⟩:=p
  obtain⟨r,s,t,v,x,y,z⟩:=q
  simp only at a b c d f g
  rw[aCv a,aCv b,aCv c,aCv d,f,g]
  rfl
 ·intro h
  obtain⟨i,j,k,l,m,n,o⟩:=p
  obtain⟨r,s,t,v,x,y,z⟩:=q
  simp only[PT.alone,PT.mk.injEq]at h
  obtain⟨rfl,rfl,rfl,rfl,rfl,rfl,_⟩:=h
  simp
theorem aRg(a b:jA):(a.toList==b.toList)=decide (a.data.toList=b.data.toList):=by
 rw[jj,jj,jW];simp
theorem aFY{a b:List Int}{n:Nat}(f:a.length=n)(g:b.length=n)(h:∀j,j<n->a.getD j 0=b.getD j 0):a=b:=by
 apply List.ext_getElem (by omega)
 intro i c d
 have:=h i (by omega)
 simpa [List.getD_eq_getElem?_getD,List.getElem?_eq_getElem c,List.getElem?_eq_getElem d] using this
theorem aFZ(L M:jO)(n m c d:Nat)(b f:List Int)(w:World)(V:n<=maxLen)(U:m<=maxLen)(S:Row .u8 w L n b)(T:Row .u8 w M m f):
  Calls prog 34 #[.slice L n c,.slice M m d] w λe w'=>e=.returned (.bool (decide (b=f)))/\∃q,w'=w.drewN q:=by
 unfold maxLen at V U
 obtain⟨v,C⟩:=S
 obtain⟨z,D⟩:=T
 by_cases p:n=m
 ·subst p
  by_cases E:n=0
  ·subst E
   have l:b=f:=by rw[List.eq_nil_of_length_eq_zero v,List.eq_nil_of_length_eq_zero z]
   have a:decide (b=f)=true:=by simp[l]
   rw[a]
   clear C D l a v z
   go_enter func34,ntmps34
   go_wp2
   refine jek 1 ?_
   rw[jcj]
   go_wp2
   go_ret
   exact⟨rfl,0,rfl⟩
  ·obtain⟨N,W,rfl,F⟩:=C E
   obtain⟨O,X,rfl,G⟩:=D E
   clear C D
   go_enter func34,ntmps34
   go_wp2
   go_loopg [13] n (λg H wr=>∃k q:Nat,k<=n/\n-k<=g/\H=.int .i64 k/\wr=w.drewN q/\∀j,j<k->b.getD j 0=f.getD j 0)
   case atStart=>exact⟨0,0,jy _,by omega,rfl,rfl,λj I=>absurd I (jdo _)⟩
   case round=>
    obtain⟨k,q,Z,Y,rfl,rfl,i⟩:=hrel
    by_cases o:k<n
    ·have P:w.cell? (jx N (W+k))=some (.int .u8 (b.getD k 0)):=F k o
     have R:w.cell? (jx O (X+k))=some (.int .u8 (f.getD k 0)):=G k o
     have A:Hid (∀j,j<k->b.getD j 0=f.getD j 0):=i
     clear i F G
     generalize r:b.getD k 0=x at P
     generalize t:f.getD k 0=y at R
     have B:Hid (b.getD k 0=x/\f.getD k 0=y):=⟨r,t⟩
     clear r t
     by_cases s:x=y
     ·subst s
      go_wp2_with fail
      go_quiet (fail)
      go_wp2
      go_roundg (n-(k+1))
      case measure=>omega
      case rel=>
       refine⟨k+1,q+nq,by omega,by omega,by go_num,rfl,λj I=>?_⟩
       by_cases e:j=k
       ·subst e
        rw[B.out.1,B.out.2]
       ·exact A.out j (by omega)
     ·go_wp2_with fail
      go_quiet (fail)
      go_wp2
      go_ret
      refine⟨aO8 ?_,q+nq,World.drewN_drewN _ _ _⟩
      symm
      rw[jda]
      intro e
      apply s
      rw[<-B.out.1,<-B.out.2,e]
    ·have:k=n:=by omega
     subst this
     have a:Hid (decide (b=f)=true):=by simp[Hid,aFY v z i]
     clear F G i
     go_wp2
     go_ret
     exact⟨aO8 a.out.symm,q,rfl⟩
 ·have J:¬(n:Int)=(m:Int):=by omega
  have a:decide (b=f)=false:=by
   rw[jda]
   intro e
   apply p
   rw[<-v,<-z,e]
  rw[a]
  clear C D a
  go_enter func34,ntmps34
  go_wp2
  go_ret
  exact⟨rfl,0,rfl⟩
end Go.Proofs.YtbbfcbodhmeanaaGreatDoor

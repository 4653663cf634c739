import Derived.Test.YtbbfcbodhmeanaaGreatDoorXrewritesays8
set_option maxHeartbeats 8000000
set_option maxRecDepth 1000000
namespace Go.Proofs.YtbbfcbodhmeanaaGreatDoor
open Go.Proofs.Tryz
open Go.RowKit Go.WideMaps Go.Maps
theorem aKW(T:jA)(l:jB):(T.toList==l)=decide (T.data.toList=l):=by
 rw[jj,jW];simp
theorem aRh(T:jA):(T.toList==([104,114,101,102]:jB))=decide (T.data.toList=aIg):=aKW T [104,114,101,102]
theorem aRj(T:jA):(T.toList==([115,114,99]:jB))=decide (T.data.toList=aQ8):=aKW T [115,114,99]
theorem aK6(f:Int->Int):∀(n:Nat) (l:jB),(Lib.mapGoD f n l).length<=4*n
 |0,_=>jy _
 |n+1,l=>by
  unfold Lib.mapGoD
  split
  ·exact jy _
  ·have a:=aK6 f n (l.drop (Lib.decodeL l).2)
   rw[je]
   have b:(if 0<=f (Lib.decodeL l).1 then Lib.encodeRune (f (Lib.decodeL l).1)else []).length<=4:=by
    split
    ·have:=(Lib.encodeRuneZ_length (f (Lib.decodeL l).1)).2
     simpa [Lib.encodeRune] using this
    ·exact jy _
   omega
theorem aKH(l:jB):(aKG l).length<=4*l.length:=aK6 _ _ _
structure aBn(w:World)(g:Nat)(p:jA)(s0:jB)(gk:Nat)(v:Value)(wr:World)(sj:jB)(seen:List jB)(acc:List LK):Prop where
 few:sj.length<gk
 la:acc.length+sj.length<=4000
 ls:seen.length+sj.length<=4000
 suf:Suf p sj
 rd:aBf wr g p (pos p sj)
 mv:aAQ w g (pos p sj) wr
 sn:aBk wr w.heap.size seen.length seen
 own:wr.ownsRow (w.heap.size+1) 40 3 v acc.length (lv p.size acc)
 eq:aRI aKG [] s0=((aRI aKG seen sj).1.map (acc++·),(aRI aKG seen sj).2)
def aBo(w:World)(g:Nat)(p:jA)(r:Option (List LK)×jB)(e:Ending)(w':World):Prop:=
 ∃v,e=.returned v/\w'.ownsRow w.heap.size 40 3 v (r.1.getD []).length (lv p.size (r.1.getD []))/\aAQ w g (pos p r.2) w'
theorem aAQ.grown{w w' a:World}{g b:Nat}{m:Int}(h:aAQ w g m w')(f:w'.grownBy a (some b))(d:w.heap.size<=b):aAQ w g m a:=by
 have c:Below w.heap.size (w.setCell (jx g 1) (.int .i64 m)) w':=h
 exact c.grown f h.size (λk i=>by cases i;exact d)
theorem aAQ.grownv{w w' a:World}{g:Nat}{v:Value}{m:Int}(h:aAQ w g m w')(d:w'.grownBy a v.ownBlock)(c:∀k,v.ownBlock=some k->w.heap.size<=k):aAQ w g m a:=by
 have b:Below w.heap.size (w.setCell (jx g 1) (.int .i64 m)) w':=h
 exact b.grown d h.size c
theorem aBf.grown{w w':World}{g:Nat}{p:jA}{k:Int}(h:aBf w g p k){a:Option Nat}(c:w.grownBy w' a)(b:some g≠a):aBf w' g p k:=by
 unfold aBf
 rw[c.block g h.lt b]
 exact h
theorem aQC{w:World}{B e s n:Nat}{v:Value}{i:List Value}(h:w.ownsRow B e s v n i):∃a c,v=.slice a n c/\n<=c/\c<=maxLen/\(a=none->n=0/\c=0):=by
 rcases h.2 with⟨rfl,rfl⟩|⟨g,cap,b,rfl,_,_,d,f,_⟩
 ·exact⟨none,0,rfl,jf _,by decide,λ_=>⟨rfl,rfl⟩⟩
 ·exact⟨some (jx g 0),cap,rfl,d,f,λh=>by cases h⟩
theorem aEK{seen:List jB}{a:jB}(h:seen.contains a=false):seen.count a=0:=by
 rw[List.count_eq_zero]
 intro b
 rw[List.contains_iff_mem.2 b]at h
 cases h
theorem aEH{seen:List jB}{a:jB}(h:seen.contains a=true):0<seen.count a:=List.count_pos_iff.2 (List.contains_iff_mem.1 h)
theorem aRP(w0:World)(HE:aAI w0)(g:Nat)(hg:w0.heap.size<=g)(p:ByteArray)(s:List UInt8)(hS:Suf p s)(w:World)(hr:aBf w g p (pos p s))(hb:Below w0.heap.size w0 w)(hp:p.size<=4000):
  Calls prog 132 #[.pointer (some ⟨g,0,none⟩)] w λe w'=>aBo w g p (aRD aKG s) e w':=by
 have HR:Hid (aBf w g p (pos p s)):=hr
 have bw:=hr.lt
 have aM:g≠w.heap.size:=by omega
 have be:Hid (Suf p (s.dropWhile aIv)):=hS.dw aIv
 have a8:Hid (aAI w0):=HE
 have HB:Hid (Below w0.heap.size w0 w):=hb
 have HT:Hid (aRD aKG s=aRI aKG [] (s.dropWhile aIv)):=rfl
 have aQ:Hid (∀W,aBf W g p (pos p s)->Calls prog 170 #[.pointer (some ⟨g,0,none⟩),.func (Fn.func 171) #[] #[]] W λe w'=>e=.returned (.string (lba (s.takeWhile aIv)))/\aAQ W g (pos p (s.dropWhile aIv)) w'):=λW r=>aMP _ #[] aIv (λ_=>True) g p s hS W r trivial (aCa g) hp
 have bj:=@run_makeMap prog
 have bz:=(hS.dw aIv).len
 obtain⟨i0,hi,a5,a6,a7⟩:=jao aII
 show Calls _ _ _ _ λe w'=>aBo w g p (aRD aKG s) e w'
 rw[HT.out]
 have bd:Hid (∀e w',aBo w g p (aRI aKG [] (s.dropWhile aIv)) e w'->aBo w g p (aRI aKG [] (s.dropWhile aIv)) e w'):=λ_ _ h=>h
 generalize s.dropWhile aIv=J at*
 generalize pos p s=k at*
 clear hr HE hb hS HT
 have ar:Below w.heap.size w (w.alloc (.map #[] 0)):=(jr _ _).alloc (jf _) _
 have aV:Hid (aBk (w.alloc (.map #[] 0)) w.heap.size 0 []):=aPV w
 go_enter func132,ntmps132
 go_wp2_with fail
 refine(aQ.out _ (HR.out.below ar)).mono ?_
 rintro e w1 ⟨rfl,av⟩
 have a0:=av.rd (HR.out.below ar)
 have ay:aAQ w g (pos p J) w1:=((aAQ.still HR.out).then ar).trans av HR.out
 have aD:aBk w1 w.heap.size 0 []:=aV.out.move (av.block _ (by simp) (jaz aM))
 clear aQ av ar aV bj
 have aR:Hid (aBn w g p J (J.length+1) (.slice none 0 0) w1 J [] []):=⟨jdk _,by simp;omega,by simp;omega,be.out,a0,ay,aD,jT _ _ _ _,by
  cases h:(aRI aKG [] J).1 with
  |none=>exact jej h rfl
  |some l=>exact jej h rfl⟩
 clear a0 ay aD
 go_wp2_with fail
 go_loopg [3] (J.length+1) (λgk v wr=>∃(A:List UInt8) (seen:List (List UInt8)) (b:List LK),Hid (aBn w g p J gk v wr A seen b))
 case atStart=>exact⟨J,[],[],aR⟩
 case round=>
  obtain⟨A,seen,b,L⟩:=hrel
  clear aR bd
  obtain⟨a3,c3,rfl,hac,br,bx⟩:=aQC L.out.own
  have bs:=L.out.la
  have bt:=L.out.ls
  have CP:Hid (∀W,aBf W g p (pos p A)->Calls prog 170 #[.pointer (some ⟨g,0,none⟩),.func (Fn.func 173) #[] #[]] W λe w'=>e=.returned (.string (lba (A.takeWhile aIt)))/\aAQ W g (pos p (A.dropWhile aIt)) w'):=λW r=>aMP _ #[] aIt (λ_=>True) g p A L.out.suf W r trivial (aCb g) hp
  have O:=L.out.suf.dw aIt
  have CD:Hid (∀W,aBf W g p (pos p (A.dropWhile aIt))->Calls prog 75 #[.pointer (some ⟨g,0,none⟩)] W λe w'=>e=.returned (.bool (decide (A.dropWhile aIt=[])))/\∃m,w'=W.drewN m):=λW hW=>aFm g p _ O _ rfl W hW
  have CS:Hid (∀W,aBf W g p (pos p (A.dropWhile aIt))->Calls prog 174 #[.pointer (some ⟨g,0,none⟩),.int .u8 62] W λe w'=>e=.returned (.bool ((A.dropWhile aIt).head?==some 62))/\∃m,w'=W.drewN m):=λW hW=>aPX g p _ O 62 62 rfl _ rfl W hW
  have aK:=aFz aIt A
  go_wp2_with fail
  refine(CP.out _ L.out.rd).mono ?_
  rintro e w2 ⟨rfl,af⟩
  have aO:=af.rd L.out.rd
  have az:aAQ w g (pos p (A.dropWhile aIt)) w2:=L.out.mv.trans af HR.out
  have aE:=L.out.sn.move (af.block _ L.out.sn.lt (jaz aM))
  have ah:=af.owns L.out.own (by omega)
  have ap:Hid (∀h:A.dropWhile aIt=[],aRI aKG [] J=(none,[])):=λh=>by rw[L.out.eq,aRM aKG seen A h];rfl
  have ao:Hid (∀t,A.dropWhile aIt=62::t->aRI aKG [] J=(some b,t)):=λt h=>by rw[L.out.eq,aRJ aKG seen A t h];simp
  have aq:Hid (∀c t,A.dropWhile aIt=c::t->c≠62->aRI aKG [] J=((aRI aKG (aKG (aLm (c::t))::seen) (aCg (c::t)).2).1.map ((b++aLf seen (aKG (aLm (c::t))) (aCg (c::t)).1)++·),(aRI aKG (aKG (aLm (c::t))::seen) (aCg (c::t)).2).2)):=λc t h hc=>by
   rw[L.out.eq,aRL aKG seen A c t h hc]
   simp only[Option.map_map]
   refine jej ?_ rfl
   show Option.map _ _=Option.map _ _
   refine jab (λf=>Option.map f _) ?_
   funext y
   simp
  have bm:=L.out.few
  clear CP af L
  go_wp2_with fail
  refine(CD.out _ aO).mono ?_
  rintro e w3 ⟨rfl,n3,rfl⟩
  clear CD
  have ak:=aO.drewN n3
  have F:=az.drewN n3
  have am:aBk (w2.drewN n3) w.heap.size seen.length seen:=aE.move rfl
  have S:(w2.drewN n3).ownsRow (w.heap.size+1) 40 3 (.slice a3 b.length c3) b.length (lv p.size b):=ah
  clear aO az aE ah
  generalize w2.drewN n3=w3 at*
  cases hd:A.dropWhile aIt with
  |nil=>
   have HN:=ap.out hd
   have a9:Hid (aAQ w g (pos p []) w3):=by unfold Hid;rw[<-hd];exact F
   have aH:Hid (aRI aKG [] J=(none,[])):=HN
   clear ap ao aq CS ak F am S HN
   simp only[decide_true]
   go_wp2_with fail
   go_ret
   show aBo _ _ _ _ _ _
   rw[aH.out]
   exact⟨_,rfl,jT _ _ _ _,a9.out⟩
  |cons c t=>
   rw[hd]at CS ak F O aK
   have bh:decide (c::t=[])=false:=by simp
   rw[bh]
   go_wp2_with fail
   refine(CS.out _ ak).mono ?_
   rintro e w4 ⟨rfl,n4,rfl⟩
   clear CS
   have aa:=ak.drewN n4
   have G:=F.drewN n4
   have X:aBk (w3.drewN n4) w.heap.size seen.length seen:=am.move rfl
   have D:(w3.drewN n4).ownsRow (w.heap.size+1) 40 3 (.slice a3 b.length c3) b.length (lv p.size b):=S
   clear ak F am S
   generalize w3.drewN n4=w4 at*
   have aL:pos p t=pos p (c::t)+1:=aND O (a:=[c]) rfl
   have bi:=aNB p (c::t)
   by_cases aJ:c=62
   ·subst aJ
    have aH:Hid (aRI aKG [] J=(some b,t)):=ao.out t hd
    have V:((62::t).head?==some (62:UInt8))=true:=rfl
    rw[V]
    have r:=aa.at_
    have hf:=aa.frozen 1
    have bb:Hid (aAQ w g (pos p t) (w4.setCell ⟨g,1,none⟩ (.int .i64 (((pos p (62::t)+1:Nat):Int))))):=by
     unfold Hid;rw[aL];exact G.trans aAQ.of_set HR.out
    have bc:Hid ((w4.setCell ⟨g,1,none⟩ (.int .i64 (((pos p (62::t)+1:Nat):Int)))).ownsRow w.heap.size 40 3 (.slice a3 b.length c3) b.length (lv p.size b)):=aMl (aAQ.of_set.owns D (by omega)) (by omega)
    have bC:IntKind.i64.wrap (((pos p (62::t):Nat):Int)+1)=(((pos p (62::t)+1:Nat)):Int):=by rw[ju];omega
    clear ap ao aq aa G X D aL
    generalize pos p (62::t)=kk at*
    go_wp2_with fail
    go_ret
    show aBo _ _ _ _ _ _
    rw[aH.out]
    exact⟨_,rfl,bc.out,bb.out⟩
   ·have V:((c::t).head?==some (62:UInt8))=false:=by simp[aJ]
    rw[V]
    have aS:=aq.out c t hd aJ
    have CA:Hid (Calls prog 175 #[.pointer (some ⟨g,0,none⟩)] w4 λe w'=>e=.returned (.tuple #[.string (lba (aKG (aLm (c::t)))),.agg (lkO p.size (aCg (c::t)).1),.bool (aCg (c::t)).1.isSome])/\aAQ w4 g (pos p (aCg (c::t)).2) w'):=
     aCh w0 a8.out g hg p c t O w4 aa (G.base HB.out hg) hp
    have bg:=aCl c t
    have ad:Suf p (aCg (c::t)).2:=(aCq (c::t)).trans O
    simp only[jm]at aK
    have aT:Hid (aKG (aLm (c::t))=(lba (aKG (aLm (c::t)))).data.toList/\(lba (aKG (aLm (c::t)))).size<=maxLen):=⟨rfl,by
     rw[aJC]
     have r:=aKH (aLm (c::t))
     have h2:(aLm (c::t)).length<=(c::t).length:=by
      rw[aLn]
      have:=(jdg (l:=t) aIr).length_le
      simp only[jm]
      omega
     have h3:=O.len
     unfold maxLen
     omega⟩
    have ax:Hid (aRI aKG [] J=((aRI aKG ((lba (aKG (aLm (c::t)))).data.toList::seen) (aCg (c::t)).2).1.map ((b++aLf seen (lba (aKG (aLm (c::t)))).data.toList (aCg (c::t)).1)++·),(aRI aKG ((lba (aKG (aLm (c::t)))).data.toList::seen) (aCg (c::t)).2).2)):=aS
    have aN:=aT.out.2
    clear ap ao aq aL bi aS aT hd V
    generalize lba (aKG (aLm (c::t)))=d at*
    generalize (aCg (c::t)).1=OV at*
    generalize (aCg (c::t)).2=R at*
    obtain⟨V0,V1,V2,hV⟩:∃(V0 V1:Int) (V2:ByteArray),lkO p.size OV=#[.int .i64 V0,.int .i64 V1,.string V2]:=by cases OV<;>exact⟨_,_,_,rfl⟩
    rw[hV]at CA
    go_wp2_with fail
    refine CA.out.mono ?_
    rintro e w5 ⟨rfl,ag⟩
    clear CA
    have a1:=ag.rd aa
    have aA:aAQ w g (pos p R) w5:=G.trans ag HR.out
    have Y:=X.move (ag.block _ X.lt (jaz aM))
    have ai:=ag.owns D (by omega)
    have U:Below w5.heap.size w5 (w5.alloc (.cells #[.int .i64 V0,.int .i64 V1,.string V2] 40)):=(jr _ _).alloc (jf _) _
    have a2:=a1.below U
    have aB:=aA.then U
    have an:=Y.move (U.block _ Y.lt)
    have T:=ai.alloc (.cells #[.int .i64 V0,.int .i64 V1,.string V2] 40)
    have bl:seen.count d.data.toList<=4000:=j1 List.count_le_length (by omega)
    have bn:=an.look d aN
    obtain⟨w7,bA,Z,ae⟩:=an.put d aN (by unfold maxLen;omega) ((seen.count d.data.toList:Nat)+1:Int) (by omega) (by omega)
    have aY:=Z.look d aN
    rw[List.count_cons_self]at aY
    have a4:=a2.grown ae (by intro e;have:=jI e;omega)
    have aC:=aB.grown ae (jf _)
    have aj:=T.kept ae (by
     rcases T.2 with⟨r,_⟩|⟨gg,cap,bp,r,h2,_⟩
     ·left;rw[r];rfl
     ·right;rw[r];intro e;simp[Value.ownBlock]at e;omega)
    have bo:w.heap.size<w5.heap.size:=Y.lt
    have aX:w7.heap[w5.heap.size]?=some (.cells #[.int .i64 V0,.int .i64 V1,.string V2] 40):=by
     rw[ae.block _ (by simp) (by intro e;have:=jI e;omega)]
     exact aKx _ _
    obtain⟨d0,d1,d2,df⟩:=aJE aX
    have aP:aBk w7 w.heap.size (seen.length+1) (d.data.toList::seen):=Z
    have n:Hid (aBk w7 w.heap.size (seen.length+1) (d.data.toList::seen)):=Z
    have ab:Hid (aBf w7 g p (pos p R)):=a4
    have M:Hid (aAQ w g (pos p R) w7):=aC
    have N:Hid (w7.ownsRow (w.heap.size+1) 40 3 (.slice a3 b.length c3) b.length (lv p.size b)):=aj
    have eh:=aRh d
    have es:=aRj d
    have aF:Hid (seen.contains d.data.toList=true->0<seen.count d.data.toList):=aEH
    have aG:Hid (seen.contains d.data.toList=false->seen.count d.data.toList=0):=aEK
    have bf:R.length<gk-1:=by omega
    have bq:R.length+1<=A.length:=by omega
    have aU:Hid (Suf p R):=ad
    clear ag aa G X D a1 aA Y ai U a2 aB an T Z aP a4 aC aj aX ae ad
    have j:Hid (∀(z:List LK) (v2:Value) (E:World),z=b++aLf seen d.data.toList OV->z.length<=b.length+1->aBf E g p (pos p R)->aAQ w g (pos p R) E->aBk E w.heap.size (seen.length+1) (d.data.toList::seen)->E.ownsRow (w.heap.size+1) 40 3 v2 z.length (lv p.size z)->aBn w g p J (gk-1) v2 E R (d.data.toList::seen) z):=λz v2 E r h2 h3 h4 h5 h6=>
     ⟨bf,by omega,by simp only[jm];omega,aU.out,h3,h4,h5,h6,by rw[r];exact ax.out⟩
    clear ax aU bg aK
    generalize aW:seen.count d.data.toList=ac at*
    have bB:IntKind.i64.wrap ((ac:Int)+1)=(ac:Int)+1:=by rw[ju];omega
    cases OV with
    |none=>
     simp only[Option.isSome_none]
     go_wp2_with fail
     go_roundg (gk-1)
     case measure=>omega
     case rel=>exact⟨R,d.data.toList::seen,b,j.out b _ _ (by simp[aLf]) (by omega) ab.out M.out n.out N.out⟩
    |some x=>
     simp only[Option.isSome_some]
     cases P:seen.contains d.data.toList with
     |true=>
      have h0:=aF.out P
      have aZ:(((ac:Int)+1)==1)=false:=by rw[jg];omega
      have bk:¬((ac:Int)+1)=1:=by omega
      clear aF aG
      go_wp2_with fail
      go_roundg (gk-1)
      case measure=>omega
      case rel=>exact⟨R,d.data.toList::seen,b,j.out b _ _ (by simp only[aLf];rw[jh (by rw[P];simp),j6]) (by omega) ab.out M.out n.out N.out⟩
     |false=>
      have h0:=aG.out P
      have aZ:(((ac:Int)+1)==1)=true:=by rw[h0];rfl
      clear aF aG h0
      by_cases hh:d.data.toList=aIg
      ·rw[j3 hh]at eh
       have o:seen.contains d.data.toList=false/\(d.data.toList=aIg\/d.data.toList=aQ8):=⟨P,.inl hh⟩
       clear hh P es aW
       have HX:Hid (lkv p.size x=#[.int .i64 V0,.int .i64 V1,.string V2]):=hV
       clear hV
       go_wp2_with (at_builtin;refine jX _ rfl (.tmp 50) (.tmp 52) 65 rfl (w.heap.size+1) 40 i0 (.agg #[.int .i64 0,.int .i64 0,.string ⟨#[]⟩]) 3 32 underlying65 hi a5 a6 a7 rfl (by decide) _ _ _ rfl (N.out.alloc _) ⟨w7.heap.size,0,none⟩ 1 1 [.int .i64 V0,.int .i64 V1,.string V2] rfl rfl ?c1 ?c2 ?c3 ?c4 ?c5 ?_)
       case c1=>exact aDN _ _ _ _ _
       case c2=>intro u hu;simp at hu;rcases hu with rfl|rfl|rfl<;>rfl
       case c3=>unfold maxLen;omega
       case c4=>have r:=M.out.size;omega
       case c5=>have r:=n.out.lt;simp;omega
       intro v9 E q C _
       have B:Hid (∀k,(Value.slice a3 b.length c3).ownBlock=some k->w.heap.size+1<=k/\k<w7.heap.size):=N.out.lt
       have al:aBf E g p (pos p R):=(ab.out.below ((jr _ _).alloc (jf _) _)).grown C (by intro e;have:=B.out g e.symm;omega)
       have H:aAQ w g (pos p R) E:=(M.out.alloc _).grownv C (λk hk=>by have:=B.out k hk;omega)
       have I:aBk E w.heap.size (seen.length+1) (d.data.toList::seen):=by
        have r:=n.out
        have h2:=r.lt
        have h3:=r.move (j9 w7 (.cells #[.int .i64 V0,.int .i64 V1,.string V2] 40) w.heap.size h2)
        refine h3.move (C.block _ h3.lt ?_)
        intro e
        have:=B.out _ e.symm
        omega
       have i:E.ownsRow (w.heap.size+1) 40 3 v9 (b++[x]).length (lv p.size (b++[x])):=by rw[aK2,HX.out,je];exact q
       have aI:Hid (aBn w g p J (gk-1) v9 E R (d.data.toList::seen) (b++[x])):=j.out _ _ _ (by simp only[aLf];rw[jo o]) (by simp) al H I i
       clear q C al H I i B j HX o
       go_wp2_with fail
       go_roundg (gk-1)
       case measure=>omega
       case rel=>exact⟨R,d.data.toList::seen,b++[x],aI⟩
      ·rw[jV hh]at eh
       by_cases aw:d.data.toList=aQ8
       ·rw[j3 aw]at es
        have o:seen.contains d.data.toList=false/\(d.data.toList=aIg\/d.data.toList=aQ8):=⟨P,.inr aw⟩
        clear aw hh P aW
        have HX:Hid (lkv p.size x=#[.int .i64 V0,.int .i64 V1,.string V2]):=hV
        clear hV
        go_wp2_with (at_builtin;refine jX _ rfl (.tmp 50) (.tmp 52) 65 rfl (w.heap.size+1) 40 i0 (.agg #[.int .i64 0,.int .i64 0,.string ⟨#[]⟩]) 3 32 underlying65 hi a5 a6 a7 rfl (by decide) _ _ _ rfl (N.out.alloc _) ⟨w7.heap.size,0,none⟩ 1 1 [.int .i64 V0,.int .i64 V1,.string V2] rfl rfl ?c1 ?c2 ?c3 ?c4 ?c5 ?_)
        case c1=>exact aDN _ _ _ _ _
        case c2=>intro u hu;simp at hu;rcases hu with rfl|rfl|rfl<;>rfl
        case c3=>unfold maxLen;omega
        case c4=>have r:=M.out.size;omega
        case c5=>have r:=n.out.lt;simp;omega
        intro v9 E q C _
        have B:Hid (∀k,(Value.slice a3 b.length c3).ownBlock=some k->w.heap.size+1<=k/\k<w7.heap.size):=N.out.lt
        have al:aBf E g p (pos p R):=(ab.out.below ((jr _ _).alloc (jf _) _)).grown C (by intro e;have:=B.out g e.symm;omega)
        have H:aAQ w g (pos p R) E:=(M.out.alloc _).grownv C (λk hk=>by have:=B.out k hk;omega)
        have I:aBk E w.heap.size (seen.length+1) (d.data.toList::seen):=by
         have r:=n.out
         have h2:=r.lt
         have h3:=r.move (j9 w7 (.cells #[.int .i64 V0,.int .i64 V1,.string V2] 40) w.heap.size h2)
         refine h3.move (C.block _ h3.lt ?_)
         intro e
         have:=B.out _ e.symm
         omega
        have i:E.ownsRow (w.heap.size+1) 40 3 v9 (b++[x]).length (lv p.size (b++[x])):=by rw[aK2,HX.out,je];exact q
        have aI:Hid (aBn w g p J (gk-1) v9 E R (d.data.toList::seen) (b++[x])):=j.out _ _ _ (by simp only[aLf];rw[jo o]) (by simp) al H I i
        clear q C al H I i B j HX o
        go_wp2_with fail
        go_roundg (gk-1)
        case measure=>omega
        case rel=>exact⟨R,d.data.toList::seen,b++[x],aI⟩
       ·rw[jV aw]at es
        go_wp2_with fail
        go_roundg (gk-1)
        case measure=>omega
        case rel=>exact⟨R,d.data.toList::seen,b,j.out b _ _ (by simp only[aLf];rw[jh (λh=>by rcases h.2 with h|h<;>contradiction),j6]) (by omega) ab.out M.out n.out N.out⟩
end Go.Proofs.YtbbfcbodhmeanaaGreatDoor
namespace Go.Proofs.YtbbfcbodhmeanaaGreatDoor
open Go.Proofs.Tryz
open Go.RowKit
theorem aCM(s:jB)(M:jA)(b:Bool)(q:aRw M.data.toList s=b)(w:World):
  Calls prog 131 #[.string (lba s),.string M] w λe w'=>e=.returned (.bool b)/\w'=w:=by
 have d:Hid (∀W,Calls prog 81 #[.string (lba s),.string M] W λe w'=>e=.returned (.tuple #[.string (lba (Lib.trimPrefix s M.data.toList)),.bool (M.data.toList.isPrefixOf s)])/\w'=W):=λW=>strings_CutPrefix (lba s) M W
 subst q
 by_cases f:M.data.toList.isPrefixOf s=true
 ·have n:Lib.trimPrefix s M.data.toList=s.drop M.data.toList.length:=by
   unfold Lib.trimPrefix Lib.hasPrefix
   rw[jo f]
  have j:Hid (aRw M.data.toList s=aH9 (s.drop M.data.toList.length)):=by unfold Hid aRw;rw[f];rfl
  rw[n,f]at d
  clear n f
  generalize s.drop M.data.toList.length=R at*
  cases R with
  |nil=>
   have r:lba []=jz:=rfl
   rw[r]at d
   go_enter func131,ntmps131
   go_wp2_with fail
   refine(d.out _).mono ?_
   rintro e l ⟨rfl,a⟩
   subst a
   go_wp2_with fail
   go_ret
   exact⟨aO8 (by rw[j.out];rfl),rfl⟩
  |cons c R=>
   have p:Hid (∀W,Calls prog 169 #[.int .u8 (c.toNat:Int)] W λe w'=>e=.returned (.bool (aJ3 c))/\w'=W):=λW=>aJ6 c _ rfl W
   have x:(lba (c::R)).size=R.length+1:=by rw[aJC];rfl
   obtain⟨T,k⟩:∃T,T=lba (c::R):=⟨_,rfl⟩
   rw[<-k]at d x
   have o:∀h:0<T.size,T[0]'h=c:=by subst k;intro h;rfl
   have i:0<T.size:=by omega
   have v:=o i
   have t:(0:Int)<(T.size:Int):=by omega
   have m:T.toList.isEmpty=false:=by subst k;rw[jj];rfl
   clear k o
   go_enter func131,ntmps131
   go_wp2_with fail
   refine(d.out _).mono ?_
   rintro e l ⟨rfl,a⟩
   subst a
   go_wp2_with fail
   refine(p.out _).mono ?_
   rintro e l ⟨rfl,a⟩
   subst a
   go_wp2_with fail
   go_ret
   exact⟨aO8 (by rw[j.out];rfl),rfl⟩
 ·have g:M.data.toList.isPrefixOf s=false:=Bool.eq_false_iff.2 f
  have j:Hid (aRw M.data.toList s=false):=by unfold Hid aRw;rw[g];rfl
  rw[g]at d
  go_enter func131,ntmps131
  go_wp2_with fail
  refine(d.out _).mono ?_
  rintro e l ⟨rfl,a⟩
  subst a
  go_wp2_with fail
  go_ret
  exact⟨aO8 (by rw[j.out]),rfl⟩
theorem aNM(s:jB)(M:jA)(b:Bool)(a:M.data.toList.isPrefixOf s=b)(w:World):
  Calls prog 59 #[.string (lba s),.string M] w λe w'=>e=.returned (.bool b)/\w'=w:=by
 subst a
 exact strings_HasPrefix (lba s) M w
theorem aNN{p:jA}{s:jB}(b:Suf p s)(n:Nat)(h:n<=s.length):pos p (s.drop n)=pos p s+n:=by
 have a:=aND b (jaq n s)
 rw[a,jF,jbf h]
theorem aNO{m s:jB}(h:m.isPrefixOf s=true):m.length<=s.length:=(jap.1 h).length_le
theorem aRx{m s:jB}(h:aRw m s=true):m.length<=s.length:=by
 unfold aRw at h
 rw[j7]at h
 exact aNO h.1
theorem aRH{w w':World}{g:Nat}{p:jA}{r:jB}(h:aAQ w g (pos p r) w'):aBo w g p (some [],r) (.returned (.slice none 0 0)) w':=⟨_,rfl,jT _ _ _ _,h⟩
theorem aMW(b:World)(t:aAI b)(g:Nat)(D:b.heap.size<=g)(p:jA)(s:jB)(n:Suf p s)(w:World)(i:aBf w g p (pos p s))(y:jb b w)(G:p.size<=4000)(c1:aEm.isPrefixOf s=true):
  Calls prog 76 #[.pointer (some (jx g 0))] w λe w'=>aBo w g p (some [],aCT aEl (s.drop 4)) e w':=by
 have v:Hid (aBf w g p (pos p s)):=i
 have z:Hid _:=y
 have J:=i.page
 have x:=i.at_
 have L:=i.frozen 1
 have M:=aF5 n
 have F:=aNB p s
 have E:((pos p s:Nat):Int)<=(p.size:Int):=by omega
 have d:pos p (s.drop 4)=pos p s+4:=aNN n 4 (aNO c1)
 have H:IntKind.i64.wrap (((pos p s:Nat):Int)+4)=(((pos p s+4:Nat)):Int):=by rw[ju];omega
 have r:Hid (∀W,Calls prog 59 #[.string (lba s),.string ⟨#[60,33,45,45]⟩] W λe w'=>e=.returned (.bool true)/\w'=W):=λW=>aNM s ⟨#[60,33,45,45]⟩ true c1 W
 have o:Hid (∀W,aBf W g p (pos p (s.drop 4))->jb b W->Calls prog 130 #[.pointer (some (jx g 0)),.string ⟨#[45,45,62]⟩] W λe w'=>e=.returned (.tuple #[])/\aAQ W g (pos p (aCT aEl (s.drop 4))) w'):=λW x C=>aMN b t ⟨#[45,45,62]⟩ (by decide) g p _ (n.dr 4) W x C G
 rw[d]at o
 generalize pos p s=k at*
 clear i y t d c1 n
 go_enter func76,ntmps76
 go_wp2_with fail
 go_region
 go_wp2_with fail
 refine(r.out _).mono ?_
 rintro e N ⟨rfl,l⟩
 have q:=l.symm
 subst q
 clear r l
 go_wp2_with fail
 obtain⟨B,a⟩:∃W,W=(w.setCell (jx g 1) (.int .i64 ((k:Int)+4))).drew:=⟨_,rfl⟩
 have m:aAQ w g ((k+4:Nat):Int) B:=by rw[a];exact aAQ.of_set.drewN 1
 have j:=m.rd v.out
 have c:=m.base z.out D
 rw[<-a]
 refine(o.out _ j c).mono ?_
 rintro e I ⟨rfl,f⟩
 have A:Hid (aAQ w g _ I):=m.trans f v.out
 clear a m j c o f
 go_wp2_with fail
 go_ret
 exact aRH A.out
theorem aMZ(c:World)(o:aAI c)(g:Nat)(_hg:c.heap.size<=g)(p:jA)(s:jB)(j:Suf p s)(w:World)(f:aBf w g p (pos p s))(r:jb c w)(A:p.size<=4000)(c1:aEm.isPrefixOf s=false)(c2:([60,33]:jB).isPrefixOf s=true):
  Calls prog 76 #[.pointer (some (jx g 0))] w λe w'=>aBo w g p (some [],aCT [62] s) e w':=by
 have i:Hid (aBf w g p (pos p s)):=f
 have t:Hid _:=r
 have D:=f.page
 have q:=f.at_
 have E:=f.frozen 1
 have F:=aF5 j
 have z:=aNB p s
 have y:((pos p s:Nat):Int)<=(p.size:Int):=by omega
 have l:Hid (∀W,Calls prog 59 #[.string (lba s),.string ⟨#[60,33,45,45]⟩] W λe w'=>e=.returned (.bool false)/\w'=W):=λW=>aNM s ⟨#[60,33,45,45]⟩ false c1 W
 have m:Hid (∀W,Calls prog 59 #[.string (lba s),.string ⟨#[60,33]⟩] W λe w'=>e=.returned (.bool true)/\w'=W):=λW=>aNM s ⟨#[60,33]⟩ true c2 W
 have n:Hid (∀W,aBf W g p (pos p s)->jb c W->Calls prog 130 #[.pointer (some (jx g 0)),.string ⟨#[62]⟩] W λe w'=>e=.returned (.tuple #[])/\aAQ W g (pos p (aCT [62] s)) w'):=λW q x=>aMN c o ⟨#[62]⟩ (by decide) g p _ j W q x A
 generalize pos p s=k at*
 clear f r o c1 c2 j
 go_enter func76,ntmps76
 go_wp2_with fail
 go_region
 go_wp2_with fail
 refine(l.out _).mono ?_
 rintro e C ⟨rfl,a⟩
 have b:=a.symm
 subst b
 clear l a
 go_wp2_with fail
 refine(m.out _).mono ?_
 rintro e C ⟨rfl,a⟩
 have b:=a.symm
 subst b
 clear m a
 go_wp2_with fail
 refine(n.out _ i.out.drew (t.out.drew)).mono ?_
 rintro e B ⟨rfl,d⟩
 have v:Hid (aAQ w g _ B):=((aAQ.still i.out).drewN 1).trans d i.out
 clear n d
 go_wp2_with fail
 go_ret
 exact aRH v.out
theorem aM8(c:World)(q:aAI c)(g:Nat)(_hg:c.heap.size<=g)(p:jA)(s:jB)(j:Suf p s)(w:World)(f:aBf w g p (pos p s))(t:jb c w)(C:p.size<=4000)(c1:aEm.isPrefixOf s=false)(c2:([60,33]:jB).isPrefixOf s=false)(c3:([60,63]:jB).isPrefixOf s=true):
  Calls prog 76 #[.pointer (some (jx g 0))] w λe w'=>aBo w g p (some [],aCT [62] s) e w':=by
 have i:Hid (aBf w g p (pos p s)):=f
 have x:Hid _:=t
 have E:=f.page
 have r:=f.at_
 have F:=f.frozen 1
 have G:=aF5 j
 have B:=aNB p s
 have A:((pos p s:Nat):Int)<=(p.size:Int):=by omega
 have l:Hid (∀W,Calls prog 59 #[.string (lba s),.string ⟨#[60,33,45,45]⟩] W λe w'=>e=.returned (.bool false)/\w'=W):=λW=>aNM s ⟨#[60,33,45,45]⟩ false c1 W
 have m:Hid (∀W,Calls prog 59 #[.string (lba s),.string ⟨#[60,33]⟩] W λe w'=>e=.returned (.bool false)/\w'=W):=λW=>aNM s ⟨#[60,33]⟩ false c2 W
 have n:Hid (∀W,Calls prog 59 #[.string (lba s),.string ⟨#[60,63]⟩] W λe w'=>e=.returned (.bool true)/\w'=W):=λW=>aNM s ⟨#[60,63]⟩ true c3 W
 have o:Hid (∀W,aBf W g p (pos p s)->jb c W->Calls prog 130 #[.pointer (some (jx g 0)),.string ⟨#[62]⟩] W λe w'=>e=.returned (.tuple #[])/\aAQ W g (pos p (aCT [62] s)) w'):=λW r z=>aMN c q ⟨#[62]⟩ (by decide) g p _ j W r z C
 generalize pos p s=k at*
 clear f t q c1 c2 j c3
 go_enter func76,ntmps76
 go_wp2_with fail
 go_region
 go_wp2_with fail
 refine(l.out _).mono ?_
 rintro e v ⟨rfl,a⟩
 have b:=a.symm
 subst b
 clear l a
 go_wp2_with fail
 refine(m.out _).mono ?_
 rintro e v ⟨rfl,a⟩
 have b:=a.symm
 subst b
 clear m a
 go_wp2_with fail
 refine(n.out _).mono ?_
 rintro e v ⟨rfl,a⟩
 have b:=a.symm
 subst b
 clear n a
 go_wp2_with fail
 refine(o.out _ i.out.drew (x.out.drew)).mono ?_
 rintro e D ⟨rfl,d⟩
 have y:Hid (aAQ w g _ D):=((aAQ.still i.out).drewN 1).trans d i.out
 clear o d
 go_wp2_with fail
 go_ret
 exact aRH y.out
theorem aNd(f:World)(B:aAI f)(g:Nat)(F:f.heap.size<=g)(p:jA)(s:jB)(q:Suf p s)(w:World)(n:aBf w g p (pos p s))(E:jb f w)(P:p.size<=4000)(c1:aEm.isPrefixOf s=false)(c2:([60,33]:jB).isPrefixOf s=false)(c3:([60,63]:jB).isPrefixOf s=false)(c4:aRw [60] s=true):
  Calls prog 76 #[.pointer (some (jx g 0))] w λe w'=>aBo w g p (some ((aRD aKG (s.drop 1)).1.getD []),(aRD aKG (s.drop 1)).2) e w':=by
 have C:Hid (aBf w g p (pos p s)):=n
 have I:Hid _:=E
 have T:=n.page
 have D:=n.at_
 have U:=n.frozen 1
 have V:=aF5 q
 have O:=aNB p s
 have N:((pos p s:Nat):Int)<=(p.size:Int):=by omega
 have l:pos p (s.drop 1)=pos p s+1:=aNN q 1 (aRx c4)
 have R:IntKind.i64.wrap (((pos p s:Nat):Int)+1)=(((pos p s+1:Nat)):Int):=by rw[ju];omega
 have x:Hid (∀W,Calls prog 59 #[.string (lba s),.string ⟨#[60,33,45,45]⟩] W λe w'=>e=.returned (.bool false)/\w'=W):=λW=>aNM s ⟨#[60,33,45,45]⟩ false c1 W
 have y:Hid (∀W,Calls prog 59 #[.string (lba s),.string ⟨#[60,33]⟩] W λe w'=>e=.returned (.bool false)/\w'=W):=λW=>aNM s ⟨#[60,33]⟩ false c2 W
 have z:Hid (∀W,Calls prog 59 #[.string (lba s),.string ⟨#[60,63]⟩] W λe w'=>e=.returned (.bool false)/\w'=W):=λW=>aNM s ⟨#[60,63]⟩ false c3 W
 have A:Hid (∀W,Calls prog 131 #[.string (lba s),.string ⟨#[60]⟩] W λe w'=>e=.returned (.bool true)/\w'=W):=λW=>aCM s ⟨#[60]⟩ true c4 W
 have r:Hid (∀W,aBf W g p (pos p (s.drop 1))->jb f W->Calls prog 132 #[.pointer (some (jx g 0))] W λe w'=>aBo W g p (aRD aKG (s.drop 1)) e w'):=λW D M=>aRP f B g F p _ (q.dr 1) W D M P
 rw[l]at r
 generalize aRD aKG (s.drop 1)=S at*
 generalize pos p s=k at*
 clear n E B l c1 c2 c3 c4 q
 go_enter func76,ntmps76
 go_wp2_with fail
 go_region
 go_wp2_with fail
 refine(x.out _).mono ?_
 rintro e v ⟨rfl,a⟩
 have b:=a.symm
 subst b
 clear x a
 go_wp2_with fail
 refine(y.out _).mono ?_
 rintro e v ⟨rfl,a⟩
 have b:=a.symm
 subst b
 clear y a
 go_wp2_with fail
 refine(z.out _).mono ?_
 rintro e v ⟨rfl,a⟩
 have b:=a.symm
 subst b
 clear z a
 go_wp2_with fail
 refine(A.out _).mono ?_
 rintro e v ⟨rfl,a⟩
 have b:=a.symm
 subst b
 clear A a
 go_wp2_with fail
 obtain⟨L,d⟩:∃W,W=(w.setCell (jx g 1) (.int .i64 ((k:Int)+1))).drew:=⟨_,rfl⟩
 have i:aAQ w g ((k+1:Nat):Int) L:=by rw[d];exact aAQ.of_set.drewN 1
 have o:=i.rd C.out
 have j:=i.base I.out F
 rw[<-d]
 refine(r.out _ o j).mono ?_
 rintro e H ⟨G,rfl,c,m⟩
 have J:Hid (aAQ w g _ H):=i.trans m C.out
 have t:Hid (H.ownsRow w.heap.size 40 3 G _ _):=aMl c i.size
 clear d i o j r m c
 go_wp2_with fail
 go_ret
 exact⟨G,rfl,t.out,J.out⟩
theorem aNa(d:World)(A:aAI d)(g:Nat)(E:d.heap.size<=g)(p:jA)(s:jB)(o:Suf p s)(w:World)(l:aBf w g p (pos p s))(D:jb d w)(M:p.size<=4000)(c1:aEm.isPrefixOf s=false)(c2:([60,33]:jB).isPrefixOf s=false)(c3:([60,63]:jB).isPrefixOf s=false)(c4:aRw [60] s=false)(c5:aRw [60,47] s=true):
  Calls prog 76 #[.pointer (some (jx g 0))] w λe w'=>aBo w g p (some [],(aRD aKG (s.drop 2)).2) e w':=by
 have B:Hid (aBf w g p (pos p s)):=l
 have F:Hid _:=D
 have R:=l.page
 have C:=l.at_
 have S:=l.frozen 1
 have T:=aF5 o
 have L:=aNB p s
 have J:((pos p s:Nat):Int)<=(p.size:Int):=by omega
 have i:pos p (s.drop 2)=pos p s+2:=aNN o 2 (aRx c5)
 have N:IntKind.i64.wrap (((pos p s:Nat):Int)+2)=(((pos p s+2:Nat)):Int):=by rw[ju];omega
 have t:Hid (∀W,Calls prog 59 #[.string (lba s),.string ⟨#[60,33,45,45]⟩] W λe w'=>e=.returned (.bool false)/\w'=W):=λW=>aNM s ⟨#[60,33,45,45]⟩ false c1 W
 have v:Hid (∀W,Calls prog 59 #[.string (lba s),.string ⟨#[60,33]⟩] W λe w'=>e=.returned (.bool false)/\w'=W):=λW=>aNM s ⟨#[60,33]⟩ false c2 W
 have x:Hid (∀W,Calls prog 59 #[.string (lba s),.string ⟨#[60,63]⟩] W λe w'=>e=.returned (.bool false)/\w'=W):=λW=>aNM s ⟨#[60,63]⟩ false c3 W
 have y:Hid (∀W,Calls prog 131 #[.string (lba s),.string ⟨#[60]⟩] W λe w'=>e=.returned (.bool false)/\w'=W):=λW=>aCM s ⟨#[60]⟩ false c4 W
 have z:Hid (∀W,Calls prog 131 #[.string (lba s),.string ⟨#[60,47]⟩] W λe w'=>e=.returned (.bool true)/\w'=W):=λW=>aCM s ⟨#[60,47]⟩ true c5 W
 have r:Hid (∀W,aBf W g p (pos p (s.drop 2))->jb d W->Calls prog 132 #[.pointer (some (jx g 0))] W λe w'=>aBo W g p (aRD aKG (s.drop 2)) e w'):=λW C I=>aRP d A g E p _ (o.dr 2) W C I M
 rw[i]at r
 generalize aRD aKG (s.drop 2)=P at*
 generalize pos p s=k at*
 clear l D A i c1 c2 c3 c4 c5 o
 go_enter func76,ntmps76
 go_wp2_with fail
 go_region
 go_wp2_with fail
 refine(t.out _).mono ?_
 rintro e q ⟨rfl,a⟩
 have b:=a.symm
 subst b
 clear t a
 go_wp2_with fail
 refine(v.out _).mono ?_
 rintro e q ⟨rfl,a⟩
 have b:=a.symm
 subst b
 clear v a
 go_wp2_with fail
 refine(x.out _).mono ?_
 rintro e q ⟨rfl,a⟩
 have b:=a.symm
 subst b
 clear x a
 go_wp2_with fail
 refine(y.out _).mono ?_
 rintro e q ⟨rfl,a⟩
 have b:=a.symm
 subst b
 clear y a
 go_wp2_with fail
 refine(z.out _).mono ?_
 rintro e q ⟨rfl,a⟩
 have b:=a.symm
 subst b
 clear z a
 go_wp2_with fail
 obtain⟨H,c⟩:∃W,W=(w.setCell (jx g 1) (.int .i64 ((k:Int)+2))).drew:=⟨_,rfl⟩
 have n:aAQ w g ((k+2:Nat):Int) H:=by rw[c];exact aAQ.of_set.drewN 1
 have m:=n.rd B.out
 have f:=n.base F.out E
 rw[<-c]
 refine(r.out _ m f).mono ?_
 rintro e O ⟨U,rfl,_,j⟩
 have G:Hid (aAQ w g _ O):=n.trans j B.out
 clear c n m f r j
 go_wp2_with fail
 go_ret
 exact aRH G.out
theorem aMX(f:World)(_HE:aAI f)(g:Nat)(_hg:f.heap.size<=g)(p:jA)(s:jB)(l:Suf p s)(w:World)(d:aBf w g p (pos p s))(v:jb f w)(F:p.size<=4000)(c1:aEm.isPrefixOf s=false)(c2:([60,33]:jB).isPrefixOf s=false)(c3:([60,63]:jB).isPrefixOf s=false)(c4:aRw [60] s=false)(c5:aRw [60,47] s=false)(m:1<=s.length):
  Calls prog 76 #[.pointer (some (jx g 0))] w λe w'=>aBo w g p (some [],s.drop 1) e w':=by
 have B:Hid (aBf w g p (pos p s)):=d
 have A:Hid _:=v
 have C:=d.page
 have D:=d.at_
 have E:=d.frozen 1
 have G:=aF5 l
 have y:=aNB p s
 have x:((pos p s:Nat):Int)<=(p.size:Int):=by omega
 have c:pos p (s.drop 1)=pos p s+1:=aNN l 1 m
 have z:IntKind.i64.wrap (((pos p s:Nat):Int)+1)=(((pos p s+1:Nat)):Int):=by rw[ju];omega
 have j:Hid _:=c
 have n:Hid (∀W,Calls prog 59 #[.string (lba s),.string ⟨#[60,33,45,45]⟩] W λe w'=>e=.returned (.bool false)/\w'=W):=λW=>aNM s ⟨#[60,33,45,45]⟩ false c1 W
 have o:Hid (∀W,Calls prog 59 #[.string (lba s),.string ⟨#[60,33]⟩] W λe w'=>e=.returned (.bool false)/\w'=W):=λW=>aNM s ⟨#[60,33]⟩ false c2 W
 have q:Hid (∀W,Calls prog 59 #[.string (lba s),.string ⟨#[60,63]⟩] W λe w'=>e=.returned (.bool false)/\w'=W):=λW=>aNM s ⟨#[60,63]⟩ false c3 W
 have r:Hid (∀W,Calls prog 131 #[.string (lba s),.string ⟨#[60]⟩] W λe w'=>e=.returned (.bool false)/\w'=W):=λW=>aCM s ⟨#[60]⟩ false c4 W
 have t:Hid (∀W,Calls prog 131 #[.string (lba s),.string ⟨#[60,47]⟩] W λe w'=>e=.returned (.bool false)/\w'=W):=λW=>aCM s ⟨#[60,47]⟩ false c5 W
 generalize pos p s=k at*
 clear d v c c1 c2 c3 c4 c5 l
 go_enter func76,ntmps76
 go_wp2_with fail
 go_region
 go_wp2_with fail
 refine(n.out _).mono ?_
 rintro e i ⟨rfl,a⟩
 have b:=a.symm
 subst b
 clear n a
 go_wp2_with fail
 refine(o.out _).mono ?_
 rintro e i ⟨rfl,a⟩
 have b:=a.symm
 subst b
 clear o a
 go_wp2_with fail
 refine(q.out _).mono ?_
 rintro e i ⟨rfl,a⟩
 have b:=a.symm
 subst b
 clear q a
 go_wp2_with fail
 refine(r.out _).mono ?_
 rintro e i ⟨rfl,a⟩
 have b:=a.symm
 subst b
 clear r a
 go_wp2_with fail
 refine(t.out _).mono ?_
 rintro e i ⟨rfl,a⟩
 have b:=a.symm
 subst b
 clear t a
 go_wp2_with fail
 go_ret
 refine aRH ?_
 rw[j.out]
 exact aAQ.of_set.drewN 1
theorem aMU(a:World)(b:aAI a)(g:Nat)(f:a.heap.size<=g)(p:jA)(s:jB)(k:s≠[])(c:Suf p s)(w:World)(j:aBf w g p (pos p s))(d:jb a w)(i:p.size<=4000):
  Calls prog 76 #[.pointer (some (jx g 0))] w λe w'=>aBo w g p (some (aMT aKG s).1,(aMT aKG s).2) e w':=by
 unfold aMT
 cases c1:aEm.isPrefixOf s with
 |true=>rw[jo rfl];exact aMW a b g f p s c w j d i c1
 |false=>
  rw[jh (by decide)]
  cases c2:([60,33]:jB).isPrefixOf s with
  |true=>rw[jo (.inl rfl)];exact aMZ a b g f p s c w j d i c1 c2
  |false=>
   cases c3:([60,63]:jB).isPrefixOf s with
   |true=>rw[jo (.inr rfl)];exact aM8 a b g f p s c w j d i c1 c2 c3
   |false=>
    rw[jh (by decide)]
    cases c4:aRw [60] s with
    |true=>rw[jo rfl];exact aNd a b g f p s c w j d i c1 c2 c3 c4
    |false=>
     rw[jh (by decide)]
     cases c5:aRw [60,47] s with
     |true=>rw[jo rfl];exact aNa a b g f p s c w j d i c1 c2 c3 c4 c5
     |false=>rw[jh (by decide)];exact aMX a b g f p s c w j d i c1 c2 c3 c4 c5 (jbr.2 k)
theorem aRX(a:jB->jB):∀(n:Nat) (seen:List jB) (s:jB),(aRz a n seen s).2<:+s
 |0,_,_=>jdp
 |n+1,seen,s=>by
  unfold aRz
  cases h:s.dropWhile aIt with
  |nil=>exact jdp
  |cons c t=>
   have b:c::t<:+s:=h▸jbn aIt
   simp only
   split
   ·exact(jeb c t).trans b
   ·exact((aRX a n _ _).trans (aCq (c::t))).trans b
theorem aRG(a:jB->jB)(s:jB):(aRD a s).2<:+s:=(aRX a _ _ _).trans (jbn _)
theorem aNb(a:jB->jB)(s:jB):(aMT a s).2<:+s:=by
 unfold aMT
 split
 ·exact(aCX _ _).trans (jca _ _)
 ·split
  ·exact aCX _ _
  ·split
   ·exact(aRG a _).trans (jca _ _)
   ·split
    ·exact(aRG a _).trans (jca _ _)
    ·exact jca _ _
end Go.Proofs.YtbbfcbodhmeanaaGreatDoor

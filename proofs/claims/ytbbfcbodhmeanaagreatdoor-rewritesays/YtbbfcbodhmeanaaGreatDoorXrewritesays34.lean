import Derived.Test.YtbbfcbodhmeanaaGreatDoorXrewritesays33
import Derived.Test.YtbbfcbodhmeanaaGreatDoorXrewritesays25
set_option maxHeartbeats 8000000
set_option maxRecDepth 1000000
namespace Go.Proofs.YtbbfcbodhmeanaaGreatDoor
open Go.Proofs.Tryz
open Go.RowKit
theorem aPk(w0:World)(HE:aAI w0)(q:jO)(n c:Nat)(b:jB)(en:n=b.length)(h4:b.length<=4000)(w:World)(hb:jb w0 w)(hr:aAe w q b)(hq:q=none->n=0/\c=0):
  Calls prog 58 #[.slice q n c] w λe w'=>aAv w b.length (aGz aQJ b) e w':=by
 have i:=aED w q n c b en hr hq
 obtain⟨p,hp⟩:∃p,p=lba b:=⟨_,rfl⟩
 have m:p.size=b.length:=by rw[hp,aJC]
 have l:p.data.toList=b:=by rw[hp];rfl
 have j:(convert 22 9 (.slice q n c)).run prog w=.ok (.string p) w:=by rw[hp];exact i
 have dF:p.size<=4000:=by omega
 have dC:Hid _:=m
 have dB:Hid _:=l
 clear i hp en hr hq m l h4
 go_enter func58,ntmps58
 go_wp2_with fail
 obtain⟨W1,d⟩:∃W,W=w.alloc (.cells #[.string p] 9):=⟨_,rfl⟩
 have a:jb w W1:=by rw[d];exact ja _ _
 have dD:W1.cell? (jx w.heap.size 0)=some (.string p):=by rw[d];simp
 have dE:w.heap.size<W1.heap.size:=by rw[d];simp
 rw[<-d]
 clear d j
 refine lk1 w0 HE w.heap.size p dF b dB.out W1 (hb.trans (a.mono hb.size)) dE dD _ ?_ ?_
 ·intro q2 q3 q9 dG dH dI dJ dK dL dM dN dO dP dQ dR dS dT dU dV dW dX dY dZ ea eb ec ed ee ef eg eh ei ej ek em eo ep eq er es et ev ew ex ey ez eA eB eC eD eE eF eG eH eI eJ eK eL eM eN eO eP eQ eR eS eT eU eV eW eX eY eZ e2 e3 e4 e5 e6 e7 e8 e9 fa fb fc fd fe ff fg fh o r s t v x y z A B C D E F G H I J L M N O P R S T U V X Y Z aa ab ac ad ae af ag ah ai aj ak al am an ao ap aq ar av aw ax ay az aA aB aC aD aE aF aG aH aI aJ aK aL aM aN aO aP aQ aR aS aT aU aV aW aX aY aZ a0 a1 a2 a3 a4 a5 a6 a7 a8 a9 bb bc bd be bf bg bh bi bj bk bl bm bn bo bp bq br bs bt bw bx bz bA bB bC bD bE bF bG bH bI bJ bK bL bM bN bO bP bQ bR bS bT bU bV bW bX bY bZ b0 b1 b2 b3 b4 b5 b6 b7 b8 b9 ca cb cc cd ce cf cg ch ci cj ck cl cm cn cp cq cr cs ct cv cw cx cy cz cA cB cC cD cE cF cG cH cI cJ cK cL cM cN cO cP cQ cR cS cT cU cV cW cX cY cZ c7 c8 c9 da db dc dd de df dg dh di dj dk dl dm dn dp dq dr ds dt dv dw dx dy dz dA v4 wr fi k f g
  have HF:Hid (aAv w b.length (aGz aQJ b) (.returned (.tuple #[v4,.int .i64 0])) wr):=by
   unfold Hid aAv
   rw[k,<-dC.out]
   exact⟨a.trans (f.mono a.size),v4,rfl,aMl g a.size⟩
  clear k f g
  go_wp2_with fail
  go_ret2
  exact HF.out
 ·intro q9 dG dH dI dJ dK dL dM dN dO dP dQ dR dS dT dU dV dW dX dY dZ ea eb ec ed ee ef eg eh ei ej ek em eo ep eq er es et ev ew ex ey ez eA eB eC eD eE eF eG eH eI eJ eK eL eM eN eO eP eQ eR eS eT eU eV eW eX eY eZ e2 e3 e4 e5 e6 e7 e8 e9 fa fb fc fd fe ff fg fh o r s t v x y z A B C D E F G H I J L M N O P R S T U V X Y Z aa ab ac ad ae af ag ah ai aj ak al am an ao ap aq ar av aw ax ay az aA aB aC aD aE aF aG aH aI aJ aK aL aM aN aO aP aQ aR aS aT aU aV aW aX aY aZ a0 a1 a2 a3 a4 a5 a6 a7 a8 a9 bb bc bd be bf bg bh bi bj bk bl bm bn bo bp bq br bs bt bw bx bz bA bB bC bD bE bF bG bH bI bJ bK bL bM bN bO bP bQ bR bS bT bU bV bW bX bY bZ b0 b1 b2 b3 b4 b5 b6 b7 b8 b9 ca cb cc cd ce cf cg ch ci cj ck cl cm cn cp cq cr cs ct cv cw cx cy cz cA cB cC cD cE cF cG cH cI cJ cK cL cM cN cO cP cQ cR cS cT cU cV cW cX cY cZ c7 c8 c9 da db dc dd de df dg dh di dj dk dl dm dn dp dq dr ds dt dv dw dx dy dz dA v4 wr k f
  have HF:Hid (aAv w b.length (aGz aQJ b) (.returned (.tuple #[.slice none 0 0,.int .i64 2])) wr):=by
   unfold Hid aAv
   rw[k]
   exact⟨a.trans (f.mono a.size),rfl⟩
  clear k f
  go_wp2_with fail
  go_ret2
  exact HF.out
theorem aC8(s j:jA)(a:jB)(l:j.data.toList=a)(lo b:Nat)(p o:Int)(e1:p=(lo:Int))(x:o=(b:Int))(w:World)(B:s.size<=2000000):
  Calls prog 88 #[.string s,.int .u8 p,.int .u8 o,.string j] w λe w'=>e=.returned (.bool (aC3 lo b a s.data.toList))/\w'=w:=by
 subst e1 x
 go_enter func88,ntmps88
 go_wp2
 go_loop [12] (λiv=>∃k:Nat,k<=s.size/\iv=.int .i64 k/\Hid (aC3 lo b a (s.data.toList.drop k)=aC3 lo b a s.data.toList)) (λiv=>s.size-(intOf iv).toNat)
 case atStart=>exact⟨0,jy _,rfl,rfl⟩
 case round=>
  obtain⟨k,A,rfl,f⟩:=hrel
  by_cases v:k<s.size
  ·have c:Hid (aC3 lo b a (s.data.toList.drop k)=(inB lo b a s[k]&&aC3 lo b a (s.data.toList.drop (k+1)))):=by unfold Hid;rw[aFs s k v,aC4]
   by_cases y:s[k].toNat<lo
   ·have g:Hid (aC3 lo b a s.data.toList=false):=by
     unfold Hid
     rw[<-f.out,c.out,show inB lo b a s[k]=false from by simp[inB];omega];rfl
    have r:(s[k].toNat:Int)<(lo:Int):=by omega
    clear c f
    go_wp2
    go_ret
    exact⟨by rw[g.out];rfl,rfl⟩
   ·have r:decide ((s[k].toNat:Int)<(lo:Int))=false:=by simp;omega
    by_cases z:b<s[k].toNat
    ·have g:Hid (aC3 lo b a s.data.toList=false):=by
      unfold Hid
      rw[<-f.out,c.out,show inB lo b a s[k]=false from by simp[inB];omega];rfl
     have t:(b:Int)<(s[k].toNat:Int):=by omega
     clear c f
     go_wp2
     go_ret
     exact⟨by rw[g.out];rfl,rfl⟩
    ·have t:decide ((b:Int)<(s[k].toNat:Int))=false:=by simp;omega
     cases q:a.contains s[k]
     ·have g:Hid (aC3 lo b a (s.data.toList.drop (k+1))=aC3 lo b a s.data.toList):=by
       unfold Hid
       rw[<-f.out,c.out,show inB lo b a s[k]=true from by simp only[inB,q];simp;omega];rfl
      clear c f
      go_wp2_with (go_at_call 93;refine(aI5 j a l s[k] _ rfl _).mono ?_;rintro e w' ⟨i,rfl,m,n⟩;rw[q]at m;have d:=n.symm;subst d)
      go_round
      case rel=>exact⟨k+1,by omega,by go_num,g⟩
      case measure=>simp[intOf];omega
     ·have g:Hid (aC3 lo b a s.data.toList=false):=by
       unfold Hid
       rw[<-f.out,c.out,show inB lo b a s[k]=false from by simp only[inB,q];simp];rfl
      clear c f
      go_wp2_with (go_at_call 93;refine(aI5 j a l s[k] _ rfl _).mono ?_;rintro e w' ⟨i,rfl,m,n⟩;rw[q]at m;have d:=n.symm;subst d)
      go_ret
      exact⟨by rw[g.out];rfl,rfl⟩
  ·obtain rfl:k=s.size:=by omega
   have g:Hid (aC3 lo b a s.data.toList=true):=by
    unfold Hid
    rw[<-f.out,jC (by rw[<-Lib.size_eq];exact jf _)];rfl
   clear f
   go_wp2
   go_ret
   exact⟨by rw[g.out];rfl,rfl⟩
theorem aSZ(a:List jA):(tls a).length=a.length:=by simp[tls]
theorem aSY(a:List jA)(k:Nat)(h:k<a.length):(tls a).getD k []=(a.getD k jz).data.toList:=by simp[tls,List.getD_eq_getElem?_getD,List.getElem?_eq_getElem h]
theorem aRr(a:List jB)(k:Nat)(h:k<a.length):(a.getD k []).length+aRo (a.drop (k+1))<=aRo a:=by
 have b:=aRq a k
 rw[aFy a k [] h,aRp]at b
 exact b
theorem aFN(w:World)(B:Nat)(h:B<=w.heap.size):(w.alloc (.cells #[] 5)).ownsRow B 5 1 (.slice (some (jx w.heap.size 0)) 0 0) ([]:jB).length (bv []):=
 ⟨rfl,.inr ⟨w.heap.size,0,#[],rfl,h,jel w _,jf _,by decide,rfl,rfl⟩⟩
theorem aPx(w0:World)(HE:aAI w0)(q:jO)(n c:Nat)(b:jB)(en:n=b.length)(h4:b.length<=4000)(a2:jO)(m c2:Nat)(d:List jA)(et:m=d.length)(bb:m<=maxLen)(ab:aRo (tls d)<=1100000)
  (w:World)(hb:Below w0.heap.size w0 w)(hr:aAe w q b)(hq:q=none->n=0/\c=0)(hs:aBA w a2 d):
  Calls prog 68 #[.slice q n c,.slice a2 m c2] w λe w'=>aBa w (aOd aQJ b (tls d)) e w':=by
 have B:Hid (Calls prog 58 #[.slice q n c] w λe w'=>aAv w b.length (aGz aQJ b) e w'):=aPk w0 HE q n c b en h4 w hb hr hq
 cases J:aGz aQJ b with
 |none=>
  rw[J]at B
  have H:Hid (aOd aQJ b (tls d)=([],2)):=by unfold Hid aOd;rw[J]
  clear J HE ab en et hq hs hr
  go_enter func68,ntmps68
  go_wp2_with fail
  refine B.out.mono ?_
  rintro e f ⟨t,rfl⟩
  clear B
  go_wp2_with fail
  go_ret2
  show aBa _ _ _ _
  rw[H.out]
  exact⟨t,.inl ⟨by decide,rfl⟩⟩
 |some l=>
  rw[J]at B
  obtain⟨ho,bc,a6⟩:=aGK aQJ b l J
  have z:=aGB aQJ b l J
  unfold maxLen at bb
  by_cases ar:m=l.length
  ·have aJ:Hid (∀k,k<m->(d.getD k jz).size<=1100000):=λk hk=>by
    have h1:=aRr (tls d) k (by rw[aSZ];omega)
    rw[aSY d k (by omega)]at h1
    rw[Lib.size_eq]
    omega
   have CP:Hid (∀(k:Nat) (W:World),k<m->Calls prog 88 #[.string (d.getD k jz),.int .u8 33,.int .u8 126,.string ⟨#[34,39,60,62,38,61]⟩] W λe w'=>e=.returned (.bool (aNs (d.getD k jz).data.toList))/\w'=W):=λk W hk=>by
    have h1:=aC8 (d.getD k jz) ⟨#[34,39,60,62,38,61]⟩ [34,39,60,62,38,61] rfl 33 126 33 126 rfl rfl W (by have:=aJ.out k hk;omega)
    rw[aC5]at h1
    exact h1
   have HS:Hid (aBA w a2 d):=hs
   have HA:Hid (∀k,k<m->((tls d).drop k).all aNs=(aNs (d.getD k jz).data.toList&&((tls d).drop (k+1)).all aNs)):=λk hk=>aSX d k (by omega)
   have HZ:Hid (((tls d).drop m).all aNs=true):=by unfold Hid;rw[jC (by simp[tls];omega)];rfl
   have ac:Hid ((tls d).all aNs=false->aOd aQJ b (tls d)=([],1)):=λh=>by
    unfold aOd;rw[J];simp only
    rw[jh (by simp[tls];omega),jo h]
   have ad:Hid ((tls d).all aNs=true->aOd aQJ b (tls d)=if 4000<(aGe l (tls d) b).length then([],2)else(aGe l (tls d) b,0)):=λh=>by
    unfold aOd;rw[J];simp only
    rw[jh (by simp[tls];omega),jh (by rw[h];decide)]
   have al:Hid (m=d.length):=et
   have aD:Hid (Ord b.length 0 l):=ho
   have ai:Hid (∀x∈l,x.2.length+1<=x.1):=z
   have aI:Hid (aRo (tls d)<=1100000):=ab
   have HR:Hid (aAe w q b):=hr
   have aE:Hid (q=none->n=0/\c=0):=hq
   have az:Hid (n=b.length):=en
   have bd:m<=60:=by omega
   have bo:n<=4000:=by omega
   unfold aAv at B
   simp only at B
   rw[<-ar]at B
   have U:Hid (m=l.length):=ar
   clear J HE ab en et hq hs hr ho z ar a6 h4
   go_enter func68,ntmps68
   go_wp2_with fail
   refine B.out.mono ?_
   rintro e f ⟨t,v1,rfl,y⟩
   have O:f.ownsRow w.heap.size 40 3 v1 l.length (lv b.length l):=by rw[<-U.out];exact y
   obtain⟨a1,c1,rfl,aY,aZ,a0,Z⟩:=aMe O
   rw[<-U.out]
   have HK:Hid (aAH f a1 b.length l):=Z
   have ak:Hid (aBA f a2 d):=HS.out.below t
   have aF:Hid (aAe f q b):=HR.out.below t
   have E:Hid (Below w.heap.size w f):=t
   clear B y O Z HS HR t
   go_wp2_with (at_builtin;refine aB4 rfl (.tmp 25) (.tmp 26) rfl f.heap.size _ [] rfl (aFN f f.heap.size (jf _)) q n c b az.out rfl (aF.out.below (ja _ _)) aE.out (by simp;omega) (by simp) ?_)
   intro v8 w2 OP aC P aP
   have V:Below f.heap.size f w2:=(ja _ _).grown aP (by simp) (λk hk=>by cases hk;exact jf _)
   obtain⟨p8,c8,rfl,a4,be,a5⟩:=aQC P
   have aG:Hid (aBA w2 a2 d):=ak.out.below V
   have aj:Hid (aA9 f b l (tls d) (.slice p8 OP.length c8) w2 m OP):=⟨V,P,by rw[aC.out,U.out,jC (jf _),aGh]⟩
   have aT:Hid (Below w.heap.size w w2):=E.out.trans (V.mono E.out.size)
   clear P aP V aF aE aC a5
   obtain⟨n8,av⟩:∃k,OP.length=k:=⟨_,rfl⟩
   rw[av]at aj a4⊢
   have aV:Hid (OP.length=n8):=av
   clear av
   go_wp2_with fail
   go_loop [30] (λiv=>∃k:Nat,k<=m/\iv=.int .i64 k/\Hid (((tls d).drop k).all aNs=(tls d).all aNs)) (λiv=>m-(intOf iv).toNat)
   case atStart=>exact⟨0,jy _,rfl,rfl⟩
   case round=>
    obtain⟨k,hk,rfl,HQ⟩:=hrel
    by_cases ap:k<m
    ·obtain⟨bt,ot,e2,I⟩:=aG.out (λe=>by have:=al.out;rw[e]at this;simp at this;omega)
     subst e2
     have k3:=I k (by rw[<-al.out];exact ap)
     have bk:(k:Int)<(m:Int):=by omega
     have HC:Hid (∀W,Calls prog 88 #[.string (d.getD k jz),.int .u8 33,.int .u8 126,.string ⟨#[34,39,60,62,38,61]⟩] W λe w'=>e=.returned (.bool (aNs (d.getD k jz).data.toList))/\w'=W):=λW=>CP.out k W ap
     have C:=HA.out k ap
     have bs:IntKind.i64.wrap ((k:Int)+1)=((k+1:Nat):Int):=by rw[ju];omega
     clear I
     generalize d.getD k jz=T at*
     cases hp:aNs T.data.toList with
     |true=>
      rw[hp]at HC C
      have H:Hid (((tls d).drop (k+1)).all aNs=(tls d).all aNs):=by unfold Hid;rw[<-HQ.out,C];rfl
      clear C HQ hp
      go_wp2_with fail
      refine(HC.out _).mono ?_
      rintro e w3 ⟨rfl,aw⟩
      have ax:=aw.symm
      subst ax
      go_wp2_with fail
      go_round
      case rel=>exact⟨k+1,by omega,by go_num,H⟩
      case measure=>simp[intOf];omega
     |false=>
      rw[hp]at HC C
      have H:Hid (aOd aQJ b (tls d)=([],1)):=ac.out (by rw[<-HQ.out,C];rfl)
      clear C HQ hp
      go_wp2_with fail
      refine(HC.out _).mono ?_
      rintro e w3 ⟨rfl,aw⟩
      have ax:=aw.symm
      subst ax
      go_wp2_with fail
      go_ret2
      show aBa _ _ _ _
      rw[H.out]
      exact⟨aT.out,.inl ⟨by decide,rfl⟩⟩
    ·obtain rfl:k=m:=by omega
     have aB:Hid (aOd aQJ b (tls d)=if 4000<(aGe l (tls d) b).length then([],2)else(aGe l (tls d) b,0)):=ad.out (by rw[<-HQ.out];exact HZ.out)
     have bm:decide ((k:Int)<(k:Int))=false:=by simp
     have bq:IntKind.i64.wrap ((k:Int)-1)=(k:Int)-1:=by rw[ju];omega
     clear HQ HZ HA CP ac ad aG
     go_wp2_with fail
     go_loopw[8,11] (λov iv wr=>∃(j:Nat) (X:jB) (po:jO) (lo co:Nat),iv=.int .i64 ((j:Int)-1)/\ov=.slice po lo co/\j<=k/\lo=X.length/\Hid (aA9 f b l (tls d) (.slice po lo co) wr j X)) (λ_ iv _=>(intOf iv+1).toNat)
     case atStart=>exact⟨k,OP,p8,n8,c8,rfl,rfl,jf _,aV.out.symm,aj⟩
     case round=>
      obtain⟨j,X,po,lo,co,rfl,rfl,bj,am,g⟩:=hrel
      have G:Hid (lo=X.length):=am
      obtain⟨bg,bn⟩:lo<=co/\co<=9223372036854775807:=by
       obtain⟨a,c',e1,e2,D,_⟩:=aQC g.out.own
       injection e1 with _ _ e4
       rw[am,e4]
       exact⟨e2,D⟩
      have bf:X.length<=1104000:=by
       have h1:=aGl (l.drop j) ((tls d).drop j) b
       rw[<-g.out.eq]at h1
       have h2:=aRq (tls d) j
       have h3:=aI.out
       have h4:=az.out
       omega
      clear am aj
      cases j with
      |zero=>
       have M:((0:Nat):Int)-1=-1:=rfl
       rw[M]
       have ah:Hid (X=aGe l (tls d) b):=g.out.eq
       have aW:Hid (wr.ownsRow w.heap.size 5 1 (.slice po lo co) X.length (bv X)):=aMl g.out.own E.out.size
       have ay:Hid (Below w.heap.size w wr):=E.out.trans (g.out.bel.mono E.out.size)
       by_cases h4:4000<lo
       ·have a3:(4000:Int)<(lo:Int):=by omega
        have H:Hid (aOd aQJ b (tls d)=([],2)):=by unfold Hid;rw[aB.out,jo (by rw[<-ah.out,<-G.out];exact h4)]
        clear g M
        go_wp2_with fail
        go_ret2
        show aBa _ _ _ _
        rw[H.out]
        exact⟨ay.out,.inl ⟨by decide,rfl⟩⟩
       ·have a3:¬(4000:Int)<(lo:Int):=by omega
        have H:Hid (aOd aQJ b (tls d)=(X,0)):=by unfold Hid;rw[aB.out,jh (by rw[<-ah.out,<-G.out];exact h4),ah.out]
        clear g M
        go_wp2_with fail
        go_ret2
        show aBa _ _ _ _
        rw[H.out]
        exact⟨ay.out,.inr ⟨rfl,_,rfl,aW.out⟩⟩
      |succ j=>
       have a9:((j+1:Nat):Int)-1=(j:Int):=by omega
       rw[a9]
       have v:j<l.length:=by have:=U.out;omega
       have s:j<d.length:=by have:=al.out;omega
       have aH:aBA wr a2 d:=ak.out.below g.out.bel
       have aA:aAH wr a1 b.length l:=HK.out.below g.out.bel
       obtain⟨bt,ot,e2,I⟩:=aH (λe=>by rw[e]at s;simp at s)
       obtain⟨bl,e1,aN⟩:=aA (λe=>by rw[e]at v;simp at v)
       subst e1 e2
       have k3:=I j s
       obtain⟨k0,k1,_⟩:=aN j v
       have aa:bl<f.heap.size:=by
        obtain⟨b',D,ao⟩:=HK.out (λe=>by rw[e]at v;simp at v)
        injection D with D
        injection D with D
        rw[D]
        exact ji f _ (ao j v).1
       have aR:bt<f.heap.size:=by
        obtain⟨b',o',D,ao⟩:=ak.out (λe=>by rw[e]at s;simp at s)
        injection D with D
        injection D with D
        rw[D]
        exact ji f _ (ao j s)
       have bi:(j:Int)<(k:Int):=by omega
       have bh:(0:Int)<=(j:Int):=by omega
       have br:IntKind.i64.wrap ((j:Int)-1)=(j:Int)-1:=by rw[ju];omega
       have r:=aSY d j s
       have aK:=aJ.out j (by omega)
       obtain⟨T,hT⟩:∃T,d.getD j jz=T:=⟨_,rfl⟩
       rw[hT]at k3 r aK
       clear I aN aH aA
       by_cases ht:T.data.toList=[]
       ·have aO:T.toList.isEmpty=true:=by rw[jj,ht];rfl
        have S:Hid (aA9 f b l (tls d) (.slice po lo co) wr j X):=⟨g.out.bel,g.out.own,by rw[g.out.eq,aGk l (tls d) b j v (by rw[aSZ];exact s) (by rw[r,ht])]⟩
        clear g ht r hT
        go_wp2_with fail
        go_roundw
        case rel=>exact⟨j,X,po,lo,co,rfl,rfl,by omega,G.out,S⟩
        case measure=>simp[intOf]
       ·have aO:T.toList.isEmpty=false:=by rw[jj];cases h:T.data.toList with
         |nil=>exact absurd h ht
         |cons _ _=>rfl
        obtain⟨o,L⟩:=aGs l (tls d) b aD.out ai.out j v (by rw[aSZ];exact s) (by rw[r];exact ht)
        rw[<-g.out.eq,r]at o
        rw[<-g.out.eq]at L
        obtain⟨N,aQ⟩:∃i,b.length-(l.getD j (0,[])).1=i:=⟨_,rfl⟩
        obtain⟨R,af⟩:∃i,N+(l.getD j (0,[])).2.length=i:=⟨_,rfl⟩
        rw[aQ]at k0 k1 o L
        rw[af]at k1 o L
        have ae:N<=R:=by omega
        have CR:Hid (Calls prog 116 #[.slice po lo co,.int .i64 N,.int .i64 R,.slice (some (jx wr.heap.size 0)) T.size (grownCap wr.drew T.size 0 5)] (Lib.bytesWorld wr.drew 5 T) λe w'=>∃v',e=.returned v'/\Below f.heap.size f w'/\w'.ownsRow f.heap.size 5 1 v' (X.take N++T.data.toList++X.drop R).length (bv (X.take N++T.data.toList++X.drop R))):=aOn f wr (.slice po lo co) X T N R lo G.out ae (by rw[G.out];exact L) ht (by omega) g.out.bel g.out.own
        have a8:∀W,(convert 9 22 (.string T)).run prog W=.ok (.slice (some (jx W.heap.size 0)) T.size (grownCap W T.size 0 5)) (Lib.bytesWorld W 5 T):=λW=>Lib.run_convert_string_bytes W _ _ _ T underlying9 underlying22 underlying5
        have F:Hid (∀W,Below f.heap.size f W->Below f.heap.size f (Lib.bytesWorld W 5 T)):=λW hW=>hW.trans ⟨rfl,rfl,rfl,by rw[Lib.bytesWorld_size];omega,λq hq=>Lib.bytesWorld_at_old W _ T q (jcb hq hW.size)⟩
        have f0:∀w',Below f.heap.size f w'->w'.cell? ⟨bl,j*3,none⟩=some (.int .i64 (N:Int)):=λw' h=>(h.cell (p:=⟨bl,j*3,none⟩) aa).trans ((g.out.bel.cell (p:=⟨bl,j*3,none⟩) aa).symm.trans k0)
        have f1:∀w',Below f.heap.size f w'->w'.cell? ⟨bl,j*3+1,none⟩=some (.int .i64 (R:Int)):=λw' h=>(h.cell (p:=⟨bl,j*3+1,none⟩) aa).trans ((g.out.bel.cell (p:=⟨bl,j*3+1,none⟩) aa).symm.trans k1)
        have f3:∀w',Below f.heap.size f w'->w'.cell? (jx bt (ot+j))=some (.string T):=λw' h=>(h.cell (p:=jx bt (ot+j)) aR).trans ((g.out.bel.cell (p:=jx bt (ot+j)) aR).symm.trans k3)
        have ag:Hid (Below f.heap.size f wr):=g.out.bel
        have a7:Below f.heap.size f wr.drew:=g.out.bel.drew
        have aX:Hid (aGe (l.drop j) ((tls d).drop j) b=X.take N++T.data.toList++X.drop R):=o
        clear g o L r ht hT aQ af ae aK
        go_upto_region 17 with fail
        first
         |(go_region_held (λw'=>Below f.heap.size f w') (first|assumption|exact ag.out.drew|exact F.out _ ag.out.drew) (first
           |(go_at_call 116;refine CR.out.mono ?_;rintro e w' ⟨v',rfl,aM,A⟩)))
         |fail
        rename_i an
        clear an
        obtain⟨aS,aL,rfl,_⟩:=aQC A
        have S:Hid (aA9 f b l (tls d) (.slice aS (X.take N++T.data.toList++X.drop R).length aL) w' j (X.take N++T.data.toList++X.drop R)):=⟨aM,A,aX.out.symm⟩
        clear aM A CR a8 F f0 f1 f3 ag a7 k0 k1 k3
        generalize X.take N++T.data.toList++X.drop R=Y at*
        obtain⟨ly,aq⟩:∃k,Y.length=k:=⟨_,rfl⟩
        have aU:Hid (Y.length=ly):=aq
        rw[aq]at S⊢
        clear aq
        go_wp2_with fail
        go_roundw
        case rel=>exact⟨j,Y,aS,ly,aL,rfl,rfl,by omega,aU.out.symm,S⟩
        case measure=>simp[intOf]
  ·have H:Hid (aOd aQJ b (tls d)=([],4)):=by
    unfold Hid aOd;rw[J];simp only
    rw[jo (by rw[aSZ];omega)]
   have bp:((l.length:Int) !=(m:Int))=true:=by rw[jbb];omega
   unfold aAv at B
   simp only at B
   clear J HE ab en et hq hs hr ho z
   go_enter func68,ntmps68
   go_wp2_with fail
   refine B.out.mono ?_
   rintro e f ⟨t,v1,rfl,y⟩
   obtain⟨a1,c1,rfl,aY,aZ,a0,Z⟩:=aMe y
   clear B y Z
   go_wp2_with fail
   go_ret2
   show aBa _ _ _ _
   rw[H.out]
   exact⟨t,.inl ⟨by decide,rfl⟩⟩
abbrev FnR(TB NB EB FB:Nat):Value:=.func (Fn.func 67) #[] #[.pointer (some (jx TB 0)),.pointer (some (jx NB 0)),.pointer (some (jx EB 0)),.pointer (some (jx FB 0))]
structure Mov(NB EB:Nat)(k e:Nat)(W W':World):Prop where
 os:W'.os=W.os
 tape:W'.tape=W.tape
 output:W'.output=W.output
 size:W.heap.size<=W'.heap.size
 block:∀b,b<W.heap.size->b≠NB->b≠EB->W'.heap[b]?=W.heap[b]?
 nb:W'.heap[NB]?=some (.cells #[.int .i64 (k:Int)] 3)
 eb:W'.heap[EB]?=some (.cells #[.int .i64 (e:Int)] 27)
theorem Mov.trans{f d k e o j:Nat}{W g i:World}(c:Mov f d k e W g)(a:Mov f d o j g i):Mov f d o j W i:=
 ⟨a.os.trans c.os,a.tape.trans c.tape,a.output.trans c.output,j1 c.size a.size,λb l n m=>(a.block b (jcb l c.size) n m).trans (c.block b l n m),a.nb,a.eb⟩
theorem Mov.then{g f k e:Nat}{W d i:World}(a:Mov g f k e W d)(c:jb d i):Mov g f k e W i:=
 ⟨c.os.trans a.os,c.tape.trans a.tape,c.output.trans a.output,j1 a.size c.size,λb j m l=>(c.block b (jcb j a.size)).trans (a.block b j m l),aDj a.nb c,aDj a.eb c⟩
theorem Mov.of{c a k e:Nat}{W d:World}(h:jb W d)(i:W.heap[c]?=some (.cells #[.int .i64 (k:Int)] 3))(g:W.heap[a]?=some (.cells #[.int .i64 (e:Int)] 27)):Mov c a k e W d:=
 ⟨h.os,h.tape,h.output,h.size,λb f _ _=>h.block b f,aDj i h,aDj g h⟩
theorem Mov.base{f d k e B:Nat}{g W i:World}(h:Mov f d k e W i)(a:Below B g W)(j:B<=W.heap.size)(m:B<=f)(l:B<=d):Below B g i:=
 ⟨h.os.trans a.os,h.tape.trans a.tape,h.output.trans a.output,j1 a.size h.size,λb c=>(h.block b (by omega) (by omega) (by omega)).trans (a.block b c)⟩
theorem Mov.setN{a c k e:Nat}{W f:World}(h:Mov a c k e W f)(i:Nat)(d:a≠c):Mov a c i e W (f.setCell (jx a 0) (.int .i64 (i:Int))):=by
 refine⟨h.os,h.tape,h.output,by simp[World.setCell];exact h.size,λb j g l=>?_,?_,?_⟩
 ·rw[jp _ _ _ _ g]
  exact h.block b j g l
 ·exact(aP5 h.nb 0 _).trans rfl
 ·rw[jp _ _ _ _ (jaz d)]
  exact h.eb
theorem Mov.setE{c a k e:Nat}{W f:World}(h:Mov c a k e W f)(g:Nat)(d:c≠a):Mov c a k g W (f.setCell (jx a 0) (.int .i64 (g:Int))):=by
 refine⟨h.os,h.tape,h.output,by simp[World.setCell];exact h.size,λb j l i=>?_,?_,?_⟩
 ·rw[jp _ _ _ _ i]
  exact h.block b j l i
 ·rw[jp _ _ _ _ d]
  exact h.nb
 ·exact(aP5 h.eb 0 _).trans rfl
theorem Mov.set{c a k e:Nat}{W d:World}(h:Mov c a k e W d)(A i:Nat)(v:Value)(l:W.heap.size<=A)(g:c<W.heap.size)(f:a<W.heap.size):Mov c a k e W (d.setCell (jx A i) v):=by
 refine⟨h.os,h.tape,h.output,by simp[World.setCell];exact h.size,λb j g f=>?_,?_,?_⟩
 ·rw[jp _ _ _ _ (show b≠A by omega)]
  exact h.block b j g f
 ·rw[jp _ _ _ _ (show c≠A by omega)]
  exact h.nb
 ·rw[jp _ _ _ _ (show a≠A by omega)]
  exact h.eb
def Agr(G s sz:Nat)(W V:World):Prop:=∀b,(b<G\/(s<=b/\b<sz))->V.heap[b]?=W.heap[b]?
def aAL(G s sz:Nat)(W:World)(a:jO)(l:jB):Prop:=∀V,Agr G s sz W V->aAe V a l
def aAM(G s sz:Nat)(W:World)(f:Nat)(z:PZ):Prop:=∀V,Agr G s sz W V->aA3 V f z.1 z.2.1.1 z.2.1.2 z.2.2.1 z.2.2.2
theorem aAL.move{G s c:Nat}{W d:World}{a:jO}{l:jB}(h:aAL G s c W a l)(i:Agr G s c W d):aAL G s c d a l:=λV g=>h V λb f=>(g b f).trans (i b f)
theorem aAM.move{G s a:Nat}{W c:World}{f:Nat}{z:PZ}(h:aAM G s a W f z)(i:Agr G s a W c):aAM G s a c f z:=λV g=>h V λb d=>(g b d).trans (i b d)
theorem aAL.old{c W:World}{a:jO}{l:jB}(h:aAe c a l)(k:jb c W)(s p:Nat):aAL c.heap.size s p W a l:=by
 intro V j f
 obtain⟨b,o,e,m⟩:=h f
 refine⟨b,o,e,λi n=>?_⟩
 have g:=m i n
 have d:=ji c _ g
 rw[jbw ((j b (.inl d)).trans (k.block b d))]
 exact g
theorem aAL.nil(G s b:Nat)(W:World)(a:jO):aAL G s b W a []:=λ_ _ h=>absurd rfl h
theorem aDn{w:World}{B n c:Nat}{a:jO}{l:jB}(h:w.ownsRow B 5 1 (.slice a n c) n (bv l))(m:n=l.length):aAe w a l:=by
 subst m
 rcases h.2 with⟨d,k⟩|⟨g,cap,j,d,_,_,_,_,_,_⟩
 ·exact λb=>absurd (js.1 k) b
 ·injection d with d _ _
  subst d
  refine λb=>⟨g,0,rfl,λi f=>?_⟩
  rw[j0,h.cellAt i (by omega),bv,jas,jc f,jd,jc f]
  rfl
theorem aAL.new{w:World}{G s B n c:Nat}{a:jO}{l:jB}(h:w.ownsRow B 5 1 (.slice a n c) n (bv l))(g:n=l.length)(i:s<=B):aAL G s w.heap.size w a l:=by
 intro V d
 refine aDn (B:=B) (n:=n) (c:=c) (aMo h (λb f=>d b (.inr ?_))) g
 have:=h.lt b f
 omega
theorem KAt.far{w:World}:∀(f:Nat) (a:jO) (l:List PT),KAt w f a l->aAG w (λ_=>True) f a l
 |0,_,_,h=>h
 |f+1,a,l,h=>λd=>by
  obtain⟨b,o,e,m⟩:=h d
  refine⟨b,o,e,trivial,λi n=>?_⟩
  obtain⟨p,g,q,j,k,c⟩:=m i n
  exact⟨p,g,q,j,k,λ_ _=>trivial,c.1,c.2.1,c.2.2.1,c.2.2.2.1,KAt.far f _ _ c.2.2.2.2⟩
theorem aJh{w:World}{f B n:Nat}{v:Value}{Z:List PZ}(l:w.ownsRow B 25 7 v n (pzv Z))(k:n=Z.length)(hh:∀z∈Z,aA3 w f z.1 z.2.1.1 z.2.1.2 z.2.2.1 z.2.2.2):∃q c,v=.slice q n c/\n<=c/\c<=maxLen/\(q=none->c=0)/\KAt w (f+1) q (Z.map (·.1)):=by
 obtain⟨q,c,b,d,g,i,j⟩:=aAG.of_list (Q:=λ_=>True) (f:=f) l k (λ_ _ _=>trivial) (λz a=>⟨λ_ _=>trivial,(hh z a).1,(hh z a).2.1,(hh z a).2.2.1,(hh z a).2.2.2.1,KAt.far f _ _ (hh z a).2.2.2.2⟩)
 exact⟨q,c,b,d,g,i,aAG.at _ _ _ j⟩
def aAN(G S1:Nat)(W:World)(f:Nat)(own:Option Nat)(Z:List PZ):Prop:=∀z∈Z,∃s sz,S1<=s/\s<=sz/\sz<=W.heap.size/\(∀b,own=some b->b<s\/sz<=b)/\aAM G s sz W f z
theorem aAN.move{G S1:Nat}{W c:World}{f:Nat}{own:Option Nat}{Z:List PZ}(h:aAN G S1 W f own Z)(p:W.heap.size<=c.heap.size)(k:∀b,b<W.heap.size->(b<G\/(S1<=b/\own≠some b))->c.heap[b]?=W.heap[b]?)(o:G<=S1):aAN G S1 c f own Z:=by
 intro z l
 obtain⟨s,m,g,i,n,d,j⟩:=h z l
 refine⟨s,m,g,i,by omega,d,j.move λb a=>k b ?_ ?_⟩
 ·rcases a with a|a
  ·omega
  ·omega
 ·rcases a with a|a
  ·exact .inl a
  ·refine .inr ⟨by omega,λe=>?_⟩
   have:=d b e
   omega
structure aBz(W0:World)(TB mb:Nat)(tx:Nat->List jA):Prop where
 cell:∀W,jb W0 W->W.cell? (jx TB 0)=some (.map (some mb))
 look:∀k:Nat,k<=1000->∃a c,∀W,jb W0 W->(Instr.lookup 106 (.map (some mb)) (.int .i64 (k:Int)) false).run prog W=.ok (.slice a (tx k).length c) W/\aBA W a (tx k)
 sum:∀k,aRo (tls (tx k))<=1100000
 len:∀k,(tx k).length<=1000
structure aBG(W0:World)(TB NB EB FB:Nat)(k e:Nat)(W:World):Prop where
 bel:jb W0 W
 nb:W.heap[NB]?=some (.cells #[.int .i64 (k:Int)] 3)
 eb:W.heap[EB]?=some (.cells #[.int .i64 (e:Int)] 27)
 fb:W.heap[FB]?=some (.cells #[FnR TB NB EB FB] 45)
theorem aBG.mov{d:World}{j c a b k e n m:Nat}{W l:World}(h:aBG d j c a b k e W)(f:Mov c a n m W l)(p:d.heap.size<=c)(o:d.heap.size<=a)(i:b≠c)(g:b≠a):aBG d j c a b n m l:=
 ⟨f.base h.bel h.bel.size p o,f.nb,f.eb,(f.block b (jl.1 h.fb).1 i g).trans h.fb⟩
theorem aBG.below{g:World}{f d b c k e:Nat}{W i:World}(h:aBG g f d b c k e W)(a:jb W i):aBG g f d b c k e i:=⟨h.bel.trans (a.mono h.bel.size),aDj h.nb a,aDj h.eb a,aDj h.fb a⟩
theorem aOf(b:jB)(a:List jB):aOd aQJ b a=aOd aKG b a:=by
 unfold aOd
 rw[show aGz aKG b=aGz aQJ b from aGJ b]
theorem aOe(c:jB->jB)(b:jB)(f:List jB)(h:(aOd c b f).2≠0):(aOd c b f).1=[]:=by
 have d:∀r:jB×Nat,r=aOd c b f->r.2≠0->r.1=[]:=by
  intro r a h
  unfold aOd at a
  split at a
  ·rw[a]
  ·split at a
   ·rw[a]
   ·split at a
    ·rw[a]
    ·split at a
     ·rw[a]
     ·rw[a]at h
      exact absurd rfl h
 exact d _ rfl h
theorem aGd(a:List jA)(b:jB)(d:b.length<=4000):(aGb a b).1.length<=4000:=by
 by_cases h:(aGb a b).2=0
 ·exact aGc d (show aGb a b=((aGb a b).1,0)from by rw[<-h])
 ·unfold aGb at h⊢
  split
  ·exact d
  ·rename_i c
   rw[jh c]at h
   rw[aOe _ _ _ h]
   simp
theorem aLL{w:World}{B:Nat}{v:Value}{l:jB}(h:w.ownsRow B 5 1 v l.length (bv l)):∃p c,v=.slice p l.length c/\l.length<=c/\c<=maxLen/\(p=none->l.length=0/\c=0)/\aAe w p l:=by
 rcases h.2 with⟨rfl,b⟩|⟨g,cap,f,rfl,_,_,k,j,_,_⟩
 ·exact⟨none,0,by rw[b],by omega,by decide,λ_=>⟨b,rfl⟩,λa=>absurd (js.1 b) a⟩
 ·refine⟨some (jx g 0),cap,rfl,k,j,(λh=>by cases h),λa=>⟨g,0,rfl,λi d=>?_⟩⟩
  rw[j0,h.cellAt i (by omega),bv,jas,jc d,jd,jc d]
  rfl
theorem aVv(w:World):(zeroValue 9).run prog w=.ok (.string jz) w:=by kernel_rfl
theorem aVw(w:World):(zeroValue 26).run prog w=.ok (.slice none 0 0) w:=by kernel_rfl
theorem aPm(V:World)(na:jO)(f nc:Nat)(a:List NM)(en:f=a.length)(v:aAS a)(bg:aAV V na a)(c:Nat)(r:V.heap.size=c){c0 c1 c2 c3 c4 c5 c6 c7 c8 c9 E F bl G H I J L M N O P R S T U X Z aa ab ac ad ae af ag ah ai aj ak al am an ao ap aq ar av aw ax ay az aA aB aC bm bn bo bp bq br bs bt bw aD aE aF aG aH aI aJ aK aL aM aN aO aP aQ aR aS aT aU aV aW aX aY aZ a0 a1 a2 a3 a4 a5 a6 a7 a8 a9:Value}(Q:Exit->Act->World->Prop)
  (t:∀{bB bC bD bE bF bG bH bI bJ bK bL:Value},∀w':World,jb V w'->aAO w' c f (.string ⟨#[]⟩) (λi=>.string (aDw a i))->Q (.exit 0) ⟨(c0::c1::c2::c3::c4::c5::c6::c7::c8::c9::E::.map (some c)::F::bB::G::H::I::J::L::M::N::O::P::R::S::T::U::X::Z::aa::ab::ac::ad::ae::af::ag::ah::ai::aj::ak::al::am::an::ao::ap::aq::ar::av::aw::ax::ay::az::aA::aB::aC::.slice na f nc::.int .i64 (f:Int)::bC::bD::bE::bF::bG::bH::bI::bJ::bK::bL::aD::aE::aF::aG::aH::aI::aJ::aK::aL::aM::aN::aO::aP::aQ::aR::aS::aT::aU::aV::aW::aX::aY::aZ::a0::a1::a2::a3::a4::a5::a6::a7::a8::a9::[]).toArray,[]⟩ w'):
  Code.wp prog (Code.loop (aKD f22 0)) Q ⟨(c0::c1::c2::c3::c4::c5::c6::c7::c8::c9::E::.map (some c)::F::bl::G::H::I::J::L::M::N::O::P::R::S::T::U::X::Z::aa::ab::ac::ad::ae::af::ag::ah::ai::aj::ak::al::am::an::ao::ap::aq::ar::av::aw::ax::ay::az::aA::aB::aC::.slice na f nc::.int .i64 (f:Int)::.int .i64 0::bm::bn::bo::bp::bq::br::bs::bt::bw::aD::aE::aF::aG::aH::aI::aJ::aK::aL::aM::aN::aO::aP::aQ::aR::aS::aT::aU::aV::aW::aX::aY::aZ::a0::a1::a2::a3::a4::a5::a6::a7::a8::a9::[]).toArray,[]⟩ (V.alloc (.map #[] 0)):=by
 have HX:Hid _:=@t
 have HR:Hid (∀W,jb V W->aAV W na a):=λW h=>bg.below h
 have HN:Hid _:=en
 have bk:Hid (aAS a):=v
 have bM:f<=9223372036854775807:=by have:=v.1;unfold maxLen at this;omega
 have A:Hid (aAO (V.alloc (.map #[] 0)) c 0 (.string ⟨#[]⟩) (λi=>.string (aDw (a.take 0) i))):=by rw[<-r];exact aK7 V _
 have bb:jb V (V.alloc (.map #[] 0)):=ja _ _
 have bi:Hid _:=r
 clear t en v bg r
 conv=>arg 2;arg 1;whnf
 go_loopw[57] (λiv wr=>∃k:Nat,k<=f/\iv=.int .i64 k/\Hid (jb V wr)/\Hid (aAO wr c k (.string ⟨#[]⟩) (λi=>.string (aDw (a.take k) i)))) (λiv _=>f-(intOf iv).toNat)
 case atStart=>exact⟨0,jy _,rfl,bb,A⟩
 case round=>
  obtain⟨k,hk,rfl,y,z⟩:=hrel
  clear A bb
  by_cases bx:k<f
  ·have bz:(k:Int)<(f:Int):=by omega
   have d:k<a.length:=by rw[<-HN.out];exact bx
   obtain⟨b,o,hab,hc⟩:=HR.out wr y.out (λe=>by rw[e]at d;cases d)
   subst hab
   obtain⟨d0,d1⟩:=hc k d
   obtain⟨bd,be,bA⟩:=bk.out.at k d
   have p:Hid (∀i,aDw (a.take (k+1)) i=if i=(a.getD k nm0).1 then(a.getD k nm0).2 else aDw (a.take k) i):=λi=>by
    rw[jan,jc d]
    show aDw (a.take k++[a[k]]) i=_
    rw[aDz,jd,jc d]
    rfl
   clear hc d
   generalize a.getD k nm0=x at*
   obtain⟨m,s⟩:=x
   simp only at d0 d1 bd be bA p
   obtain⟨D,l⟩:∃W,W=wr.alloc (.cells #[.int .i64 m,.string s] 56):=⟨_,rfl⟩
   have q:jb wr D:=by rw[l];exact ja _ _
   have kx:D.heap[wr.heap.size]?=some (.cells #[.int .i64 m,.string s] 56):=by rw[l];exact aDi _ _
   have g:Hid _:=kx
   have B:Hid (aAO D c k (.string ⟨#[]⟩) (λi=>.string (aDw (a.take k) i))):=z.out.move (q.block _ z.out.lt)
   have n:Hid _:=y.out.trans (q.mono y.out.size)
   have C:Hid _:=l
   clear l q kx y z
   go_upto_region 15 with fail
   rw[<-C.out]
   clear C d0 d1
   obtain⟨Y,hY⟩:∃Y,wr.heap.size=Y:=⟨_,rfl⟩
   rw[hY]at g⊢
   clear hY
   have z0:D.cell? ⟨Y,0,none⟩=some (.int .i64 m):=(aDe g.out 0).trans rfl
   have z1:D.cell? ⟨Y,1,none⟩=some (.string s):=(aDe g.out 1).trans rfl
   obtain⟨w7,bN,bf,bc⟩:=B.out.put underlying105 (by unfold maxLen;omega) m bd be (.string s)
   have bh:Hid (jb V w7):=n.out.grown bc n.out.size (λj hj=>by have:=jI hj;have:=bi.out;omega)
   have bj:Hid (aAO w7 c (k+1) (.string ⟨#[]⟩) (λi=>.string (aDw (a.take (k+1)) i))):=by
    have e:(λi=>Value.string (aDw (a.take (k+1)) i))=λi=>if i=m then Value.string s else Value.string (aDw (a.take k) i):=funext λi=>by
     rw[p.out i]
     split<;>rfl
    unfold Hid
    rw[e]
    exact bf
   clear bf bc B n g p
   go_wp2_with fail
   go_roundw
   case rel=>exact⟨k+1,by omega,by go_num,bh,bj⟩
   case measure=>simp[intOf];omega
  ·obtain rfl:k=f:=by omega
   have bz:¬(k:Int)<(k:Int):=by omega
   have HF:Hid (aAO wr c k (.string ⟨#[]⟩) (λi=>.string (aDw a i))):=by
    have h:=z.out
    rw[jK (by rw[<-HN.out];exact jf _)]at h
    exact h
   clear z
   go_wp2_with fail
   exact HX.out _ y.out HF.out
end Go.Proofs.YtbbfcbodhmeanaaGreatDoor

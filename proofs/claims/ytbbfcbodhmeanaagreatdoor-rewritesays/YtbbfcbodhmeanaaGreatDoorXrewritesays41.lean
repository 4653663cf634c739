import Derived.Test.YtbbfcbodhmeanaaGreatDoorXrewritesays19
set_option maxHeartbeats 8000000
set_option maxRecDepth 1000000
namespace Go.Proofs.YtbbfcbodhmeanaaGreatDoor
open Go.Proofs.Tryz
open Go.RowKit
def aTK(s:jB)(out:List jB):List jB:=if(s==[46,46])&&decide (0<out.length)then out.dropLast else out
def aTL:List jB->List jB->List jB
 |[],out=>out
 |s::r,out=>if aIZ s then aTL r (if r.isEmpty then aTK s out++[[]]else aTK s out)else aTL r (out++[s])
theorem aTQ(s:jB)(r a:List jB)(h:aIZ s=false):aTL (s::r) a=aTL r (a++[s]):=by rw[aTL,jh (by rw[h];simp)]
theorem aTN(s:jB)(r a:List jB)(h:aIZ s=true):aTL (s::r) a=aTL r (if r.isEmpty then aTK s a++[[]]else aTK s a):=by rw[aTL,jo h]
theorem aTM(s:jB)(b:List jB):aCA s ([]::b)=[]::aTK s b:=by
 unfold aCA aTK
 cases b with
 |nil=>simp
 |cons a t=>
  by_cases h:s=[46,46]
  ·subst h
   rw[jo (by simp),jo (by simp)]
   rfl
  ·rw[jh (by simp[h]),jh (by simp[h])]
theorem aTO:∀(c a:List jB),aFn c ([]::a)=[]::aTL c a
 |[],a=>rfl
 |s::r,a=>by
  rw[aFn,aTL]
  split
  ·rw[aTM]
   by_cases b:r.isEmpty=true
   ·rw[jo b,jo b];exact aTO r _
   ·rw[jh b,jh b];exact aTO r _
  ·exact aTO r _
theorem aTP:∀(b a:List jB),b≠[]->aTL b a≠[]
 |[],_,h=>absurd rfl h
 |[s],a,_=>by
  rw[aTL]
  split<;>simp[aTL]
 |s::t::r,a,_=>by
  rw[aTL]
  split
  ·exact aTP (t::r) _ (by simp)
  ·exact aTP (t::r) _ (by simp)
theorem aJa(b:List jB)(h:b≠[]):aI9 ([]::b)=47::aI9 b:=by
 cases b with
 |nil=>exact absurd rfl h
 |cons a t=>rfl
theorem aT5(p:jB)(r:List jB)(a:aML p=[]::r)(b:r≠[]):aT3 p=47::aI9 (aTL r []):=by
 unfold aT3
 rw[a,aFp _ _ _ rfl]
 show aI9 (aFn r ([]::[]))=_
 rw[aTO,aJa _ (aTP r [] b)]
theorem aMM(p:jB)(h:aNE p=true):∃r,aML p=[]::r/\r≠[]:=by
 obtain⟨q,rfl⟩:=(aNL p).1 h
 exact⟨(aQ3 (47::q)).2,rfl,by rw[aQ3,jo rfl];simp⟩
theorem aOO(b n:Nat)(s:jA)(M:List jA)(hn:Hid (n=M.length))(aI:1<=n)(aJ:n<=1000)(he:s.toList.isEmpty=false)(hx:Hid (∀x∈M,x.size<=1000))(w r:World)(al:jb w r)(az:b<r.heap.size)
  (CS:Hid (Calls prog 57 #[.string s,.string ⟨#[47]⟩] w λe w'=>e=.returned (.slice (some (jx b 0)) (n+1) (n+1))/\w'=r))
  (hc:Hid (∀i,i<n->r.cell? (jx b (1+i))=some (.string (M.getD i ByteArray.empty)))):
  Calls prog 105 #[.string s] w λe w'=>e=.returned (.string (bar (47::aI9 (aTL (lst M) []))))/\jb w w':=by
 obtain⟨i0,hi,ac,ad,ae⟩:=jao aIL
 obtain⟨c,R⟩:∃c,aTL (lst M) []=c:=⟨_,rfl⟩
 rw[R]
 have ak:Hid _:=R
 clear R
 go_enter func105,ntmps105
 go_wp2_with fail
 refine CS.out.mono ?_
 rintro e w' ⟨rfl,aD⟩
 have av:=aD.symm
 subst av
 clear CS
 go_wp2_with fail
 go_loopw[4,14] (λlv iv wr=>∃(k:Nat) (p:jO) (m c1:Nat) (f:List jA),k<=n/\iv=.int .i64 k/\lv=.slice p m c1/\m<=k/\Hid (m=f.length)/\jb r wr/\Hid (wr.ownsRow r.heap.size 9 1 (.slice p m c1) m (aRl f))/\Hid (∀x∈f,x.size<=1000)/\Hid (aTL (lst (M.drop k)) (lst f)=c)) (λ_ iv _=>n-(intOf iv).toNat)
 case atStart=>exact⟨0,none,0,0,[],jy _,rfl,rfl,jf _,rfl,jr _ _,jT _ _ _ _,(λx hx=>by cases hx),ak⟩
 case round=>
  obtain⟨k,p,m,c1,f,hk,rfl,rfl,aH,B,A,O,HL,N⟩:=hrel
  clear ak
  have U:=A.size
  by_cases aq:k<n
  ·have aG:wr.cell? (jx b (1+k))=some (.string (M.getD k ByteArray.empty)):=(A.cell (p:=jx b (1+k)) az).trans (hc.out k aq)
   have ab:k<M.length:=by rw[<-hn.out];exact aq
   have aE:Hid ((M.getD k ByteArray.empty).size<=1000):=hx.out _ (by rw[jd,jc ab];exact jQ ab)
   have ao:=aKR M k ab
   have ag:=aKS M (k+1)
   rw[<-hn.out]at ag
   have HD:Hid _:=ao
   have I:Hid _:=ag
   clear ao ag ab
   generalize M.getD k ByteArray.empty=x at*
   rw[HD.out]at N
   obtain⟨rest,H⟩:∃rest,lst (M.drop (k+1))=rest:=⟨_,rfl⟩
   rw[H]at N I
   have F:Hid _:=H
   clear H
   by_cases h1:x.data.toList=[46]
   ·have aw:x.toList=[46]:=by rw[jj];exact h1
    have ax:¬x.toList=[46,46]:=by rw[jj,h1];decide
    have d:Hid (aTL rest (if rest.isEmpty then lst f++[[]]else lst f)=c):=by
     unfold Hid
     rw[<-N.out,h1,aTN _ _ _ rfl]
     rfl
    clear N h1 HD
    by_cases l:n<=k+1
    ·have T:((k:Int)==(n:Int)-1)=true:=by rw[jbp];omega
     have t:Hid (aTL rest (lst (f++[jz]))=c):=by
      unfold Hid
      rw[<-d.out,I.out,j3 l,jo rfl,aKU]
     have o:=O.out
     clear d I
     go_wp2_with (at_builtin;refine jX _ rfl (.tmp 46) (.tmp 47) 26 rfl r.heap.size 9 i0 (.string jz) 1 16 underlying26 hi ac ad ae rfl (by decide) _ _ _ rfl (o.alloc _) (jx wr.heap.size 0) 1 1 [.string jz] rfl rfl (aDG _ _ _ _ rfl) ?c2 ?c3 ?c4 ?c5 ?_)
     case c2=>first|rfl|(intro u V;simp at V;subst V;rfl)
     case c3=>unfold maxLen;omega
     case c4=>omega
     case c5=>first|omega|(simp;omega)
     intro v9 Y a v _
     have G:jb r Y:=(A.alloc U _).grown v (by simp;omega) (λj hj=>(o.lt j hj).1)
     obtain⟨X,P,rfl⟩:=aMh a
     have E:Hid (Y.ownsRow r.heap.size 9 1 (.slice X (m+1) P) (m+1) (aRl (f++[jz]))):=by unfold Hid;rw[aRm];exact a
     have D:Hid (m+1=(f++[jz]).length):=by unfold Hid;rw[je,<-B.out];rfl
     have C:Hid (∀z∈f++[jz],z.size<=1000):=λz W=>by
      rcases jY.1 W with h|h
      ·exact HL.out z h
      ·simp at h;subst h;exact(by decide)
     clear a v o
     go_wp2_with fail
     go_roundw
     case rel=>exact⟨k+1,X,m+1,P,f++[jz],by omega,by go_num,rfl,by omega,D,G,E,C,by unfold Hid;rw[F.out];exact t⟩
     case measure=>simp[intOf];omega
    ·have T:((k:Int)==(n:Int)-1)=false:=by rw[jg];omega
     have t:Hid (aTL rest (lst f)=c):=by
      unfold Hid
      rw[<-d.out,I.out,jV l,jh (by simp)]
     clear d I
     go_wp2_with fail
     go_roundw
     case rel=>exact⟨k+1,p,m,c1,f,by omega,by go_num,rfl,by omega,B,A,O,HL,by unfold Hid;rw[F.out];exact t⟩
     case measure=>simp[intOf];omega
   ·by_cases Z:x.data.toList=[46,46]
    ·have aw:¬x.toList=[46]:=by rw[jj,Z];decide
     have ax:x.toList=[46,46]:=by rw[jj];exact Z
     by_cases ah:0<m
     ·obtain⟨L,rfl⟩:∃L,m=L+1:=⟨m-1,by omega⟩
      obtain⟨g,rfl,am,aA⟩:=aMj O.out
      rcases jeg f with ar|⟨q,y,ap⟩
      ·exact absurd B.out (by rw[ar];simp)
      rw[jeh]at ap
      subst ap
      have aa:Hid (L=q.length):=by have:=B.out;rw[je]at this;simp at this;exact this
      have aj:Hid (wr.ownsRow r.heap.size 9 1 (.slice (some (jx g 0)) L c1) L (aRl q)):=by
       have:=O.out
       rw[aRm]at this
       exact ownsRow_pop (by simp[aRl];exact aa.out.symm) this
      have ai:Hid (∀z∈q,z.size<=1000):=λz W=>HL.out z (by simp[W])
      have d:Hid (aTL rest (if rest.isEmpty then lst q++[[]]else lst q)=c):=by
       unfold Hid
       rw[<-N.out,Z,aTN _ _ _ rfl]
       have af:aTK [46,46] (lst (q++[y]))=lst q:=by
        unfold aTK
        rw[jo (by
         rw[aKT,je,<-aa.out,List.length_singleton,j3 ah]
         rfl),aKU,jeo]
       rw[af]
      have aC:(0:Int)<((L+1:Nat):Int):=by omega
      clear N Z HD B O HL ah
      by_cases l:n<=k+1
      ·have T:((k:Int)==(n:Int)-1)=true:=by rw[jbp];omega
       have t:Hid (aTL rest (lst (q++[jz]))=c):=by
        unfold Hid
        rw[<-d.out,I.out,j3 l,jo rfl,aKU]
       have o:=aj.out
       clear d I
       go_wp2_with (at_builtin;refine jX _ rfl (.tmp 46) (.tmp 47) 26 rfl r.heap.size 9 i0 (.string jz) 1 16 underlying26 hi ac ad ae rfl (by decide) _ _ _ rfl (o.alloc _) (jx wr.heap.size 0) 1 1 [.string jz] rfl rfl (aDG _ _ _ _ rfl) ?c2 ?c3 ?c4 ?c5 ?_)
       case c2=>first|rfl|(intro u V;simp at V;subst V;rfl)
       case c3=>unfold maxLen;omega
       case c4=>omega
       case c5=>first|omega|(simp;omega)
       intro v9 Y a v _
       have G:jb r Y:=(A.alloc U _).grown v (by simp;omega) (λj hj=>(o.lt j hj).1)
       obtain⟨X,P,rfl⟩:=aMh a
       have E:Hid (Y.ownsRow r.heap.size 9 1 (.slice X (L+1) P) (L+1) (aRl (q++[jz]))):=by unfold Hid;rw[aRm];exact a
       have D:Hid (L+1=(q++[jz]).length):=by unfold Hid;rw[je,<-aa.out];rfl
       have C:Hid (∀z∈q++[jz],z.size<=1000):=λz W=>by
        rcases jY.1 W with h|h
        ·exact ai.out z h
        ·simp at h;subst h;exact(by decide)
       clear a v o
       go_wp2_with fail
       go_roundw
       case rel=>exact⟨k+1,X,L+1,P,q++[jz],by omega,by go_num,rfl,by omega,D,G,E,C,by unfold Hid;rw[F.out];exact t⟩
       case measure=>simp[intOf];omega
      ·have T:((k:Int)==(n:Int)-1)=false:=by rw[jg];omega
       have t:Hid (aTL rest (lst q)=c):=by
        unfold Hid
        rw[<-d.out,I.out,jV l,jh (by simp)]
       clear d I
       go_wp2_with fail
       go_roundw
       case rel=>exact⟨k+1,some (jx g 0),L,c1,q,by omega,by go_num,rfl,by omega,aa,A,aj,ai,by unfold Hid;rw[F.out];exact t⟩
       case measure=>simp[intOf];omega
     ·have d:Hid (aTL rest (if rest.isEmpty then lst f++[[]]else lst f)=c):=by
       unfold Hid
       rw[<-N.out,Z,aTN _ _ _ rfl]
       have af:aTK [46,46] (lst f)=lst f:=by
        unfold aTK
        rw[jh (by
         rw[aKT,<-B.out,jV ah]
         simp)]
       rw[af]
      have aC:¬(0:Int)<(m:Int):=by omega
      clear N Z HD
      by_cases l:n<=k+1
      ·have T:((k:Int)==(n:Int)-1)=true:=by rw[jbp];omega
       have t:Hid (aTL rest (lst (f++[jz]))=c):=by
        unfold Hid
        rw[<-d.out,I.out,j3 l,jo rfl,aKU]
       have o:=O.out
       clear d I
       go_wp2_with (at_builtin;refine jX _ rfl (.tmp 46) (.tmp 47) 26 rfl r.heap.size 9 i0 (.string jz) 1 16 underlying26 hi ac ad ae rfl (by decide) _ _ _ rfl (o.alloc _) (jx wr.heap.size 0) 1 1 [.string jz] rfl rfl (aDG _ _ _ _ rfl) ?c2 ?c3 ?c4 ?c5 ?_)
       case c2=>first|rfl|(intro u V;simp at V;subst V;rfl)
       case c3=>unfold maxLen;omega
       case c4=>omega
       case c5=>first|omega|(simp;omega)
       intro v9 Y a v _
       have G:jb r Y:=(A.alloc U _).grown v (by simp;omega) (λj hj=>(o.lt j hj).1)
       obtain⟨X,P,rfl⟩:=aMh a
       have E:Hid (Y.ownsRow r.heap.size 9 1 (.slice X (m+1) P) (m+1) (aRl (f++[jz]))):=by unfold Hid;rw[aRm];exact a
       have D:Hid (m+1=(f++[jz]).length):=by unfold Hid;rw[je,<-B.out];rfl
       have C:Hid (∀z∈f++[jz],z.size<=1000):=λz W=>by
        rcases jY.1 W with h|h
        ·exact HL.out z h
        ·simp at h;subst h;exact(by decide)
       clear a v o
       go_wp2_with fail
       go_roundw
       case rel=>exact⟨k+1,X,m+1,P,f++[jz],by omega,by go_num,rfl,by omega,D,G,E,C,by unfold Hid;rw[F.out];exact t⟩
       case measure=>simp[intOf];omega
      ·have T:((k:Int)==(n:Int)-1)=false:=by rw[jg];omega
       have t:Hid (aTL rest (lst f)=c):=by
        unfold Hid
        rw[<-d.out,I.out,jV l,jh (by simp)]
       clear d I
       go_wp2_with fail
       go_roundw
       case rel=>exact⟨k+1,p,m,c1,f,by omega,by go_num,rfl,by omega,B,A,O,HL,by unfold Hid;rw[F.out];exact t⟩
       case measure=>simp[intOf];omega
    ·have aw:(x.toList==[46])=false:=by rw[jg,jj];exact h1
     have ax:(x.toList==[46,46])=false:=by rw[jg,jj];exact Z
     have d:Hid (aTL rest (lst (f++[x]))=c):=by
      unfold Hid
      rw[<-N.out,aTQ _ _ _ (by unfold aIZ;simp[h1,Z]),aKU]
     have o:=O.out
     clear N h1 Z HD I
     go_wp2_with (at_builtin;refine jX _ rfl (.tmp 37) (.tmp 39) 26 rfl r.heap.size 9 i0 (.string jz) 1 16 underlying26 hi ac ad ae rfl (by decide) _ _ _ rfl (o.alloc _) (jx wr.heap.size 0) 1 1 [.string x] rfl rfl (aDG _ _ _ _ rfl) ?c2 ?c3 ?c4 ?c5 ?_)
     case c2=>first|rfl|(intro u V;simp at V;subst V;rfl)
     case c3=>unfold maxLen;omega
     case c4=>omega
     case c5=>first|omega|(simp;omega)
     intro v9 Y a v _
     have G:jb r Y:=(A.alloc U _).grown v (by simp;omega) (λj hj=>(o.lt j hj).1)
     obtain⟨X,P,rfl⟩:=aMh a
     have E:Hid (Y.ownsRow r.heap.size 9 1 (.slice X (m+1) P) (m+1) (aRl (f++[x]))):=by unfold Hid;rw[aRm];exact a
     have D:Hid (m+1=(f++[x]).length):=by unfold Hid;rw[je,<-B.out];rfl
     have C:Hid (∀z∈f++[x],z.size<=1000):=λz W=>by
      rcases jY.1 W with h|h
      ·exact HL.out z h
      ·simp at h;subst h;exact aE.out
     clear a v o
     go_wp2_with fail
     go_roundw
     case rel=>exact⟨k+1,X,m+1,P,f++[x],by omega,by go_num,rfl,by omega,D,G,E,C,by unfold Hid;rw[F.out];exact d⟩
     case measure=>simp[intOf];omega
  ·obtain rfl:k=n:=by omega
   have d:Hid (lst f=c):=by
    have:=N.out
    rw[jC (by rw[<-hn.out];exact jf _)]at this
    exact this
   clear N
   have S:(Lib.join (f.map (·.data.toList)) (ByteArray.mk #[47]).data.toList).length<=140737488355328:=by
    show(Lib.join (lst f) [47]).length<=_
    rw[aJe]
    have h1:=aJc 1000 (lst f) (λy hy=>by
     unfold lst at hy
     rw[jbi]at hy
     obtain⟨z,W,rfl⟩:=hy
     rw[<-Lib.size_eq];exact HL.out z W)
    rw[aKT,<-B.out]at h1
    have Z:m*(1000+1)<=1000*1001:=Nat.mul_le_mul (by omega) (by omega)
    omega
   have CJ:Hid (Calls prog 107 #[.slice p m c1,.string ⟨#[47]⟩] wr λe w'=>e=.returned (.string (bar (aI9 c)))/\jb wr w'):=by
    have an:Lib.join (f.map (·.data.toList)) (ByteArray.mk #[47]).data.toList=aI9 c:=by
     rw[<-d.out];exact aJe _
    rcases jbo m with h0|h0
    ·subst h0
     have aB:f=[]:=js.1 B.out.symm
     refine(strings_Join_none p c1 ⟨#[47]⟩ wr).mono ?_
     rintro e w' ⟨rfl,rfl⟩
     refine⟨?_,jr _ _⟩
     rw[<-an,aB];rfl
    ·obtain⟨L,rfl⟩:∃L,m=L+1:=⟨m-1,by omega⟩
     obtain⟨g,rfl,am,aA⟩:=aMj O.out
     have:=strings_Join g 0 c1 f ⟨#[47]⟩ wr (λj y hy=>by
      have hj:j<f.length:=(jN.1 hy).1
      rw[j0,O.out.cellAt j (by have:=B.out;omega)]
      simp[aRl,hy]) am (by have:=B.out;omega) (by have:=B.out;omega) S
     rw[<-B.out,an]at this
     exact this
   have hJ:(bar (aI9 c)).size<=140737488355328:=by
    rw[aCK,<-d.out,<-aJe]
    exact S
   have HA:Hid ((⟨#[47]⟩++bar (aI9 c):jA)=bar (47::aI9 c)):=by
    unfold Hid
    apply aCx
    rw[aE7]
    rfl
   generalize bar (aI9 c)=J at*
   have aF:¬9223372036854775807<1+J.size:=by omega
   clear O HL B S
   go_wp2_with fail
   refine CJ.out.mono ?_
   rintro e w2 ⟨rfl,ay⟩
   go_wp2
   go_ret
   exact⟨by rw[<-HA.out];rfl,al.trans ((A.trans (ay.mono U)).mono al.size)⟩
theorem aON(s:jA)(w:World)(t:aAP w)(A:s.size<=900)(z:s.data.toList=[]\/aNE s.data.toList=true):
  Calls prog 105 #[.string s] w λe w'=>e=.returned (.string (bar (aT3 s.data.toList)))/\jb w w':=by
 by_cases d:s.data.toList=[]
 ·obtain rfl:=aC2 s d
  go_enter func105,ntmps105
  go_wp2
  go_ret
  exact⟨rfl,jr _ _⟩
 ·have n:aNE s.data.toList=true:=z.resolve_left d
  obtain⟨r,f,j⟩:=aMM _ n
  obtain⟨C,c,o,p,q⟩:=aQ1 s w t A
  rw[aT5 _ r f j]
  cases C with
  |nil=>rw[f]at c;cases c
  |cons x g=>
   have k:lst g=r:=by
    rw[f]at c
    exact(j4 c).2
   have m:1<=g.length:=by
    cases g with
    |nil=>exact absurd k.symm j
    |cons a b=>simp
   rw[<-k]
   rw[jm]at q o
   exact aOO w.heap.size g.length s g rfl m (by omega) (aC0 s d) (λy B=>p y (by simp[B])) w _ (ja _ _) (by simp) q (λi v=>by
    rw[jdn _ _ _ _ rfl]
    have l:i<g.length:=v
    simp[List.getD_eq_getElem?_getD,l,Nat.add_comm 1 i])
abbrev aDR(a0:jA)(a1:Bool)(a2 a3:jA)(a4:Bool)(a5:jA)(a6:Bool)(a7:jA):Array Value:=(jU a0 a1 a2 a3 a4 a5 a6 a7)
abbrev E0:jA:=jz
abbrev aVs:Value:=.agg jZ
end Go.Proofs.YtbbfcbodhmeanaaGreatDoor

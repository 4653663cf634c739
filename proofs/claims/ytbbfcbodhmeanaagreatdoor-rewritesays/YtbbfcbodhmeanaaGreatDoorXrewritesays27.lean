import Derived.Test.YtbbfcbodhmeanaaGreatDoorXrewritesays26
import Derived.Test.YtbbfcbodhmeanaaGreatDoorXrewritesays17
set_option maxHeartbeats 8000000
set_option maxRecDepth 1000000
namespace Go.Proofs.YtbbfcbodhmeanaaGreatDoor
open Go.Proofs.Tryz
open Go.RowKit
theorem aOY(w:World)(base g cap:Nat)(X:jB)(a:List Value)(N O:Nat)(T:jB)(h:aBg w base g cap X a N O T)(i j n m d:Nat)(en:n=X.length)(L:m=T.length)(hd:n-j=d)(an:i<j)(hj:j<n)(hm:i+m<j):
  Calls prog 116 #[.slice (some (jx g 0)) n cap,.int .i64 i,.int .i64 j,.slice (some (jx N 0)) m O] w λe w'=>aBh w base (X.take i++T++X.drop j) e w':=by
 have ak:cap<=9223372036854775807:=h.hcm
 have x:=h.big
 have V:=h.hXc
 have D:=h.hcl
 have ax:0<m:=by rw[L];exact h.hT
 have ay:n<=cap:=by omega
 have l:(bv T).length=m:=by rw[aDq,L]
 have f:((bv X).drop j).length=d:=by rw[jH,aDq];omega
 have t:∀v∈(bv X).drop j,v.oneCell'=true:=λv hv=>aDr X v (jcr hv)
 have b:(X.take i++T++X.drop j).length=i+m+d:=aOX en L hd (by omega) (by omega)
 have e0:a.take i=bv (X.take i):=by
  have U:a.take i=(a.take X.length).take i:=by rw[jbq,jbf (by omega)]
  rw[U,h.hX,aDs]
 have c:∀q v,((bv X).drop j)[q]?=some v->w.cell? (jx g (j+q))=some v:=λq v hq=>by
  rw[jax]at hq
  have:=h.cell (j+q) v hq
  rwa [j0]at this
 obtain⟨J,y,p,E⟩:=aEF w.drew g i (i+m+d-i) (jx N 0) m a (bv T) h.hg (by rw[l];simp only[jck];split<;>omega) (λq v hq=>by rw[jaa];exact h.hvs q v hq) (by omega) (aDr T)
 have H:(splice a i (bv T)).length=cap:=by rw[length_splice _ _ _ (by omega)];exact D
 obtain⟨w3,z,A,F⟩:=aEF J.drew g (i+m) (i+m+d-(i+m)) (jx g j) d (splice a i (bv T)) ((bv X).drop j) p (by rw[f];simp only[jck];split<;>omega) (λq v hq=>by
  rw[jaa]
  have h1:=c q v hq
  show J.cell? _=_
  rw[World.cell?,h.hg]at h1
  rw[World.cell?,p]
  have S:a[j+q]?=some v:=by simpa using h1
  have U:(splice a i (bv T))[j+q]?=a[j+q]?:=by
   unfold splice
   have av:(a.take i).length=i:=by rw[jF];omega
   rw[jS (by omega),jS (by omega),jax]
   congr 1
   omega
  have h3:(splice a i (bv T))[j+q]?=some v:=U.trans S
  simpa using h3) (by omega) t
 have W:(splice (splice a i (bv T)) (i+m) ((bv X).drop j)).length=cap:=by rw[length_splice _ _ _ (by omega)];exact H
 have Z:(splice (splice a i (bv T)) (i+m) ((bv X).drop j)).take (i+m+d)=bv (X.take i++T++X.drop j):=by
  rw[aR2 _ _ _ _ (by omega) (by omega),f,jbh,jcq,j6,aR2 _ _ _ _ (by omega) (by omega),l,jbh,jcq,j6,e0,aDo,aDo,aDp]
 obtain⟨k0,ar⟩:∃k,n-(i+m+d)=k+1:=⟨n-(i+m+d)-1,by omega⟩
 obtain⟨w4,aj,⟨s,B,C,I⟩,G⟩:=aEj w3 g (i+m+d) k0 (cap-(i+m+d)) (splice (splice a i (bv T)) (i+m) ((bv X).drop j)) A (by omega)
 have HP:Hid (aBh w base (X.take i++T++X.drop j) (.returned (.slice (some (jx g 0)) (i+m+d) cap)) w4):=by
  refine⟨g,cap,by rw[b],((aAY.drew g w).trans (E.trans ((aAY.drew g J).trans (F.trans G)))).below h.hb,⟨by rw[aDq];omega,.inr ⟨g,cap,_,by rw[b],h.hb,B,by omega,h.hcm,by rw[jdc,C];omega,?_⟩⟩⟩
  show List.take _ s=_
  rw[b,jdx,I,Z]
 have ab:¬(cap=i+m+d):=by omega
 have P:Hid (∀r o,(Builtin.copy_ #[22,22] r #[.slice (some (jx g i)) (i+m+d-i) o,.slice (some (jx N 0)) m O]).run prog w.drew=.ok (goInt (m:Int)) J):=λr o=>by have:=y r o O;rw[l]at this;exact this
 have R:Hid (∀r o Y,(Builtin.copy_ #[22,22] r #[.slice (some (jx g (i+m))) (i+m+d-(i+m)) o,.slice (some (jx g j)) d Y]).run prog J.drew=.ok (goInt (d:Int)) w3):=λr o Y=>by have:=z r o Y;rw[f]at this;exact this
 have aq:(j:Int)<=(n:Int):=by omega
 have ap:(j:Int)<=(cap:Int):=by omega
 have ac:(i:Int)<=(j:Int):=by omega
 have al:i<=n:=by omega
 have am:i<=cap:=by omega
 have ao:j<=n:=by omega
 have ae:((i:Int)==(j:Int))=false:=by rw[jg];omega
 have af:((j:Int)==(n:Int))=false:=by rw[jg];omega
 have aE:IntKind.i64.wrap ((i:Int)+(m:Int))=(i:Int)+(m:Int):=by rw[ju];omega
 have aF:IntKind.i64.wrap ((i:Int)+(m:Int)+(d:Int))=(i:Int)+(m:Int)+(d:Int):=by rw[ju];omega
 have aD:((i:Int)+(m:Int)).toNat=i+m:=by omega
 have ag:((i:Int)+(m:Int)+(d:Int)).toNat=i+m+d:=by omega
 have az:(0:Int)<=(i:Int)+(m:Int):=by omega
 have aA:(0:Int)<=(i:Int)+(m:Int)+(d:Int):=by omega
 have ah:¬(cap=i):=by omega
 have ai:¬(cap=j):=by omega
 have aw:(i:Int)+(m:Int)<=(j:Int):=by omega
 have M:¬((cap:Int)<(i:Int)+(m:Int)+(d:Int)):=by omega
 have aC:(i:Int)+(m:Int)+(d:Int)<=(cap:Int):=by omega
 have aB:(i:Int)+(m:Int)+(d:Int)<=(n:Int):=by omega
 have hit:(i:Int)<=(i:Int)+(m:Int)+(d:Int):=by omega
 have ad:(i:Int)+(m:Int)<=(i:Int)+(m:Int)+(d:Int):=by omega
 have aa:¬(cap=i+m):=by omega
 clear y z p A B E F G H W Z e0 b c t l f h en L x V D C I
 go_enter func116,ntmps116
 go_upto_region 9 with fail
 go_region
 go_wp2_with (refine wpList_copy_runI _ rfl _ _ 22 22 rfl _ _ rfl rfl (P.out _ _) ?_)
 go_region_law (refine step_copy_runI rfl _ _ 22 22 rfl _ _ (by simp[Act.eval,Act.put]) (by simp[Act.eval,Act.put]) (R.out _ (cap-(i+m)) (cap-j)) ?_)
 go_wp2_with fail
 go_ret
 exact HP.out
theorem aO1(w:World)(base g cap:Nat)(X:jB)(a:List Value)(H I:Nat)(T:jB)(h:aBg w base g cap X a H I T)(i j n m d:Nat)(V:n=X.length)(F:m=T.length)(hd:n-j=d)(ak:i<j)(hj:j<n)(hm:i+m=j):
  Calls prog 116 #[.slice (some (jx g 0)) n cap,.int .i64 i,.int .i64 j,.slice (some (jx H 0)) m I] w λe w'=>aBh w base (X.take i++T++X.drop j) e w':=by
 have ag:cap<=9223372036854775807:=h.hcm
 have s:=h.big
 have O:=h.hXc
 have z:=h.hcl
 have ar:0<m:=by rw[F];exact h.hT
 have av:n<=cap:=by omega
 have k:(bv T).length=m:=by rw[aDq,F]
 have f:((bv X).drop j).length=d:=by rw[jH,aDq];omega
 have r:∀v∈(bv X).drop j,v.oneCell'=true:=λv hv=>aDr X v (jcr hv)
 have b:(X.take i++T++X.drop j).length=i+m+d:=aOX V F hd (by omega) (by omega)
 have e0:a.take i=bv (X.take i):=by
  have N:a.take i=(a.take X.length).take i:=by rw[jbq,jbf (by omega)]
  rw[N,h.hX,aDs]
 have c:∀q v,((bv X).drop j)[q]?=some v->w.cell? (jx g (j+q))=some v:=λq v hq=>by
  rw[jax]at hq
  have:=h.cell (j+q) v hq
  rwa [j0]at this
 obtain⟨E,t,o,A⟩:=aEF w.drew g i (i+m+d-i) (jx H 0) m a (bv T) h.hg (by rw[k];simp only[jck];split<;>omega) (λq v hq=>by rw[jaa];exact h.hvs q v hq) (by omega) (aDr T)
 have C:(splice a i (bv T)).length=cap:=by rw[length_splice _ _ _ (by omega)];exact z
 obtain⟨w3,x,y,B⟩:=aEF E.drew g (i+m) (i+m+d-(i+m)) (jx g j) d (splice a i (bv T)) ((bv X).drop j) o (by rw[f];simp only[jck];split<;>omega) (λq v hq=>by
  rw[jaa]
  have W:=c q v hq
  show E.cell? _=_
  rw[World.cell?,h.hg]at W
  rw[World.cell?,o]
  have M:a[j+q]?=some v:=by simpa using W
  have N:(splice a i (bv T))[j+q]?=a[j+q]?:=by
   unfold splice
   have ap:(a.take i).length=i:=by rw[jF];omega
   rw[jS (by omega),jS (by omega),jax]
   congr 1
   omega
  have h3:(splice a i (bv T))[j+q]?=some v:=N.trans M
  simpa using h3) (by omega) r
 have D:(splice (splice a i (bv T)) (i+m) ((bv X).drop j)).length=cap:=by rw[length_splice _ _ _ (by omega)];exact C
 have U:(splice (splice a i (bv T)) (i+m) ((bv X).drop j)).take (i+m+d)=bv (X.take i++T++X.drop j):=by
  rw[aR2 _ _ _ _ (by omega) (by omega),f,jbh,jcq,j6,aR2 _ _ _ _ (by omega) (by omega),k,jbh,jcq,j6,e0,aDo,aDo,aDp]
 have S:Hid (aBh w base (X.take i++T++X.drop j) (.returned (.slice (some (jx g 0)) (i+m+d) cap)) w3):=by
  refine⟨g,cap,by rw[b],((aAY.drew g w).trans (A.trans ((aAY.drew g E).trans B))).below h.hb,⟨by rw[aDq];omega,.inr ⟨g,cap,_,by rw[b],h.hb,y,by omega,h.hcm,by rw[jdc,D];omega,?_⟩⟩⟩
  show List.take _ _=_
  rw[b,jdx,U]
 have ao:n-(i+m+d)=0:=by omega
 have J:Hid (∀p l,(Builtin.copy_ #[22,22] p #[.slice (some (jx g i)) (i+m+d-i) l,.slice (some (jx H 0)) m I]).run prog w.drew=.ok (goInt (m:Int)) E):=λp l=>by have:=t p l I;rw[k]at this;exact this
 have L:Hid (∀p l P,(Builtin.copy_ #[22,22] p #[.slice (some (jx g (i+m))) (i+m+d-(i+m)) l,.slice (some (jx g j)) d P]).run prog E.drew=.ok (goInt (d:Int)) w3):=λp l P=>by have:=x p l P;rw[f]at this;exact this
 have an:(j:Int)<=(n:Int):=by omega
 have am:(j:Int)<=(cap:Int):=by omega
 have Z:(i:Int)<=(j:Int):=by omega
 have ai:i<=n:=by omega
 have aj:i<=cap:=by omega
 have al:j<=n:=by omega
 have ab:((i:Int)==(j:Int))=false:=by rw[jg];omega
 have ac:((j:Int)==(n:Int))=false:=by rw[jg];omega
 have aB:IntKind.i64.wrap ((i:Int)+(m:Int))=(i:Int)+(m:Int):=by rw[ju];omega
 have aC:IntKind.i64.wrap ((i:Int)+(m:Int)+(d:Int))=(i:Int)+(m:Int)+(d:Int):=by rw[ju];omega
 have aA:((i:Int)+(m:Int)).toNat=i+m:=by omega
 have ad:((i:Int)+(m:Int)+(d:Int)).toNat=i+m+d:=by omega
 have aw:(0:Int)<=(i:Int)+(m:Int):=by omega
 have ax:(0:Int)<=(i:Int)+(m:Int)+(d:Int):=by omega
 have ae:¬(cap=i):=by omega
 have af:¬(cap=j):=by omega
 have aq:(i:Int)+(m:Int)<=(j:Int):=by omega
 have G:¬((cap:Int)<(i:Int)+(m:Int)+(d:Int)):=by omega
 have az:(i:Int)+(m:Int)+(d:Int)<=(cap:Int):=by omega
 have ay:(i:Int)+(m:Int)+(d:Int)<=(n:Int):=by omega
 have hit:(i:Int)<=(i:Int)+(m:Int)+(d:Int):=by omega
 have aa:(i:Int)+(m:Int)<=(i:Int)+(m:Int)+(d:Int):=by omega
 have Y:¬(cap=i+m):=by omega
 clear t x o y A B C D U e0 b c r k f h V F s O z hm
 have ah:=aEk
 generalize X.take i++T++X.drop j=R at*
 go_enter func116,ntmps116
 go_upto_region 9 with fail
 go_region
 go_wp2_with (refine wpList_copy_runI _ rfl _ _ 22 22 rfl _ _ rfl rfl (J.out _ _) ?_)
 go_region_law (refine step_copy_runI rfl _ _ 22 22 rfl _ _ (by simp[Act.eval,Act.put]) (by simp[Act.eval,Act.put]) (L.out _ (cap-(i+m)) (cap-j)) ?_)
 go_wp2_with fail
 all_goals (go_ret;first|exact S.out|(have h:=S.out;rw[show cap=i+m+d by omega]at h;exact h))
theorem aOZ(w:World)(base g cap:Nat)(X:jB)(a:List Value)(r s:Nat)(T:jB)(h:aBg w base g cap X a r s T)(i j n m d:Nat)(Y:n=X.length)(H:m=T.length)(hd:n-j=d)(ak:i<j)(hj:j<n)(hm:j<i+m)(P:i+m+d<=cap):
  Calls prog 116 #[.slice (some ⟨g,0,none⟩) n cap,.int .i64 i,.int .i64 j,.slice (some ⟨r,0,none⟩) m s] w λe w'=>aBh w base (X.take i++T++X.drop j) e w':=by
 have ah:cap<=9223372036854775807:=h.hcm
 have x:=h.big
 have N:=h.hXc
 have C:=h.hcl
 have ap:0<m:=by rw[H];exact h.hT
 have aq:n<=cap:=by omega
 have c:(bv T).length=m:=by rw[aDq,H]
 have l:((bv X).drop j).length=d:=by rw[jH,aDq];omega
 have t:∀v∈(bv X).drop j,v.oneCell'=true:=λv hv=>aDr X v (jcr hv)
 have b:(X.take i++T++X.drop j).length=i+m+d:=aOX Y H hd (by omega) (by omega)
 have e0:a.take i=bv (X.take i):=by
  have h2:a.take i=(a.take X.length).take i:=by rw[jbq,jbf (by omega)]
  rw[h2,h.hX,aDs]
 obtain⟨f,G,R⟩:=h.hv
 have O:∀S M,(callFunc 157 #[.slice (some ⟨g,i+m,none⟩) S M,.slice (some ⟨r,0,none⟩) m s]).run prog w.drew=.ok (.value (.bool false)) w.drew:=λS M=>
  aL8 ⟨g,i+m,none⟩ ⟨r,0,none⟩ S M m s (jaz h.ne) a.toArray f _ _ h.hg G (Or.inl ⟨rfl,rfl,by omega,by show 0<f.size;omega⟩)
 obtain⟨V,y,A,o⟩:=aEF w.drew.drew g (i+m) (i+m+d-(i+m)) ⟨g,j,none⟩ d a ((bv X).drop j) h.hg (by rw[l];simp only[jck];split<;>omega) (λq v hq=>by
  rw[jaa]
  rw[jax]at hq
  have:=h.cell (j+q) v hq
  rw[j0]at this
  exact this) (by omega) t
 have E:(splice a (i+m) ((bv X).drop j)).length=cap:=by rw[length_splice _ _ _ (by omega)];exact C
 obtain⟨w3,z,B,D⟩:=aEF V g i (i+m+d-i) ⟨r,0,none⟩ m (splice a (i+m) ((bv X).drop j)) (bv T) A (by rw[c];simp only[jck];split<;>omega) (λq v hq=>by rw[jaa,o.cell _ h.ne];exact h.hvs q v hq) (by omega) (aDr T)
 have F:(splice (splice a (i+m) ((bv X).drop j)) i (bv T)).length=cap:=by rw[length_splice _ _ _ (by omega)];exact E
 have W:(splice (splice a (i+m) ((bv X).drop j)) i (bv T)).take (i+m+d)=bv (X.take i++T++X.drop j):=by
  rw[aR2 _ _ _ _ (by omega) (by omega),c]
  have e1:(splice a (i+m) ((bv X).drop j)).take i=bv (X.take i):=by
   unfold splice
   rw[jaw (by rw[jF];omega),jbq,jbf (by omega),e0]
  have e2:((splice a (i+m) ((bv X).drop j)).drop (i+m)).take (i+m+d-(i+m))=bv (X.drop j):=by
   unfold splice
   have h3:(a.take (i+m)).length=i+m:=by rw[jF];omega
   rw[List.drop_append,h3,jbh,jbc,jC (by omega),jaf,jaw (by omega),jK (by omega),aDp]
  rw[e1,e2,aDo,aDo,jJ]
 have HP:Hid (aBh w base (X.take i++T++X.drop j) (.returned (.slice (some ⟨g,0,none⟩) (i+m+d) cap)) w3):=by
  refine⟨g,cap,by rw[b],((aAY.drew g w).trans ((aAY.drew g w.drew).trans (o.trans D))).below h.hb,⟨by rw[aDq];omega,.inr ⟨g,cap,_,by rw[b],h.hb,B,by omega,h.hcm,by rw[jdc,F];omega,?_⟩⟩⟩
  show List.take _ _=_
  rw[b,jdx,W]
 have J:Hid (∀p k U,(Builtin.copy_ #[22,22] p #[.slice (some ⟨g,i+m,none⟩) (i+m+d-(i+m)) k,.slice (some ⟨g,j,none⟩) d U]).run prog w.drew.drew=.ok (goInt (d:Int)) V):=λp k U=>by have:=y p k U;rw[l]at this;exact this
 have L:Hid (∀p k,(Builtin.copy_ #[22,22] p #[.slice (some ⟨g,i,none⟩) (i+m+d-i) k,.slice (some ⟨r,0,none⟩) m s]).run prog V=.ok (goInt (m:Int)) w3):=λp k=>by have:=z p k s;rw[c]at this;exact this
 have an:(j:Int)<=(n:Int):=by omega
 have am:(j:Int)<=(cap:Int):=by omega
 have aa:(i:Int)<=(j:Int):=by omega
 have ai:i<=n:=by omega
 have aj:i<=cap:=by omega
 have al:j<=n:=by omega
 have ac:((i:Int)==(j:Int))=false:=by rw[jg];omega
 have ad:((j:Int)==(n:Int))=false:=by rw[jg];omega
 have ay:IntKind.i64.wrap ((i:Int)+(m:Int))=(i:Int)+(m:Int):=by rw[ju];omega
 have az:IntKind.i64.wrap ((i:Int)+(m:Int)+(d:Int))=(i:Int)+(m:Int)+(d:Int):=by rw[ju];omega
 have ax:((i:Int)+(m:Int)).toNat=i+m:=by omega
 have ae:((i:Int)+(m:Int)+(d:Int)).toNat=i+m+d:=by omega
 have ar:(0:Int)<=(i:Int)+(m:Int):=by omega
 have av:(0:Int)<=(i:Int)+(m:Int)+(d:Int):=by omega
 have af:¬(cap=i):=by omega
 have ag:¬(cap=j):=by omega
 have ao:¬((i:Int)+(m:Int)<=(j:Int)):=by omega
 have I:¬((cap:Int)<(i:Int)+(m:Int)+(d:Int)):=by omega
 have aw:(i:Int)+(m:Int)+(d:Int)<=(cap:Int):=by omega
 have hit:(i:Int)<=(i:Int)+(m:Int)+(d:Int):=by omega
 have ab:(i:Int)+(m:Int)<=(i:Int)+(m:Int)+(d:Int):=by omega
 have Z:¬(cap=i+m):=by omega
 clear y z A B o D E F W e0 b t c l h Y H x N C G R
 go_enter func116,ntmps116
 go_upto_region 9 with fail
 go_region
 go_wp2_with (simp only[O])
 go_region_law (refine step_copy_runI rfl _ _ 22 22 rfl _ _ (by simp[Act.eval,Act.put]) (by simp[Act.eval,Act.put]) (J.out _ (cap-(i+m)) (cap-j)) ?_)
 go_wp2_with (refine wpList_copy_runI _ rfl _ _ 22 22 rfl _ _ rfl rfl (L.out _ _) ?_)
 go_ret
 exact HP.out
theorem aOW(w:World)(base g cap:Nat)(X:jB)(b:List Value)(c d:Nat)(T:jB)(h:aBg w base g cap X b c d T)(i n m:Nat)(l:n=X.length)(k:m=T.length)(t:i<n):
  Calls prog 116 #[.slice (some (jx g 0)) n cap,.int .i64 i,.int .i64 i,.slice (some (jx c 0)) m d] w λe w'=>aBh w base (X.take i++T++X.drop i) e w':=by
 have j:Hid (Calls prog 156 #[.slice (some (jx g 0)) n cap,.int .i64 i,.slice (some (jx c 0)) m d] w λe w'=>aBh w base (X.take i++T++X.drop i) e w'):=aIQ w base g cap X b c d T h i n m l k t
 have f:=h.hXc
 have y:(i:Int)<=(n:Int):=by omega
 have v:(i:Int)<=(cap:Int):=by omega
 have x:((i:Int)==(i:Int))=true:=by simp
 have s:¬(cap=i):=by omega
 clear h l k f
 go_enter func116,ntmps116
 go_wp2_with fail
 refine j.out.mono ?_
 intro e w' z
 obtain⟨o,a,rfl,p,q⟩:=z
 have r:Hid (aBh w base (X.take i++T++X.drop i) (.returned (.slice (some (jx o 0)) (X.take i++T++X.drop i).length a)) w'):=⟨o,a,rfl,p,q⟩
 clear j p q
 generalize (X.take i++T++X.drop i).length=A at*
 go_wp2_with fail
 go_ret
 exact r.out
theorem aOU(w:World)(base g cap:Nat)(X:jB)(a:List Value)(b c:Nat)(T:jB)(h:aBg w base g cap X a b c T)(i j n m:Nat)(f:n=X.length)(d:m=T.length)(r:i<=j)(k:j<n):
  Calls prog 116 #[.slice (some (jx g 0)) n cap,.int .i64 i,.int .i64 j,.slice (some (jx b 0)) m c] w λe w'=>aBh w base (X.take i++T++X.drop j) e w':=by
 by_cases l:i=j
 ·subst l
  exact aOW w base g cap X a b c T h i n m f d k
 ·by_cases o:cap<i+m+(n-j)
  ·exact aOV w base g cap X a b c T h i j n m (n-j) f d rfl (by omega) k o
  ·by_cases p:i+m<j
   ·exact aOY w base g cap X a b c T h i j n m (n-j) f d rfl (by omega) k p
   ·by_cases q:i+m=j
    ·exact aO1 w base g cap X a b c T h i j n m (n-j) f d rfl (by omega) k q
    ·exact aOZ w base g cap X a b c T h i j n m (n-j) f d rfl (by omega) k (by omega) (by omega)
structure aA9(w:World)(b:jB)(l:List LK)(ts:List jB)(v:Value)(wr:World)(k:Nat)(X:jB):Prop where
 bel:jb w wr
 own:wr.ownsRow w.heap.size 5 1 v X.length (bv X)
 eq:X=aGe (l.drop k) (ts.drop k) b
theorem aOn(w wr:World)(v:Value)(X:jB)(T:jA)(i j n:Nat)(t:n=X.length)(p:i<=j)(I:j<n)(H:T.data.toList≠[])(z:X.length+T.size<=3000000)(m:jb w wr)(f:wr.ownsRow w.heap.size 5 1 v X.length (bv X)):
  Calls prog 116 #[v,.int .i64 i,.int .i64 j,.slice (some (jx wr.heap.size 0)) T.size (grownCap wr.drew T.size 0 5)] (Lib.bytesWorld wr.drew 5 T) λe w'=>∃A,e=.returned A/\jb w w'/\w'.ownsRow w.heap.size 5 1 A (X.take i++T.data.toList++X.drop j).length (bv (X.take i++T.data.toList++X.drop j)):=by
 have b:jb wr (Lib.bytesWorld wr.drew 5 T):=⟨rfl,rfl,rfl,by rw[Lib.bytesWorld_size];show wr.heap.size<=wr.heap.size+1;omega,λk J=>Lib.bytesWorld_at_old wr.drew _ T k J⟩
 have c:T.size=T.data.toList.length:=Lib.size_eq T
 have l:0<T.data.toList.length:=jbr.2 H
 rcases f.2 with⟨rfl,M⟩|⟨g,cap,d,rfl,B,x,C,D,E,y⟩
 ·omega
 ·have o:g<wr.heap.size:=(jl.1 x).1
  have r:aBg (Lib.bytesWorld wr.drew 5 T) w.heap.size g cap X d.toList wr.heap.size (grownCap wr.drew T.size 0 5) T.data.toList:=by
   refine⟨B,j1 m.size b.size,by rw[b.block g o];simpa using x,by rw[jbs,E];omega,D,by rw[jdx]at y;exact y,C,⟨_,Lib.bytesWorld_at_new wr.drew 5 T,?_⟩,λq u hq=>?_,by omega,l,by omega⟩
   ·unfold Lib.bytesCells
    simp
   ·have a:q<T.size:=by
     have:=(jN.1 hq).1
     rwa [aDq,<-c]at this
    rw[j0]
    have:=Lib.bytesWorld_cell wr.drew 5 T q a
    rw[show wr.drew.heap.size=wr.heap.size from rfl]at this
    rw[this]
    rw[c]at a
    simp only[bv,jas,jc a,jcz,jac]at hq
    rw[<-hq]
    simp[List.getD_eq_getElem?_getD,List.getElem?_eq_getElem a]
  have:=aOU (Lib.bytesWorld wr.drew 5 T) w.heap.size g cap X d.toList wr.heap.size (grownCap wr.drew T.size 0 5) T.data.toList r i j n T.size t c p I
  rw[t]at this
  refine this.mono ?_
  rintro e w' ⟨L,s,rfl,F,G⟩
  exact⟨_,rfl,(m.trans (b.mono m.size)).trans F,G⟩
def aT9:jB:=[65,66,67,68,69,70,71,72,73,74,75,76,77,78,79,80,81,82,83,84,85,86,87,88,89,90]
theorem aUa(c:UInt8):aT9.contains c=aI4 c:=by
 have:∀n:Fin 256,aT9.contains (UInt8.ofNat n.val)=aI4 (UInt8.ofNat n.val):=by decide+kernel
 have h:=this ⟨c.toNat,c.toNat_lt⟩
 simp only[jce]at h
 exact h
theorem aPG(s:jA)(w:World)(R:s.size<=1000000):
  Calls prog 100 #[.string s] w (jG (.string ⟨(aQJ s.data.toList).toArray⟩) w):=by
 have N:(convert 9 22 (.string s)).run prog w=.ok (.slice (some ⟨w.heap.size,0,none⟩) s.size (grownCap w s.size 0 5)) (Lib.bytesWorld w 5 s):=Lib.run_convert_string_bytes w _ _ _ s underlying9 underlying22 underlying5
 have M:jb w (Lib.bytesWorld w 5 s):=⟨rfl,rfl,rfl,by rw[Lib.bytesWorld_size];omega,λk H=>Lib.bytesWorld_at_old w _ s k H⟩
 have v:Hid (∀i,i<s.size->(Lib.bytesWorld w 5 s).cell? ⟨w.heap.size,i,none⟩=some (.int .u8 ((s.data.toList.getD i 0).toNat:Int))):=λi b=>Lib.bytesWorld_cell w _ s i b
 have y:Hid (∀i,i<s.size->(Lib.bytesWorld w 5 s).frozen? ⟨w.heap.size,i,none⟩=false):=λi b=>by
  unfold World.frozen?
  simp only[Lib.bytesWorld_at_new]
  have:s.size<=(Lib.bytesCells w 5 s).size:=by unfold Lib.bytesCells;simp
  rw[Bool.and_eq_false_iff]
  left
  rw[jda]
  omega
 generalize grownCap w s.size 0 5=A at*
 generalize Lib.bytesWorld w 5 s=S at*
 have g:Hid (s.size=s.data.toList.length):=Lib.size_eq s
 go_enter func100,ntmps100
 go_wp2
 go_loopw[9] (λiv wr=>∃k:Nat,k<=s.size/\iv=.int .i64 k/\jb w wr/\Hid (∀i,i<s.size->wr.cell? ⟨w.heap.size,i,none⟩=some (.int .u8 (((smk k s.data.toList).getD i 0).toNat:Int)))/\Hid (∀i,i<s.size->wr.frozen? ⟨w.heap.size,i,none⟩=false)) (λiv _=>s.size-(intOf iv).toNat)
 case atStart=>exact⟨0,jy _,rfl,M,v,y⟩
 case round=>
  obtain⟨k,H,rfl,d,l,x⟩:=hrel
  clear v y
  by_cases p:k<s.size
  ·have a:k<s.data.toList.length:=by rw[<-g.out];exact p
   have n:=l.out k p
   rw[aQU k _ a]at n
   have O:=x.out k p
   obtain⟨c,t⟩:∃c,s.data.toList.getD k 0=c:=⟨_,rfl⟩
   rw[t]at n
   have r:Hid (Calls prog 93 #[.string ⟨#[65,66,67,68,69,70,71,72,73,74,75,76,77,78,79,80,81,82,83,84,85,86,87,88,89,90]⟩,.int .u8 (c.toNat:Int)] wr λe w'=>∃i:Int,e=.returned (.int .i64 i)/\decide (0<=i)=aI4 c/\w'=wr):=by
    have:=aI5 ⟨#[65,66,67,68,69,70,71,72,73,74,75,76,77,78,79,80,81,82,83,84,85,86,87,88,89,90]⟩ aT9 rfl c _ rfl wr
    rw[aUa]at this
    exact this
   cases j:aI4 c with
   |false=>
    rw[j]at r
    have m:Hid (∀i,i<s.size->wr.cell? ⟨w.heap.size,i,none⟩=some (.int .u8 (((smk (k+1) s.data.toList).getD i 0).toNat:Int))):=λi b=>by
     rw[aQW k _ a,t,show aKI c=c from by unfold aKI;rw[j];rfl,<-t,<-aQU k _ a,aQa _ k (by rw[aQV];exact a)]
     exact l.out i b
    clear l t j
    go_wp2_with fail
    refine r.out.mono ?_
    rintro e w' ⟨P,rfl,E,q⟩
    have f:=q.symm
    subst f
    clear r
    go_wp2
    go_roundw
    case rel=>exact⟨k+1,by omega,by go_num,d,m,x⟩
    case measure=>simp[intOf];omega
   |true=>
    rw[j]at r
    have F:65<=c.toNat/\c.toNat<=90:=by unfold aI4 at j;simpa using j
    have J:(65:Int)<=(c.toNat:Int):=by omega
    have L:(c.toNat:Int)<=90:=by omega
    have z:(c.toNat:Int)+32=((aKI c).toNat:Int):=by
     have:(aKI c).toNat=c.toNat+32:=by
      unfold aKI
      rw[jo j,jec]
      show(c.toNat+32)%256=_
      omega
     omega
    have m:Hid (∀i,i<s.size->(wr.setCell ⟨w.heap.size,k,none⟩ (.int .u8 ((aKI c).toNat:Int))).cell? ⟨w.heap.size,i,none⟩=some (.int .u8 (((smk (k+1) s.data.toList).getD i 0).toNat:Int))):=λi b=>by
     rw[aQW k _ a,t,aP6 _ _ _ _ (by rw[aQV];exact a)]
     by_cases o:i=k
     ·subst o
      rw[jo rfl]
      exact jch _ _ _ n
     ·rw[jh o,jae _ _ _ _ (λe=>o (by injection e with _ e _;exact e.symm))]
      exact l.out i b
    have B:Hid (∀i,i<s.size->(wr.setCell ⟨w.heap.size,k,none⟩ (.int .u8 ((aKI c).toNat:Int))).frozen? ⟨w.heap.size,i,none⟩=false):=λi b=>by
     rw[jee];exact x.out i b
    have C:jb w (wr.setCell ⟨w.heap.size,k,none⟩ (.int .u8 ((aKI c).toNat:Int))):=d.setCell (jf _) _
    clear l x t j F
    go_wp2_with fail
    refine r.out.mono ?_
    rintro e w' ⟨P,rfl,E,q⟩
    have f:=q.symm
    subst f
    clear r
    go_wp2
    try simp only[z]
    go_roundw
    case rel=>exact⟨k+1,by omega,by go_num,C,m,B⟩
    case measure=>simp[intOf];omega
  ·obtain rfl:k=s.size:=by omega
   have I:aAe wr (some ⟨w.heap.size,0,none⟩) (aQJ s.data.toList):=λ_=>⟨w.heap.size,0,rfl,λi b=>by
    have D:i<s.size:=by rw[g.out];unfold aQJ at b;rw[jD]at b;exact b
    have:=l.out i D
    rw[g.out,aQT]at this
    rw[j0]
    exact this⟩
   have G:=aED wr (some ⟨w.heap.size,0,none⟩) s.size A (aQJ s.data.toList) (by rw[g.out];unfold aQJ;rw[jD]) I (λe=>by cases e)
   clear l x I
   go_wp2
   go_ret
   exact⟨rfl,d⟩
theorem aPI(g:Nat)(p:jA)(k:Nat)(d:k<p.size)(w:World)(l:w.cell? (jx g 0)=some (.string p)):
  Calls prog 109 #[.int .i64 (k:Int),.pointer (some (jx g 0))] w λe w'=>e=.returned (.bool (spB (p[k]'d)))/\w'=w:=by
 have j:(k:Int)<(p.size:Int):=by omega
 go_enter func109,ntmps109
 go_wp2_with (go_at_call 93;refine(aI5 ⟨#[32,9,13,10,12]⟩ [32,9,13,10,12] rfl (p[k]'d) _ rfl _).mono ?_;rintro e w' ⟨i,rfl,a,f⟩;have c:Hid (decide (0<=i)=spB (p[k]'d)):=a;clear a;have b:=f.symm;subst b)
 go_ret
 exact⟨aO8 c.out,rfl⟩
def aBW:jB:=[97,98,99,100,101,102,103,104,105,106,107,108,109,110,111,112,113,114,115,116,117,118,119,120,121,122]
theorem aBX(c:UInt8):aBW.contains (aKI c)=aJ3 c:=by
 have:∀n:Fin 256,aBW.contains (aKI (UInt8.ofNat n.val))=aJ3 (UInt8.ofNat n.val):=by decide+kernel
 have h:=this ⟨c.toNat,c.toNat_lt⟩
 simpa using h
theorem aPj(g:Nat)(p:jA)(k:Nat)(s:p.size<=4000)(r:k<=p.size+10)(w:World)(q:w.cell? (jx g 0)=some (.string p)):
  Calls prog 110 #[.int .i64 (k:Int),.pointer (some (jx g 0))] w λe w'=>e=.returned (.bool (aH9 (p.data.toList.drop k)))/\jb w w':=by
 by_cases a:k<p.size
 ·have b:Hid (aH9 (p.data.toList.drop k)=aJ3 (p[k]'a)):=by unfold Hid;rw[aFs p k a];rfl
  have t:p.extract k (k+1)=⟨#[p[k]'a]⟩:=by
   apply jbv
   apply jbj.1
   have e:=Lib.extract_data p k (k+1)
   rw[e,aFs p k a,show k+1-k=1 from by omega]
   rfl
  have m:Hid (∀W,Calls prog 100 #[.string ⟨#[p[k]'a]⟩] W (jG (.string ⟨#[aKI (p[k]'a)]⟩) W)):=λW=>aPG ⟨#[p[k]'a]⟩ W (show 1<=1000000 by decide)
  have l:Hid (∀W c,Calls prog 111 #[.string ⟨#[97,98,99,100,101,102,103,104,105,106,107,108,109,110,111,112,113,114,115,116,117,118,119,120,121,122]⟩,.string ⟨#[aKI c]⟩] W λe w'=>e=.returned (.bool (aJ3 c))/\w'=W):=λW c=>by
   refine(strings_Contains_one ⟨#[97,98,99,100,101,102,103,104,105,106,107,108,109,110,111,112,113,114,115,116,117,118,119,120,121,122]⟩ (aKI c) W).mono ?_
   rintro e w' ⟨rfl,rfl⟩
   refine⟨?_,rfl⟩
   rw[aIy,<-aBX c]
   simp[aBW]
  have f:(k:Int)<(p.size:Int):=by omega
  have n:(k:Int)+1<=(p.size:Int):=by omega
  have o:IntKind.i64.wrap ((k:Int)+1)=((k+1:Nat):Int):=by rw[ju];omega
  generalize p[k]'a=c at*
  go_enter func110,ntmps110
  go_wp2_with fail
  refine(m.out _).mono ?_
  rintro e v ⟨rfl,d⟩
  go_wp2_with fail
  refine(l.out _ _).mono ?_
  rintro e x ⟨rfl,i⟩
  have j:=i.symm
  subst j
  go_wp2_with fail
  go_ret
  exact⟨aO8 b.out.symm,d⟩
 ·have b:Hid (aH9 (p.data.toList.drop k)=false):=by unfold Hid;rw[jC (by rw[<-Lib.size_eq];omega)];rfl
  have f:decide ((k:Int)<(p.size:Int))=false:=by simp;omega
  go_enter func110,ntmps110
  go_wp2_with fail
  go_ret
  exact⟨aO8 b.out.symm,jr _ _⟩
theorem aOI(g:Nat)(p E:jA)(s:jB)(f:Suf p s)(A:E.size<=10)(C:p.size<=4000)(k:Nat)(r:k=pos p s)(w:World)(q:∃m:Int,w.cell? (jx 0 0)=some (.int .i64 m))(B:w.cell? (jx g 0)=some (.string p)):
  Calls prog 112 #[.int .i64 (k:Int),.string E,.pointer (some (jx g 0))] w λe w'=>e=.returned (.int .i64 ((pos p (aCT E.data.toList s):Nat):Int))/\w'=w:=by
 subst r
 have D:=aF5 f
 have o:=f.len
 have t:((pos p s:Nat):Int)<=(p.size:Int):=by have:=aNB p s;omega
 have v:=aNB p s
 obtain⟨y,d⟩:=q
 have l:Hid (Calls prog 86 #[.string (lba s),.string E] w λe w'=>e=.returned (.int .i64 (Lib.index s E.data.toList))/\w'=w):=strings_Index (lba s) E y w (by rw[aJC];omega) d
 have a:=Lib.index_room s E.data.toList
 by_cases n:Lib.index s E.data.toList<0
 ·have j:Hid (pos p (aCT E.data.toList s)=p.size):=by unfold Hid aCT;rw[jo n];rfl
  generalize Lib.index s E.data.toList=i at*
  generalize pos p (aCT E.data.toList s)=m at*
  generalize pos p s=k at*
  clear a f d
  go_enter func112,ntmps112
  go_wp2_with fail
  refine l.out.mono ?_
  rintro e z ⟨rfl,b⟩
  have c:=b.symm
  subst c
  go_wp2_with fail
  go_ret
  exact⟨by rw[j.out];rfl,rfl⟩
 ·have j:Hid (((pos p s:Nat):Int)+(Lib.index s E.data.toList+(E.size:Int))=(pos p (aCT E.data.toList s):Nat)):=aCV f n
  have x:=a (by omega)
  have b:IntKind.i64.wrap (((pos p s:Nat):Int)+Lib.index s E.data.toList)=((pos p s:Nat):Int)+Lib.index s E.data.toList:=by rw[ju];omega
  have c:IntKind.i64.wrap (((pos p s:Nat):Int)+Lib.index s E.data.toList+(E.size:Int))=((pos p s:Nat):Int)+Lib.index s E.data.toList+(E.size:Int):=by rw[ju];omega
  generalize Lib.index s E.data.toList=i at*
  generalize pos p (aCT E.data.toList s)=m at*
  generalize pos p s=k at*
  clear a f d x
  go_enter func112,ntmps112
  go_wp2_with fail
  refine l.out.mono ?_
  rintro e z ⟨rfl,b⟩
  have c:=b.symm
  subst c
  go_wp2_with fail
  go_ret
  exact⟨aO9 (by have:=j.out;omega),rfl⟩
theorem aCe{p:jA}{c:UInt8}{t:jB}(h:Suf p (c::t)):∃k,pos p (c::t)=k/\∃a:k<p.size,p[k]'a=c/\pos p t=k+1:=by
 have d:=h.len
 have b:=h.drop
 have a:pos p (c::t)<p.size:=by unfold pos;simp only[jm]at*;omega
 refine⟨_,rfl,a,?_,?_⟩
 ·rw[aFs p _ a]at b
  exact(j4 b).1
 ·unfold pos;simp only[jm]at*;omega
def aAT(w:World)(p:jO)(xs:List jB):Prop:=xs≠[]->∃b o,p=some (jx b o)/\∀i,i<xs.length->w.cell? (jx b (o+i))=some (.string (lba (xs.getD i [])))
def aBq(i:Int)(L:List jB)(d:jB):Prop:=decide (0<=i)=L.contains d
theorem aIB(p:jO)(n c:Nat)(L:List jB)(y:n=L.length)(d:jB)(w:World)(G:n<=1000000)(B:aAT w p L):
  Calls prog 155 #[.slice p n c,.string (lba d)] w λe w'=>∃i:Int,e=.returned (.int .i64 i)/\aBq i L d/\w'=w:=by
 have v:Hid _:=y
 have C:Hid (aAT w p L):=B
 clear y B
 obtain⟨D,s⟩:∃D,lba d=D:=⟨_,rfl⟩
 have f:Hid _:=s
 rw[s]
 clear s
 go_enter func155,ntmps155
 go_wp2
 go_loop [8] (λiv=>∃k:Nat,k<=n/\iv=.int .i64 k/\Hid (L.contains d=(L.drop k).contains d)) (λiv=>n-(intOf iv).toNat)
 case atStart=>exact⟨0,jy _,rfl,rfl⟩
 case round=>
  obtain⟨k,F,rfl,m⟩:=hrel
  by_cases t:k<n
  ·have a:k<L.length:=by rw[<-v.out];exact t
   obtain⟨b,o,rfl,A⟩:=C.out (λe=>by rw[e]at a;simp at a)
   have z:=A k a
   have j:L.drop k=L.getD k []::L.drop (k+1):=by
    rw[jE a]
    simp[List.getD_eq_getElem?_getD,List.getElem?_eq_getElem a]
   have l:Hid (L.contains d=(d==L.getD k []||(L.drop (k+1)).contains d)):=by unfold Hid;rw[m.out,j];rfl
   clear A j m
   generalize L.getD k []=x at*
   obtain⟨X,q⟩:∃X,lba x=X:=⟨_,rfl⟩
   by_cases r:d=x
   ·subst r
    have g:Hid (L.contains d=true):=by unfold Hid;rw[l.out];simp
    rw[f.out]at z
    clear l q f
    go_wp2
    go_ret
    exact⟨_,rfl,by unfold aBq;rw[g.out];simp,rfl⟩
   ·have g:Hid (L.contains d=(L.drop (k+1)).contains d):=by
     unfold Hid
     rw[l.out,show(d==x)=false from by simpa using r]
     rfl
    have E:(D.toList==X.toList)=false:=by
     rw[jj,jj,<-f.out,<-q,jg]
     exact r
    rw[q]at z
    clear l r q
    go_wp2
    go_round
    case rel=>exact⟨k+1,by omega,by go_num,g⟩
    case measure=>simp[intOf];omega
  ·obtain rfl:k=n:=by omega
   have g:Hid (L.contains d=false):=by unfold Hid;rw[m.out,v.out,jC (jf _)];rfl
   clear m
   go_wp2
   go_ret
   exact⟨_,rfl,by unfold aBq;rw[g.out];rfl,rfl⟩
theorem aEC(p:jO)(n c:Nat)(L:List jB)(f:n=L.length)(d:jB)(w:World)(l:n<=1000000)(g:aAT w p L):
  Calls prog 113 #[.slice p n c,.string (lba d)] w λe w'=>e=.returned (.bool (L.contains d))/\w'=w:=by
 have j:Hid (∀W,W=w->Calls prog 155 #[.slice p n c,.string (lba d)] W λe w'=>∃i:Int,e=.returned (.int .i64 i)/\aBq i L d/\w'=W):=λW e=>by subst e;exact aIB p n c L f d W l g
 clear f g
 generalize lba d=D at*
 go_enter func113,ntmps113
 go_wp2_with fail
 refine(j.out _ rfl).mono ?_
 rintro e m ⟨i,rfl,k,a⟩
 have b:=a.symm
 subst b
 go_wp2_with fail
 go_ret
 exact⟨aO8 k,rfl⟩
theorem aAT.of_own{w:World}{B n cap:Nat}{p:jO}{L:List jB}(h:w.ownsRow B 9 1 (.slice p n cap) n (L.map λx=>Value.string (lba x))):aAT w p L:=by
 intro c
 rcases h.2 with⟨j,a⟩|⟨g,d,k,j,_⟩
 ·exfalso
  have b:=h.1
  rw[a]at b
  simp at b
  exact c b
 ·injection j with e1 e2 e3
  subst e1
  refine⟨g,0,rfl,λi f=>?_⟩
  have:=h.cells (g:=g) rfl i (.string (lba (L.getD i []))) (by
   rw[jas,jc f]
   simp[List.getD_eq_getElem?_getD,List.getElem?_eq_getElem f])
  have e:((jx g 0):Addr).add i=(jx g (0+i)):=by
   unfold Addr.add
   split
   ·rename_i a
    rw[a]
   ·rfl
  rw[e]at this
  exact this
end Go.Proofs.YtbbfcbodhmeanaaGreatDoor

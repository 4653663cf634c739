
import Derived.Test.YtbbfcbodhmeanaaGreatDoorXrewriteonly35
import Derived.Test.YtbbfcbodhmeanaaGreatDoorXrewriteonly38
import Derived.SizedLaws
namespace Go.Proofs.YtbbfcbodhmeanaaGreatDoor
open Go.RowKit
structure OnTwo (w:World) (ns:List NM) (gs:List GL) (pa qa:Option Addr) (n:Nat) (L M:List PT):Prop where
 a:KAt w 1 pa L
 b:KAt w 1 qa M
 al:L.length = n
 bl:M.length = n
 few:n≤12
 ok:∀ i,i < n→OnlyOk ns (gs.filter fun g=>decide ((i:Int) = g.part)) (L.getD i pt0) (M.getD i pt0)
 ka:∀ i,i < n→(L.getD i pt0).kids = []
 kb:∀ i,i < n→(M.getD i pt0).kids = []
theorem kat_one {w:World} {a:Option Addr} {l:List PT} (h:KAt w 1 a l) (i:Nat) (hi:i < l.length) (hk:(l.getD i pt0).kids = []):∃ ab ao,a = some ⟨ab,ao,none⟩∧∃ pb cb pk ck,(∀ V,Below w.heap.size w V→PCells V ab (ao + i * 7) (l.getD i pt0) pb cb pk ck)∧(∀ V,Below w.heap.size w V→PHeld V 0 (l.getD i pt0) pb cb pk ck)∧(l.getD i pt0).kids.length = 0:=by
 obtain ⟨ab,ao,rfl,hc⟩:=h (fun e=>by rw [e] at hi;cases hi)
 obtain ⟨pb,cb,pk,ck,h1,h2⟩:=hc i hi
 exact ⟨ab,ao,rfl,pb,cb,pk,ck,fun V hV=>h1.below hV,fun V hV=>PHeld.below (f:=0) h2 hV,by rw [hk];rfl⟩
theorem held_other {w:World} {x:PT} {xb:Option Addr} {xcb:Nat} {xk yk:Option Addr} {xck yck:Nat} (h:PHeld w 0 x xb xcb xk xck) (hk:x.kids.length = 0) (h2:0≤yck∧yck≤maxLen∧(yk = none→yck = 0)):PHeld w 0 x xb xcb yk yck:=⟨h.1,h.2.1,h.2.2.1,by rw [hk];exact h2,List.length_eq_zero_iff.1 hk⟩
theorem textN_size {ns:List NM} (h:NLen ns) (v:Int):(textN ns v).size≤maxLen:=by
 unfold textN
 split
 ·decide
 ·rcases first_two v ns with e | ⟨j,hj,e⟩
  ·rename_i h0;rw [e] at h0;exact absurd (by decide) h0
  ·rw [e,Int.toNat_natCast]
   exact (h.at j hj).2.2
theorem cnt_alone {x:PT} (h:x.kids.length = 0):cnt x≤8000000000000:=by rw [cnt_eq,List.length_eq_zero_iff.1 h];decide
theorem eq_same {w:World} {p q:Option Addr} {l:List UInt8} {c d n:Nat} (en:n = l.length) (hl:l.length≤maxLen) (h1:BRow w p l) (h2:BRow w q l):Calls Tryz.prog 34 #[.slice p n c,.slice q n d] w fun e w'=>e = .returned (.bool true)∧Below w.heap.size w w':=by
 subst en
 refine (equalBytes p q l.length l.length c d (nums l) (nums l) w hl hl (brow_row h1) (brow_row h2)).mono ?_
 rintro e w' ⟨rfl,k,rfl⟩
 exact ⟨by simp,below_drewN' (Below.refl _ _) k⟩
theorem obytes {w:World} {B:Nat} {v:Value} {l:List UInt8} (h:w.ownsRow B 5 1 v l.length (bv l)):∃ p c,v = .slice p l.length c∧l.length≤c∧c≤maxLen∧(p = none→l.length = 0∧c = 0)∧BRow w p l:=by
 rcases h.2 with ⟨rfl,h0⟩ | ⟨g,cap,cur,rfl,_,_,hn,hm,_,_⟩
 ·exact ⟨none,0,by rw [h0],by omega,by decide,fun _=>⟨h0,rfl⟩,fun hne=>absurd (List.length_eq_zero_iff.1 h0) hne⟩
 ·refine ⟨some ⟨g,0,none⟩,cap,rfl,hn,hm,(fun h=>by cases h),fun hne=>⟨g,0,rfl,fun i hi=>?_⟩⟩
  rw [Nat.zero_add,h.cellAt i (by omega),bv,List.getElem?_map,List.getElem?_eq_getElem hi,List.getD_eq_getElem?_getD,List.getElem?_eq_getElem hi]
  rfl
set_option maxRecDepth 1000000 in
set_option maxHeartbeats 8000000 in
theorem loL1 (W0:World) (hE:LEnv W0) (na:Option Addr) (nn nc:Nat) (ns:List NM) (ga:Option Addr) (gn gc:Nat) (gs:List GL) (hI:OnIn W0 na nn ns ga gn gs) (pa qa:Option Addr) (n ca cb:Nat) (L M:List PT) (hT:OnTwo W0 ns gs pa qa n L M) (c0 c2 c3 c4 c5 c6 c9 c11 c12 c13 c14 c15 c16 c17 c18 c19 c20 c21 c22 c23 c24 c25 c26 c27 c28 c29 c30 c31 c32 c33 c34 c35 c36 c37 c38 c39 c40 c41 c42 c43 c44 c45 c46 c47 c48 c49 c50 c51 c52 c53 c54 c55 c56 c57 c58 c59 c60 c61 c62 c63 c64 c65 c66 c67 c68 c69 c70 c73 c74 c75 c76 c77 c78 c79 c80 c81 c82 c83 c84 c85 c86 c87 c88 c89 c90 c91 c92 c93 c94 c95 c96 c97 c98 c99 c100 c101 c102 c103 c104 c105 c106 c107 c108 c109 c110 c111 c112 c113 c114 c115 c116 c117 c118 c119 c120 c121 c122 c123 c124 c125 c126 c127 c128 c129 c130 c131 c132 c133 c134 c135 c136 c137 c138 c139 c140 c141 c142 c143 c144 c145 c146 c147 c148 c149 c150 c151 c152 c153 c154 c155 c156 c157 c158 c159 c160 c161 c162 c163 c164 c165 c166 c167 c168 c169 c170 c171 c172 c173 c174 c175 c176 c177 c178 c179 c180 c181 c182 c183 c184 c185 c186 c187 c188 c189 c190 c191:Value) (Q:Exit→Act→World→Prop)
  (hexit:∀ u4 u12 u13 u14 u15 u16 u17 u18 u19 u20 u21 u22 u23 u24 u72 u73 u74 u75 u76 u77 u78 u79 u80 u81 u82 u83 u84 u85 u86 u87 u88 u89 u90 u91 u92 u93 u94 u95 u96 u97 u98 u99 u100 u101 u102 u103 u104 u105 u106 u107 u108 u109 u110 u111 u112 u113 u114 u115 u116 u117 u118 u119 u120 u121 u122 u123 u124 u125 u126 u127 u128 u129 u130 u131 u132 u133 u134 u135 u136 u137 u138 u139 u140 u141 u142 u143 u144 u145 u146 u147 u148 u149 u150 u151 u152 u153 u154 u155 u156 u157 u158 u159 u160 u161 u162 u163 u164 u165 u166 u167 u168 u169 u170 u171 u172 u173 u174 u175 u176 u177 u178 u179 u180 u181 u182 u183 u184 u185 u186 u187 u188 u189 u190 u191:Value,∀ w':World,Below W0.heap.size W0 w'→Q (.exit 0) ⟨(c0::.slice na nn nc::c2::c3::u4::c5::c6::.slice pa n ca::.slice qa n cb::c9::.slice ga gn gc::c11::u12::u13::u14::u15::u16::u17::u18::u19::u20::u21::u22::u23::u24::c25::c26::c27::c28::c29::c30::c31::c32::c33::c34::c35::c36::c37::c38::c39::c40::c41::c42::c43::c44::c45::c46::c47::c48::c49::c50::c51::c52::c53::c54::c55::c56::c57::c58::c59::c60::c61::c62::c63::c64::c65::c66::c67::c68::c69::c70::.int .i64 (n:Int)::u72::u73::u74::u75::u76::u77::u78::u79::u80::u81::u82::u83::u84::u85::u86::u87::u88::u89::u90::u91::u92::u93::u94::u95::u96::u97::u98::u99::u100::u101::u102::u103::u104::u105::u106::u107::u108::u109::u110::u111::u112::u113::u114::u115::u116::u117::u118::u119::u120::u121::u122::u123::u124::u125::u126::u127::u128::u129::u130::u131::u132::u133::u134::u135::u136::u137::u138::u139::u140::u141::u142::u143::u144::u145::u146::u147::u148::u149::u150::u151::u152::u153::u154::u155::u156::u157::u158::u159::u160::u161::u162::u163::u164::u165::u166::u167::u168::u169::u170::u171::u172::u173::u174::u175::u176::u177::u178::u179::u180::u181::u182::u183::u184::u185::u186::u187::u188::u189::u190::u191::[]).toArray,[]⟩ w') :
  Code.wp Tryz.prog (Code.loop (loopAt Tryz.f7 0)) Q ⟨(c0::.slice na nn nc::c2::c3::c4::c5::c6::.slice pa n ca::.slice qa n cb::c9::.slice ga gn gc::c11::c12::c13::c14::c15::c16::c17::c18::c19::c20::c21::c22::c23::c24::c25::c26::c27::c28::c29::c30::c31::c32::c33::c34::c35::c36::c37::c38::c39::c40::c41::c42::c43::c44::c45::c46::c47::c48::c49::c50::c51::c52::c53::c54::c55::c56::c57::c58::c59::c60::c61::c62::c63::c64::c65::c66::c67::c68::c69::c70::.int .i64 (n:Int)::.int .i64 0::c73::c74::c75::c76::c77::c78::c79::c80::c81::c82::c83::c84::c85::c86::c87::c88::c89::c90::c91::c92::c93::c94::c95::c96::c97::c98::c99::c100::c101::c102::c103::c104::c105::c106::c107::c108::c109::c110::c111::c112::c113::c114::c115::c116::c117::c118::c119::c120::c121::c122::c123::c124::c125::c126::c127::c128::c129::c130::c131::c132::c133::c134::c135::c136::c137::c138::c139::c140::c141::c142::c143::c144::c145::c146::c147::c148::c149::c150::c151::c152::c153::c154::c155::c156::c157::c158::c159::c160::c161::c162::c163::c164::c165::c166::c167::c168::c169::c170::c171::c172::c173::c174::c175::c176::c177::c178::c179::c180::c181::c182::c183::c184::c185::c186::c187::c188::c189::c190::c191::[]).toArray,[]⟩ W0:=by
 have HX:Hid _:=hexit
 have HE:Hid (LEnv W0):=hE
 have HI:Hid (∀ W,Below W0.heap.size W0 W→OnIn W na nn ns ga gn gs):=fun W h=>hI.below h
 have HT:Hid (OnTwo W0 ns gs pa qa n L M):=hT
 have hn12:n≤12:=hT.few
 have hgn:gn≤1000:=hI.few
 have h0:Below W0.heap.size W0 W0:=Below.refl _ _
 clear hexit hI hT hE
 conv=>arg 2;arg 1;whnf
 go_loopw [72] (fun kv wy=>∃ i:Nat,i≤n∧kv = .int .i64 i∧Hid (Below W0.heap.size W0 wy)) (fun kv _=>n - (intOf kv).toNat)
 case atStart=>exact ⟨0,Nat.zero_le _,rfl,h0⟩
 case round =>
  obtain ⟨i,hi,rfl,HB⟩:=hrel
  clear h0
  by_cases hlt:i < n
  ·have hlz:(i:Int) < (n:Int):=by omega
   obtain ⟨ab,ao,hpa,xb,xcb,xk,xck,XC,XH,hx0⟩:=kat_one (KAt.below HB.out 1 _ _ HT.out.a) i (by rw [HT.out.al];exact hlt) (HT.out.ka i hlt)
   obtain ⟨bb,bo,hqa,yb,ycb,yk,yck,YC,YH,hy0⟩:=kat_one (KAt.below HB.out 1 _ _ HT.out.b) i (by rw [HT.out.bl];exact hlt) (HT.out.kb i hlt)
   have OK:=HT.out.ok i hlt
   generalize L.getD i pt0 = x at *
   generalize M.getD i pt0 = y at *
   subst hpa
   subst hqa
   obtain ⟨s0,s1,s2,s3,s4⟩:=OK.same
   obtain ⟨xn,hxn⟩:∃ k,x.body.length = k:=⟨_,rfl⟩
   obtain ⟨yn,hyn⟩:∃ k,y.body.length = k:=⟨_,rfl⟩
   have HCL:Hid (∀ V:World,Below wr.heap.size wr V→V.cell? ⟨ab,ao + i * 7,none⟩ = some (.string x.ty)∧V.cell? ⟨ab,ao + i * 7 + 1,none⟩ = some (.string x.cs)∧V.cell? ⟨ab,ao + i * 7 + 2,none⟩ = some (.string x.id)∧V.cell? ⟨ab,ao + i * 7 + 3,none⟩ = some (.string x.loc)∧V.cell? ⟨ab,ao + i * 7 + 4,none⟩ = some (.int .i64 x.how)∧V.cell? ⟨ab,ao + i * 7 + 5,none⟩ = some (.slice xb xn xcb)∧V.cell? ⟨ab,ao + i * 7 + 6,none⟩ = some (.slice xk 0 xck)∧V.cell? ⟨bb,bo + i * 7,none⟩ = some (.string x.ty)∧V.cell? ⟨bb,bo + i * 7 + 1,none⟩ = some (.string x.cs)∧V.cell? ⟨bb,bo + i * 7 + 2,none⟩ = some (.string x.id)∧V.cell? ⟨bb,bo + i * 7 + 3,none⟩ = some (.string x.loc)∧V.cell? ⟨bb,bo + i * 7 + 4,none⟩ = some (.int .i64 x.how)∧V.cell? ⟨bb,bo + i * 7 + 5,none⟩ = some (.slice yb yn ycb)∧V.cell? ⟨bb,bo + i * 7 + 6,none⟩ = some (.slice yk 0 yck)):=fun V hV=>by
    have h1:=XC V hV
    have h2:=YC V hV
    unfold PCells at h1 h2
    rw [hx0,hxn] at h1
    rw [hy0,hyn,s0,s1,s2,s3,s4] at h2
    exact ⟨h1.1,h1.2.1,h1.2.2.1,h1.2.2.2.1,h1.2.2.2.2.1,h1.2.2.2.2.2.1,h1.2.2.2.2.2.2,h2.1,h2.2.1,h2.2.2.1,h2.2.2.2.1,h2.2.2.2.2.1,h2.2.2.2.2.2.1,h2.2.2.2.2.2.2⟩
   have HXY:Hid (x.body.length = xn∧y.body.length = yn):=⟨hxn,hyn⟩
   have HX0:Hid (x.kids.length = 0):=hx0
   have HXH:Hid (∀ V,Below wr.heap.size wr V→PHeld V 0 x xb xcb xk xck):=XH
   have HYH:Hid (∀ V,Below wr.heap.size wr V→PHeld V 0 y yb ycb yk yck):=YH
   have HOK:Hid (OnlyOk ns (gs.filter (fun g:GL=>decide ((i:Int) = g.part))) x y):=OK
   have HYK:Hid (0≤yck∧yck≤maxLen∧(yk = none→yck = 0)):=by
    have h:=(YH wr (Below.refl _ _)).2.2.2.1
    exact ⟨Nat.zero_le _,h.2⟩
   have CS:Hid (∀ V,Below wr.heap.size wr V→Calls Tryz.prog 27 #[.agg #[.string x.ty,.string x.cs,.string x.id,.string x.loc,.int .i64 x.how,.slice xb xn xcb,.slice xk 0 xck],.agg #[.string x.ty,.string x.cs,.string x.id,.string x.loc,.int .i64 x.how,.slice xb xn xcb,.slice yk 0 yck]] V fun e w'=>e = .returned (.bool true)∧Below V.heap.size V w'):=fun V hV=>by
    have h:=same_any x x xb xb xcb xk yk xck xcb yck 0 0 V (XH V hV) (held_other (XH V hV) hx0 HYK.out) (cnt_alone hx0)
    rw [hx0,hxn] at h
    exact h.mono fun e w' ⟨b,he,hb,hw⟩=>⟨by rw [he,hb.2 rfl],hw⟩
   clear XC YC XH YH OK hx0 hy0 s0 s1 s2 s3 s4 hxn hyn
   go_upto_region 12 with fail
   refine loR12 wr ab ao bb bo n ca cb i hlt x xb xn xcb xk 0 xck ⟨x.ty,x.cs,x.id,x.loc,x.how,[],[]⟩ yb yn ycb yk 0 yck HCL _ _ _ _ _ _ _ _ _ _ _ _ _ _ _ _ _ _ _ _ _ _ _ _ _ _ _ _ _ _ _ _ _ _ _ _ _ _ _ _ _ _ _ _ _ _ _ _ _ _ _ _ _ _ _ _ _ _ _ _ _ _ _ _ _ _ _ _ _ _ _ _ _ _ _ _ _ _ _ _ _ _ _ _ _ _ _ _ _ _ _ _ _ _ _ _ _ _ _ _ _ _ _ _ _ _ _ _ _ _ _ _ _ _ _ _ _ _ _ _ _ _ _ _ _ _ _ _ _ _ _ _ _ _ _ _ _ _ _ _ _ _ _ _ _ _ _ _ _ _ _ _ _ _ _ _ _ _ _ _ _ _ _ _ _ _ _ _ _ _ _ _ _ _ _ _ _ _ _ _ _ _ _ _ _ _ _ _ _ _ ?_
   intro t75 t76 t77 t78 t79 t80 t81 t82 BX BY W2 hb2 hBX hBY hne kX kY
   obtain ⟨W3,hW3⟩:∃ W,W = W2.setCell ⟨BY,5,none⟩ (.slice xb xn xcb):=⟨_,rfl⟩
   have hb3:Below wr.heap.size wr W3:=by rw [hW3];exact Below.setCell (p:=⟨BY,5,none⟩) hb2 hBY _
   have HK3:Hid (W3.heap[BX]? = some (.cells #[.string x.ty,.string x.cs,.string x.id,.string x.loc,.int .i64 x.how,.slice xb xn xcb,.slice xk 0 xck] 25)∧W3.heap[BY]? = some (.cells #[.string x.ty,.string x.cs,.string x.id,.string x.loc,.int .i64 x.how,.slice xb xn xcb,.slice yk 0 yck] 25)):=by
    rw [hW3]
    exact ⟨(Below.heap_setCell _ _ _ _ hne).trans kX,set_blk kY 5 _⟩
   have HB3:Hid (Below wr.heap.size wr W3):=hb3
   have HW3:Hid (W3 = W2.setCell ⟨BY,5,none⟩ (.slice xb xn xcb)):=hW3
   have x5:W2.cell? ⟨BX,5,none⟩ = some (.slice xb xn xcb):=(blk_c kX 5).trans rfl
   have y5:W2.cell? ⟨BY,5,none⟩ = some (.slice yb yn ycb):=(blk_c kY 5).trans rfl
   have yf:W2.frozen? ⟨BY,5,none⟩ = false:=blk_f kY 5
   clear HCL hb2 hBX hBY hne kX kY hW3 hb3
   go_upto_region 15 with fail
   rw [← HW3.out]
   clear HW3 x5 y5 yf
   obtain ⟨z0,z1,z2,z3,z4,z5,z6,zf⟩:=o_cells HK3.out.1
   obtain ⟨v0,v1,v2,v3,v4,v5,v6,vf⟩:=o_cells HK3.out.2
   go_wp2_with fail
   refine (CS.out W3 HB3.out).mono ?_
   rintro e W4 ⟨rfl,hb34⟩
   have HB4:Hid (Below wr.heap.size wr W4):=HB3.out.trans (hb34.mono HB3.out.size)
   have HK4:Hid (W4.heap[BX]? = some (.cells #[.string x.ty,.string x.cs,.string x.id,.string x.loc,.int .i64 x.how,.slice xb xn xcb,.slice xk 0 xck] 25)):=blk_on HK3.out.1 hb34
   clear z0 z1 z2 z3 z4 z5 z6 zf v0 v1 v2 v3 v4 v5 v6 vf hb34 HB3 HK3 CS
   have x0:W4.cell? ⟨BX,0,none⟩ = some (.string x.ty):=(blk_c HK4.out 0).trans rfl
   have x5:W4.cell? ⟨BX,5,none⟩ = some (.slice xb xn xcb):=(blk_c HK4.out 5).trans rfl
   have HTY:Hid (x.ty.toList = x.ty.data.toList):=ByteArray.toList_eq _
   by_cases hty:x.ty.data.toList = htmlS
   ·have hE:(x.ty.toList == [116,101,120,116,47,104,116,109,108]) = true:=by rw [HTY.out,hty];rfl
    obtain ⟨m,hf,hgl,hput,hwant⟩:=HOK.out.found hty
    have HB04:Hid (Below W0.heap.size W0 W4):=HB.out.trans (HB4.out.mono HB.out.size)
    have CF:Hid (Calls Tryz.prog 35 #[.slice yb yn ycb] W4 fun e w'=>FindPost W4 y.body.length (findP lowT y.body) e w'):=by
     have h:=HYH.out W4 HB4.out
     exact find_any W0 HE.out yb yn ycb y.body HXY.out.2.symm W4 HB04.out h.2.2.1 (fun e=>⟨by have:=h.2.1;have h3:=this.2.2 e;have:=HXY.out.2;omega,h.2.1.2.2 e⟩)
    rw [hf] at CF
    have HFM:Hid (findP lowT y.body = some m):=hf
    have HGL:Hid ((gs.filter (fun g:GL=>decide ((i:Int) = g.part))).length = m.length):=hgl
    have HPUT:Hid (putP lowT x.body (tls ((gs.filter (fun g:GL=>decide ((i:Int) = g.part))).map fun g=>textN ns g.find)) = (y.body,0)):=hput
    have HWANT:Hid (∀ k,k < m.length→unamp (m.getD k (0,[])).2 = wantN ns ((gs.filter (fun g:GL=>decide ((i:Int) = g.part))).getD k gl0).find ((gs.filter (fun g:GL=>decide ((i:Int) = g.part))).getD k gl0).text):=hwant
    clear hf hgl hput hwant
    go_wp2_with fail
    refine CF.out.mono ?_
    rintro e W5 ⟨hb45,v,rfl,hown⟩
    obtain ⟨la,lc,rfl,hlc,hlm,hlz0,hKR⟩:=owned_links hown
    have HK5:Hid (W5.heap[BX]? = some (.cells #[.string x.ty,.string x.cs,.string x.id,.string x.loc,.int .i64 x.how,.slice xb xn xcb,.slice xk 0 xck] 25)):=blk_on HK4.out hb45
    have HB5:Hid (Below wr.heap.size wr W5):=HB4.out.trans (hb45.mono HB4.out.size)
    have HB05:Hid (Below W0.heap.size W0 W5):=HB.out.trans (HB5.out.mono HB.out.size)
    have HKR:Hid (KRow W5 la y.body.length m):=hKR
    obtain ⟨ln,hln⟩:∃ k,m.length = k:=⟨_,rfl⟩
    have HLN:Hid (m.length = ln):=hln
    have hln60:ln≤60:=by rw [← hln];exact (find_ord lowT y.body m HFM.out).2.1
    rw [hln]
    clear hln CF hown hb45 hKR hlc hlm hlz0 x0 x5 hE HB4 HB04 HK4
    go_wp2_with fail
    refine loL2 W5 i na nn nc ns ga gn gc gs (HI.out W5 HB05.out) la ln lc y.body.length m HLN.out hln60 HKR.out (by rw [HGL.out,HLN.out]) (fun k hk=>HWANT.out k (by rw [HLN.out];exact hk)) _ _ _ _ _ _ _ _ _ _ _ _ _ _ _ _ _ _ _ _ _ _ _ _ _ _ _ _ _ _ _ _ _ _ _ _ _ _ _ _ _ _ _ _ _ _ _ _ _ _ _ _ _ _ _ _ _ _ _ _ _ _ _ _ _ _ _ _ _ _ _ _ _ _ _ _ _ _ _ _ _ _ _ _ _ _ _ _ _ _ _ _ _ _ _ _ _ _ _ _ _ _ _ _ _ _ _ _ _ _ _ _ _ _ _ _ _ _ _ _ _ _ _ _ _ _ _ _ _ _ _ _ _ _ _ _ _ _ _ _ _ _ _ _ _ _ _ _ _ _ _ _ _ _ _ _ _ _ _ _ _ _ _ _ _ _ _ _ _ _ _ _ _ _ _ _ _ _ _ _ _ _ _ _ _ ?_
    intro s4 s21 s22 s23 s109 s110 s111 s112 s113 s114 s115 s116 s117 s118 s119 s120 s121 s122 s123 s124 s125 s126 s127 s128 s129 s130 s131 s132 s133 s134 s135 s136 s137 s138 s139 s140 s141 s142 s143 s144 s145 s146 s147 s148 s149 s150 s151 s152 s153 s154 s155 s156 s157 s158 s159 s160 s161 s162 s163 s164 s165 s166 s167 s168 s169 qy cy W6 hb56 hown6
    have HK6:Hid (W6.heap[BX]? = some (.cells #[.string x.ty,.string x.cs,.string x.id,.string x.loc,.int .i64 x.how,.slice xb xn xcb,.slice xk 0 xck] 25)):=blk_on HK5.out hb56
    have HB6:Hid (Below wr.heap.size wr W6):=HB5.out.trans (hb56.mono HB5.out.size)
    have HB06:Hid (Below W0.heap.size W0 W6):=HB05.out.trans (hb56.mono HB05.out.size)
    have hgl2:((gs.filter (fun g:GL=>decide ((i:Int) = g.part))).map fun g=>textN ns g.find).length = ln:=by rw [List.length_map,HGL.out,HLN.out]
    have CP:Hid (Calls Tryz.prog 38 #[.slice xb xn xcb,.slice qy ln cy] W6 fun e w'=>PutPost W6 (y.body,0) e w'):=by
     have h:=HXH.out W6 HB6.out
     have ho:=hown6
     rw [← hgl2] at ho
     have h2:=put_any W0 HE.out xb xn xcb x.body HXY.out.1.symm (by have:=h.2.1.1;have:=HXY.out.1;omega) h.2.1.2.1 qy ln cy ((gs.filter (fun g:GL=>decide ((i:Int) = g.part))).map fun g=>textN ns g.find) hgl2.symm (by unfold maxLen;omega) (fun t ht=>by
      obtain ⟨g,_,rfl⟩:=List.mem_map.1 ht
      exact textN_size (HI.out W6 HB06.out).nlen g.find) W6 HB06.out h.2.2.1 (fun e=>⟨by have h3:=h.2.1.2.2 e;have:=h.2.1.1;have:=HXY.out.1;omega,h.2.1.2.2 e⟩) (txrow_own ho).1
     rw [HPUT.out] at h2
     exact h2
    have x5:W6.cell? ⟨BX,5,none⟩ = some (.slice xb xn xcb):=(blk_c HK6.out 5).trans rfl
    clear hb56 hown6 hgl2 HB5 HB05 HK5 HKR HK6
    go_wp2_with fail
    refine CP.out.mono ?_
    intro e W7 h7
    obtain ⟨hb67,h7⟩:=h7
    rcases h7 with ⟨hbad,_⟩ | ⟨_,v7,rfl,hown7⟩
    ·exact absurd rfl hbad
    obtain ⟨cq,cc,rfl,_,_,_,hR7⟩:=obytes hown7
    have HB7:Hid (Below wr.heap.size wr W7):=HB6.out.trans (hb67.mono HB6.out.size)
    have CQ:Hid (∀ V,Below W7.heap.size W7 V→Calls Tryz.prog 34 #[.slice cq yn cc,.slice yb yn ycb] V fun e w'=>e = .returned (.bool true)∧Below V.heap.size V w'):=fun V hV=>eq_same HXY.out.2.symm (HYH.out V (HB7.out.trans (hV.mono HB7.out.size))).1.2.2.2.2.2.2.1 (hR7.below hV) (HYH.out V (HB7.out.trans (hV.mono HB7.out.size))).2.2.1
    simp only [HXY.out.2]
    clear hb67 hown7 hR7 x5 CP
    have h77:Below W7.heap.size W7 W7:=Below.refl _ _
    go_wp2_with fail
    refine (CQ.out W7 h77).mono ?_
    rintro e W8 ⟨rfl,hb78⟩
    have HB9:Hid (Below W0.heap.size W0 W8):=HB.out.trans ((HB7.out.trans (hb78.mono HB7.out.size)).mono HB.out.size)
    clear hb78 h77
    go_wp2_with fail
    go_roundw
    case rel=>exact ⟨i + 1,by omega,by go_num,HB9⟩
    case measure=>simp [intOf];omega
   ·have hE:(x.ty.toList == [116,101,120,116,47,104,116,109,108]) = false:=by rw [HTY.out,beq_eq_false_iff_ne];exact hty
    have hbody:=HOK.out.other hty
    have CQ:Hid (Calls Tryz.prog 34 #[.slice yb yn ycb,.slice xb xn xcb] W4 fun e w'=>e = .returned (.bool true)∧Below W4.heap.size W4 w'):=by
     have h1:=HYH.out W4 HB4.out
     have h2:=HXH.out W4 HB4.out
     obtain ⟨e1,e2⟩:=HXY.out
     rw [hbody] at e2
     have e3:xn = yn:=by omega
     subst e3
     have h3:=h1.2.2.1
     rw [hbody] at h3
     exact eq_same e1.symm h2.1.2.2.2.2.2.2.1 h3 h2.2.2.1
    clear hbody
    go_wp2_with fail
    refine CQ.out.mono ?_
    rintro e W5 ⟨rfl,hb45⟩
    have HB9:Hid (Below W0.heap.size W0 W5):=HB.out.trans ((HB4.out.trans (hb45.mono HB4.out.size)).mono HB.out.size)
    clear hb45 x0 x5 hE
    go_wp2_with fail
    go_roundw
    case rel=>exact ⟨i + 1,by omega,by go_num,HB9⟩
    case measure=>simp [intOf];omega
  ·obtain rfl:i = n:=by omega
   have hlz:¬ (i:Int) < (i:Int):=by omega
   go_wp2_with fail
   exact HX.out _ _ _ _ _ _ _ _ _ _ _ _ _ _ _ _ _ _ _ _ _ _ _ _ _ _ _ _ _ _ _ _ _ _ _ _ _ _ _ _ _ _ _ _ _ _ _ _ _ _ _ _ _ _ _ _ _ _ _ _ _ _ _ _ _ _ _ _ _ _ _ _ _ _ _ _ _ _ _ _ _ _ _ _ _ _ _ _ _ _ _ _ _ _ _ _ _ _ _ _ _ _ _ _ _ _ _ _ _ _ _ _ _ _ _ _ _ _ _ _ _ _ _ _ _ _ _ _ _ _ _ _ _ _ _ HB.out
end Go.Proofs.YtbbfcbodhmeanaaGreatDoor



namespace Go.Proofs.YtbbfcbodhmeanaaGreatDoor
open Go.RowKit
theorem names_bad2 {w w':World} {R:Nat × PT} {e:Ending} (h:NamesPost w R e w') (h0:R.1 ≠ 0):e = .returned (.tuple #[.agg #[.string ⟨#[]⟩,.string ⟨#[]⟩,.string ⟨#[]⟩,.string ⟨#[]⟩,.int .i64 0,.slice none 0 0,.slice none 0 0],.int .i64 (R.1:Int)])∧Below w.heap.size w w':=⟨h.2.1 h0,h.1⟩
theorem names_good {w w':World} {R:Nat × PT} {e:Ending} {q:PT} (h:NamesPost w R e w') (h0:R.1 = 0) (hq:R.2 = q):∃ (qb:Option Addr) (db:Nat) (qk:Option Addr) (dk:Nat),e = .returned (.tuple #[.agg #[.string q.ty,.string q.cs,.string q.id,.string q.loc,.int .i64 q.how,.slice qb q.body.length db,.slice qk q.kids.length dk],.int .i64 0])∧Below w.heap.size w w'∧PHeld w' 4 q qb db qk dk:=by
 subst hq
 obtain ⟨qb,db,qk,dk,h1,h2,_⟩:=h.2.2 h0
 exact ⟨qb,db,qk,dk,h1,h.1,h2⟩
set_option maxHeartbeats 8000000 in
set_option maxRecDepth 1000000 in
theorem only_any (p:PT) (pb:Option Addr) (cb:Nat) (pk:Option Addr) (ck F:Nat) (na:Option Addr) (nn nc:Nat) (ns:List NM) (en:nn = ns.length) (hnl:NLen ns) (w:World) (hE:LEnv w) (hH:PHeld w F p pb cb pk ck) (hnr:NRow w na ns) :
  Calls Tryz.prog 7 #[.agg #[.string p.ty,.string p.cs,.string p.id,.string p.loc,.int .i64 p.how,.slice pb p.body.length cb,.slice pk p.kids.length ck],.slice na nn nc] w fun e w'=>e = .returned (.bool true)∧Below w.heap.size w w':=by
 obtain ⟨W1,hW1⟩:∃ W,W = w.alloc (.cells #[.string p.ty,.string p.cs,.string p.id,.string p.loc,.int .i64 p.how,.slice pb p.body.length cb,.slice pk p.kids.length ck] 25):=⟨_,rfl⟩
 have hb1:Below w.heap.size w W1:=by rw [hW1];exact (Below.refl _ _).alloc (Nat.le_refl _) _
 have kW:W1.heap[w.heap.size]? = some (.cells #[.string p.ty,.string p.cs,.string p.id,.string p.loc,.int .i64 p.how,.slice pb p.body.length cb,.slice pk p.kids.length ck] 25):=by rw [hW1];exact blk_new _ _
 have hlow:∀ W,Below W1.heap.size W1 W→Below w.heap.size w W:=fun W hW=>hb1.trans (hW.mono hb1.size)
 have HLOW:Hid (∀ W,Below W1.heap.size W1 W→Below w.heap.size w W):=hlow
 have HKA:Hid (W1.heap[w.heap.size]? = some (.cells #[.string p.ty,.string p.cs,.string p.id,.string p.loc,.int .i64 p.how,.slice pb p.body.length cb,.slice pk p.kids.length ck] 25)):=kW
 have HW1:Hid (W1 = w.alloc (.cells #[.string p.ty,.string p.cs,.string p.id,.string p.loc,.int .i64 p.how,.slice pb p.body.length cb,.slice pk p.kids.length ck] 25)):=hW1
 have HE:Hid (∀ W,Below W1.heap.size W1 W→LEnv W):=fun W hW=>hE.below (hlow W hW)
 have HPH:Hid (∀ W,Below W1.heap.size W1 W→PHeld W F p pb cb pk ck):=fun W hW=>hH.below (hlow W hW)
 have HNR:Hid (∀ W,Below W1.heap.size W1 W→NRow W na ns):=fun W hW=>hnr.below (hlow W hW)
 have HNL:Hid (NLen ns):=hnl
 have HEN:Hid (nn = ns.length):=en
 have CR:Hid (∀ W,Below W1.heap.size W1 W→Calls Tryz.prog 23 #[] W fun e w'=>e = .returned (.bool true)∧Below W.heap.size W w'):=fun W hW=>renamed_any W (HE.out W hW)
 have CN0:=fun W (hW:Below W1.heap.size W1 W)=>names_any p pb cb pk ck F na nn nc ns en hnl W (HE.out W hW) (HPH.out W hW) (HNR.out W hW)
 have h00:Below W1.heap.size W1 W1:=Below.refl _ _
 by_cases hz:(namesP p ns).1 = 0
 ·obtain ⟨hok,hokq,hlen,gs,hg,honly⟩:=only_plain p ns hz
  have hg7:=(goalsP_in p gs hg).2
  have h12:(placesP p).2.length≤12:=placesP_few p
  obtain ⟨q,hq⟩:∃ q,(namesP p ns).2 = q:=⟨_,rfl⟩
  rw [hq] at hokq hlen honly
  have CN1:Hid (∀ W,Below W1.heap.size W1 W→Calls Tryz.prog 21 #[.agg #[.string p.ty,.string p.cs,.string p.id,.string p.loc,.int .i64 p.how,.slice pb p.body.length cb,.slice pk p.kids.length ck],.slice na nn nc] W fun e w'=>∃ (qb:Option Addr) (db:Nat) (qk:Option Addr) (dk:Nat),e = .returned (.tuple #[.agg #[.string q.ty,.string q.cs,.string q.id,.string q.loc,.int .i64 q.how,.slice qb q.body.length db,.slice qk q.kids.length dk],.int .i64 0])∧Below W.heap.size W w'∧PHeld w' 4 q qb db qk dk):=fun W hW=>(CN0 W hW).mono fun e w' h=>names_good h hz hq
  have CA:Hid (∀ W,Below W1.heap.size W1 W→Calls Tryz.prog 33 #[.agg #[.string p.ty,.string p.cs,.string p.id,.string p.loc,.int .i64 p.how,.slice pb p.body.length cb,.slice pk p.kids.length ck]] W fun e w'=>∃ a c,e = .returned (.tuple #[.slice a (placesP p).2.length c,.int .i64 0])∧Below W.heap.size W w'∧KAt w' 1 a ((placesP p).2.map fun x=>x.1.alone)):=fun W hW=>(all_any p pb cb pk ck F W (HPH.out W hW)).mono fun e w' h=>by
   obtain ⟨a,c,h1,_,_,_,h2⟩:=h.2.2 hok
   exact ⟨a,c,h1,h.1,h2⟩
  have CB:Hid (∀ (W:World) (qb:Option Addr) (db:Nat) (qk:Option Addr) (dk:Nat),PHeld W 4 q qb db qk dk→Calls Tryz.prog 33 #[.agg #[.string q.ty,.string q.cs,.string q.id,.string q.loc,.int .i64 q.how,.slice qb q.body.length db,.slice qk q.kids.length dk]] W fun e w'=>∃ a c,e = .returned (.tuple #[.slice a (placesP p).2.length c,.int .i64 0])∧Below W.heap.size W w'∧KAt w' 1 a ((placesP q).2.map fun x=>x.1.alone)):=fun W qb db qk dk hW=>(all_any q qb db qk dk 4 W hW).mono fun e w' h=>by
   obtain ⟨a,c,h1,_,_,_,h2⟩:=h.2.2 hokq
   rw [hlen] at h1
   exact ⟨a,c,h1,h.1,h2⟩
  have CG:Hid (∀ W,Below W1.heap.size W1 W→Calls Tryz.prog 9 #[.agg #[.string p.ty,.string p.cs,.string p.id,.string p.loc,.int .i64 p.how,.slice pb p.body.length cb,.slice pk p.kids.length ck]] W fun e w'=>∃ a c,e = .returned (.tuple #[.slice a gs.length c,.int .i64 0])∧Below W.heap.size W w'∧G6 w' a gs.length gs):=fun W hW=>(bgoals_any p pb cb pk ck F W (HE.out W hW) (HPH.out W hW)).mono fun e w' h=>by
   have h2:=h.2.2 hok
   rw [show goalsGo lowT ((placesP p).2.map fun x=>x.1.alone) (whereP (placesP p).2) 0 ((placesP p).2.map fun x=>x.1.alone) [] = some gs from hg] at h2
   obtain ⟨v,he,ho⟩:=h2
   obtain ⟨q,c,rfl,_,_,hk⟩:=owned_goals ho
   exact ⟨q,c,he,h.1,hk⟩
  have HT0:Hid (∀ (W:World) (a b:Option Addr),KAt W 1 a ((placesP p).2.map fun x=>x.1.alone)→KAt W 1 b ((placesP q).2.map fun x=>x.1.alone)→OnTwo W ns gs a b (placesP p).2.length ((placesP p).2.map fun x=>x.1.alone) ((placesP q).2.map fun x=>x.1.alone)):=fun W a b h1 h2=>⟨h1,h2,by rw [List.length_map],by rw [List.length_map,hlen],h12,honly,fun i hi=>by rw [getD_map0 (fun x:PT × Int=>x.1.alone) _ i (pt0,0) pt0 hi];rfl,fun i hi=>by rw [getD_map0 (fun x:PT × Int=>x.1.alone) _ i (pt0,0) pt0 (by rw [hlen];exact hi)];rfl⟩
  generalize ((placesP p).2.map fun x=>x.1.alone) = L at *
  generalize ((placesP q).2.map fun x=>x.1.alone) = M at *
  generalize (placesP p).2.length = n at *
  obtain ⟨gn,hgn⟩:∃ n,gs.length = n:=⟨_,rfl⟩
  rw [hgn] at CG hg7
  obtain ⟨nb,hnb⟩:∃ n,p.body.length = n:=⟨_,rfl⟩
  obtain ⟨nk,hnk⟩:∃ n,p.kids.length = n:=⟨_,rfl⟩
  obtain ⟨mb,hmb⟩:∃ n,q.body.length = n:=⟨_,rfl⟩
  obtain ⟨mk,hmk⟩:∃ n,q.kids.length = n:=⟨_,rfl⟩
  rw [hnb,hnk] at HKA HW1 CG CA
  simp only [hnb,hnk,hmb,hmk] at CN1 CB
  rw [hnb,hnk]
  clear hgn hnb hnk hmb hmk CN0 hz hok hokq hlen hg honly hq hW1 hb1 kW hlow hE hH hnr hnl en h12
  go_enter Tryz.func7,Tryz.ntmps7
  go_upto_region 1 with fail
  rw [← HW1.out]
  obtain ⟨z0,z1,z2,z3,z4,z5,z6,zf⟩:=o_cells HKA.out
  go_wp2_with fail
  refine (CN1.out _ h00).mono ?_
  rintro e w2 ⟨qb,db,qk,dk,rfl,hb2,hh2⟩
  clear z0 z1 z2 z3 z4 z5 z6 zf CN1 HW1 h00
  obtain ⟨QB,hQB⟩:∃ n,w2.heap.size = n:=⟨_,rfl⟩
  obtain ⟨V2,hV2⟩:∃ V,V = w2.alloc (.cells #[.string q.ty,.string q.cs,.string q.id,.string q.loc,.int .i64 q.how,.slice qb mb db,.slice qk mk dk] 25):=⟨_,rfl⟩
  have hb2V:Below w2.heap.size w2 V2:=by rw [hV2];exact (Below.refl _ _).alloc (Nat.le_refl _) _
  have kQ:V2.heap[QB]? = some (.cells #[.string q.ty,.string q.cs,.string q.id,.string q.loc,.int .i64 q.how,.slice qb mb db,.slice qk mk dk] 25):=by rw [hV2,← hQB];exact blk_new _ _
  have hBV:Below W1.heap.size W1 V2:=hb2.trans (hb2V.mono hb2.size)
  have HKQ:Hid (V2.heap[QB]? = some (.cells #[.string q.ty,.string q.cs,.string q.id,.string q.loc,.int .i64 q.how,.slice qb mb db,.slice qk mk dk] 25)):=kQ
  have HQP:Hid (∀ W,Below V2.heap.size V2 W→PHeld W 4 q qb db qk dk):=fun W hW=>hh2.below (hb2V.trans (hW.mono hb2V.size))
  have HUP:Hid (∀ W,Below V2.heap.size V2 W→Below W1.heap.size W1 W):=fun W hW=>hBV.trans (hW.mono hBV.size)
  have HV2:Hid (V2 = w2.alloc (.cells #[.string q.ty,.string q.cs,.string q.id,.string q.loc,.int .i64 q.how,.slice qb mb db,.slice qk mk dk] 25)):=hV2
  have h02:Below V2.heap.size V2 V2:=Below.refl _ _
  clear hV2 hb2V kQ hBV hb2 hh2
  go_upto_region 2 with fail
  rw [← HV2.out]
  clear HV2 hQB
  go_wp2_with fail
  refine (CR.out _ (HUP.out _ h02)).mono ?_
  rintro e w3 ⟨rfl,hb3⟩
  clear h02
  go_upto_region 4 with fail
  obtain ⟨z0,z1,z2,z3,z4,z5,z6,zf⟩:=o_cells (blk_on HKA.out (HUP.out _ hb3))
  go_wp2_with fail
  refine (CA.out _ (HUP.out _ hb3)).mono ?_
  rintro e w4 ⟨pa,ca,rfl,hb34,hA⟩
  have hb4:Below V2.heap.size V2 w4:=hb3.trans (hb34.mono hb3.size)
  have HA:Hid (KAt w4 1 pa L):=hA
  clear z0 z1 z2 z3 z4 z5 z6 zf CA hb34 hb3 hA
  go_upto_region 5 with fail
  obtain ⟨y0,y1,y2,y3,y4,y5,y6,yf⟩:=o_cells (blk_on HKQ.out hb4)
  go_wp2_with fail
  refine (CB.out _ qb db qk dk (HQP.out _ hb4)).mono ?_
  rintro e w5 ⟨qa,cb5,rfl,hb45,hB⟩
  have hb5:Below V2.heap.size V2 w5:=hb4.trans (hb45.mono hb4.size)
  have HB5:Hid (KAt w5 1 qa M):=hB
  have HA5:Hid (KAt w5 1 pa L):=KAt.below hb45 1 _ _ HA.out
  clear y0 y1 y2 y3 y4 y5 y6 yf CB hb45 hb4 hB HA HKQ HQP
  go_upto_region 6 with fail
  obtain ⟨z0,z1,z2,z3,z4,z5,z6,zf⟩:=o_cells (blk_on HKA.out (HUP.out _ hb5))
  go_wp2_with fail
  refine (CG.out _ (HUP.out _ hb5)).mono ?_
  rintro e w6 ⟨ga,gc,rfl,hb56,hg6⟩
  have hb6:Below W1.heap.size W1 w6:=HUP.out _ (hb5.trans (hb56.mono hb5.size))
  have HI6:Hid (OnIn w6 na nn ns ga gn gs):=⟨HNR.out _ hb6,HEN.out,HNL.out,hg6,by omega⟩
  have HT6:Hid (OnTwo w6 ns gs pa qa n L M):=HT0.out w6 pa qa (KAt.below hb56 1 _ _ HA5.out) (KAt.below hb56 1 _ _ HB5.out)
  have HE6:Hid (LEnv w6):=HE.out _ hb6
  have HB6:Hid (Below w.heap.size w w6):=HLOW.out _ hb6
  clear z0 z1 z2 z3 z4 z5 z6 zf CG hb56 hb5 hb6 hg6 HA5 HB5 HT0 HUP HKA
  go_wp2_with fail
  refine loL1 w6 HE6.out na nn nc ns ga gn gc gs HI6.out pa qa n ca cb5 L M HT6.out _ _ _ _ _ _ _ _ _ _ _ _ _ _ _ _ _ _ _ _ _ _ _ _ _ _ _ _ _ _ _ _ _ _ _ _ _ _ _ _ _ _ _ _ _ _ _ _ _ _ _ _ _ _ _ _ _ _ _ _ _ _ _ _ _ _ _ _ _ _ _ _ _ _ _ _ _ _ _ _ _ _ _ _ _ _ _ _ _ _ _ _ _ _ _ _ _ _ _ _ _ _ _ _ _ _ _ _ _ _ _ _ _ _ _ _ _ _ _ _ _ _ _ _ _ _ _ _ _ _ _ _ _ _ _ _ _ _ _ _ _ _ _ _ _ _ _ _ _ _ _ _ _ _ _ _ _ _ _ _ _ _ _ _ _ _ _ _ _ _ _ _ _ _ _ _ _ _ _ _ _ _ _ _ _ _ _ ?_
  intro s4 s12 s13 s14 s15 s16 s17 s18 s19 s20 s21 s22 s23 s24 s72 s73 s74 s75 s76 s77 s78 s79 s80 s81 s82 s83 s84 s85 s86 s87 s88 s89 s90 s91 s92 s93 s94 s95 s96 s97 s98 s99 s100 s101 s102 s103 s104 s105 s106 s107 s108 s109 s110 s111 s112 s113 s114 s115 s116 s117 s118 s119 s120 s121 s122 s123 s124 s125 s126 s127 s128 s129 s130 s131 s132 s133 s134 s135 s136 s137 s138 s139 s140 s141 s142 s143 s144 s145 s146 s147 s148 s149 s150 s151 s152 s153 s154 s155 s156 s157 s158 s159 s160 s161 s162 s163 s164 s165 s166 s167 s168 s169 s170 s171 s172 s173 s174 s175 s176 s177 s178 s179 s180 s181 s182 s183 s184 s185 s186 s187 s188 s189 s190 s191 w7 hb7
  have HB:Hid (Below w.heap.size w w7):=HB6.out.trans (hb7.mono HB6.out.size)
  clear hb7 HB6
  go_wp2_with fail
  go_ret
  exact ⟨rfl,HB.out⟩
 ·have CN1:Hid (∀ W,Below W1.heap.size W1 W→Calls Tryz.prog 21 #[.agg #[.string p.ty,.string p.cs,.string p.id,.string p.loc,.int .i64 p.how,.slice pb p.body.length cb,.slice pk p.kids.length ck],.slice na nn nc] W fun e w'=>e = .returned (.tuple #[.agg #[.string ⟨#[]⟩,.string ⟨#[]⟩,.string ⟨#[]⟩,.string ⟨#[]⟩,.int .i64 0,.slice none 0 0,.slice none 0 0],.int .i64 ((namesP p ns).1:Int)])∧Below W.heap.size W w'):=fun W hW=>(CN0 W hW).mono fun e w' h=>names_bad2 h hz
  have hzz:(((namesP p ns).1:Int) == 0) = false:=by rw [beq_eq_false_iff_ne];omega
  have hz2:¬ ((namesP p ns).1:Int) = 0:=by omega
  generalize ((namesP p ns).1:Int) = BAD at *
  generalize p.body.length = nb at *
  generalize p.kids.length = nk at *
  clear CN0 hz hW1 hb1 kW hlow hE hH hnr hnl en
  go_enter Tryz.func7,Tryz.ntmps7
  go_upto_region 1 with fail
  rw [← HW1.out]
  obtain ⟨z0,z1,z2,z3,z4,z5,z6,zf⟩:=o_cells HKA.out
  go_wp2_with fail
  refine (CN1.out _ h00).mono ?_
  rintro e w2 ⟨rfl,hb2⟩
  clear z0 z1 z2 z3 z4 z5 z6 zf CN1 HW1
  have hb2V:Below W1.heap.size W1 (w2.alloc (.cells #[.string ⟨#[]⟩,.string ⟨#[]⟩,.string ⟨#[]⟩,.string ⟨#[]⟩,.int .i64 0,.slice none 0 0,.slice none 0 0] 25)):=hb2.alloc hb2.size _
  go_wp2_with fail
  refine (CR.out _ hb2V).mono ?_
  rintro e w3 ⟨rfl,hb3⟩
  have hb3':Below W1.heap.size W1 w3:=hb2V.trans (hb3.mono hb2V.size)
  clear hb3 hb2V hb2
  go_wp2_with fail
  refine (CR.out _ hb3').mono ?_
  rintro e w4 ⟨rfl,hb4⟩
  have HB:Hid (Below w.heap.size w w4):=HLOW.out _ (hb3'.trans (hb4.mono hb3'.size))
  clear hb4 hb3'
  go_wp2_with fail
  go_ret
  exact ⟨rfl,HB.out⟩
end Go.Proofs.YtbbfcbodhmeanaaGreatDoor



namespace Go.Proofs.YtbbfcbodhmeanaaGreatDoor
open Go.ChangeShapes Go.WideShapes Go.ChangeAt Go.RowKit
theorem nam_under:∃ f0 f1:Field,Tryz.prog.underlying 56 = some (.struct #[f0,f1])∧f0.offset = 0∧f1.offset = 1∧f0.type = 3∧f1.type = 9 :=
 ⟨_,_,Tryz.underlying56,rfl,rfl,rfl,rfl⟩
theorem names_open {H:Type} {enc:TypeId × Value→H} {W:World} {base:Nat} {spare:Nat→Bool} {held:Bool} {fuel:Nat} {a0:Option Addr} {len cap:Nat} {x:DataW H × List MemPlace}
  (h:DataW.trod enc Tryz.prog W base spare held fuel 48 [.slice a0 len cap] = some x) :
  ∃ l:List NM,l.length = len∧len≤cap∧cap≤maxLen∧(a0 = none→len = 0∧cap = 0)∧NRow W a0 l∧NLen l:=by
 obtain ⟨f0,f1,hu,o0,o1,t0,t1⟩:=nam_under
 rcases Go.Deep.open_slice_pairs Tryz.underlying48 hu (by kernel_rfl) o0 o1 (by rw [t0];kernel_rfl) (by rw [t1];kernel_rfl) h with ⟨hcs,_⟩ | ⟨a,l,c,m,n,V0,V1,D0,D1,P0,P1,hcs,_,hl,hm,hmm,_,hx⟩
 ·simp at hcs
  obtain ⟨rfl,rfl,rfl⟩:=hcs
  exact ⟨[],rfl,Nat.le_refl _,by decide,fun _=>⟨rfl,rfl⟩,fun h=>absurd rfl h,by decide,fun f hf=>by cases hf⟩
 ·simp at hcs
  obtain ⟨rfl,rfl,rfl⟩:=hcs
  have hlm:len≤m:=by rw [hmm];split <;> omega
  have each:∀ i,i < len→∃ f:NM,W.cell? (a.add (i * 2)) = some (.int .i64 f.1)∧W.cell? (a.add (i * 2 + 1)) = some (.string f.2)∧-9223372036854775808≤f.1∧f.1≤9223372036854775807∧f.2.size≤maxLen:=fun i hi=>by
   obtain ⟨h1,h2,h3,h4⟩:=hx i (by omega)
   rw [t0] at h3
   rw [t1] at h4
   obtain ⟨s,e1,_,s1⟩:=DataW.trod_int Tryz.underlying3 h3
   obtain ⟨t,e2,_,s2⟩:=DataW.trod_string Tryz.underlying9 h4
   simp at e1 e2
   have hs:-9223372036854775808≤s∧s≤9223372036854775807:=by
    simp only [Lit.wf,Bool.and_eq_true,decide_eq_true_eq] at s1
    exact s1
   exact ⟨(s,t),by rw [h1,e1],by rw [h2,e2],hs.1,hs.2,s2⟩
  obtain ⟨F,hF⟩:=Go.Deep.choose_lt each
  refine ⟨(List.range len).map F,by simp,hl,hm,(fun h=>by cases h),fun hne=>?_,by simp;omega,fun f hf=>?_⟩
  ·have hpos:0 < len:=by
    rcases Nat.eq_zero_or_pos len with e | e
    ·subst e;exact absurd rfl hne
    ·exact e
   obtain ⟨b,o,spot⟩:=a
   have hspot:spot = none:=by simpa [Addr.add] using World.cell?_spot (hF 0 hpos).1
   subst hspot
   refine ⟨b,o,rfl,fun i hi=>?_⟩
   have hi':i < len:=by simpa using hi
   have e1:((List.range len).map F).getD i nm0 = F i:=by simp [List.getD_eq_getElem?_getD,hi']
   have h1:=(hF i hi').1
   have h2:=(hF i hi').2.1
   rw [Addr.add_lit] at h1 h2
   rw [e1]
   exact ⟨h1,by rw [Nat.add_assoc];exact h2⟩
  ·obtain ⟨i,hi,rfl⟩:=List.mem_map.1 hf
   exact (hF i (by simpa using hi)).2.2
end Go.Proofs.YtbbfcbodhmeanaaGreatDoor


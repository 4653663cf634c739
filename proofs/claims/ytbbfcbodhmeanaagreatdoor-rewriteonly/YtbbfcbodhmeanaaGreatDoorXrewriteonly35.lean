
import Derived.Test.YtbbfcbodhmeanaaGreatDoorXrewriteonly34
namespace Go.Proofs.YtbbfcbodhmeanaaGreatDoor
open Go.RowKit
theorem filt_at (F:GL→Bool) (gs:List GL) (k:Nat) (hk:k < gs.length) (h:F (gs.getD k gl0) = true):((gs.take k).filter F).length < (gs.filter F).length∧(gs.filter F).getD ((gs.take k).filter F).length gl0 = gs.getD k gl0∧(gs.take (k + 1)).filter F = (gs.take k).filter F ++ [gs.getD k gl0]:=by
 have hg:gs.getD k gl0 = gs[k]:=by rw [List.getD_eq_getElem?_getD,List.getElem?_eq_getElem hk];rfl
 rw [hg] at h ⊢
 have e:gs.filter F = (gs.take k).filter F ++ gs[k]::(gs.drop (k + 1)).filter F:=by
  conv=>lhs;rw [← List.take_append_drop k gs,List.drop_eq_getElem_cons hk]
  rw [List.filter_append,List.filter_cons_of_pos h]
 refine ⟨by rw [e,List.length_append,List.length_cons];omega,?_,?_⟩
 ·rw [e,List.getD_eq_getElem?_getD,List.getElem?_append_right (Nat.le_refl _),Nat.sub_self]
  rfl
 ·rw [List.take_add_one,List.getElem?_eq_getElem hk,List.filter_append]
  congr 1
  exact List.filter_cons_of_pos h
theorem filt_not (F:GL→Bool) (gs:List GL) (k:Nat) (hk:k < gs.length) (h:F (gs.getD k gl0) = false):(gs.take (k + 1)).filter F = (gs.take k).filter F:=by
 have hg:gs.getD k gl0 = gs[k]:=by rw [List.getD_eq_getElem?_getD,List.getElem?_eq_getElem hk];rfl
 rw [hg] at h
 rw [List.take_add_one,List.getElem?_eq_getElem hk,List.filter_append]
 simp [h]
theorem first_two (v:Int) (ns:List NM):(firstN v 0 ns = -1) ∨ ∃ j,j < ns.length∧firstN v 0 ns = (j:Int):=by
 by_cases h:∃ n ∈ ns,n.1 = v
 ·obtain ⟨j,hj,e,_⟩:=firstN_some v ns 0 h
  exact .inr ⟨j,hj,by rw [e,Nat.zero_add]⟩
 ·exact .inl (firstN_not v ns 0 (fun n hn e=>h ⟨n,hn,e⟩))
theorem stv_snoc (l:List ByteArray) (t:ByteArray):stvB (l ++ [t]) = stvB l ++ [.string t]:=by simp [stvB]
structure OnIn (w:World) (na:Option Addr) (nn:Nat) (ns:List NM) (ga:Option Addr) (gn:Nat) (gs:List GL):Prop where
 names:NRow w na ns
 len:nn = ns.length
 nlen:NLen ns
 goals:G6 w ga gn gs
 few:gn≤1000
theorem OnIn.below {w w':World} {na:Option Addr} {nn:Nat} {ns:List NM} {ga:Option Addr} {gn:Nat} {gs:List GL} (h:OnIn w na nn ns ga gn gs) (hb:Below w.heap.size w w'):OnIn w' na nn ns ga gn gs:=⟨h.names.below hb,h.len,h.nlen,h.goals.below hb,h.few⟩
set_option maxRecDepth 1000000 in
set_option maxHeartbeats 8000000 in
theorem loL2 (W0:World) (i:Nat) (na:Option Addr) (nn nc:Nat) (ns:List NM) (ga:Option Addr) (gn gc:Nat) (gs:List GL) (hI:OnIn W0 na nn ns ga gn gs) (la:Option Addr) (ln lc NB:Nat) (m:List LK) (hml:m.length = ln) (hln:ln≤60) (hK:KRow W0 la NB m) (hgi:(gs.filter (fun g:GL=>decide ((i:Int) = g.part))).length = ln) (hw:∀ k,k < ln→unamp (m.getD k (0,[])).2 = wantN ns ((gs.filter (fun g:GL=>decide ((i:Int) = g.part))).getD k gl0).find ((gs.filter (fun g:GL=>decide ((i:Int) = g.part))).getD k gl0).text) (c0 c2 c3 c4 c5 c6 c7 c8 c9 c10 c11 c13 c14 c15 c17 c20 c21 c22 c23 c24 c25 c26 c27 c28 c29 c30 c31 c32 c33 c34 c35 c36 c37 c38 c39 c40 c41 c42 c43 c44 c45 c46 c47 c48 c49 c50 c51 c52 c53 c54 c55 c56 c57 c58 c59 c60 c61 c62 c63 c64 c65 c66 c67 c68 c69 c70 c71 c72 c73 c74 c75 c76 c77 c78 c79 c80 c81 c82 c83 c84 c85 c86 c87 c88 c89 c90 c91 c92 c93 c94 c95 c96 c97 c98 c99 c100 c101 c102 c103 c104 c105 c106 c110 c111 c112 c113 c114 c115 c116 c117 c118 c119 c120 c121 c122 c123 c124 c125 c126 c127 c128 c129 c130 c131 c132 c133 c134 c135 c136 c137 c138 c139 c140 c141 c142 c143 c144 c145 c146 c147 c148 c149 c150 c151 c152 c153 c154 c155 c156 c157 c158 c159 c160 c161 c162 c163 c164 c165 c166 c167 c168 c169 c170 c171 c172 c173 c174 c175 c176 c177 c178 c179 c180 c181 c182 c183 c184 c185 c186 c187 c188 c189 c190 c191:Value) (Q:Exit→Act→World→Prop)
  (hexit:∀ u4 u21 u22 u23 u109 u110 u111 u112 u113 u114 u115 u116 u117 u118 u119 u120 u121 u122 u123 u124 u125 u126 u127 u128 u129 u130 u131 u132 u133 u134 u135 u136 u137 u138 u139 u140 u141 u142 u143 u144 u145 u146 u147 u148 u149 u150 u151 u152 u153 u154 u155 u156 u157 u158 u159 u160 u161 u162 u163 u164 u165 u166 u167 u168 u169:Value,∀ (qy:Option Addr) (cy:Nat) (w':World),Below W0.heap.size W0 w'→w'.ownsRow W0.heap.size 9 1 (.slice qy ln cy) ln (stvB ((gs.filter (fun g:GL=>decide ((i:Int) = g.part))).map fun g=>textN ns g.find))→Q (.exit 2) ⟨(c0::.slice na nn nc::c2::c3::u4::c5::c6::c7::c8::c9::c10::c11::.int .i64 (i:Int)::c13::c14::c15::.slice la ln lc::c17::.slice qy ln cy::.int .i64 (ln:Int)::c20::u21::u22::u23::c24::c25::c26::c27::c28::c29::c30::c31::c32::c33::c34::c35::c36::c37::c38::c39::c40::c41::c42::c43::c44::c45::c46::c47::c48::c49::c50::c51::c52::c53::c54::c55::c56::c57::c58::c59::c60::c61::c62::c63::c64::c65::c66::c67::c68::c69::c70::c71::c72::c73::c74::c75::c76::c77::c78::c79::c80::c81::c82::c83::c84::c85::c86::c87::c88::c89::c90::c91::c92::c93::c94::c95::c96::c97::c98::c99::c100::c101::c102::c103::c104::c105::c106::.slice ga gn gc::.int .i64 (gn:Int)::u109::u110::u111::u112::u113::u114::u115::u116::u117::u118::u119::u120::u121::u122::u123::u124::u125::u126::u127::u128::u129::u130::u131::u132::u133::u134::u135::u136::u137::u138::u139::u140::u141::u142::u143::u144::u145::u146::u147::u148::u149::u150::u151::u152::u153::u154::u155::u156::u157::u158::u159::u160::u161::u162::u163::u164::u165::u166::u167::u168::u169::c170::c171::c172::c173::c174::c175::c176::c177::c178::c179::c180::c181::c182::c183::c184::c185::c186::c187::c188::c189::c190::c191::[]).toArray,[]⟩ w') :
  Code.wp Tryz.prog (Code.loop (loopAt Tryz.f7 1)) Q ⟨(c0::.slice na nn nc::c2::c3::c4::c5::c6::c7::c8::c9::c10::c11::.int .i64 (i:Int)::c13::c14::c15::.slice la ln lc::c17::.slice none 0 0::.int .i64 0::c20::c21::c22::c23::c24::c25::c26::c27::c28::c29::c30::c31::c32::c33::c34::c35::c36::c37::c38::c39::c40::c41::c42::c43::c44::c45::c46::c47::c48::c49::c50::c51::c52::c53::c54::c55::c56::c57::c58::c59::c60::c61::c62::c63::c64::c65::c66::c67::c68::c69::c70::c71::c72::c73::c74::c75::c76::c77::c78::c79::c80::c81::c82::c83::c84::c85::c86::c87::c88::c89::c90::c91::c92::c93::c94::c95::c96::c97::c98::c99::c100::c101::c102::c103::c104::c105::c106::.slice ga gn gc::.int .i64 (gn:Int)::.int .i64 0::c110::c111::c112::c113::c114::c115::c116::c117::c118::c119::c120::c121::c122::c123::c124::c125::c126::c127::c128::c129::c130::c131::c132::c133::c134::c135::c136::c137::c138::c139::c140::c141::c142::c143::c144::c145::c146::c147::c148::c149::c150::c151::c152::c153::c154::c155::c156::c157::c158::c159::c160::c161::c162::c163::c164::c165::c166::c167::c168::c169::c170::c171::c172::c173::c174::c175::c176::c177::c178::c179::c180::c181::c182::c183::c184::c185::c186::c187::c188::c189::c190::c191::[]).toArray,[]⟩ W0:=by
 have HX:Hid _:=hexit
 have HI:Hid (∀ W,Below W0.heap.size W0 W→OnIn W na nn ns ga gn gs):=fun W h=>hI.below h
 have HKR:Hid (∀ W,Below W0.heap.size W0 W→KRow W la NB m):=fun W h=>hK.below h
 have HML:Hid (m.length = ln):=hml
 have HGI:Hid ((gs.filter (fun g:GL=>decide ((i:Int) = g.part))).length = ln):=hgi
 have HW:Hid (∀ k,k < ln→unamp (m.getD k (0,[])).2 = wantN ns ((gs.filter (fun g:GL=>decide ((i:Int) = g.part))).getD k gl0).find ((gs.filter (fun g:GL=>decide ((i:Int) = g.part))).getD k gl0).text):=hw
 have hgn:gn≤1000:=hI.few
 have hnn:nn≤9223372036854775807:=by rw [hI.len];exact hI.nlen.1
 have h0:Below W0.heap.size W0 W0:=Below.refl _ _
 clear hexit hI hK hml hgi hw
 conv=>arg 2;arg 1;whnf
 go_loopw [18,19,109] (fun tv nv kv wy=>∃ (k n:Nat) (qy:Option Addr) (cy:Nat),k≤gn∧kv = .int .i64 k∧nv = .int .i64 n∧tv = .slice qy n cy∧Hid (n = ((gs.take k).filter (fun g:GL=>decide ((i:Int) = g.part))).length)∧n≤k∧Hid (Below W0.heap.size W0 wy)∧Hid (wy.ownsRow W0.heap.size 9 1 (.slice qy n cy) n (stvB (((gs.take k).filter (fun g:GL=>decide ((i:Int) = g.part))).map fun g=>textN ns g.find)))) (fun _ _ kv _=>gn - (intOf kv).toNat)
 case atStart=>exact ⟨0,0,none,0,Nat.zero_le _,rfl,rfl,rfl,rfl,Nat.le_refl _,h0,World.ownsRow_nil _ _ _ _⟩
 case round =>
  obtain ⟨k,n,qy,cy,hk,rfl,rfl,rfl,HN,hnk,HB,HO⟩:=hrel
  clear h0
  by_cases hlt:k < gn
  ·have hlz:(k:Int) < (gn:Int):=by omega
   have hkl:k < gs.length:=by rw [(HI.out wr HB.out).goals.1];exact hlt
   obtain ⟨gb,go,hga,hcell⟩:=(HI.out wr HB.out).goals.2 (by omega)
   subst hga
   obtain ⟨e0,e1,e2,e3,e4,e5⟩:=hcell k hlt
   have HP:Hid ((decide ((i:Int) = (gs.getD k gl0).part) = true→n < ln∧(gs.filter (fun g:GL=>decide ((i:Int) = g.part))).getD n gl0 = gs.getD k gl0∧(gs.take (k + 1)).filter (fun g:GL=>decide ((i:Int) = g.part)) = (gs.take k).filter (fun g:GL=>decide ((i:Int) = g.part)) ++ [gs.getD k gl0])∧(decide ((i:Int) = (gs.getD k gl0).part) = false→(gs.take (k + 1)).filter (fun g:GL=>decide ((i:Int) = g.part)) = (gs.take k).filter (fun g:GL=>decide ((i:Int) = g.part)))):=by
    refine ⟨fun h=>?_,fun h=>filt_not (fun g:GL=>decide ((i:Int) = g.part)) gs k hkl h⟩
    rw [HN.out,← HGI.out]
    exact filt_at (fun g:GL=>decide ((i:Int) = g.part)) gs k hkl h
   generalize gs.getD k gl0 = x at *
   obtain ⟨x0,x1,x2,x3,x4,x5⟩:=x
   simp only at e0 e1 e2 e3 e4 e5 HP
   obtain ⟨GC,hGC⟩:∃ c:Array Value,c = #[.int .i64 x0,.int .i64 x1,.int .i64 x2,.string (tx8 x3),.string (tx8 x4),.int .i64 x5]:=⟨_,rfl⟩
   obtain ⟨Wy,hWy⟩:∃ W,W = wr.alloc (.cells #[.int .i64 x0,.int .i64 x1,.int .i64 x2,.string (tx8 x3),.string (tx8 x4),.int .i64 x5] 42):=⟨_,rfl⟩
   have hby:Below wr.heap.size wr Wy:=by rw [hWy];exact (Below.refl _ _).alloc (Nat.le_refl _) _
   have hky:Wy.heap[wr.heap.size]? = some (.cells #[.int .i64 x0,.int .i64 x1,.int .i64 x2,.string (tx8 x3),.string (tx8 x4),.int .i64 x5] 42):=by rw [hWy];exact blk_new _ _
   have HBy:Hid (Below W0.heap.size W0 Wy):=HB.out.trans (hby.mono HB.out.size)
   have HOy:Hid (Wy.ownsRow W0.heap.size 9 1 (.slice qy n cy) n (stvB (((gs.take k).filter (fun g:GL=>decide ((i:Int) = g.part))).map fun g=>textN ns g.find))):=ownsRow_below HO.out hby
   have HKY:Hid (Wy.heap[wr.heap.size]? = some (.cells #[.int .i64 x0,.int .i64 x1,.int .i64 x2,.string (tx8 x3),.string (tx8 x4),.int .i64 x5] 42)):=hky
   have HWy:Hid (Wy = wr.alloc (.cells #[.int .i64 x0,.int .i64 x1,.int .i64 x2,.string (tx8 x3),.string (tx8 x4),.int .i64 x5] 42)):=hWy
   clear hby hky hWy HB HO hcell hkl GC hGC
   generalize tx8 x4 = t4 at *
   generalize ht3:tx8 x3 = t3 at *
   have HT3:Hid (tx8 x3 = t3):=ht3
   clear ht3
   go_upto_region 28 with fail
   rw [← HWy.out]
   clear HWy e0 e1 e2 e3 e4 e5
   obtain ⟨GB,hGB⟩:∃ G,wr.heap.size = G:=⟨_,rfl⟩
   rw [hGB] at HKY ⊢
   clear hGB
   have g0:Wy.cell? ⟨GB,0,none⟩ = some (.int .i64 x0):=(blk_c HKY.out 0).trans rfl
   by_cases hp:x0 = (i:Int)
   ·have hp1:¬ x0 ≠ (i:Int):=fun h=>h hp
    have hp2:(x0 != (i:Int)) = false:=by simp [hp]
    obtain ⟨hnl,hgx,hfx⟩:=HP.out.1 (by simp [hp])
    have HFX:Hid ((gs.take (k + 1)).filter (fun g:GL=>decide ((i:Int) = g.part)) = (gs.take k).filter (fun g:GL=>decide ((i:Int) = g.part)) ++ [⟨x0,x1,x2,x3,x4,x5⟩]):=hfx
    have HWN:Hid (unamp (m.getD n (0,[])).2 = wantN ns x5 x3):=by have h:=HW.out n hnl;rw [hgx] at h;exact h
    have hml2:n < m.length:=by rw [HML.out];exact hnl
    have CI:Hid (Calls Tryz.prog 36 #[.slice na nn nc,otF GB] Wy fun e w'=>e = .returned (.int .i64 (firstN x5 0 ns))∧Below Wy.heap.size Wy w'):=oindex_any na nn nc ns (HI.out Wy HBy.out).len (by unfold maxLen;exact hnn) x5 GB Wy (HI.out Wy HBy.out).names ((blk_c HKY.out 5).trans rfl)
    have HTX:Hid (textN ns x5 = if firstN x5 0 ns < 0 then ⟨#[]⟩ else (ns.getD (firstN x5 0 ns).toNat nm0).2):=rfl
    have HF2:Hid (firstN x5 0 ns = -1 ∨ ∃ j,j < ns.length∧firstN x5 0 ns = (j:Int)):=first_two x5 ns
    have HWD:Hid (wantN ns x5 x3 = if firstN x5 0 ns < 0 then x3 else (ns.getD (firstN x5 0 ns).toNat nm0).2.data.toList):=rfl
    clear hgx hfx HP
    subst hp
    go_wp2_with fail
    refine CI.out.mono ?_
    rintro e w3 ⟨rfl,hb3⟩
    have HB3:Hid (Below W0.heap.size W0 w3):=HBy.out.trans (hb3.mono HBy.out.size)
    have HO3:Hid (w3.ownsRow W0.heap.size 9 1 (.slice qy n cy) n (stvB (((gs.take k).filter (fun g:GL=>decide ((i:Int) = g.part))).map fun g=>textN ns g.find))):=ownsRow_below HOy.out hb3
    have HK3:Hid (w3.heap[GB]? = some (.cells #[.int .i64 (i:Int),.int .i64 x1,.int .i64 x2,.string t3,.string t4,.int .i64 x5] 42)):=blk_on HKY.out hb3
    clear hb3 HBy HOy HKY CI g0 hp1 hp2
    obtain ⟨lb,hla,hlc⟩:=HKR.out w3 HB3.out (fun e=>by rw [e] at hml2;cases hml2)
    subst hla
    obtain ⟨-,-,hl2⟩:=hlc n hml2
    rw [HWN.out,HWD.out] at hl2
    clear hlc hml2 HWN HWD
    generalize firstN x5 0 ns = KF at *
    rcases HF2.out with hKF | ⟨j,hj,hKF⟩
    ·subst hKF
     rw [if_pos (by decide)] at hl2 HTX
     rw [show lba x3 = t3 from HT3.out] at hl2
     have HL2:Hid (w3.cell? ⟨lb,n * 3 + 2,none⟩ = some (.string t3)):=hl2
     clear HF2 hl2
     go_upto_region 30 with fail
     refine loR30b w3 lb ln lc n GB hnl t3 HL2.out ((blk_c HK3.out 3).trans rfl) _ _ _ _ _ _ _ _ _ _ _ _ _ _ _ _ _ _ _ _ _ _ _ _ _ _ _ _ _ _ _ _ _ _ _ _ _ _ _ _ _ _ _ _ _ _ _ _ _ _ _ _ _ _ _ _ _ _ _ _ _ _ _ _ _ _ _ _ _ _ _ _ _ _ _ _ _ _ _ _ _ _ _ _ _ _ _ _ _ _ _ _ _ _ _ _ _ _ _ _ _ _ _ _ _ _ _ _ _ _ _ _ _ _ _ _ _ _ _ _ _ _ _ _ _ _ _ _ _ _ _ _ _ _ _ _ _ _ _ _ _ _ _ _ _ _ _ _ _ _ _ _ _ _ _ _ _ _ _ _ _ _ _ _ _ _ _ _ _ _ _ _ _ _ _ _ _ _ _ _ _ _ _ _ _ _ _ _ _ ?_
     intro v120 v121 v122 v123 v124 v125 v126 v127 v128 v129 v130 v131 v132 v133 v134 v135 v136 v137 v138 v139 v140 v141 v142 v143 v144 v145 v146 v147 v148 v149 v150 v151 v152 v153 v154 w4 hb4
     have HB4:Hid (Below W0.heap.size W0 w4):=HB3.out.trans (hb4.mono HB3.out.size)
     have HO4:Hid (w4.ownsRow W0.heap.size 9 1 (.slice qy n cy) n (stvB (((gs.take k).filter (fun g:GL=>decide ((i:Int) = g.part))).map fun g=>textN ns g.find))):=ownsRow_below HO3.out hb4
     clear hb4 HB3 HO3 HK3 HL2
     go_upto_region 35 with fail
     refine loR35 W0 W0.heap.size w4 HB4.out HB4.out.size qy n cy (by omega) _ HO4.out ⟨#[]⟩ _ _ _ _ _ _ _ _ _ _ _ _ _ _ _ _ _ _ _ _ _ _ _ _ _ _ _ _ _ _ _ _ _ _ _ _ _ _ _ _ _ _ _ _ _ _ _ _ _ _ _ _ _ _ _ _ _ _ _ _ _ _ _ _ _ _ _ _ _ _ _ _ _ _ _ _ _ _ _ _ _ _ _ _ _ _ _ _ _ _ _ _ _ _ _ _ _ _ _ _ _ _ _ _ _ _ _ _ _ _ _ _ _ _ _ _ _ _ _ _ _ _ _ _ _ _ _ _ _ _ _ _ _ _ _ _ _ _ _ _ _ _ _ _ _ _ _ _ _ _ _ _ _ _ _ _ _ _ _ _ _ _ _ _ _ _ _ _ _ _ _ _ _ _ _ _ _ _ _ _ _ _ _ _ _ _ _ _ _ _ _ ?_
     intro v163 v164 v165 v166 q9 c9 w9 hb9 hr9
     have HB9:Hid (Below W0.heap.size W0 w9):=hb9
     have HR9:Hid (w9.ownsRow W0.heap.size 9 1 (.slice q9 (n + 1) c9) (n + 1) (stvB (((gs.take (k + 1)).filter (fun g:GL=>decide ((i:Int) = g.part))).map fun g=>textN ns g.find))):=by unfold Hid;rw [HFX.out,List.map_append,List.map_cons,List.map_nil,stv_snoc,HTX.out];exact hr9
     have HN9:Hid (n + 1 = ((gs.take (k + 1)).filter (fun g:GL=>decide ((i:Int) = g.part))).length):=by unfold Hid;rw [HFX.out,List.length_append,← HN.out];rfl
     clear hb9 hr9 HFX HTX HN HO4 HB4
     go_wp2_with fail
     go_roundw
     case rel=>exact ⟨k + 1,n + 1,q9,c9,by omega,by go_num,by go_num,rfl,HN9,by omega,HB9,HR9⟩
     case measure=>simp [intOf];omega
    ·rw [hKF,if_neg (by omega)] at hl2 HTX
     simp only [Int.toNat_natCast] at hl2 HTX
     subst hKF
     have hln2:(HI.out w3 HB3.out).len = (HI.out w3 HB3.out).len:=rfl
     have hjn:j < nn:=by rw [(HI.out w3 HB3.out).len];exact hj
     obtain ⟨nb,no,hna,hnc⟩:=(HI.out w3 HB3.out).names (fun e=>by rw [e] at hj;cases hj)
     subst hna
     obtain ⟨-,hn2⟩:=hnc j hj
     rw [show lba (ns.getD j nm0).2.data.toList = (ns.getD j nm0).2 from rfl] at hl2
     generalize (ns.getD j nm0).2 = T at *
     have HL2:Hid (w3.cell? ⟨lb,n * 3 + 2,none⟩ = some (.string T)):=hl2
     have HN2:Hid (w3.cell? ⟨nb,no + j * 2 + 1,none⟩ = some (.string T)):=hn2
     have hji:(j:Int) < (nn:Int):=by omega
     have hj0:(0:Int)≤(j:Int):=by omega
     clear HF2 hl2 hn2 hnc hln2 hj
     go_upto_region 30 with fail
     refine loR30a w3 lb ln lc n GB hnl T HL2.out nb no nn nc j hjn HN2.out _ _ _ _ _ _ _ _ _ _ _ _ _ _ _ _ _ _ _ _ _ _ _ _ _ _ _ _ _ _ _ _ _ _ _ _ _ _ _ _ _ _ _ _ _ _ _ _ _ _ _ _ _ _ _ _ _ _ _ _ _ _ _ _ _ _ _ _ _ _ _ _ _ _ _ _ _ _ _ _ _ _ _ _ _ _ _ _ _ _ _ _ _ _ _ _ _ _ _ _ _ _ _ _ _ _ _ _ _ _ _ _ _ _ _ _ _ _ _ _ _ _ _ _ _ _ _ _ _ _ _ _ _ _ _ _ _ _ _ _ _ _ _ _ _ _ _ _ _ _ _ _ _ _ _ _ _ _ _ _ _ _ _ _ _ _ _ _ _ _ _ _ _ _ _ _ _ _ _ _ _ _ _ _ _ _ _ _ ?_
     intro v120 v121 v122 v123 v124 v125 v126 v127 v128 v129 v130 v131 v132 v133 v134 v135 v136 v137 v138 v139 v140 v141 v142 v143 v144 v145 v146 v147 v148 v149 v150 v151 v152 v153 v154 w4 hb4
     have HB4:Hid (Below W0.heap.size W0 w4):=HB3.out.trans (hb4.mono HB3.out.size)
     have HO4:Hid (w4.ownsRow W0.heap.size 9 1 (.slice qy n cy) n (stvB (((gs.take k).filter (fun g:GL=>decide ((i:Int) = g.part))).map fun g=>textN ns g.find))):=ownsRow_below HO3.out hb4
     have hn4:w4.cell? ⟨nb,no + j * 2 + 1,none⟩ = some (.string T):=(hb4.cell (p:=⟨nb,no + j * 2 + 1,none⟩) (World.block_lt_of_cell? _ _ HN2.out)).trans HN2.out
     clear hb4 HB3 HO3 HK3 HL2 HN2
     go_upto_region 35 with fail
     clear hn4
     refine loR35 W0 W0.heap.size w4 HB4.out HB4.out.size qy n cy (by omega) _ HO4.out T _ _ _ _ _ _ _ _ _ _ _ _ _ _ _ _ _ _ _ _ _ _ _ _ _ _ _ _ _ _ _ _ _ _ _ _ _ _ _ _ _ _ _ _ _ _ _ _ _ _ _ _ _ _ _ _ _ _ _ _ _ _ _ _ _ _ _ _ _ _ _ _ _ _ _ _ _ _ _ _ _ _ _ _ _ _ _ _ _ _ _ _ _ _ _ _ _ _ _ _ _ _ _ _ _ _ _ _ _ _ _ _ _ _ _ _ _ _ _ _ _ _ _ _ _ _ _ _ _ _ _ _ _ _ _ _ _ _ _ _ _ _ _ _ _ _ _ _ _ _ _ _ _ _ _ _ _ _ _ _ _ _ _ _ _ _ _ _ _ _ _ _ _ _ _ _ _ _ _ _ _ _ _ _ _ _ _ _ _ _ _ ?_
     intro v163 v164 v165 v166 q9 c9 w9 hb9 hr9
     have HB9:Hid (Below W0.heap.size W0 w9):=hb9
     have HR9:Hid (w9.ownsRow W0.heap.size 9 1 (.slice q9 (n + 1) c9) (n + 1) (stvB (((gs.take (k + 1)).filter (fun g:GL=>decide ((i:Int) = g.part))).map fun g=>textN ns g.find))):=by unfold Hid;rw [HFX.out,List.map_append,List.map_cons,List.map_nil,stv_snoc,HTX.out];exact hr9
     have HN9:Hid (n + 1 = ((gs.take (k + 1)).filter (fun g:GL=>decide ((i:Int) = g.part))).length):=by unfold Hid;rw [HFX.out,List.length_append,← HN.out];rfl
     clear hb9 hr9 HFX HTX HN HO4 HB4
     go_wp2_with fail
     go_roundw
     case rel=>exact ⟨k + 1,n + 1,q9,c9,by omega,by go_num,by go_num,rfl,HN9,by omega,HB9,HR9⟩
     case measure=>simp [intOf];omega
   ·have hp1:x0 ≠ (i:Int):=hp
    have hp2:(x0 != (i:Int)) = true:=by simp [hp]
    have HFX:Hid ((gs.take (k + 1)).filter (fun g:GL=>decide ((i:Int) = g.part)) = (gs.take k).filter (fun g:GL=>decide ((i:Int) = g.part))):=HP.out.2 (by simp;exact fun h=>hp h.symm)
    have HN9:Hid (n = ((gs.take (k + 1)).filter (fun g:GL=>decide ((i:Int) = g.part))).length):=by unfold Hid;rw [HFX.out];exact HN.out
    have HR9:Hid (Wy.ownsRow W0.heap.size 9 1 (.slice qy n cy) n (stvB (((gs.take (k + 1)).filter (fun g:GL=>decide ((i:Int) = g.part))).map fun g=>textN ns g.find))):=by unfold Hid;rw [HFX.out];exact HOy.out
    clear HP HFX HOy HN HKY
    go_wp2_with fail
    go_roundw
    case rel=>exact ⟨k + 1,n,qy,cy,by omega,by go_num,rfl,rfl,HN9,by omega,HBy,HR9⟩
    case measure=>simp [intOf];omega
  ·obtain rfl:k = gn:=by omega
   have hlz:¬ (k:Int) < (k:Int):=by omega
   have hall:(gs.take k).filter (fun g:GL=>decide ((i:Int) = g.part)) = gs.filter (fun g:GL=>decide ((i:Int) = g.part)):=by rw [List.take_of_length_le (by rw [(HI.out wr HB.out).goals.1];omega)]
   have hnl:n = ln:=by rw [HN.out,hall,HGI.out]
   subst hnl
   have HR9:Hid (wr.ownsRow W0.heap.size 9 1 (.slice qy n cy) n (stvB ((gs.filter (fun g:GL=>decide ((i:Int) = g.part))).map fun g=>textN ns g.find))):=by unfold Hid;rw [← hall];exact HO.out
   clear hall HO HN
   go_wp2_with fail
   exact HX.out _ _ _ _ _ _ _ _ _ _ _ _ _ _ _ _ _ _ _ _ _ _ _ _ _ _ _ _ _ _ _ _ _ _ _ _ _ _ _ _ _ _ _ _ _ _ _ _ _ _ _ _ _ _ _ _ _ _ _ _ _ _ _ _ _ qy cy _ HB.out HR9.out
end Go.Proofs.YtbbfcbodhmeanaaGreatDoor


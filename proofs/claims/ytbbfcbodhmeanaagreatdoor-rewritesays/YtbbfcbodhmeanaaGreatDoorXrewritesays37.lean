
import Derived.Test.YtbbfcbodhmeanaaGreatDoorXrewritesays36
namespace Go.Proofs.YtbbfcbodhmeanaaGreatDoor
open Go.RowKit
structure Grown2 (w w':World) (L:Nat) (row:Option Nat):Prop where
 os:w'.os = w.os
 tape:w'.tape = w.tape
 output:w'.output = w.output
 size:w.heap.size≤w'.heap.size
 block:∀ k,k < w.heap.size→k ≠ L→some k ≠ row→w'.heap[k]? = w.heap[k]?
theorem Grown2.refl (w:World) (L:Nat) (row:Option Nat):Grown2 w w L row:=⟨rfl,rfl,rfl,Nat.le_refl _,fun _ _ _ _=>rfl⟩
theorem Grown2.below {B:Nat} {w0 w w':World} {L:Nat} {row:Option Nat} (h:Grown2 w w' L row) (hb:Below B w0 w) (hB:B≤w.heap.size) (hL:B≤L) (hr:∀ k,row = some k→B≤k):Below B w0 w' :=
 ⟨h.os.trans hb.os,h.tape.trans hb.tape,h.output.trans hb.output,Nat.le_trans hb.size h.size,fun k hk=>(h.block k (by omega) (by omega) (fun e=>by have:=hr k e.symm;omega)).trans (hb.block k hk)⟩
theorem Grown2.owns {B:Nat} {w w':World} {L:Nat} {row:Option Nat} (h:Grown2 w w' L row) {e s n:Nat} {v:Value} {xs:List Value} (ho:w.ownsRow B e s v n xs) (h1:∀ k,v.ownBlock = some k→k ≠ L∧some k ≠ row):w'.ownsRow B e s v n xs:=by
 refine ⟨ho.1,?_⟩
 rcases ho.2 with h2 | ⟨g,cap,cur,rfl,h3,h4,h5⟩
 ·exact .inl h2
 ·refine .inr ⟨g,cap,cur,rfl,h3,?_,h5⟩
  have h6:=h1 g rfl
  have hlt:g < w.heap.size:=by
   rw [Array.getElem?_eq_some_iff] at h4
   exact h4.1
  rw [h.block g hlt h6.1 h6.2]
  exact h4
theorem Grown2.cell {w w':World} {L:Nat} {row:Option Nat} (h:Grown2 w w' L row) {a:Addr} {v:Value} (hc:w.cell? a = some v) (h1:a.block ≠ L) (h2:some a.block ≠ row):w'.cell? a = some v :=
 (World.cell?_of_block (h.block a.block (World.block_lt_of_cell? w a hc) h1 h2)).trans hc
def addK (b:Bool) (x:LK):List LK:=if b = true then [x] else []
theorem set_third {W:World} {L t:Nat} {a b c:Value} (h:W.heap[L]? = some (.cells #[a,b,c] t)) (x:Value):(W.setCell ⟨L,2,none⟩ x).heap[L]? = some (.cells #[a,b,x] t):=by
 show (W.heap.modify L _)[L]? = _
 rw [Array.getElem?_modify,if_pos rfl,h]
 rfl
theorem set_others (W:World) (L:Nat) (o:Nat) (x:Value) (k:Nat) (hk:k ≠ L):(W.setCell ⟨L,o,none⟩ x).heap[k]? = W.heap[k]?:=by
 show (W.heap.modify L _)[k]? = _
 rw [Array.getElem?_modify,if_neg (fun e=>hk e.symm)]
theorem set_size (W:World) (L:Nat) (o:Nat) (x:Value):(W.setCell ⟨L,o,none⟩ x).heap.size = W.heap.size:=by
 show (W.heap.modify L _).size = _
 rw [Array.size_modify]
set_option maxRecDepth 1000000 in
set_option maxHeartbeats 8000000 in
theorem lkM (g:Nat) (p:ByteArray) (hp:p.size≤4000) (w:World) (b:Bool) (B:Nat) (acc:List LK) (pm:Option Addr) (lm cm:Nat) (elm:lm = acc.length) (L:Nat) (x:LK)
  (hown:w.ownsRow B 40 3 (.slice pm lm cm) acc.length (lv p.size acc)) (hBw:B≤w.heap.size) (hrow:∀ k,(Value.slice pm lm cm).ownBlock = some k→k ≠ L) (hLs:L < w.heap.size)
  (hx:b = true→w.heap[L]? = some (.cells #[.int .i64 ((p.size - x.1:Nat):Int),.int .i64 ((p.size - x.1 + x.2.length:Nat):Int),.string ⟨#[]⟩] 40)∧p.extract (p.size - x.1) (p.size - x.1 + x.2.length) = lba x.2∧p.size - x.1 + x.2.length≤p.size)
  (hla:acc.length≤4000) (hg:w.cell? ⟨g,0,none⟩ = some (.string p)) (hM:∃ m:Int,w.cell? ⟨0,0,none⟩ = some (.int .i64 m)) (c0 c1 c2 c3 c4 c6 c7 c8 c9 c10 c12 c13 c14 c15 c17 c18 c19 c20 c21 c22 c23 c24 c25 c26 c27 c28 c29 c30 c31 c32 c33 c34 c35 c36 c37 c38 c39 c40 c41 c42 c43 c44 c45 c46 c47 c48 c49 c50 c51 c52 c53 c54 c55 c56 c57 c58 c59 c60 c61 c62 c63 c64 c65 c66 c67 c68 c69 c70 c71 c72 c73 c74 c75 c76 c77 c78 c79 c80 c81 c82 c83 c84 c85 c86 c87 c88 c89 c90 c91 c92 c93 c94 c95 c96 c97 c98 c99 c100 c101 c102 c103 c104 c105 c106 c107 c108 c109 c110 c111 c112 c113 c114 c115 c116 c117 c118 c119 c120 c121 c122 c123 c124 c125 c126 c127 c128 c129 c130 c131 c132 c133 c134 c135 c136 c137 c138 c139 c140 c141 c142 c143 c144 c145 c146 c147 c148 c149 c150 c151 c152 c153 c154 c155 c156 c157 c158 c159 c160 c161 c162 c163 c164 c165 c166 c167 c168 c169 c170 c171 c172 c173 c174 c175 c176 c177 c178 c179 c180 c181 c182 c183 c184 c185 c186 c187 c188 c189 c190 c191 c192 c193 c194 c195 c196 c197 c198 c199 c200 c201 c202 c203 c204 c205 c206 c207 c208 c209 c210 c211 c212 c213 c214 c215 c216 c217 c218 c219 c220 c221 c222 c223 c224 c225 c226 c227 c228 c229 c230 c231 c232 c233 c234 c235 c236 c237 c238 c239 c240 c241 c242 c243 c244 c245 c246 c247 c248 c249 c250 c251 c252 c253 c254 c255 c256 c257 c258 c259 c260 c261 c262 c263 c264 c265 c266 c267 c268 c269 c270 c271 c272 c273 c274 c275 c276 c277 c278 c279 c280 c281 c282 c283 c284 c285 c286 c287 c288 c289 c290 c291 c292 c293 c295 c296 c297 c298 c299 c300 c301 c302 c303 c304 c305 c306 c307 c308 c309 c310 c311 c312 c313 c314 c315 c316 c317 c318 c319 c320 c321 c322 c323 c324 c325 c326:Value) (Q:Exit→Act→World→Prop)
  (hexit:∀ u295 u296 u297 u298 u299 u300 u301 u302 u303 u304 u305 u306 u307 v11:Value,∀ wy:World,wy.ownsRow B 40 3 v11 (acc ++ addK b x).length (lv p.size (acc ++ addK b x))→Grown2 w wy L (Value.slice pm lm cm).ownBlock→Q .normal ⟨(c0::c1::c2::c3::c4::.pointer (some ⟨g,0,none⟩)::c6::c7::c8::c9::c10::v11::c12::c13::c14::c15::.pointer (some ⟨L,0,none⟩)::c17::c18::c19::c20::c21::c22::c23::c24::c25::c26::c27::c28::c29::c30::c31::c32::c33::c34::c35::c36::c37::c38::c39::c40::c41::c42::c43::c44::c45::c46::c47::c48::c49::c50::c51::c52::c53::c54::c55::c56::c57::c58::c59::c60::c61::c62::c63::c64::c65::c66::c67::c68::c69::c70::c71::c72::c73::c74::c75::c76::c77::c78::c79::c80::c81::c82::c83::c84::c85::c86::c87::c88::c89::c90::c91::c92::c93::c94::c95::c96::c97::c98::c99::c100::c101::c102::c103::c104::c105::c106::c107::c108::c109::c110::c111::c112::c113::c114::c115::c116::c117::c118::c119::c120::c121::c122::c123::c124::c125::c126::c127::c128::c129::c130::c131::c132::c133::c134::c135::c136::c137::c138::c139::c140::c141::c142::c143::c144::c145::c146::c147::c148::c149::c150::c151::c152::c153::c154::c155::c156::c157::c158::c159::c160::c161::c162::c163::c164::c165::c166::c167::c168::c169::c170::c171::c172::c173::c174::c175::c176::c177::c178::c179::c180::c181::c182::c183::c184::c185::c186::c187::c188::c189::c190::c191::c192::c193::c194::c195::c196::c197::c198::c199::c200::c201::c202::c203::c204::c205::c206::c207::c208::c209::c210::c211::c212::c213::c214::c215::c216::c217::c218::c219::c220::c221::c222::c223::c224::c225::c226::c227::c228::c229::c230::c231::c232::c233::c234::c235::c236::c237::c238::c239::c240::c241::c242::c243::c244::c245::c246::c247::c248::c249::c250::c251::c252::c253::c254::c255::c256::c257::c258::c259::c260::c261::c262::c263::c264::c265::c266::c267::c268::c269::c270::c271::c272::c273::c274::c275::c276::c277::c278::c279::c280::c281::c282::c283::c284::c285::c286::c287::c288::c289::c290::c291::c292::c293::.bool b::u295::u296::u297::u298::u299::u300::u301::u302::u303::u304::u305::u306::u307::c308::c309::c310::c311::c312::c313::c314::c315::c316::c317::c318::c319::c320::c321::c322::c323::c324::c325::c326::[]).toArray,[]⟩ wy) :
  Code.wp Tryz.prog (condAt Tryz.f58 15) Q ⟨(c0::c1::c2::c3::c4::.pointer (some ⟨g,0,none⟩)::c6::c7::c8::c9::c10::.slice pm lm cm::c12::c13::c14::c15::.pointer (some ⟨L,0,none⟩)::c17::c18::c19::c20::c21::c22::c23::c24::c25::c26::c27::c28::c29::c30::c31::c32::c33::c34::c35::c36::c37::c38::c39::c40::c41::c42::c43::c44::c45::c46::c47::c48::c49::c50::c51::c52::c53::c54::c55::c56::c57::c58::c59::c60::c61::c62::c63::c64::c65::c66::c67::c68::c69::c70::c71::c72::c73::c74::c75::c76::c77::c78::c79::c80::c81::c82::c83::c84::c85::c86::c87::c88::c89::c90::c91::c92::c93::c94::c95::c96::c97::c98::c99::c100::c101::c102::c103::c104::c105::c106::c107::c108::c109::c110::c111::c112::c113::c114::c115::c116::c117::c118::c119::c120::c121::c122::c123::c124::c125::c126::c127::c128::c129::c130::c131::c132::c133::c134::c135::c136::c137::c138::c139::c140::c141::c142::c143::c144::c145::c146::c147::c148::c149::c150::c151::c152::c153::c154::c155::c156::c157::c158::c159::c160::c161::c162::c163::c164::c165::c166::c167::c168::c169::c170::c171::c172::c173::c174::c175::c176::c177::c178::c179::c180::c181::c182::c183::c184::c185::c186::c187::c188::c189::c190::c191::c192::c193::c194::c195::c196::c197::c198::c199::c200::c201::c202::c203::c204::c205::c206::c207::c208::c209::c210::c211::c212::c213::c214::c215::c216::c217::c218::c219::c220::c221::c222::c223::c224::c225::c226::c227::c228::c229::c230::c231::c232::c233::c234::c235::c236::c237::c238::c239::c240::c241::c242::c243::c244::c245::c246::c247::c248::c249::c250::c251::c252::c253::c254::c255::c256::c257::c258::c259::c260::c261::c262::c263::c264::c265::c266::c267::c268::c269::c270::c271::c272::c273::c274::c275::c276::c277::c278::c279::c280::c281::c282::c283::c284::c285::c286::c287::c288::c289::c290::c291::c292::c293::.bool b::c295::c296::c297::c298::c299::c300::c301::c302::c303::c304::c305::c306::c307::c308::c309::c310::c311::c312::c313::c314::c315::c316::c317::c318::c319::c320::c321::c322::c323::c324::c325::c326::[]).toArray,[]⟩ w:=by
 subst elm
 have HX:Hid _:=hexit
 clear hexit
 conv=>arg 2;whnf
 cases b with
 | false =>
  have ho:w.ownsRow B 40 3 (.slice pm acc.length cm) (acc ++ addK false x).length (lv p.size (acc ++ addK false x)):=by simpa [addK] using hown
  clear hown hx
  go_wp2_with fail
  exact HX.out _ _ _ _ _ _ _ _ _ _ _ _ _ _ _ ho (Grown2.refl _ _ _)
 | true =>
  obtain ⟨hL,hT,hle⟩:=hx rfl
  obtain ⟨i0,hi,hz0,hz1,hz2⟩:=info_parts info_link
  have ex:lkv p.size x = #[.int .i64 ((p.size - x.1:Nat):Int),.int .i64 ((p.size - x.1 + x.2.length:Nat):Int),.string (lba (unamp x.2))]:=rfl
  have hsz:(lba x.2).size≤4000:=by rw [lba_size];omega
  have hR:=ramp_any (lba x.2) hsz w hM
  obtain ⟨n,CR⟩:=hR
  have CR2:Hid _:=CR
  have HO:Hid (w.ownsRow B 40 3 (.slice pm acc.length cm) acc.length (lv p.size acc)):=hown
  have HEX:Hid (lkv p.size x = #[.int .i64 ((p.size - x.1:Nat):Int),.int .i64 ((p.size - x.1 + x.2.length:Nat):Int),.string (lba (unamp x.2))]):=ex
  have HL:Hid (w.heap[L]? = some (.cells #[.int .i64 ((p.size - x.1:Nat):Int),.int .i64 ((p.size - x.1 + x.2.length:Nat):Int),.string ⟨#[]⟩] 40)):=hL
  have hAB:p.size - x.1≤p.size - x.1 + x.2.length:=Nat.le_add_right _ _
  obtain ⟨U,hU⟩:∃ U,lba (unamp x.2) = U:=⟨_,rfl⟩
  have hU':lba (unamp (lba x.2).data.toList) = U:=hU
  rw [hU'] at CR2
  rw [hU] at HEX
  generalize lba x.2 = T at *
  generalize p.size - x.1 + x.2.length = Bn at *
  generalize p.size - x.1 = An at *
  have hABi:(An:Int)≤(Bn:Int):=by omega
  have hBp:(Bn:Int)≤(p.size:Int):=by omega
  obtain ⟨z0,z1,z2,zf⟩:=lcells3 hL
  clear hx ex CR hown hL hU hU' hAB hsz
  go_wp2_with fail
  refine Calls.mono CR2.out ?_
  rintro e w1 ⟨rfl,hb1,hJ⟩
  have HJ:Hid _:=hJ
  have hL1:w1.heap[L]? = some (.cells #[.int .i64 (An:Int),.int .i64 (Bn:Int),.string ⟨#[]⟩] 40):=(hb1.block L hLs).trans HL.out
  clear CR2 hJ z0 z1 z2 zf hT
  go_wp2_with fail
  refine Calls.mono HJ.out ?_
  rintro e w2 ⟨rfl,hb2⟩
  have hL2:w2.heap[L]? = some (.cells #[.int .i64 (An:Int),.int .i64 (Bn:Int),.string ⟨#[]⟩] 40):=(hb2.block L hLs).trans HL.out
  obtain ⟨y0,y1,y2,yf⟩:=lcells3 hL2
  have yf2:=yf 2
  obtain ⟨W3,hW3⟩:∃ W,w2.setCell ⟨L,2,none⟩ (.string U) = W:=⟨_,rfl⟩
  have hL3:W3.heap[L]? = some (.cells #[.int .i64 (An:Int),.int .i64 (Bn:Int),.string U] 40):=by rw [← hW3];exact set_third hL2 _
  have hG3:Grown2 w W3 L none:=by
   rw [← hW3]
   exact ⟨hb2.os,hb2.tape,hb2.output,by rw [set_size];exact hb2.size,fun k hk hkL _=>by rw [set_others _ _ _ _ _ hkL];exact hb2.block k hk⟩
  have HG3:Hid (Grown2 w W3 L none):=hG3
  have HO3:Hid (W3.ownsRow B 40 3 (.slice pm acc.length cm) acc.length (lv p.size acc)):=hG3.owns HO.out (fun k hk=>⟨hrow k hk,by simp⟩)
  have hs3:w.heap.size≤W3.heap.size:=hG3.size
  have HW3:Hid (w2.setCell ⟨L,2,none⟩ (.string U) = W3):=hW3
  clear HJ hb1 hL1 hL2 yf hG3 HO hW3
  go_upto_region 51 with fail
  rw [HW3.out]
  obtain ⟨x0,x1,x2,xf⟩:=lcells3 hL3
  clear y0 y1 y2 yf2 hL3
  go_wp2_with (at_builtin;refine wpList_append_own _ rfl (.tmp 304) (.tmp 306) 65 rfl B 40 i0 (.agg #[.int .i64 0,.int .i64 0,.string ⟨#[]⟩]) 3 32 Tryz.underlying65 hi hz0 hz1 hz2 rfl (by decide) _ _ _ rfl (HO3.out.alloc _) ⟨W3.heap.size,0,none⟩ 1 1 [.int .i64 (An:Int),.int .i64 (Bn:Int),.string U] rfl rfl ?c1 ?c2 ?c3 ?c4 ?c5 ?_)
  case c1=>exact cell_three _ _ _ _ _
  case c2=>intro u hu;simp at hu;rcases hu with rfl | rfl | rfl <;> rfl
  case c3=>unfold maxLen;omega
  case c4=>omega
  case c5=>simp;omega
  intro v9 w9 hown9 hg9 _
  have ho9:w9.ownsRow B 40 3 v9 (acc ++ addK true x).length (lv p.size (acc ++ addK true x)):=by
   show w9.ownsRow B 40 3 v9 (acc ++ [x]).length (lv p.size (acc ++ [x]))
   rw [lv_snoc,HEX.out,List.length_append]
   exact hown9
  have hG9:Grown2 w w9 L (Value.slice pm acc.length cm).ownBlock:=by
   have h3:=HG3.out
   refine ⟨hg9.os.trans h3.os,hg9.tape.trans h3.tape,hg9.output.trans h3.output,Nat.le_trans h3.size (Nat.le_trans (by simp) hg9.size),fun k hk hkL hkr=>?_⟩
   rw [hg9.block k (by simp;omega) hkr,Below.heap_alloc _ _ _ (by omega)]
   exact h3.block k hk hkL (by simp)
  have HO9:Hid _:=ho9
  have HG9:Hid _:=hG9
  clear ho9 hG9 hown9 hg9
  go_wp2_with fail
  exact HX.out _ _ _ _ _ _ _ _ _ _ _ _ _ _ _ HO9.out HG9.out
end Go.Proofs.YtbbfcbodhmeanaaGreatDoor



namespace Go.Proofs.YtbbfcbodhmeanaaGreatDoor
open Go.RowKit
theorem info_strK:(Tryz.prog.info? 9).map (fun i=>(i.zero,i.size,i.bytes)) = some (some (.string ⟨#[]⟩),1,16):=by kernel_rfl
theorem cell_loneK (w:World) (v:Value) (t:TypeId):∀ j x,[v][j]? = some x→(w.alloc (.cells #[v] t)).cell? ((⟨w.heap.size,0,none⟩:Addr).add j) = some x:=by
 intro j x hj
 match j,hj with
 | 0,hj=>simp at hj;subst hj;simp [Addr.add]
theorem one_strK (T:ByteArray):∀ u ∈ [Value.string T],u.oneCell' = true:=by
 intro u hu
 simp at hu
 subst hu
 rfl
def valK (y2:List UInt8):LK:=((valP (y2.dropWhile spB)).1.length,(valP (y2.dropWhile spB)).2.1)
theorem attr_is {c:UInt8} {t ya yb:List UInt8} (h1:t.dropWhile inAttr = ya) (h2:ya.dropWhile spB = yb):attrP (c::t) = behP yb:=by
 unfold attrP
 show behP ((t.dropWhile inAttr).dropWhile spB) = _
 rw [h1,h2]
theorem beh_no {yb:List UInt8} (h:eqB yb = false):behP yb = (none,yb):=by
 unfold behP
 cases yb with
 | nil=>rfl
 | cons d y =>
  simp only
  rw [if_neg]
  rintro rfl
  cases h
theorem beh_eq (y2:List UInt8):behP (61::y2) = (some (valK y2),(valP (y2.dropWhile spB)).2.2):=by
 unfold behP
 simp only [if_pos]
 rfl
theorem mine_eq (names:List (List UInt8)) (nm:List UInt8) (x:LK) (b:Bool) (hb:b = ((decide (nm = hrefL) || decide (nm = srcL)) && !names.contains nm)):mineP names.reverse nm (some x) = addK b x:=by
 have hc:names.reverse.contains nm = names.contains nm:=by rw [Bool.eq_iff_iff];simp
 unfold mineP addK
 simp only
 rw [hc,hb]
 by_cases h1:names.contains nm = false
 ·by_cases h2:nm = hrefL ∨ nm = srcL
  ·rw [if_pos ⟨h1,h2⟩,if_pos]
   rw [h1]
   simpa using h2
  ·rw [if_neg (fun h=>h2 h.2),if_neg]
   rw [h1]
   simpa using h2
 ·rw [if_neg (fun h=>h1 h.1),if_neg]
  simp only [Bool.not_eq_false] at h1
  rw [h1]
  simp
theorem LkA.len {w1:World} {p:ByteArray} {c:UInt8} {t ya yb yd:List UInt8} {L:Nat} {wx:World} (h:LkA w1 p ya yb L yd wx) (h1:t.dropWhile inAttr = ya) (h2:ya.dropWhile spB = yb):yd.length≤t.length:=by
 rcases h.2.2 with ⟨_,h3,_⟩ | ⟨y2,h3,h4,_⟩
 ·rw [h3,← h1]
  exact drop_dropWhile inAttr t
 ·have:=attr_len c t
  rw [attr_is h1 h2,h3,beh_eq] at this
  rw [h4]
  exact this
theorem LkA.left {w1:World} {p:ByteArray} {c:UInt8} {t ya yb yd:List UInt8} {L:Nat} {wx:World} (h:LkA w1 p ya yb L yd wx) (h1:t.dropWhile inAttr = ya) (h2:ya.dropWhile spB = yb) (low:List UInt8→List UInt8) (seen:List (List UInt8)):tagS low seen (attrP (c::t)).2 = tagS low seen yd:=by
 rcases h.2.2 with ⟨h3,h4,_⟩ | ⟨y2,h3,h4,_⟩
 ·rw [attr_is h1 h2,beh_no h3,h4,← h2,tagS_sp]
 ·rw [attr_is h1 h2,h3,beh_eq,h4]
theorem TgAt.next {w0:World} {p:ByteArray} {s0:List UInt8} {v11 v12 u11 u12:Value} {wr w1 wx wz:World} {c:UInt8} {t ya yb yd:List UInt8} {L:Nat} {names:List (List UInt8)} {acc:List LK} (h:TgAt w0 p s0 v11 v12 wr (c::t) names acc) (hc:c ≠ 62) (hgp:inGap c = false)
  (hA:LkA w1 p ya yb L yd wx) (h1:t.dropWhile inAttr = ya) (h2:ya.dropWhile spB = yb) {b:Bool} {x:LK} (hm:mineP names.reverse (smallU (nameP (c::t))) (attrP (c::t)).1 = addK b x)
  (hb:Below w0.heap.size w0 wz) (om:wz.ownsRow w0.heap.size 40 3 u11 (acc ++ addK b x).length (lv p.size (acc ++ addK b x)))
  (on:wz.ownsRow w0.heap.size 9 1 u12 (names.length + 1) ((names.map fun x=>Value.string (lba x)) ++ [.string (lba (smallU (nameP (c::t))))])) :
  TgAt w0 p s0 u11 u12 wz yd (names ++ [smallU (nameP (c::t))]) (acc ++ addK b x):=by
 have hl:=hA.len (c:=c) h1 h2
 have ha:(addK b x).length≤1:=by unfold addK;split <;> simp
 have h3:=h.la
 have h4:=h.ls
 simp only [List.length_cons] at h3 h4
 refine ⟨by rw [List.length_append];omega,by rw [List.length_append];show names.length + 1 + _≤_;omega,hA.2.1,hb,om,by simpa using on,?_⟩
 rw [h.eq,tagS_next smallU names.reverse (c::t) c t (List.dropWhile_cons_of_neg (by rw [hgp];simp)) hc,hm,hA.left (c:=c) h1 h2,List.reverse_append]
 simp only [Option.map_map]
 refine Prod.ext ?_ rfl
 show Option.map _ _ = Option.map _ _
 refine congrArg (fun f=>Option.map f _) ?_
 funext y
 simp
def LkX (p:ByteArray) (yb:List UInt8) (L:Nat) (wx:World) (nm:List UInt8) (names:List (List UInt8)) (b:Bool) (x:LK):Prop :=
 (eqB yb = false∧b = false) ∨ ∃ y2,yb = 61::y2∧x = valK y2∧b = ((decide (nm = hrefL) || decide (nm = srcL)) && !names.contains nm)∧wx.heap[L]? = some (.cells #[.int .i64 ((pos p (valP (y2.dropWhile spB)).1:Nat):Int),.int .i64 ((pos p (valP (y2.dropWhile spB)).1 + (valP (y2.dropWhile spB)).2.1.length:Nat):Int),.string ⟨#[]⟩] 40)
theorem LkX.mine {p:ByteArray} {c:UInt8} {t ya yb:List UInt8} {L:Nat} {wx:World} {nm:List UInt8} {names:List (List UInt8)} {b:Bool} {x:LK} (h:LkX p yb L wx nm names b x) (h1:t.dropWhile inAttr = ya) (h2:ya.dropWhile spB = yb):mineP names.reverse nm (attrP (c::t)).1 = addK b x:=by
 rw [attr_is h1 h2]
 rcases h with ⟨h3,rfl⟩ | ⟨y2,rfl,rfl,h3,_⟩
 ·rw [beh_no h3]
  rfl
 ·rw [beh_eq]
  exact mine_eq names nm (valK y2) b h3
theorem val_sufK {p:ByteArray} {z:List UInt8} (h:Suf p z):Suf p (valP z).1∧∃ r,(valP z).2.1 ++ r = (valP z).1:=by
 cases z with
 | nil=>exact ⟨h,[],rfl⟩
 | cons c t =>
  by_cases hq:qB c = true
  ·rw [valP_q t hq]
   exact ⟨h.tl,_,List.takeWhile_append_dropWhile⟩
  ·have hv:valP (c::t) = (c::t,(c::t).takeWhile inBare,(c::t).dropWhile inBare):=by
    show (if qB c = true then _ else _) = _
    rw [if_neg hq]
   rw [hv]
   exact ⟨h,_,List.takeWhile_append_dropWhile⟩
theorem LkX.cells {p:ByteArray} {yb:List UInt8} {L:Nat} {wx:World} {nm:List UInt8} {names:List (List UInt8)} {b:Bool} {x:LK} (h:LkX p yb L wx nm names b x) (hS:Suf p yb) (hb:b = true) :
  wx.heap[L]? = some (.cells #[.int .i64 ((p.size - x.1:Nat):Int),.int .i64 ((p.size - x.1 + x.2.length:Nat):Int),.string ⟨#[]⟩] 40)∧p.extract (p.size - x.1) (p.size - x.1 + x.2.length) = lba x.2∧p.size - x.1 + x.2.length≤p.size:=by
 rcases h with ⟨_,rfl⟩ | ⟨y2,rfl,rfl,_,h4⟩
 ·cases hb
 ·obtain ⟨h5,r,h6⟩:=val_sufK ((hS.tl).dw spB)
  have h7:=pos_plus h5 h6
  have h8:=ext_of h5 h6
  refine ⟨h4,?_,?_⟩
  ·rw [h7] at h8
   exact h8
  ·have:=pos_le p r
   rw [h7] at this
   exact this
end Go.Proofs.YtbbfcbodhmeanaaGreatDoor



namespace Go.Proofs.YtbbfcbodhmeanaaGreatDoor
open Go.RowKit
set_option maxRecDepth 1000000 in
set_option maxHeartbeats 4000000 in
theorem lkR36 (g:Nat) (p:ByteArray) (yb:List UInt8) (hSu2:Suf p yb) (w:World) (hg:w.cell? ⟨g,0,none⟩ = some (.string p)) (c0 c1 c2 c3 c4 c6 c7 c8 c9 c10 c11 c12 c13 c14 c16 c17 c18 c19 c20 c21 c22 c23 c24 c25 c26 c27 c28 c29 c30 c31 c32 c33 c34 c35 c36 c37 c38 c39 c40 c41 c42 c43 c44 c45 c46 c47 c48 c49 c50 c51 c52 c53 c54 c55 c56 c57 c58 c59 c60 c61 c62 c63 c64 c65 c66 c67 c68 c69 c70 c71 c72 c73 c74 c75 c76 c77 c78 c79 c80 c81 c82 c83 c84 c85 c86 c87 c88 c89 c90 c91 c92 c93 c94 c95 c96 c97 c98 c99 c100 c101 c102 c103 c104 c105 c106 c107 c108 c109 c110 c111 c112 c113 c114 c115 c116 c117 c118 c119 c120 c121 c122 c123 c124 c125 c126 c127 c128 c129 c130 c131 c132 c133 c134 c135 c136 c137 c138 c139 c140 c141 c142 c143 c144 c145 c146 c147 c148 c149 c150 c151 c152 c153 c154 c155 c156 c157 c158 c159 c160 c161 c162 c163 c164 c165 c166 c167 c168 c169 c170 c171 c172 c173 c174 c175 c176 c177 c178 c179 c180 c181 c182 c183 c184 c185 c186 c187 c188 c189 c190 c191 c192 c193 c194 c195 c196 c197 c198 c199 c200 c201 c202 c203 c204 c205 c206 c207 c208 c209 c210 c211 c212 c213 c214 c215 c216 c217 c218 c219 c220 c221 c222 c223 c224 c225 c226 c227 c228 c229 c230 c231 c232 c233 c234 c235 c236 c237 c238 c239 c240 c241 c242 c243 c244 c245 c246 c247 c248 c249 c250 c251 c252 c253 c254 c255 c256 c257 c258 c259 c260 c261 c262 c263 c264 c265 c266 c267 c268 c269 c270 c271 c272 c273 c274 c275 c276 c277 c278 c279 c280 c281 c282 c283 c284 c285 c286 c287 c288 c289 c290 c291 c292 c293 c294 c295 c296 c297 c298 c299 c300 c301 c302 c303 c304 c305 c306 c307 c308 c309 c310 c311 c312 c313 c314 c315 c316 c317 c318 c319 c320 c321 c322 c323 c324 c325 c326:Value) (Q:Exit→Act→World→Prop)
  (hexit:∀ u187 u188 u189 u190 u191 u192 u193 u194 u195:Value,Q .normal ⟨(c0::c1::c2::c3::c4::.pointer (some ⟨g,0,none⟩)::c6::c7::c8::c9::c10::c11::c12::c13::c14::.int .i64 ((pos p yb:Nat):Int)::c16::c17::c18::c19::c20::c21::c22::c23::c24::c25::c26::c27::c28::c29::c30::c31::c32::c33::c34::c35::c36::c37::c38::c39::c40::c41::c42::c43::c44::c45::c46::c47::c48::c49::c50::c51::c52::c53::c54::c55::c56::c57::c58::c59::c60::c61::c62::c63::c64::c65::c66::c67::c68::c69::c70::c71::c72::c73::c74::c75::c76::c77::c78::c79::c80::c81::c82::c83::c84::c85::c86::c87::c88::c89::c90::c91::c92::c93::c94::c95::c96::c97::c98::c99::c100::c101::c102::c103::c104::c105::c106::c107::c108::c109::c110::c111::c112::c113::c114::c115::c116::c117::c118::c119::c120::c121::c122::c123::c124::c125::c126::c127::c128::c129::c130::c131::c132::c133::c134::c135::c136::c137::c138::c139::c140::c141::c142::c143::c144::c145::c146::c147::c148::c149::c150::c151::c152::c153::c154::c155::c156::c157::c158::c159::c160::c161::c162::c163::c164::c165::c166::c167::c168::c169::c170::c171::c172::c173::c174::c175::c176::c177::c178::c179::c180::c181::c182::c183::c184::c185::c186::u187::u188::u189::u190::u191::u192::u193::u194::u195::.bool (eqB yb)::c197::c198::c199::c200::c201::c202::c203::c204::c205::c206::c207::c208::c209::c210::c211::c212::c213::c214::c215::c216::c217::c218::c219::c220::c221::c222::c223::c224::c225::c226::c227::c228::c229::c230::c231::c232::c233::c234::c235::c236::c237::c238::c239::c240::c241::c242::c243::c244::c245::c246::c247::c248::c249::c250::c251::c252::c253::c254::c255::c256::c257::c258::c259::c260::c261::c262::c263::c264::c265::c266::c267::c268::c269::c270::c271::c272::c273::c274::c275::c276::c277::c278::c279::c280::c281::c282::c283::c284::c285::c286::c287::c288::c289::c290::c291::c292::c293::c294::c295::c296::c297::c298::c299::c300::c301::c302::c303::c304::c305::c306::c307::c308::c309::c310::c311::c312::c313::c314::c315::c316::c317::c318::c319::c320::c321::c322::c323::c324::c325::c326::[]).toArray,[]⟩ w) :
  Code.wp Tryz.prog (regAt Tryz.f58 36) Q ⟨(c0::c1::c2::c3::c4::.pointer (some ⟨g,0,none⟩)::c6::c7::c8::c9::c10::c11::c12::c13::c14::.int .i64 ((pos p yb:Nat):Int)::c16::c17::c18::c19::c20::c21::c22::c23::c24::c25::c26::c27::c28::c29::c30::c31::c32::c33::c34::c35::c36::c37::c38::c39::c40::c41::c42::c43::c44::c45::c46::c47::c48::c49::c50::c51::c52::c53::c54::c55::c56::c57::c58::c59::c60::c61::c62::c63::c64::c65::c66::c67::c68::c69::c70::c71::c72::c73::c74::c75::c76::c77::c78::c79::c80::c81::c82::c83::c84::c85::c86::c87::c88::c89::c90::c91::c92::c93::c94::c95::c96::c97::c98::c99::c100::c101::c102::c103::c104::c105::c106::c107::c108::c109::c110::c111::c112::c113::c114::c115::c116::c117::c118::c119::c120::c121::c122::c123::c124::c125::c126::c127::c128::c129::c130::c131::c132::c133::c134::c135::c136::c137::c138::c139::c140::c141::c142::c143::c144::c145::c146::c147::c148::c149::c150::c151::c152::c153::c154::c155::c156::c157::c158::c159::c160::c161::c162::c163::c164::c165::c166::c167::c168::c169::c170::c171::c172::c173::c174::c175::c176::c177::c178::c179::c180::c181::c182::c183::c184::c185::c186::c187::c188::c189::c190::c191::c192::c193::c194::c195::c196::c197::c198::c199::c200::c201::c202::c203::c204::c205::c206::c207::c208::c209::c210::c211::c212::c213::c214::c215::c216::c217::c218::c219::c220::c221::c222::c223::c224::c225::c226::c227::c228::c229::c230::c231::c232::c233::c234::c235::c236::c237::c238::c239::c240::c241::c242::c243::c244::c245::c246::c247::c248::c249::c250::c251::c252::c253::c254::c255::c256::c257::c258::c259::c260::c261::c262::c263::c264::c265::c266::c267::c268::c269::c270::c271::c272::c273::c274::c275::c276::c277::c278::c279::c280::c281::c282::c283::c284::c285::c286::c287::c288::c289::c290::c291::c292::c293::c294::c295::c296::c297::c298::c299::c300::c301::c302::c303::c304::c305::c306::c307::c308::c309::c310::c311::c312::c313::c314::c315::c316::c317::c318::c319::c320::c321::c322::c323::c324::c325::c326::[]).toArray,[]⟩ w:=by
 have HX:Hid _:=hexit
 clear hexit
 conv=>arg 2;whnf
 cases yb with
 | nil =>
  have hk0:pos p [] = p.size:=rfl
  rw [hk0] at HX ⊢
  have hki0:decide ((p.size:Int) < (p.size:Int)) = false:=by simp
  clear hk0 hSu2
  go_wp2_with fail
  exact HX.out _ _ _ _ _ _ _ _ _
 | cons d y2 =>
  obtain ⟨kb,ekb,hkb,hpd,hnextb⟩:=at_byte hSu2
  have hkib:(kb:Int) < (p.size:Int):=by omega
  rw [ekb] at HX ⊢
  clear ekb hnextb hSu2
  by_cases e61:d = 61
  ·subst e61
   go_wp2_with fail
   exact HX.out _ _ _ _ _ _ _ _ _
  ·have h61:((d.toNat:Int) == 61) = false:=by rw [beq_eq_false_iff_ne];intro e;exact e61 (by rw [← UInt8.toNat_inj];exact Int.ofNat.inj e)
   rw [eqB_ne y2 e61] at HX
   go_wp2_with fail
   exact HX.out _ _ _ _ _ _ _ _ _
set_option maxRecDepth 1000000 in
set_option maxHeartbeats 4000000 in
theorem lkR49 (p:ByteArray) (w1 wx:World) (ya yb yd:List UInt8) (L:Nat) (hA:LkA w1 p ya yb L yd wx) (nm:List UInt8) (names:List (List UInt8)) (pn:Option Addr) (ln cn:Nat) (eln:ln = names.length) (hn:names.length≤4000) (hr:NRow wx pn names) (c0 c1 c2 c3 c4 c5 c6 c7 c8 c9 c10 c11 c13 c15 c17 c18 c19 c20 c21 c22 c23 c24 c25 c26 c27 c28 c29 c30 c31 c32 c33 c34 c35 c36 c37 c38 c39 c40 c41 c42 c43 c44 c45 c46 c47 c48 c49 c50 c51 c52 c53 c54 c55 c56 c57 c58 c59 c60 c61 c62 c63 c64 c65 c66 c67 c68 c69 c70 c71 c72 c73 c74 c75 c76 c77 c78 c79 c80 c81 c82 c83 c84 c85 c86 c87 c88 c89 c90 c91 c92 c93 c94 c95 c96 c97 c98 c99 c100 c101 c102 c103 c104 c105 c106 c107 c108 c109 c110 c111 c112 c113 c114 c115 c116 c117 c118 c119 c120 c121 c122 c123 c124 c125 c126 c127 c128 c129 c130 c131 c132 c133 c134 c135 c136 c137 c138 c139 c140 c141 c142 c143 c144 c145 c146 c147 c148 c149 c150 c151 c152 c153 c154 c155 c156 c157 c158 c159 c160 c161 c162 c163 c164 c165 c166 c167 c168 c169 c170 c171 c172 c173 c174 c175 c176 c177 c178 c179 c180 c181 c182 c183 c184 c185 c186 c187 c188 c189 c190 c191 c192 c193 c194 c195 c196 c197 c198 c199 c200 c201 c202 c203 c204 c205 c206 c207 c208 c209 c210 c211 c212 c213 c214 c215 c216 c217 c218 c219 c220 c221 c222 c223 c224 c225 c226 c227 c228 c229 c230 c231 c232 c233 c234 c235 c236 c237 c238 c239 c240 c241 c242 c243 c244 c245 c246 c247 c248 c249 c250 c251 c252 c253 c254 c255 c256 c257 c258 c259 c260 c261 c262 c263 c264 c265 c266 c267 c268 c269 c270 c271 c272 c273 c274 c275 c276 c277 c278 c279 c280 c281 c282 c283 c284 c285 c286 c287 c288 c289 c290 c291 c292 c293 c294 c295 c296 c297 c298 c299 c300 c301 c302 c303 c304 c305 c306 c307 c308 c309 c310 c311 c312 c313 c314 c315 c316 c317 c318 c319 c320 c321 c322 c323 c324 c325 c326:Value) (Q:Exit→Act→World→Prop)
  (hexit:∀ u278 u279 u280 u281 u282 u283 u284 u285 u286 u287 u288 u289 u290 u291 u292 u293:Value,∀ (b:Bool) (x:LK),LkX p yb L wx nm names b x→Q .normal ⟨(c0::c1::c2::c3::c4::c5::c6::c7::c8::c9::c10::c11::.slice pn ln cn::c13::.string (lba nm)::c15::.pointer (some ⟨L,0,none⟩)::c17::c18::c19::c20::c21::c22::c23::c24::c25::c26::c27::c28::c29::c30::c31::c32::c33::c34::c35::c36::c37::c38::c39::c40::c41::c42::c43::c44::c45::c46::c47::c48::c49::c50::c51::c52::c53::c54::c55::c56::c57::c58::c59::c60::c61::c62::c63::c64::c65::c66::c67::c68::c69::c70::c71::c72::c73::c74::c75::c76::c77::c78::c79::c80::c81::c82::c83::c84::c85::c86::c87::c88::c89::c90::c91::c92::c93::c94::c95::c96::c97::c98::c99::c100::c101::c102::c103::c104::c105::c106::c107::c108::c109::c110::c111::c112::c113::c114::c115::c116::c117::c118::c119::c120::c121::c122::c123::c124::c125::c126::c127::c128::c129::c130::c131::c132::c133::c134::c135::c136::c137::c138::c139::c140::c141::c142::c143::c144::c145::c146::c147::c148::c149::c150::c151::c152::c153::c154::c155::c156::c157::c158::c159::c160::c161::c162::c163::c164::c165::c166::c167::c168::c169::c170::c171::c172::c173::c174::c175::c176::c177::c178::c179::c180::c181::c182::c183::c184::c185::c186::c187::c188::c189::c190::c191::c192::c193::c194::c195::c196::c197::c198::c199::c200::c201::c202::c203::c204::c205::c206::c207::c208::c209::c210::c211::c212::c213::c214::c215::c216::c217::c218::c219::c220::c221::c222::c223::c224::c225::c226::c227::c228::c229::c230::c231::c232::c233::c234::c235::c236::c237::c238::c239::c240::c241::c242::c243::c244::c245::c246::c247::c248::c249::c250::c251::c252::c253::c254::c255::c256::c257::c258::c259::c260::c261::c262::c263::c264::c265::c266::c267::c268::c269::c270::c271::c272::c273::c274::c275::c276::c277::u278::u279::u280::u281::u282::u283::u284::u285::u286::u287::u288::u289::u290::u291::u292::u293::.bool b::c295::c296::c297::c298::c299::c300::c301::c302::c303::c304::c305::c306::c307::c308::c309::c310::c311::c312::c313::c314::c315::c316::c317::c318::c319::c320::c321::c322::c323::c324::c325::c326::[]).toArray,[]⟩ wx) :
  Code.wp Tryz.prog (regAt Tryz.f58 49) Q ⟨(c0::c1::c2::c3::c4::c5::c6::c7::c8::c9::c10::c11::.slice pn ln cn::c13::.string (lba nm)::c15::.pointer (some ⟨L,0,none⟩)::c17::c18::c19::c20::c21::c22::c23::c24::c25::c26::c27::c28::c29::c30::c31::c32::c33::c34::c35::c36::c37::c38::c39::c40::c41::c42::c43::c44::c45::c46::c47::c48::c49::c50::c51::c52::c53::c54::c55::c56::c57::c58::c59::c60::c61::c62::c63::c64::c65::c66::c67::c68::c69::c70::c71::c72::c73::c74::c75::c76::c77::c78::c79::c80::c81::c82::c83::c84::c85::c86::c87::c88::c89::c90::c91::c92::c93::c94::c95::c96::c97::c98::c99::c100::c101::c102::c103::c104::c105::c106::c107::c108::c109::c110::c111::c112::c113::c114::c115::c116::c117::c118::c119::c120::c121::c122::c123::c124::c125::c126::c127::c128::c129::c130::c131::c132::c133::c134::c135::c136::c137::c138::c139::c140::c141::c142::c143::c144::c145::c146::c147::c148::c149::c150::c151::c152::c153::c154::c155::c156::c157::c158::c159::c160::c161::c162::c163::c164::c165::c166::c167::c168::c169::c170::c171::c172::c173::c174::c175::c176::c177::c178::c179::c180::c181::c182::c183::c184::c185::c186::c187::c188::c189::c190::c191::c192::c193::c194::c195::c196::c197::c198::c199::c200::c201::c202::c203::c204::c205::c206::c207::c208::c209::c210::c211::c212::c213::c214::c215::c216::c217::c218::c219::c220::c221::c222::c223::c224::c225::c226::c227::c228::c229::c230::c231::c232::c233::c234::c235::c236::c237::c238::c239::c240::c241::c242::c243::c244::c245::c246::c247::c248::c249::c250::c251::c252::c253::c254::c255::c256::c257::c258::c259::c260::c261::c262::c263::c264::c265::c266::c267::c268::c269::c270::c271::c272::c273::c274::c275::c276::c277::c278::c279::c280::c281::c282::c283::c284::c285::c286::c287::c288::c289::c290::c291::c292::c293::c294::c295::c296::c297::c298::c299::c300::c301::c302::c303::c304::c305::c306::c307::c308::c309::c310::c311::c312::c313::c314::c315::c316::c317::c318::c319::c320::c321::c322::c323::c324::c325::c326::[]).toArray,[]⟩ wx:=by
 have HX:Hid _:=hexit
 clear hexit
 conv=>arg 2;whnf
 have CC:Hid (Calls Tryz.prog 113 #[.slice pn ln cn,.string (lba nm)] wx fun e w'=>e = .returned (.bool (names.contains nm))∧w' = wx):=containsText_any pn ln cn names eln nm wx (by omega) hr
 have eh:=str_href (lba nm)
 have es:=str_src (lba nm)
 rw [lba_data] at eh es
 obtain ⟨NS,hNS⟩:∃ S,lba nm = S:=⟨_,rfl⟩
 rw [hNS] at CC eh es HX ⊢
 obtain ⟨cn0,hcn0⟩:∃ b,names.contains nm = b:=⟨_,rfl⟩
 have HCN:Hid (names.contains nm = cn0):=hcn0
 rw [hcn0] at CC
 clear hcn0 hNS eln hr
 rcases hA.2.2 with ⟨h5,h6,h7⟩ | ⟨y2,h5,h6,h7⟩
 ·obtain ⟨z0,z1,z2,zf⟩:=lcells3 h7
  have HX0:LkX p yb L wx nm names false (0,[]):=Or.inl ⟨h5,rfl⟩
  clear h5 h6 h7 zf z1 z2
  by_cases hh:nm = hrefL
  ·rw [decide_eq_true hh] at eh
   clear hh
   go_wp2_with fail
   exact HX.out _ _ _ _ _ _ _ _ _ _ _ _ _ _ _ _ _ _ HX0
  ·rw [decide_eq_false hh] at eh
   by_cases hs2:nm = srcL
   ·rw [decide_eq_true hs2] at es
    clear hh hs2
    go_wp2_with fail
    exact HX.out _ _ _ _ _ _ _ _ _ _ _ _ _ _ _ _ _ _ HX0
   ·rw [decide_eq_false hs2] at es
    clear hh hs2
    go_wp2_with fail
    exact HX.out _ _ _ _ _ _ _ _ _ _ _ _ _ _ _ _ _ _ HX0
 ·obtain ⟨z0,z1,z2,zf⟩:=lcells3 h7
  have HXE:Hid (∀ b,b = ((decide (nm = hrefL) || decide (nm = srcL)) && !names.contains nm)→LkX p yb L wx nm names b (valK y2)):=fun b hb=>Or.inr ⟨y2,h5,rfl,hb,h7⟩
  obtain ⟨K0,hK0⟩:∃ K,pos p (valP (y2.dropWhile spB)).1 = K:=⟨_,rfl⟩
  rw [hK0] at z0
  have hge:decide ((0:Int)≤(K0:Int)) = true:=by simp
  have hge2:(0:Int)≤(K0:Int):=by omega
  clear h5 h6 h7 zf z1 z2 hK0
  by_cases hh:nm = hrefL
  ·rw [decide_eq_true hh] at eh
   have HX0:LkX p yb L wx nm names (!cn0) (valK y2):=HXE.out _ (by rw [decide_eq_true hh,HCN.out];simp)
   clear hh HXE
   go_wp2_with fail
   refine CC.out.mono ?_
   rintro e w' ⟨rfl,hw'⟩
   have hw'':=hw'.symm
   subst hw''
   go_wp2_with fail
   exact HX.out _ _ _ _ _ _ _ _ _ _ _ _ _ _ _ _ _ _ HX0
  ·rw [decide_eq_false hh] at eh
   by_cases hs2:nm = srcL
   ·rw [decide_eq_true hs2] at es
    have HX0:LkX p yb L wx nm names (!cn0) (valK y2):=HXE.out _ (by rw [decide_eq_true hs2,HCN.out];simp)
    clear hh hs2 HXE
    go_wp2_with fail
    refine CC.out.mono ?_
    rintro e w' ⟨rfl,hw'⟩
    have hw'':=hw'.symm
    subst hw''
    go_wp2_with fail
    exact HX.out _ _ _ _ _ _ _ _ _ _ _ _ _ _ _ _ _ _ HX0
   ·rw [decide_eq_false hs2] at es
    have HX0:LkX p yb L wx nm names false (valK y2):=HXE.out _ (by rw [decide_eq_false hh,decide_eq_false hs2];simp)
    clear hh hs2 HXE
    go_wp2_with fail
    exact HX.out _ _ _ _ _ _ _ _ _ _ _ _ _ _ _ _ _ _ HX0
end Go.Proofs.YtbbfcbodhmeanaaGreatDoor


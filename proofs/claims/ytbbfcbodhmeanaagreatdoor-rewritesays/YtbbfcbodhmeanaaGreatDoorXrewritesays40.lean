
import Derived.Test.YtbbfcbodhmeanaaGreatDoorXrewritesays39
namespace Go.Proofs.YtbbfcbodhmeanaaGreatDoor
open Go.RowKit
set_option maxRecDepth 1000000 in
set_option maxHeartbeats 8000000 in
theorem lkVal (g:Nat) (p:ByteArray) (hp:p.size≤4000) (ya yb:List UInt8) (hSu1:Suf p ya) (hSu2:Suf p yb) (w1 wc:World) (L:Nat) (B2:Below L w1 wc) (Q2:wc.heap[L]? = some (.cells #[.int .i64 (-1),.int .i64 0,.string ⟨#[]⟩] 40)) (hLg:g ≠ L) (hg2:wc.cell? ⟨g,0,none⟩ = some (.string p)) (c0 c1 c2 c3 c4 c7 c8 c10 c11 c12 c13 c14 c17 c18 c19 c20 c21 c22 c23 c24 c25 c26 c27 c28 c29 c30 c31 c32 c33 c34 c35 c36 c37 c38 c39 c40 c41 c42 c43 c44 c45 c46 c47 c48 c49 c50 c51 c52 c53 c54 c55 c56 c57 c58 c59 c60 c61 c62 c63 c64 c65 c66 c67 c68 c69 c70 c71 c72 c73 c74 c75 c76 c77 c78 c79 c80 c81 c82 c83 c84 c85 c86 c87 c88 c89 c90 c91 c92 c93 c94 c95 c96 c97 c98 c99 c100 c101 c102 c103 c104 c105 c106 c107 c108 c109 c110 c111 c112 c113 c114 c115 c116 c117 c118 c119 c120 c121 c122 c123 c124 c125 c126 c127 c128 c129 c130 c131 c132 c133 c134 c135 c136 c137 c138 c139 c140 c141 c142 c143 c144 c145 c146 c147 c148 c149 c150 c151 c152 c153 c154 c155 c156 c157 c158 c159 c160 c161 c162 c163 c164 c165 c166 c167 c168 c169 c170 c171 c172 c173 c174 c175 c176 c177 c178 c179 c180 c181 c182 c183 c184 c185 c186 c187 c188 c189 c190 c191 c192 c193 c194 c195 c197 c198 c199 c200 c201 c202 c203 c204 c205 c206 c207 c208 c209 c210 c211 c212 c213 c214 c215 c216 c217 c218 c219 c220 c221 c222 c223 c224 c225 c226 c227 c228 c229 c230 c231 c232 c233 c234 c235 c236 c237 c238 c239 c240 c241 c242 c243 c244 c245 c246 c247 c248 c249 c250 c251 c252 c253 c254 c255 c256 c257 c258 c259 c260 c261 c262 c263 c264 c265 c266 c267 c268 c269 c270 c271 c272 c273 c274 c275 c276 c277 c278 c279 c280 c281 c282 c283 c284 c285 c286 c287 c288 c289 c290 c291 c292 c293 c294 c295 c296 c297 c298 c299 c300 c301 c302 c303 c304 c305 c306 c307 c308 c309 c310 c311 c312 c313 c314 c315 c316 c317 c318 c319 c320 c321 c322 c323 c324 c325 c326:Value) (Q:Exit→Act→World→Prop)
  (hexit:∀ u15 u197 u198 u199 u200 u201 u202 u203 u204 u205 u206 u207 u208 u209 u210 u211 u212 u213 u214 u215 u216 u217 u218 u219 u220 u221 u222 u223 u224 u225 u226 u227 u228 u229 u230 u231 u232 u233 u234 u235 u236 u237 u238 u239 u240 u241 u242 u243 u244 u245 u246 u247 u248 u249 u250 u251 u252 u253 u254 u255 u256 u257 u258 u259 u260 u261 u262 u263 u264 u265 u266 u267 u268 u269 u270 u271 u272 u273 u274 u275 u276 u277:Value,∀ (yd:List UInt8) (wx:World),LkA w1 p ya yb L yd wx→Q .normal ⟨(c0::c1::c2::c3::c4::.pointer (some ⟨g,0,none⟩)::.func (Fn.func 109) #[] #[.pointer (some ⟨g,0,none⟩)]::c7::c8::.int .i64 ((pos p yd:Nat):Int)::c10::c11::c12::c13::c14::u15::.pointer (some ⟨L,0,none⟩)::c17::c18::c19::c20::c21::c22::c23::c24::c25::c26::c27::c28::c29::c30::c31::c32::c33::c34::c35::c36::c37::c38::c39::c40::c41::c42::c43::c44::c45::c46::c47::c48::c49::c50::c51::c52::c53::c54::c55::c56::c57::c58::c59::c60::c61::c62::c63::c64::c65::c66::c67::c68::c69::c70::c71::c72::c73::c74::c75::c76::c77::c78::c79::c80::c81::c82::c83::c84::c85::c86::c87::c88::c89::c90::c91::c92::c93::c94::c95::c96::c97::c98::c99::c100::c101::c102::c103::c104::c105::c106::c107::c108::c109::c110::c111::c112::c113::c114::c115::c116::c117::c118::c119::c120::c121::c122::c123::c124::c125::c126::c127::c128::c129::c130::c131::c132::c133::c134::c135::c136::c137::c138::c139::c140::c141::c142::c143::c144::c145::c146::c147::c148::c149::c150::c151::c152::c153::c154::c155::c156::c157::c158::c159::c160::c161::c162::c163::c164::c165::c166::c167::c168::c169::c170::c171::c172::c173::c174::c175::c176::c177::c178::c179::c180::c181::c182::c183::c184::c185::c186::c187::c188::c189::c190::c191::c192::c193::c194::c195::.bool (eqB yb)::u197::u198::u199::u200::u201::u202::u203::u204::u205::u206::u207::u208::u209::u210::u211::u212::u213::u214::u215::u216::u217::u218::u219::u220::u221::u222::u223::u224::u225::u226::u227::u228::u229::u230::u231::u232::u233::u234::u235::u236::u237::u238::u239::u240::u241::u242::u243::u244::u245::u246::u247::u248::u249::u250::u251::u252::u253::u254::u255::u256::u257::u258::u259::u260::u261::u262::u263::u264::u265::u266::u267::u268::u269::u270::u271::u272::u273::u274::u275::u276::u277::c278::c279::c280::c281::c282::c283::c284::c285::c286::c287::c288::c289::c290::c291::c292::c293::c294::c295::c296::c297::c298::c299::c300::c301::c302::c303::c304::c305::c306::c307::c308::c309::c310::c311::c312::c313::c314::c315::c316::c317::c318::c319::c320::c321::c322::c323::c324::c325::c326::[]).toArray,[]⟩ wx) :
  Code.wp Tryz.prog (condAt Tryz.f58 11) Q ⟨(c0::c1::c2::c3::c4::.pointer (some ⟨g,0,none⟩)::.func (Fn.func 109) #[] #[.pointer (some ⟨g,0,none⟩)]::c7::c8::.int .i64 ((pos p ya:Nat):Int)::c10::c11::c12::c13::c14::.int .i64 ((pos p yb:Nat):Int)::.pointer (some ⟨L,0,none⟩)::c17::c18::c19::c20::c21::c22::c23::c24::c25::c26::c27::c28::c29::c30::c31::c32::c33::c34::c35::c36::c37::c38::c39::c40::c41::c42::c43::c44::c45::c46::c47::c48::c49::c50::c51::c52::c53::c54::c55::c56::c57::c58::c59::c60::c61::c62::c63::c64::c65::c66::c67::c68::c69::c70::c71::c72::c73::c74::c75::c76::c77::c78::c79::c80::c81::c82::c83::c84::c85::c86::c87::c88::c89::c90::c91::c92::c93::c94::c95::c96::c97::c98::c99::c100::c101::c102::c103::c104::c105::c106::c107::c108::c109::c110::c111::c112::c113::c114::c115::c116::c117::c118::c119::c120::c121::c122::c123::c124::c125::c126::c127::c128::c129::c130::c131::c132::c133::c134::c135::c136::c137::c138::c139::c140::c141::c142::c143::c144::c145::c146::c147::c148::c149::c150::c151::c152::c153::c154::c155::c156::c157::c158::c159::c160::c161::c162::c163::c164::c165::c166::c167::c168::c169::c170::c171::c172::c173::c174::c175::c176::c177::c178::c179::c180::c181::c182::c183::c184::c185::c186::c187::c188::c189::c190::c191::c192::c193::c194::c195::.bool (eqB yb)::c197::c198::c199::c200::c201::c202::c203::c204::c205::c206::c207::c208::c209::c210::c211::c212::c213::c214::c215::c216::c217::c218::c219::c220::c221::c222::c223::c224::c225::c226::c227::c228::c229::c230::c231::c232::c233::c234::c235::c236::c237::c238::c239::c240::c241::c242::c243::c244::c245::c246::c247::c248::c249::c250::c251::c252::c253::c254::c255::c256::c257::c258::c259::c260::c261::c262::c263::c264::c265::c266::c267::c268::c269::c270::c271::c272::c273::c274::c275::c276::c277::c278::c279::c280::c281::c282::c283::c284::c285::c286::c287::c288::c289::c290::c291::c292::c293::c294::c295::c296::c297::c298::c299::c300::c301::c302::c303::c304::c305::c306::c307::c308::c309::c310::c311::c312::c313::c314::c315::c316::c317::c318::c319::c320::c321::c322::c323::c324::c325::c326::[]).toArray,[]⟩ wc:=by
 have HX:Hid _:=hexit
 clear hexit
 conv=>arg 2;whnf
 cases hE:eqB yb with
 | false =>
  have HR:LkA w1 p ya yb L ya wc:=⟨B2,hSu1,Or.inl ⟨hE,rfl,Q2⟩⟩
  rw [hE] at HX
  clear hE
  go_wp2_with fail
  exact HX.out _ _ _ _ _ _ _ _ _ _ _ _ _ _ _ _ _ _ _ _ _ _ _ _ _ _ _ _ _ _ _ _ _ _ _ _ _ _ _ _ _ _ _ _ _ _ _ _ _ _ _ _ _ _ _ _ _ _ _ _ _ _ _ _ _ _ _ _ _ _ _ _ _ _ _ _ _ _ _ _ _ _ _ _ HR
 | true =>
  rw [hE] at HX
  obtain ⟨y2,rfl⟩:=eqB_true hE
  obtain ⟨kb,ekb,hkb,hpb,hnb⟩:=at_byte hSu2
  have hnx2:(kb:Int) + 1 = ((pos p y2:Nat):Int):=by rw [hnb];rfl
  have hw2:IntKind.i64.wrap ((kb:Int) + 1) = ((kb + 1:Nat):Int):=by rw [IntKind.wrap_i64];omega
  have hSy2:Suf p y2:=hSu2.tl
  have HNX2:Hid ((kb:Int) + 1 = ((pos p y2:Nat):Int)):=hnx2
  rw [ekb]
  clear hE hnb ekb hpb hnx2
  go_wp2_with fail
  rw [HNX2.out]
  refine lk7 g p hp y2 hSy2 wc hg2 _ _ _ _ _ _ _ _ _ _ _ _ _ _ _ _ _ _ _ _ _ _ _ _ _ _ _ _ _ _ _ _ _ _ _ _ _ _ _ _ _ _ _ _ _ _ _ _ _ _ _ _ _ _ _ _ _ _ _ _ _ _ _ _ _ _ _ _ _ _ _ _ _ _ _ _ _ _ _ _ _ _ _ _ _ _ _ _ _ _ _ _ _ _ _ _ _ _ _ _ _ _ _ _ _ _ _ _ _ _ _ _ _ _ _ _ _ _ _ _ _ _ _ _ _ _ _ _ _ _ _ _ _ _ _ _ _ _ _ _ _ _ _ _ _ _ _ _ _ _ _ _ _ _ _ _ _ _ _ _ _ _ _ _ _ _ _ _ _ _ _ _ _ _ _ _ _ _ _ _ _ _ _ _ _ _ _ _ _ _ _ _ _ _ _ _ _ _ _ _ _ _ _ _ _ _ _ _ _ _ _ _ _ _ _ _ _ _ _ _ _ _ _ _ _ _ _ _ _ _ _ _ _ _ _ _ _ _ _ _ _ _ _ _ _ _ _ _ _ _ _ _ _ _ _ _ _ _ _ _ _ _ _ _ _ _ _ _ _ _ _ _ _ _ _ _ _ _ _ _ _ _ _ _ _ _ _ _ _ _ _ _ _ _ _ _ _ _ _ _ _ _ _ _ _ _ _ _ _ _ _ _ _ _ _ _ _ _ _ _ _ _ _ _ _ ?_
  intro q199 q200 q201 q202 q203 q204 q205 q206 q207 q208 q209
  obtain ⟨y3,ey3⟩:∃ y,y2.dropWhile spB = y:=⟨_,rfl⟩
  have hSy3:Suf p y3:=by rw [← ey3];exact hSy2.dw _
  have HY3:Hid (y2.dropWhile spB = y3):=ey3
  rw [ey3]
  clear ey3 hw2 HNX2
  obtain ⟨z0,z1,z2,zf⟩:=lcells3 Q2
  have zf0:=zf 0
  have zf1:=zf 1
  have HSG:Hid (∀ v,(wc.setCell ⟨L,0,none⟩ v).cell? ⟨g,0,none⟩ = some (.string p)):=fun v=>(World.cell?_setCell_other _ _ _ _ (fun e=>hLg (by injection e with e _ _;exact e.symm))).trans hg2
  have HQ2:Hid (wc.heap[L]? = some (.cells #[.int .i64 (-1),.int .i64 0,.string ⟨#[]⟩] 40)):=Q2
  have HLE:Hid (∀ x y:Int,Below L w1 ((wc.setCell ⟨L,0,none⟩ (.int .i64 x)).setCell ⟨L,1,none⟩ (.int .i64 y))∧((wc.setCell ⟨L,0,none⟩ (.int .i64 x)).setCell ⟨L,1,none⟩ (.int .i64 y)).heap[L]? = some (.cells #[.int .i64 x,.int .i64 y,.string ⟨#[]⟩] 40)):=fun x y=>⟨(B2.setCell (p:=⟨L,0,none⟩) (Nat.le_refl _) _).setCell (p:=⟨L,1,none⟩) (Nat.le_refl _) _,link_set Q2 _ _⟩
  clear zf B2 Q2
  cases y3 with
  | nil =>
   have HR:Hid (LkA w1 p ya (61::y2) L [] ((wc.setCell ⟨L,0,none⟩ (.int .i64 (p.size:Int))).setCell ⟨L,1,none⟩ (.int .i64 (p.size:Int)))):=⟨(HLE.out _ _).1,hSy3,Or.inr ⟨y2,rfl,by rw [HY3.out];rfl,by rw [HY3.out];exact (HLE.out _ _).2⟩⟩
   have hk0:pos p [] = p.size:=rfl
   rw [hk0]
   have hki0:decide ((p.size:Int) < (p.size:Int)) = false:=by simp
   clear hk0 HLE HY3
   go_wp2_with fail
   refine lk8 g p hp [] hSy3 _ (HSG.out _) _ _ _ _ _ _ _ _ _ _ _ _ _ _ _ _ _ _ _ _ _ _ _ _ _ _ _ _ _ _ _ _ _ _ _ _ _ _ _ _ _ _ _ _ _ _ _ _ _ _ _ _ _ _ _ _ _ _ _ _ _ _ _ _ _ _ _ _ _ _ _ _ _ _ _ _ _ _ _ _ _ _ _ _ _ _ _ _ _ _ _ _ _ _ _ _ _ _ _ _ _ _ _ _ _ _ _ _ _ _ _ _ _ _ _ _ _ _ _ _ _ _ _ _ _ _ _ _ _ _ _ _ _ _ _ _ _ _ _ _ _ _ _ _ _ _ _ _ _ _ _ _ _ _ _ _ _ _ _ _ _ _ _ _ _ _ _ _ _ _ _ _ _ _ _ _ _ _ _ _ _ _ _ _ _ _ _ _ _ _ _ _ _ _ _ _ _ _ _ _ _ _ _ _ _ _ _ _ _ _ _ _ _ _ _ _ _ _ _ _ _ _ _ _ _ _ _ _ _ _ _ _ _ _ _ _ _ _ _ _ _ _ _ _ _ _ _ _ _ _ _ _ _ _ _ _ _ _ _ _ _ _ _ _ _ _ _ _ _ _ _ _ _ _ _ _ _ _ _ _ _ _ _ _ _ _ _ _ _ _ _ _ _ _ _ _ _ _ _ _ _ _ _ _ _ _ _ _ _ _ _ _ _ _ _ _ _ _ _ _ _ _ _ _ _ ?_
   intro q258 q259 q260 q261 q262 q263 q264 q265 q266 q267 q268 q269 q270 q271 q272 q273 q274 q275
   rw [show List.dropWhile inBare [] = [] from rfl,show pos p [] = p.size from rfl]
   go_wp2_with fail
   exact HX.out _ _ _ _ _ _ _ _ _ _ _ _ _ _ _ _ _ _ _ _ _ _ _ _ _ _ _ _ _ _ _ _ _ _ _ _ _ _ _ _ _ _ _ _ _ _ _ _ _ _ _ _ _ _ _ _ _ _ _ _ _ _ _ _ _ _ _ _ _ _ _ _ _ _ _ _ _ _ _ _ _ _ [] _ HR.out
  | cons q y4 =>
   obtain ⟨kq,ekq,hkq,hpq,hnq⟩:=at_byte hSy3
   have hkqi:(kq:Int) < (p.size:Int):=by omega
   clear hnq
   by_cases hqq:qB q = true
   ·have hval:=valP_q (q:=q) y4 hqq
    have hpy:=(quote_texts hSy3).2.2
    have HR:Hid (LkA w1 p ya (61::y2) L ((y4.dropWhile (notQ q)).drop 1) ((wc.setCell ⟨L,0,none⟩ (.int .i64 ((pos p (q::y4) + 1:Nat):Int))).setCell ⟨L,1,none⟩ (.int .i64 ((pos p (q::y4) + 1 + (y4.takeWhile (notQ q)).length:Nat):Int))).drew):=⟨(HLE.out _ _).1.drew,(hSy3.tl.dw _).dr 1,Or.inr ⟨y2,rfl,by rw [HY3.out,hval],by rw [HY3.out,hval];show _ = some (Obj.cells #[.int .i64 ((pos p y4:Nat):Int),.int .i64 ((pos p y4 + (y4.takeWhile (notQ q)).length:Nat):Int),_] _);rw [hpy];exact (HLE.out _ _).2⟩⟩
    rcases (show q = 34 ∨ q = 39 by simpa [qB] using hqq) with rfl | rfl
    ·clear hval hpy HLE HY3 hqq
     rw [ekq]
     go_upto_if 225 with fail
     rw [← ekq]
     refine lkQ g p hp 34 y4 hSy3 wc hg2 L _ _ _ HQ2.out hLg _ _ _ _ _ _ _ _ _ _ _ _ _ _ _ _ _ _ _ _ _ _ _ _ _ _ _ _ _ _ _ _ _ _ _ _ _ _ _ _ _ _ _ _ _ _ _ _ _ _ _ _ _ _ _ _ _ _ _ _ _ _ _ _ _ _ _ _ _ _ _ _ _ _ _ _ _ _ _ _ _ _ _ _ _ _ _ _ _ _ _ _ _ _ _ _ _ _ _ _ _ _ _ _ _ _ _ _ _ _ _ _ _ _ _ _ _ _ _ _ _ _ _ _ _ _ _ _ _ _ _ _ _ _ _ _ _ _ _ _ _ _ _ _ _ _ _ _ _ _ _ _ _ _ _ _ _ _ _ _ _ _ _ _ _ _ _ _ _ _ _ _ _ _ _ _ _ _ _ _ _ _ _ _ _ _ _ _ _ _ _ _ _ _ _ _ _ _ _ _ _ _ _ _ _ _ _ _ _ _ _ _ _ _ _ _ _ _ _ _ _ _ _ _ _ _ _ _ _ _ _ _ _ _ _ _ _ _ _ _ _ _ _ _ _ _ _ _ _ _ _ _ _ _ _ _ _ _ _ _ _ _ _ _ _ _ _ _ _ _ _ _ _ _ _ _ _ _ _ _ _ _ _ _ _ _ _ _ _ _ _ _ _ _ _ _ _ _ _ _ _ _ _ _ _ _ _ _ _ _ _ _ _ _ _ _ _ _ _ _ _ _ _ _ ?_
     intro q226 q227 q228 q229 q230 q231 q232 q233 q234 q235 q236 q237 q238 q239 q240 q241 q242 q243 q244 q245 q246 q247 q248 q249 q250 q251 q252 q253 q254
     go_wp2_with fail
     exact HX.out _ _ _ _ _ _ _ _ _ _ _ _ _ _ _ _ _ _ _ _ _ _ _ _ _ _ _ _ _ _ _ _ _ _ _ _ _ _ _ _ _ _ _ _ _ _ _ _ _ _ _ _ _ _ _ _ _ _ _ _ _ _ _ _ _ _ _ _ _ _ _ _ _ _ _ _ _ _ _ _ _ _ _ _ HR.out
    ·clear hval hpy HLE HY3 hqq
     rw [ekq]
     go_upto_if 225 with fail
     rw [← ekq]
     refine lkQ g p hp 39 y4 hSy3 wc hg2 L _ _ _ HQ2.out hLg _ _ _ _ _ _ _ _ _ _ _ _ _ _ _ _ _ _ _ _ _ _ _ _ _ _ _ _ _ _ _ _ _ _ _ _ _ _ _ _ _ _ _ _ _ _ _ _ _ _ _ _ _ _ _ _ _ _ _ _ _ _ _ _ _ _ _ _ _ _ _ _ _ _ _ _ _ _ _ _ _ _ _ _ _ _ _ _ _ _ _ _ _ _ _ _ _ _ _ _ _ _ _ _ _ _ _ _ _ _ _ _ _ _ _ _ _ _ _ _ _ _ _ _ _ _ _ _ _ _ _ _ _ _ _ _ _ _ _ _ _ _ _ _ _ _ _ _ _ _ _ _ _ _ _ _ _ _ _ _ _ _ _ _ _ _ _ _ _ _ _ _ _ _ _ _ _ _ _ _ _ _ _ _ _ _ _ _ _ _ _ _ _ _ _ _ _ _ _ _ _ _ _ _ _ _ _ _ _ _ _ _ _ _ _ _ _ _ _ _ _ _ _ _ _ _ _ _ _ _ _ _ _ _ _ _ _ _ _ _ _ _ _ _ _ _ _ _ _ _ _ _ _ _ _ _ _ _ _ _ _ _ _ _ _ _ _ _ _ _ _ _ _ _ _ _ _ _ _ _ _ _ _ _ _ _ _ _ _ _ _ _ _ _ _ _ _ _ _ _ _ _ _ _ _ _ _ _ _ _ _ _ _ _ _ _ _ _ _ _ _ _ _ _ ?_
     intro q226 q227 q228 q229 q230 q231 q232 q233 q234 q235 q236 q237 q238 q239 q240 q241 q242 q243 q244 q245 q246 q247 q248 q249 q250 q251 q252 q253 q254
     go_wp2_with fail
     exact HX.out _ _ _ _ _ _ _ _ _ _ _ _ _ _ _ _ _ _ _ _ _ _ _ _ _ _ _ _ _ _ _ _ _ _ _ _ _ _ _ _ _ _ _ _ _ _ _ _ _ _ _ _ _ _ _ _ _ _ _ _ _ _ _ _ _ _ _ _ _ _ _ _ _ _ _ _ _ _ _ _ _ _ _ _ HR.out
   ·subst ekq
    have n34:¬ q = 34:=fun e=>hqq (by rw [e];rfl)
    have n39:¬ q = 39:=fun e=>hqq (by rw [e];rfl)
    have h34:((q.toNat:Int) == 34) = false:=by rw [beq_eq_false_iff_ne];intro e;exact n34 (by rw [← UInt8.toNat_inj];exact Int.ofNat.inj e)
    have h39:((q.toNat:Int) == 39) = false:=by rw [beq_eq_false_iff_ne];intro e;exact n39 (by rw [← UInt8.toNat_inj];exact Int.ofNat.inj e)
    obtain ⟨y5,ey5⟩:∃ y,(q::y4).dropWhile inBare = y:=⟨_,rfl⟩
    have hval:valP (q::y4) = (q::y4,(q::y4).takeWhile inBare,y5):=by rw [← ey5];show (if qB q = true then _ else _) = _;rw [if_neg hqq]
    have hps:pos p y5 = pos p (q::y4) + ((q::y4).takeWhile inBare).length:=by rw [← ey5];exact pos_plus hSy3 (tw_dw inBare (q::y4))
    have HR:Hid (LkA w1 p ya (61::y2) L y5 ((wc.setCell ⟨L,0,none⟩ (.int .i64 ((pos p (q::y4):Nat):Int))).setCell ⟨L,1,none⟩ (.int .i64 ((pos p y5:Nat):Int)))):=⟨(HLE.out _ _).1,by rw [← ey5];exact hSy3.dw _,Or.inr ⟨y2,rfl,by rw [HY3.out,hval],by rw [HY3.out,hval];show _ = some (Obj.cells #[_,.int .i64 ((pos p (q::y4) + ((q::y4).takeWhile inBare).length:Nat):Int),_] _);rw [← hps];exact (HLE.out _ _).2⟩⟩
    have HY5:Hid ((q::y4).dropWhile inBare = y5):=ey5
    clear hps hval HLE HY3 n34 n39 hqq ey5
    go_wp2_with fail
    refine lk8 g p hp (q::y4) hSy3 _ (HSG.out _) _ _ _ _ _ _ _ _ _ _ _ _ _ _ _ _ _ _ _ _ _ _ _ _ _ _ _ _ _ _ _ _ _ _ _ _ _ _ _ _ _ _ _ _ _ _ _ _ _ _ _ _ _ _ _ _ _ _ _ _ _ _ _ _ _ _ _ _ _ _ _ _ _ _ _ _ _ _ _ _ _ _ _ _ _ _ _ _ _ _ _ _ _ _ _ _ _ _ _ _ _ _ _ _ _ _ _ _ _ _ _ _ _ _ _ _ _ _ _ _ _ _ _ _ _ _ _ _ _ _ _ _ _ _ _ _ _ _ _ _ _ _ _ _ _ _ _ _ _ _ _ _ _ _ _ _ _ _ _ _ _ _ _ _ _ _ _ _ _ _ _ _ _ _ _ _ _ _ _ _ _ _ _ _ _ _ _ _ _ _ _ _ _ _ _ _ _ _ _ _ _ _ _ _ _ _ _ _ _ _ _ _ _ _ _ _ _ _ _ _ _ _ _ _ _ _ _ _ _ _ _ _ _ _ _ _ _ _ _ _ _ _ _ _ _ _ _ _ _ _ _ _ _ _ _ _ _ _ _ _ _ _ _ _ _ _ _ _ _ _ _ _ _ _ _ _ _ _ _ _ _ _ _ _ _ _ _ _ _ _ _ _ _ _ _ _ _ _ _ _ _ _ _ _ _ _ _ _ _ _ _ _ _ _ _ _ _ _ _ _ _ _ _ _ _ ?_
    intro q258 q259 q260 q261 q262 q263 q264 q265 q266 q267 q268 q269 q270 q271 q272 q273 q274 q275
    rw [HY5.out]
    go_wp2_with fail
    exact HX.out _ _ _ _ _ _ _ _ _ _ _ _ _ _ _ _ _ _ _ _ _ _ _ _ _ _ _ _ _ _ _ _ _ _ _ _ _ _ _ _ _ _ _ _ _ _ _ _ _ _ _ _ _ _ _ _ _ _ _ _ _ _ _ _ _ _ _ _ _ _ _ _ _ _ _ _ _ _ _ _ _ _ y5 _ HR.out
end Go.Proofs.YtbbfcbodhmeanaaGreatDoor



namespace Go.Proofs.YtbbfcbodhmeanaaGreatDoor
open Go.RowKit
set_option maxRecDepth 1000000 in
set_option maxHeartbeats 4000000 in
theorem lk5 (g:Nat) (p:ByteArray) (hp:p.size≤4000) (s:List UInt8) (hS:Suf p s) (w:World) (hg:w.cell? ⟨g,0,none⟩ = some (.string p)) (c0 c1 c2 c3 c4 c7 c8 c10 c11 c12 c13 c14 c15 c16 c17 c18 c19 c20 c21 c22 c23 c24 c25 c26 c27 c28 c29 c30 c31 c32 c33 c34 c35 c36 c37 c38 c39 c40 c41 c42 c43 c44 c45 c46 c47 c48 c49 c50 c51 c52 c53 c54 c55 c56 c57 c58 c59 c60 c61 c62 c63 c64 c65 c66 c67 c68 c69 c70 c71 c72 c73 c74 c75 c76 c77 c78 c79 c80 c81 c82 c83 c84 c85 c86 c87 c88 c89 c90 c91 c92 c93 c94 c95 c96 c97 c98 c99 c100 c101 c102 c103 c104 c105 c106 c107 c108 c109 c110 c111 c112 c113 c114 c115 c116 c117 c118 c119 c120 c121 c122 c123 c124 c125 c126 c127 c128 c129 c130 c131 c132 c133 c134 c135 c136 c137 c138 c139 c140 c141 c142 c143 c144 c145 c146 c147 c148 c149 c150 c151 c152 c153 c154 c155 c156 c157 c158 c159 c160 c161 c162 c163 c164 c165 c166 c167 c168 c169 c170 c171 c172 c173 c174 c175 c176 c177 c178 c179 c180 c181 c182 c183 c184 c185 c186 c187 c188 c189 c190 c191 c192 c193 c194 c195 c196 c197 c198 c199 c200 c201 c202 c203 c204 c205 c206 c207 c208 c209 c210 c211 c212 c213 c214 c215 c216 c217 c218 c219 c220 c221 c222 c223 c224 c225 c226 c227 c228 c229 c230 c231 c232 c233 c234 c235 c236 c237 c238 c239 c240 c241 c242 c243 c244 c245 c246 c247 c248 c249 c250 c251 c252 c253 c254 c255 c256 c257 c258 c259 c260 c261 c262 c263 c264 c265 c266 c267 c268 c269 c270 c271 c272 c273 c274 c275 c276 c277 c278 c279 c280 c281 c282 c283 c284 c285 c286 c287 c288 c289 c290 c291 c292 c293 c294 c295 c296 c297 c298 c299 c300 c301 c302 c303 c304 c305 c306 c307 c308 c309 c310 c311 c312 c313 c314 c315 c316 c317 c318 c319 c320 c321 c322 c323 c324 c325 c326:Value) (Q:Exit→Act→World→Prop)
  (hexit:∀ u139 u140 u141 u142 u143 u144 u145 u146 u147 u148 u149 u150 u151 u152 u153 u154 u155 u156 u157 u158 u159 u160 u161 u162 u163 u164 u165 u166 u167 u168:Value,Q (.exit 8) ⟨(c0::c1::c2::c3::c4::.pointer (some ⟨g,0,none⟩)::.func (Fn.func 109) #[] #[.pointer (some ⟨g,0,none⟩)]::c7::c8::.int .i64 ((pos p (s.dropWhile inAttr):Nat):Int)::c10::c11::c12::c13::c14::c15::c16::c17::c18::c19::c20::c21::c22::c23::c24::c25::c26::c27::c28::c29::c30::c31::c32::c33::c34::c35::c36::c37::c38::c39::c40::c41::c42::c43::c44::c45::c46::c47::c48::c49::c50::c51::c52::c53::c54::c55::c56::c57::c58::c59::c60::c61::c62::c63::c64::c65::c66::c67::c68::c69::c70::c71::c72::c73::c74::c75::c76::c77::c78::c79::c80::c81::c82::c83::c84::c85::c86::c87::c88::c89::c90::c91::c92::c93::c94::c95::c96::c97::c98::c99::c100::c101::c102::c103::c104::c105::c106::c107::c108::c109::c110::c111::c112::c113::c114::c115::c116::c117::c118::c119::c120::c121::c122::c123::c124::c125::c126::c127::c128::c129::c130::c131::c132::c133::c134::c135::c136::c137::c138::u139::u140::u141::u142::u143::u144::u145::u146::u147::u148::u149::u150::u151::u152::u153::u154::u155::u156::u157::u158::u159::u160::u161::u162::u163::u164::u165::u166::u167::u168::c169::c170::c171::c172::c173::c174::c175::c176::c177::c178::c179::c180::c181::c182::c183::c184::c185::c186::c187::c188::c189::c190::c191::c192::c193::c194::c195::c196::c197::c198::c199::c200::c201::c202::c203::c204::c205::c206::c207::c208::c209::c210::c211::c212::c213::c214::c215::c216::c217::c218::c219::c220::c221::c222::c223::c224::c225::c226::c227::c228::c229::c230::c231::c232::c233::c234::c235::c236::c237::c238::c239::c240::c241::c242::c243::c244::c245::c246::c247::c248::c249::c250::c251::c252::c253::c254::c255::c256::c257::c258::c259::c260::c261::c262::c263::c264::c265::c266::c267::c268::c269::c270::c271::c272::c273::c274::c275::c276::c277::c278::c279::c280::c281::c282::c283::c284::c285::c286::c287::c288::c289::c290::c291::c292::c293::c294::c295::c296::c297::c298::c299::c300::c301::c302::c303::c304::c305::c306::c307::c308::c309::c310::c311::c312::c313::c314::c315::c316::c317::c318::c319::c320::c321::c322::c323::c324::c325::c326::[]).toArray,[]⟩ w) :
  Code.wp Tryz.prog (Code.loop (loopAt Tryz.f58 4)) Q ⟨(c0::c1::c2::c3::c4::.pointer (some ⟨g,0,none⟩)::.func (Fn.func 109) #[] #[.pointer (some ⟨g,0,none⟩)]::c7::c8::.int .i64 ((pos p s:Nat):Int)::c10::c11::c12::c13::c14::c15::c16::c17::c18::c19::c20::c21::c22::c23::c24::c25::c26::c27::c28::c29::c30::c31::c32::c33::c34::c35::c36::c37::c38::c39::c40::c41::c42::c43::c44::c45::c46::c47::c48::c49::c50::c51::c52::c53::c54::c55::c56::c57::c58::c59::c60::c61::c62::c63::c64::c65::c66::c67::c68::c69::c70::c71::c72::c73::c74::c75::c76::c77::c78::c79::c80::c81::c82::c83::c84::c85::c86::c87::c88::c89::c90::c91::c92::c93::c94::c95::c96::c97::c98::c99::c100::c101::c102::c103::c104::c105::c106::c107::c108::c109::c110::c111::c112::c113::c114::c115::c116::c117::c118::c119::c120::c121::c122::c123::c124::c125::c126::c127::c128::c129::c130::c131::c132::c133::c134::c135::c136::c137::c138::c139::c140::c141::c142::c143::c144::c145::c146::c147::c148::c149::c150::c151::c152::c153::c154::c155::c156::c157::c158::c159::c160::c161::c162::c163::c164::c165::c166::c167::c168::c169::c170::c171::c172::c173::c174::c175::c176::c177::c178::c179::c180::c181::c182::c183::c184::c185::c186::c187::c188::c189::c190::c191::c192::c193::c194::c195::c196::c197::c198::c199::c200::c201::c202::c203::c204::c205::c206::c207::c208::c209::c210::c211::c212::c213::c214::c215::c216::c217::c218::c219::c220::c221::c222::c223::c224::c225::c226::c227::c228::c229::c230::c231::c232::c233::c234::c235::c236::c237::c238::c239::c240::c241::c242::c243::c244::c245::c246::c247::c248::c249::c250::c251::c252::c253::c254::c255::c256::c257::c258::c259::c260::c261::c262::c263::c264::c265::c266::c267::c268::c269::c270::c271::c272::c273::c274::c275::c276::c277::c278::c279::c280::c281::c282::c283::c284::c285::c286::c287::c288::c289::c290::c291::c292::c293::c294::c295::c296::c297::c298::c299::c300::c301::c302::c303::c304::c305::c306::c307::c308::c309::c310::c311::c312::c313::c314::c315::c316::c317::c318::c319::c320::c321::c322::c323::c324::c325::c326::[]).toArray,[]⟩ w:=by
 have HX:Hid _:=hexit
 clear hexit
 conv=>arg 2;arg 1;whnf
 go_loopw [9] (fun iv wr=>∃ sj:List UInt8,iv = .int .i64 ((pos p sj:Nat):Int)∧Suf p sj∧Hid (s.dropWhile inAttr = sj.dropWhile inAttr)∧wr = w) (fun iv _=>p.size - (intOf iv).toNat)
 case atStart=>exact ⟨s,rfl,hS,rfl,rfl⟩
 case round =>
  obtain ⟨sj,rfl,hSj,HD,rfl⟩:=hrel
  cases sj with
  | nil =>
   have hk:pos p [] = p.size:=rfl
   rw [HD.out] at HX
   rw [show List.dropWhile inAttr [] = [] from rfl,hk] at HX
   rw [hk]
   have hki:decide ((p.size:Int) < (p.size:Int)) = false:=by simp
   clear hS hSj HD hk
   go_wp2_with fail
   exact HX.out _ _ _ _ _ _ _ _ _ _ _ _ _ _ _ _ _ _ _ _ _ _ _ _ _ _ _ _ _ _
  | cons c t =>
   obtain ⟨k,ek,hk,hpc,hnext⟩:=at_byte hSj
   have hki:(k:Int) < (p.size:Int):=by omega
   have hw1:IntKind.i64.wrap ((k:Int) + 1) = ((k + 1:Nat):Int):=by rw [IntKind.wrap_i64];omega
   have CS:Hid (Calls Tryz.prog 109 #[.int .i64 (k:Int),.pointer (some ⟨g,0,none⟩)] wr fun e w'=>e = .returned (.bool (spB c))∧w' = wr):=by rw [← hpc];exact rspace_any g p k hk wr hg
   have hSt:Suf p t:=hSj.tl
   rw [HD.out] at HX
   rw [ek]
   cases hq:inAttr c with
   | true =>
    have HD2:Hid (s.dropWhile inAttr = t.dropWhile inAttr):=by unfold Hid;rw [HD.out,List.dropWhile_cons_of_pos hq]
    clear HD hSj
    have ha:spB c = false∧c ≠ 47∧c ≠ 62∧c ≠ 61:=by simpa [inAttr,and_assoc] using hq
    obtain ⟨hs,n47,n62,n61⟩:=ha
    rw [hs] at CS
    have h47:((c.toNat:Int) != 47) = true:=by rw [bne_iff_ne];intro e;exact n47 (by rw [← UInt8.toNat_inj];exact Int.ofNat.inj e)
    have h62:((c.toNat:Int) != 62) = true:=by rw [bne_iff_ne];intro e;exact n62 (by rw [← UInt8.toNat_inj];exact Int.ofNat.inj e)
    have h61:((c.toNat:Int) != 61) = true:=by rw [bne_iff_ne];intro e;exact n61 (by rw [← UInt8.toNat_inj];exact Int.ofNat.inj e)
    go_wp2_with fail
    refine CS.out.mono ?_
    rintro e w' ⟨rfl,hw'⟩
    have hw'':=hw'.symm
    subst hw''
    clear CS
    go_wp2_with fail
    go_roundw
    case rel=>exact ⟨t,by rw [hnext];rfl,hSt,HD2,trivial⟩
    case measure=>simp [intOf];omega
   | false =>
    rw [List.dropWhile_cons_of_neg (by rw [hq];simp),ek] at HX
    clear HD hSj hSt hnext
    by_cases hs:spB c = true
    ·rw [hs] at CS
     go_wp2_with fail
     refine CS.out.mono ?_
     rintro e w' ⟨rfl,hw'⟩
     have hw'':=hw'.symm
     subst hw''
     clear CS
     go_wp2_with fail
     exact HX.out _ _ _ _ _ _ _ _ _ _ _ _ _ _ _ _ _ _ _ _ _ _ _ _ _ _ _ _ _ _
    ·have hs2:spB c = false:=by simpa using hs
     clear hs
     rw [hs2] at CS
     by_cases e47:c = 47
     ·subst e47
      go_wp2_with fail
      refine CS.out.mono ?_
      rintro e w' ⟨rfl,hw'⟩
      have hw'':=hw'.symm
      subst hw''
      clear CS
      go_wp2_with fail
      exact HX.out _ _ _ _ _ _ _ _ _ _ _ _ _ _ _ _ _ _ _ _ _ _ _ _ _ _ _ _ _ _
     have n47:c ≠ 47:=e47
     have h47:((c.toNat:Int) != 47) = true:=by rw [bne_iff_ne];intro e;exact n47 (by rw [← UInt8.toNat_inj];exact Int.ofNat.inj e)
     by_cases e62:c = 62
     ·subst e62
      go_wp2_with fail
      refine CS.out.mono ?_
      rintro e w' ⟨rfl,hw'⟩
      have hw'':=hw'.symm
      subst hw''
      clear CS
      go_wp2_with fail
      exact HX.out _ _ _ _ _ _ _ _ _ _ _ _ _ _ _ _ _ _ _ _ _ _ _ _ _ _ _ _ _ _
     have n62:c ≠ 62:=e62
     have h62:((c.toNat:Int) != 62) = true:=by rw [bne_iff_ne];intro e;exact n62 (by rw [← UInt8.toNat_inj];exact Int.ofNat.inj e)
     by_cases e61:c = 61
     ·subst e61
      go_wp2_with fail
      refine CS.out.mono ?_
      rintro e w' ⟨rfl,hw'⟩
      have hw'':=hw'.symm
      subst hw''
      clear CS
      go_wp2_with fail
      exact HX.out _ _ _ _ _ _ _ _ _ _ _ _ _ _ _ _ _ _ _ _ _ _ _ _ _ _ _ _ _ _
     have n61:c ≠ 61:=e61
     have h61:((c.toNat:Int) != 61) = true:=by rw [bne_iff_ne];intro e;exact n61 (by rw [← UInt8.toNat_inj];exact Int.ofNat.inj e)
     exact absurd hq (by simp [inAttr,hs2,n47,n62,n61])
end Go.Proofs.YtbbfcbodhmeanaaGreatDoor



namespace Go.Proofs.YtbbfcbodhmeanaaGreatDoor
open Go.RowKit
set_option maxRecDepth 1000000 in
set_option maxHeartbeats 4000000 in
theorem lk6 (g:Nat) (p:ByteArray) (hp:p.size≤4000) (s:List UInt8) (hS:Suf p s) (w:World) (hg:w.cell? ⟨g,0,none⟩ = some (.string p)) (c0 c1 c2 c3 c4 c7 c8 c9 c10 c11 c12 c13 c14 c16 c17 c18 c19 c20 c21 c22 c23 c24 c25 c26 c27 c28 c29 c30 c31 c32 c33 c34 c35 c36 c37 c38 c39 c40 c41 c42 c43 c44 c45 c46 c47 c48 c49 c50 c51 c52 c53 c54 c55 c56 c57 c58 c59 c60 c61 c62 c63 c64 c65 c66 c67 c68 c69 c70 c71 c72 c73 c74 c75 c76 c77 c78 c79 c80 c81 c82 c83 c84 c85 c86 c87 c88 c89 c90 c91 c92 c93 c94 c95 c96 c97 c98 c99 c100 c101 c102 c103 c104 c105 c106 c107 c108 c109 c110 c111 c112 c113 c114 c115 c116 c117 c118 c119 c120 c121 c122 c123 c124 c125 c126 c127 c128 c129 c130 c131 c132 c133 c134 c135 c136 c137 c138 c139 c140 c141 c142 c143 c144 c145 c146 c147 c148 c149 c150 c151 c152 c153 c154 c155 c156 c157 c158 c159 c160 c161 c162 c163 c164 c165 c166 c167 c168 c169 c170 c171 c172 c173 c174 c175 c176 c177 c178 c179 c180 c181 c182 c183 c184 c185 c186 c187 c188 c189 c190 c191 c192 c193 c194 c195 c196 c197 c198 c199 c200 c201 c202 c203 c204 c205 c206 c207 c208 c209 c210 c211 c212 c213 c214 c215 c216 c217 c218 c219 c220 c221 c222 c223 c224 c225 c226 c227 c228 c229 c230 c231 c232 c233 c234 c235 c236 c237 c238 c239 c240 c241 c242 c243 c244 c245 c246 c247 c248 c249 c250 c251 c252 c253 c254 c255 c256 c257 c258 c259 c260 c261 c262 c263 c264 c265 c266 c267 c268 c269 c270 c271 c272 c273 c274 c275 c276 c277 c278 c279 c280 c281 c282 c283 c284 c285 c286 c287 c288 c289 c290 c291 c292 c293 c294 c295 c296 c297 c298 c299 c300 c301 c302 c303 c304 c305 c306 c307 c308 c309 c310 c311 c312 c313 c314 c315 c316 c317 c318 c319 c320 c321 c322 c323 c324 c325 c326:Value) (Q:Exit→Act→World→Prop)
  (hexit:∀ u175 u176 u177 u178 u179 u180 u181 u182 u183 u184 u185:Value,Q (.exit 10) ⟨(c0::c1::c2::c3::c4::.pointer (some ⟨g,0,none⟩)::.func (Fn.func 109) #[] #[.pointer (some ⟨g,0,none⟩)]::c7::c8::c9::c10::c11::c12::c13::c14::.int .i64 ((pos p (s.dropWhile spB):Nat):Int)::c16::c17::c18::c19::c20::c21::c22::c23::c24::c25::c26::c27::c28::c29::c30::c31::c32::c33::c34::c35::c36::c37::c38::c39::c40::c41::c42::c43::c44::c45::c46::c47::c48::c49::c50::c51::c52::c53::c54::c55::c56::c57::c58::c59::c60::c61::c62::c63::c64::c65::c66::c67::c68::c69::c70::c71::c72::c73::c74::c75::c76::c77::c78::c79::c80::c81::c82::c83::c84::c85::c86::c87::c88::c89::c90::c91::c92::c93::c94::c95::c96::c97::c98::c99::c100::c101::c102::c103::c104::c105::c106::c107::c108::c109::c110::c111::c112::c113::c114::c115::c116::c117::c118::c119::c120::c121::c122::c123::c124::c125::c126::c127::c128::c129::c130::c131::c132::c133::c134::c135::c136::c137::c138::c139::c140::c141::c142::c143::c144::c145::c146::c147::c148::c149::c150::c151::c152::c153::c154::c155::c156::c157::c158::c159::c160::c161::c162::c163::c164::c165::c166::c167::c168::c169::c170::c171::c172::c173::c174::u175::u176::u177::u178::u179::u180::u181::u182::u183::u184::u185::c186::c187::c188::c189::c190::c191::c192::c193::c194::c195::c196::c197::c198::c199::c200::c201::c202::c203::c204::c205::c206::c207::c208::c209::c210::c211::c212::c213::c214::c215::c216::c217::c218::c219::c220::c221::c222::c223::c224::c225::c226::c227::c228::c229::c230::c231::c232::c233::c234::c235::c236::c237::c238::c239::c240::c241::c242::c243::c244::c245::c246::c247::c248::c249::c250::c251::c252::c253::c254::c255::c256::c257::c258::c259::c260::c261::c262::c263::c264::c265::c266::c267::c268::c269::c270::c271::c272::c273::c274::c275::c276::c277::c278::c279::c280::c281::c282::c283::c284::c285::c286::c287::c288::c289::c290::c291::c292::c293::c294::c295::c296::c297::c298::c299::c300::c301::c302::c303::c304::c305::c306::c307::c308::c309::c310::c311::c312::c313::c314::c315::c316::c317::c318::c319::c320::c321::c322::c323::c324::c325::c326::[]).toArray,[]⟩ w) :
  Code.wp Tryz.prog (Code.loop (loopAt Tryz.f58 5)) Q ⟨(c0::c1::c2::c3::c4::.pointer (some ⟨g,0,none⟩)::.func (Fn.func 109) #[] #[.pointer (some ⟨g,0,none⟩)]::c7::c8::c9::c10::c11::c12::c13::c14::.int .i64 ((pos p s:Nat):Int)::c16::c17::c18::c19::c20::c21::c22::c23::c24::c25::c26::c27::c28::c29::c30::c31::c32::c33::c34::c35::c36::c37::c38::c39::c40::c41::c42::c43::c44::c45::c46::c47::c48::c49::c50::c51::c52::c53::c54::c55::c56::c57::c58::c59::c60::c61::c62::c63::c64::c65::c66::c67::c68::c69::c70::c71::c72::c73::c74::c75::c76::c77::c78::c79::c80::c81::c82::c83::c84::c85::c86::c87::c88::c89::c90::c91::c92::c93::c94::c95::c96::c97::c98::c99::c100::c101::c102::c103::c104::c105::c106::c107::c108::c109::c110::c111::c112::c113::c114::c115::c116::c117::c118::c119::c120::c121::c122::c123::c124::c125::c126::c127::c128::c129::c130::c131::c132::c133::c134::c135::c136::c137::c138::c139::c140::c141::c142::c143::c144::c145::c146::c147::c148::c149::c150::c151::c152::c153::c154::c155::c156::c157::c158::c159::c160::c161::c162::c163::c164::c165::c166::c167::c168::c169::c170::c171::c172::c173::c174::c175::c176::c177::c178::c179::c180::c181::c182::c183::c184::c185::c186::c187::c188::c189::c190::c191::c192::c193::c194::c195::c196::c197::c198::c199::c200::c201::c202::c203::c204::c205::c206::c207::c208::c209::c210::c211::c212::c213::c214::c215::c216::c217::c218::c219::c220::c221::c222::c223::c224::c225::c226::c227::c228::c229::c230::c231::c232::c233::c234::c235::c236::c237::c238::c239::c240::c241::c242::c243::c244::c245::c246::c247::c248::c249::c250::c251::c252::c253::c254::c255::c256::c257::c258::c259::c260::c261::c262::c263::c264::c265::c266::c267::c268::c269::c270::c271::c272::c273::c274::c275::c276::c277::c278::c279::c280::c281::c282::c283::c284::c285::c286::c287::c288::c289::c290::c291::c292::c293::c294::c295::c296::c297::c298::c299::c300::c301::c302::c303::c304::c305::c306::c307::c308::c309::c310::c311::c312::c313::c314::c315::c316::c317::c318::c319::c320::c321::c322::c323::c324::c325::c326::[]).toArray,[]⟩ w:=by
 have HX:Hid _:=hexit
 clear hexit
 conv=>arg 2;arg 1;whnf
 go_loopw [15] (fun iv wr=>∃ sj:List UInt8,iv = .int .i64 ((pos p sj:Nat):Int)∧Suf p sj∧Hid (s.dropWhile spB = sj.dropWhile spB)∧wr = w) (fun iv _=>p.size - (intOf iv).toNat)
 case atStart=>exact ⟨s,rfl,hS,rfl,rfl⟩
 case round =>
  obtain ⟨sj,rfl,hSj,HD,rfl⟩:=hrel
  cases sj with
  | nil =>
   have hk:pos p [] = p.size:=rfl
   rw [HD.out] at HX
   rw [show List.dropWhile spB [] = [] from rfl,hk] at HX
   rw [hk]
   have hki:decide ((p.size:Int) < (p.size:Int)) = false:=by simp
   clear hS hSj HD hk
   go_wp2_with fail
   exact HX.out _ _ _ _ _ _ _ _ _ _ _
  | cons c t =>
   obtain ⟨k,ek,hk,hpc,hnext⟩:=at_byte hSj
   have hki:(k:Int) < (p.size:Int):=by omega
   have hw1:IntKind.i64.wrap ((k:Int) + 1) = ((k + 1:Nat):Int):=by rw [IntKind.wrap_i64];omega
   have CS:Hid (Calls Tryz.prog 109 #[.int .i64 (k:Int),.pointer (some ⟨g,0,none⟩)] wr fun e w'=>e = .returned (.bool (spB c))∧w' = wr):=by rw [← hpc];exact rspace_any g p k hk wr hg
   have hSt:Suf p t:=hSj.tl
   rw [HD.out] at HX
   rw [ek]
   cases hq:spB c with
   | true =>
    have HD2:Hid (s.dropWhile spB = t.dropWhile spB):=by unfold Hid;rw [HD.out,List.dropWhile_cons_of_pos hq]
    clear HD hSj
    rw [hq] at CS
    go_wp2_with fail
    refine CS.out.mono ?_
    rintro e w' ⟨rfl,hw'⟩
    have hw'':=hw'.symm
    subst hw''
    clear CS
    go_wp2_with fail
    go_roundw
    case rel=>exact ⟨t,by rw [hnext];rfl,hSt,HD2,trivial⟩
    case measure=>simp [intOf];omega
   | false =>
    rw [List.dropWhile_cons_of_neg (by rw [hq];simp),ek] at HX
    clear HD hSj hSt hnext
    rw [hq] at CS
    go_wp2_with fail
    refine CS.out.mono ?_
    rintro e w' ⟨rfl,hw'⟩
    have hw'':=hw'.symm
    subst hw''
    clear CS
    go_wp2_with fail
    exact HX.out _ _ _ _ _ _ _ _ _ _ _
end Go.Proofs.YtbbfcbodhmeanaaGreatDoor


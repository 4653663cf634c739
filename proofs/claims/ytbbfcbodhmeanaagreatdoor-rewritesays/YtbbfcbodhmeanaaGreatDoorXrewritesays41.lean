
import Derived.Test.YtbbfcbodhmeanaaGreatDoorXrewritesays40
namespace Go.Proofs.YtbbfcbodhmeanaaGreatDoor
open Go.RowKit
set_option maxRecDepth 1000000 in
set_option maxHeartbeats 16000000 in
theorem lk4 (w0:World) (HE:LEnv w0) (g:Nat) (p:ByteArray) (hp:p.size≤4000) (s0:List UInt8) (hS:Suf p s0) (w:World) (hb0:Below w0.heap.size w0 w) (hgl:g < w.heap.size) (hg:w.cell? ⟨g,0,none⟩ = some (.string p)) (c0 c1 c2 c3 c4 c7 c8 c10 c13 c14 c15 c16 c17 c18 c19 c20 c21 c22 c23 c24 c25 c26 c27 c28 c29 c30 c31 c32 c33 c34 c35 c36 c37 c38 c39 c40 c41 c42 c43 c44 c45 c46 c47 c48 c49 c50 c51 c52 c53 c54 c55 c56 c57 c58 c59 c60 c61 c62 c63 c64 c65 c66 c67 c68 c69 c70 c71 c72 c73 c74 c75 c76 c77 c78 c79 c80 c81 c82 c83 c84 c85 c86 c87 c88 c89 c90 c91 c92 c93 c94 c95 c96 c97 c98 c99 c100 c101 c102 c103 c104 c105 c106 c107 c108 c109 c110 c111 c112 c113 c114 c115 c116 c117 c118 c119 c120 c121 c122 c123 c124 c125 c126 c127 c128 c129 c130 c131 c132 c133 c134 c135 c136 c137 c138 c139 c140 c141 c142 c143 c144 c145 c146 c147 c148 c149 c150 c151 c152 c153 c154 c155 c156 c157 c158 c159 c160 c161 c162 c163 c164 c165 c166 c167 c168 c169 c170 c171 c172 c173 c174 c175 c176 c177 c178 c179 c180 c181 c182 c183 c184 c185 c186 c187 c188 c189 c190 c191 c192 c193 c194 c195 c196 c197 c198 c199 c200 c201 c202 c203 c204 c205 c206 c207 c208 c209 c210 c211 c212 c213 c214 c215 c216 c217 c218 c219 c220 c221 c222 c223 c224 c225 c226 c227 c228 c229 c230 c231 c232 c233 c234 c235 c236 c237 c238 c239 c240 c241 c242 c243 c244 c245 c246 c247 c248 c249 c250 c251 c252 c253 c254 c255 c256 c257 c258 c259 c260 c261 c262 c263 c264 c265 c266 c267 c268 c269 c270 c271 c272 c273 c274 c275 c276 c277 c278 c279 c280 c281 c282 c283 c284 c285 c286 c287 c288 c289 c290 c291 c292 c293 c294 c295 c296 c297 c298 c299 c300 c301 c302 c303 c304 c305 c306 c307 c308 c309 c310 c311 c312 c313 c314 c315 c316 c317 c318 c319 c320 c321 c322 c323 c324 c325 c326:Value) (Q:Exit→Act→World→Prop)
  (hexit:∀ u13 u14 u15 u16 u115 u116 u117 u118 u119 u120 u121 u122 u123 u124 u125 u126 u127 u128 u129 u130 u131 u132 u133 u134 u135 u136 u137 u138 u139 u140 u141 u142 u143 u144 u145 u146 u147 u148 u149 u150 u151 u152 u153 u154 u155 u156 u157 u158 u159 u160 u161 u162 u163 u164 u165 u166 u167 u168 u169 u170 u171 u172 u173 u174 u175 u176 u177 u178 u179 u180 u181 u182 u183 u184 u185 u186 u187 u188 u189 u190 u191 u192 u193 u194 u195 u196 u197 u198 u199 u200 u201 u202 u203 u204 u205 u206 u207 u208 u209 u210 u211 u212 u213 u214 u215 u216 u217 u218 u219 u220 u221 u222 u223 u224 u225 u226 u227 u228 u229 u230 u231 u232 u233 u234 u235 u236 u237 u238 u239 u240 u241 u242 u243 u244 u245 u246 u247 u248 u249 u250 u251 u252 u253 u254 u255 u256 u257 u258 u259 u260 u261 u262 u263 u264 u265 u266 u267 u268 u269 u270 u271 u272 u273 u274 u275 u276 u277 u278 u279 u280 u281 u282 u283 u284 u285 u286 u287 u288 u289 u290 u291 u292 u293 u294 u295 u296 u297 u298 u299 u300 u301 u302 u303 u304 u305 u306 u307 u308 u309 u310 u311 v9 v11 v12:Value,∀ wr,TgEnd w p (tagS smallU [] s0) v9 v11 wr→Q (.exit 6) ⟨(c0::c1::c2::c3::c4::.pointer (some ⟨g,0,none⟩)::.func (Fn.func 109) #[] #[.pointer (some ⟨g,0,none⟩)]::c7::c8::v9::c10::v11::v12::u13::u14::u15::u16::c17::c18::c19::c20::c21::c22::c23::c24::c25::c26::c27::c28::c29::c30::c31::c32::c33::c34::c35::c36::c37::c38::c39::c40::c41::c42::c43::c44::c45::c46::c47::c48::c49::c50::c51::c52::c53::c54::c55::c56::c57::c58::c59::c60::c61::c62::c63::c64::c65::c66::c67::c68::c69::c70::c71::c72::c73::c74::c75::c76::c77::c78::c79::c80::c81::c82::c83::c84::c85::c86::c87::c88::c89::c90::c91::c92::c93::c94::c95::c96::c97::c98::c99::c100::c101::c102::c103::c104::c105::c106::c107::c108::c109::c110::c111::c112::c113::c114::u115::u116::u117::u118::u119::u120::u121::u122::u123::u124::u125::u126::u127::u128::u129::u130::u131::u132::u133::u134::u135::u136::u137::u138::u139::u140::u141::u142::u143::u144::u145::u146::u147::u148::u149::u150::u151::u152::u153::u154::u155::u156::u157::u158::u159::u160::u161::u162::u163::u164::u165::u166::u167::u168::u169::u170::u171::u172::u173::u174::u175::u176::u177::u178::u179::u180::u181::u182::u183::u184::u185::u186::u187::u188::u189::u190::u191::u192::u193::u194::u195::u196::u197::u198::u199::u200::u201::u202::u203::u204::u205::u206::u207::u208::u209::u210::u211::u212::u213::u214::u215::u216::u217::u218::u219::u220::u221::u222::u223::u224::u225::u226::u227::u228::u229::u230::u231::u232::u233::u234::u235::u236::u237::u238::u239::u240::u241::u242::u243::u244::u245::u246::u247::u248::u249::u250::u251::u252::u253::u254::u255::u256::u257::u258::u259::u260::u261::u262::u263::u264::u265::u266::u267::u268::u269::u270::u271::u272::u273::u274::u275::u276::u277::u278::u279::u280::u281::u282::u283::u284::u285::u286::u287::u288::u289::u290::u291::u292::u293::u294::u295::u296::u297::u298::u299::u300::u301::u302::u303::u304::u305::u306::u307::u308::u309::u310::u311::c312::c313::c314::c315::c316::c317::c318::c319::c320::c321::c322::c323::c324::c325::c326::[]).toArray,[]⟩ wr) :
  Code.wp Tryz.prog (Code.loop (loopAt Tryz.f58 3)) Q ⟨(c0::c1::c2::c3::c4::.pointer (some ⟨g,0,none⟩)::.func (Fn.func 109) #[] #[.pointer (some ⟨g,0,none⟩)]::c7::c8::.int .i64 ((pos p s0:Nat):Int)::c10::.slice none 0 0::.slice none 0 0::c13::c14::c15::c16::c17::c18::c19::c20::c21::c22::c23::c24::c25::c26::c27::c28::c29::c30::c31::c32::c33::c34::c35::c36::c37::c38::c39::c40::c41::c42::c43::c44::c45::c46::c47::c48::c49::c50::c51::c52::c53::c54::c55::c56::c57::c58::c59::c60::c61::c62::c63::c64::c65::c66::c67::c68::c69::c70::c71::c72::c73::c74::c75::c76::c77::c78::c79::c80::c81::c82::c83::c84::c85::c86::c87::c88::c89::c90::c91::c92::c93::c94::c95::c96::c97::c98::c99::c100::c101::c102::c103::c104::c105::c106::c107::c108::c109::c110::c111::c112::c113::c114::c115::c116::c117::c118::c119::c120::c121::c122::c123::c124::c125::c126::c127::c128::c129::c130::c131::c132::c133::c134::c135::c136::c137::c138::c139::c140::c141::c142::c143::c144::c145::c146::c147::c148::c149::c150::c151::c152::c153::c154::c155::c156::c157::c158::c159::c160::c161::c162::c163::c164::c165::c166::c167::c168::c169::c170::c171::c172::c173::c174::c175::c176::c177::c178::c179::c180::c181::c182::c183::c184::c185::c186::c187::c188::c189::c190::c191::c192::c193::c194::c195::c196::c197::c198::c199::c200::c201::c202::c203::c204::c205::c206::c207::c208::c209::c210::c211::c212::c213::c214::c215::c216::c217::c218::c219::c220::c221::c222::c223::c224::c225::c226::c227::c228::c229::c230::c231::c232::c233::c234::c235::c236::c237::c238::c239::c240::c241::c242::c243::c244::c245::c246::c247::c248::c249::c250::c251::c252::c253::c254::c255::c256::c257::c258::c259::c260::c261::c262::c263::c264::c265::c266::c267::c268::c269::c270::c271::c272::c273::c274::c275::c276::c277::c278::c279::c280::c281::c282::c283::c284::c285::c286::c287::c288::c289::c290::c291::c292::c293::c294::c295::c296::c297::c298::c299::c300::c301::c302::c303::c304::c305::c306::c307::c308::c309::c310::c311::c312::c313::c314::c315::c316::c317::c318::c319::c320::c321::c322::c323::c324::c325::c326::[]).toArray,[]⟩ w:=by
 have HX:Hid _:=hexit
 clear hexit
 have hM:∀ W,Below w.heap.size w W→∃ m:Int,W.cell? ⟨0,0,none⟩ = some (.int .i64 m):=fun W hW=>(HE W (hb0.trans (hW.mono hb0.size))).mx
 conv=>arg 2;arg 1;whnf
 go_loopw [9,11,12] (fun iv mv nv wr=>∃ (sj:List UInt8) (names:List (List UInt8)) (acc:List LK) (pm pn:Option Addr) (lm cm ln cn:Nat),iv = .int .i64 ((pos p sj:Nat):Int)∧mv = .slice pm lm cm∧nv = .slice pn ln cn∧lm = acc.length∧ln = names.length∧Hid (TgAt w p s0 (.slice pm lm cm) (.slice pn ln cn) wr sj names acc)) (fun iv _ _ _=>p.size - (intOf iv).toNat)
 case atStart=>exact ⟨s0,[],[],none,none,0,0,0,0,rfl,rfl,rfl,rfl,rfl,⟨by have:=hS.len;simp;omega,by have:=hS.len;simp;omega,hS,Below.refl _ _,World.ownsRow_nil _ _ _ _,World.ownsRow_nil _ _ _ _,by simp⟩⟩
 case round =>
  obtain ⟨sj,names,acc,pm,pn,lm,cm,ln,cn,rfl,rfl,rfl,elm,eln,HT⟩:=hrel
  have HLM:Hid (lm = acc.length):=elm
  have HLN:Hid (ln = names.length):=eln
  have hgr:wr.cell? ⟨g,0,none⟩ = some (.string p):=(HT.out.bel.cell (p:=⟨g,0,none⟩) hgl).trans hg
  clear elm eln
  cases sj with
  | nil =>
   have hk:pos p [] = p.size:=rfl
   rw [hk]
   have hki:decide ((p.size:Int) < (p.size:Int)) = false:=by simp
   have HF:=HT.out.nil
   have HF2:Hid (TgEnd w p (tagS smallU [] s0) (.int .i64 ((p.size:Nat):Int)) (.slice pm lm cm) wr):=HF
   clear HF hS hk HT
   go_wp2_with fail
   exact HX.out _ _ _ _ _ _ _ _ _ _ _ _ _ _ _ _ _ _ _ _ _ _ _ _ _ _ _ _ _ _ _ _ _ _ _ _ _ _ _ _ _ _ _ _ _ _ _ _ _ _ _ _ _ _ _ _ _ _ _ _ _ _ _ _ _ _ _ _ _ _ _ _ _ _ _ _ _ _ _ _ _ _ _ _ _ _ _ _ _ _ _ _ _ _ _ _ _ _ _ _ _ _ _ _ _ _ _ _ _ _ _ _ _ _ _ _ _ _ _ _ _ _ _ _ _ _ _ _ _ _ _ _ _ _ _ _ _ _ _ _ _ _ _ _ _ _ _ _ _ _ _ _ _ _ _ _ _ _ _ _ _ _ _ _ _ _ _ _ _ _ _ _ _ _ _ _ _ _ _ _ _ _ _ _ _ _ _ _ _ _ _ _ _ _ _ _ _ _ _ _ _ _ _ _ _ HF2.out
  | cons c t =>
   obtain ⟨k,ek,hk,hpc,hnext⟩:=at_byte HT.out.suf
   have hki:(k:Int) < (p.size:Int):=by omega
   have hw1:IntKind.i64.wrap ((k:Int) + 1) = ((k + 1:Nat):Int):=by rw [IntKind.wrap_i64];omega
   have CS:Hid (Calls Tryz.prog 109 #[.int .i64 (k:Int),.pointer (some ⟨g,0,none⟩)] wr fun e w'=>e = .returned (.bool (spB c))∧w' = wr):=by rw [← hpc];exact rspace_any g p k hk wr hgr
   rw [ek]
   by_cases e62:c = 62
   ·subst e62
    have HF2:Hid (TgEnd w p (tagS smallU [] s0) (.int .i64 (k:Int)) (.slice pm lm cm) wr):=HT.out.fin ek
    clear HT CS hnext
    go_wp2_with fail
    exact HX.out _ _ _ _ _ _ _ _ _ _ _ _ _ _ _ _ _ _ _ _ _ _ _ _ _ _ _ _ _ _ _ _ _ _ _ _ _ _ _ _ _ _ _ _ _ _ _ _ _ _ _ _ _ _ _ _ _ _ _ _ _ _ _ _ _ _ _ _ _ _ _ _ _ _ _ _ _ _ _ _ _ _ _ _ _ _ _ _ _ _ _ _ _ _ _ _ _ _ _ _ _ _ _ _ _ _ _ _ _ _ _ _ _ _ _ _ _ _ _ _ _ _ _ _ _ _ _ _ _ _ _ _ _ _ _ _ _ _ _ _ _ _ _ _ _ _ _ _ _ _ _ _ _ _ _ _ _ _ _ _ _ _ _ _ _ _ _ _ _ _ _ _ _ _ _ _ _ _ _ _ _ _ _ _ _ _ _ _ _ _ _ _ _ _ _ _ _ _ _ _ _ _ _ _ _ HF2.out
   ·have n62:c ≠ 62:=e62
    have h62:((c.toNat:Int) != 62) = true:=by rw [bne_iff_ne];intro e;exact n62 (by rw [← UInt8.toNat_inj];exact Int.ofNat.inj e)
    cases hs:spB c with
    | true =>
     rw [hs] at CS
     have HT2:Hid (TgAt w p s0 (.slice pm lm cm) (.slice pn ln cn) wr t names acc):=HT.out.gap (by unfold inGap;rw [hs];rfl)
     clear HT
     go_wp2_with fail
     refine CS.out.mono ?_
     rintro e w' ⟨rfl,hw'⟩
     have hw'':=hw'.symm
     subst hw''
     clear CS
     go_wp2_with fail
     go_roundw
     case rel=>exact ⟨t,names,acc,pm,pn,lm,cm,ln,cn,by rw [hnext];rfl,rfl,rfl,HLM.out,HLN.out,HT2⟩
     case measure=>simp [intOf];omega
    | false =>
     rw [hs] at CS
     by_cases e47:c = 47
     ·subst e47
      have HT2:Hid (TgAt w p s0 (.slice pm lm cm) (.slice pn ln cn) wr t names acc):=HT.out.gap rfl
      clear HT
      go_wp2_with fail
      refine CS.out.mono ?_
      rintro e w' ⟨rfl,hw'⟩
      have hw'':=hw'.symm
      subst hw''
      clear CS
      go_wp2_with fail
      go_roundw
      case rel=>exact ⟨t,names,acc,pm,pn,lm,cm,ln,cn,by rw [hnext];rfl,rfl,rfl,HLM.out,HLN.out,HT2⟩
      case measure=>simp [intOf];omega
     ·have n47:c ≠ 47:=e47
      have h47:((c.toNat:Int) == 47) = false:=by rw [beq_eq_false_iff_ne];intro e;exact n47 (by rw [← UInt8.toNat_inj];exact Int.ofNat.inj e)
      have hSt:Suf p t:=HT.out.suf.tl
      go_wp2_with fail
      refine CS.out.mono ?_
      rintro e w' ⟨rfl,hw'⟩
      have hw'':=hw'.symm
      subst hw''
      clear CS
      go_wp2_with fail
      have hnx:(k:Int) + 1 = ((pos p t:Nat):Int):=by rw [hnext];rfl
      rw [hnx]
      refine lk5 g p hp t hSt wr hgr _ _ _ _ _ _ _ _ _ _ _ _ _ _ _ _ _ _ _ _ _ _ _ _ _ _ _ _ _ _ _ _ _ _ _ _ _ _ _ _ _ _ _ _ _ _ _ _ _ _ _ _ _ _ _ _ _ _ _ _ _ _ _ _ _ _ _ _ _ _ _ _ _ _ _ _ _ _ _ _ _ _ _ _ _ _ _ _ _ _ _ _ _ _ _ _ _ _ _ _ _ _ _ _ _ _ _ _ _ _ _ _ _ _ _ _ _ _ _ _ _ _ _ _ _ _ _ _ _ _ _ _ _ _ _ _ _ _ _ _ _ _ _ _ _ _ _ _ _ _ _ _ _ _ _ _ _ _ _ _ _ _ _ _ _ _ _ _ _ _ _ _ _ _ _ _ _ _ _ _ _ _ _ _ _ _ _ _ _ _ _ _ _ _ _ _ _ _ _ _ _ _ _ _ _ _ _ _ _ _ _ _ _ _ _ _ _ _ _ _ _ _ _ _ _ _ _ _ _ _ _ _ _ _ _ _ _ _ _ _ _ _ _ _ _ _ _ _ _ _ _ _ _ _ _ _ _ _ _ _ _ _ _ _ _ _ _ _ _ _ _ _ _ _ _ _ _ _ _ _ _ _ _ _ _ _ _ _ _ _ _ _ _ _ _ _ _ _ _ _ _ _ _ _ _ _ _ _ _ _ _ _ _ _ _ _ _ _ _ _ _ _ _ _ _ ?_
      intro q139 q140 q141 q142 q143 q144 q145 q146 q147 q148 q149 q150 q151 q152 q153 q154 q155 q156 q157 q158 q159 q160 q161 q162 q163 q164 q165 q166 q167 q168
      obtain ⟨ya,eu1⟩:∃ u,t.dropWhile inAttr = u:=⟨_,rfl⟩
      have hSu1:Suf p ya:=by rw [← eu1];exact hSt.dw _
      have HU1:Hid (t.dropWhile inAttr = ya):=eu1
      have hnm:nameP (c::t) ++ ya = c::t:=by rw [← eu1];show c::(t.takeWhile inAttr ++ t.dropWhile inAttr) = _;rw [List.takeWhile_append_dropWhile]
      have hx1:p.extract k (pos p ya) = lba (nameP (c::t)):=by rw [← ek];exact ext_of HT.out.suf hnm
      have hps1:pos p ya = k + (nameP (c::t)).length:=by rw [← ek];exact pos_plus HT.out.suf hnm
      have hk1:(k:Int)≤((pos p ya:Nat):Int):=by omega
      have hk2:((pos p ya:Nat):Int)≤(p.size:Int):=by have:=pos_le p ya;omega
      rw [eu1]
      have hnl:(nameP (c::t)).length≤4000:=by have:=congrArg List.length hnm;have:=HT.out.suf.len;rw [List.length_append] at *;omega
      have CSm:Hid (∀ W,Calls Tryz.prog 100 #[.string (lba (nameP (c::t)))] W fun e w'=>e = .returned (.string (lba (smallU (nameP (c::t)))))∧Below W.heap.size W w'):=fun W=>rsm_any (lba (nameP (c::t))) W (by rw [lba_size];omega)
      have HNM:Hid (nameP (c::t) ++ ya = c::t):=hnm
      obtain ⟨nm,enm⟩:∃ x,nameP (c::t) = x:=⟨_,rfl⟩
      have HNE:Hid (nameP (c::t) = nm):=enm
      rw [enm] at hx1 CSm hps1
      have HP1:Hid (pos p ya = k + nm.length):=hps1
      have HPN:Hid (pos p t = k + 1):=hnext
      have HEK:Hid (pos p (c::t) = k):=ek
      clear hnm hnl eu1 enm hnx hps1 hnext ek hpc h47 h62 hw1
      go_wp2_with fail
      refine (CSm.out _).mono ?_
      rintro e w1 ⟨rfl,hb1⟩
      have hg1:w1.cell? ⟨g,0,none⟩ = some (.string p):=(hb1.cell (p:=⟨g,0,none⟩) (World.block_lt_of_cell? wr _ hgr)).trans hgr
      go_wp2_with fail
      refine lk6 g p hp ya hSu1 w1 hg1 _ _ _ _ _ _ _ _ _ _ _ _ _ _ _ _ _ _ _ _ _ _ _ _ _ _ _ _ _ _ _ _ _ _ _ _ _ _ _ _ _ _ _ _ _ _ _ _ _ _ _ _ _ _ _ _ _ _ _ _ _ _ _ _ _ _ _ _ _ _ _ _ _ _ _ _ _ _ _ _ _ _ _ _ _ _ _ _ _ _ _ _ _ _ _ _ _ _ _ _ _ _ _ _ _ _ _ _ _ _ _ _ _ _ _ _ _ _ _ _ _ _ _ _ _ _ _ _ _ _ _ _ _ _ _ _ _ _ _ _ _ _ _ _ _ _ _ _ _ _ _ _ _ _ _ _ _ _ _ _ _ _ _ _ _ _ _ _ _ _ _ _ _ _ _ _ _ _ _ _ _ _ _ _ _ _ _ _ _ _ _ _ _ _ _ _ _ _ _ _ _ _ _ _ _ _ _ _ _ _ _ _ _ _ _ _ _ _ _ _ _ _ _ _ _ _ _ _ _ _ _ _ _ _ _ _ _ _ _ _ _ _ _ _ _ _ _ _ _ _ _ _ _ _ _ _ _ _ _ _ _ _ _ _ _ _ _ _ _ _ _ _ _ _ _ _ _ _ _ _ _ _ _ _ _ _ _ _ _ _ _ _ _ _ _ _ _ _ _ _ _ _ _ _ _ _ _ _ _ _ _ _ _ _ _ _ _ _ _ _ _ _ _ _ _ ?_
      intro q175 q176 q177 q178 q179 q180 q181 q182 q183 q184 q185
      obtain ⟨yb,eu2⟩:∃ u,ya.dropWhile spB = u:=⟨_,rfl⟩
      have hSu2:Suf p yb:=by rw [← eu2];exact hSu1.dw _
      have HU2:Hid (ya.dropWhile spB = yb):=eu2
      rw [eu2]
      clear eu2
      go_upto_region 36 with fail
      obtain ⟨W2,hW2⟩:∃ W,W = w1.alloc (.cells #[.int .i64 (-1),.int .i64 0,.string ⟨#[]⟩] 40):=⟨_,rfl⟩
      have B2:Below w1.heap.size w1 W2:=by rw [hW2];exact (Below.refl _ _).alloc (Nat.le_refl _) _
      have Q2:W2.heap[w1.heap.size]? = some (.cells #[.int .i64 (-1),.int .i64 0,.string ⟨#[]⟩] 40):=by rw [hW2];exact lnew _ _
      have hg2:W2.cell? ⟨g,0,none⟩ = some (.string p):=(B2.cell (p:=⟨g,0,none⟩) (World.block_lt_of_cell? w1 _ hg1)).trans hg1
      rw [← hW2]
      clear hW2 CSm
      obtain ⟨L,hL⟩:∃ L,w1.heap.size = L:=⟨_,rfl⟩
      have HL:Hid (w1.heap.size = L):=hL
      rw [hL] at Q2 B2 ⊢
      clear hL
      refine lkR36 g p yb hSu2 W2 hg2 _ _ _ _ _ _ _ _ _ _ _ _ _ _ _ _ _ _ _ _ _ _ _ _ _ _ _ _ _ _ _ _ _ _ _ _ _ _ _ _ _ _ _ _ _ _ _ _ _ _ _ _ _ _ _ _ _ _ _ _ _ _ _ _ _ _ _ _ _ _ _ _ _ _ _ _ _ _ _ _ _ _ _ _ _ _ _ _ _ _ _ _ _ _ _ _ _ _ _ _ _ _ _ _ _ _ _ _ _ _ _ _ _ _ _ _ _ _ _ _ _ _ _ _ _ _ _ _ _ _ _ _ _ _ _ _ _ _ _ _ _ _ _ _ _ _ _ _ _ _ _ _ _ _ _ _ _ _ _ _ _ _ _ _ _ _ _ _ _ _ _ _ _ _ _ _ _ _ _ _ _ _ _ _ _ _ _ _ _ _ _ _ _ _ _ _ _ _ _ _ _ _ _ _ _ _ _ _ _ _ _ _ _ _ _ _ _ _ _ _ _ _ _ _ _ _ _ _ _ _ _ _ _ _ _ _ _ _ _ _ _ _ _ _ _ _ _ _ _ _ _ _ _ _ _ _ _ _ _ _ _ _ _ _ _ _ _ _ _ _ _ _ _ _ _ _ _ _ _ _ _ _ _ _ _ _ _ _ _ _ _ _ _ _ _ _ _ _ _ _ _ _ _ _ _ _ _ _ _ _ _ _ _ _ _ _ _ _ _ _ _ _ _ _ _ _ ?_
      intro q187 q188 q189 q190 q191 q192 q193 q194 q195
      go_upto_if 196 with fail
      have hLg:g ≠ L:=by have h1:=HT.out.bel.size;have h2:=hb1.size;have h3:=HL.out;omega
      refine lkVal g p hp ya yb hSu1 hSu2 w1 W2 L B2 Q2 hLg hg2 _ _ _ _ _ _ _ _ _ _ _ _ _ _ _ _ _ _ _ _ _ _ _ _ _ _ _ _ _ _ _ _ _ _ _ _ _ _ _ _ _ _ _ _ _ _ _ _ _ _ _ _ _ _ _ _ _ _ _ _ _ _ _ _ _ _ _ _ _ _ _ _ _ _ _ _ _ _ _ _ _ _ _ _ _ _ _ _ _ _ _ _ _ _ _ _ _ _ _ _ _ _ _ _ _ _ _ _ _ _ _ _ _ _ _ _ _ _ _ _ _ _ _ _ _ _ _ _ _ _ _ _ _ _ _ _ _ _ _ _ _ _ _ _ _ _ _ _ _ _ _ _ _ _ _ _ _ _ _ _ _ _ _ _ _ _ _ _ _ _ _ _ _ _ _ _ _ _ _ _ _ _ _ _ _ _ _ _ _ _ _ _ _ _ _ _ _ _ _ _ _ _ _ _ _ _ _ _ _ _ _ _ _ _ _ _ _ _ _ _ _ _ _ _ _ _ _ _ _ _ _ _ _ _ _ _ _ _ _ _ _ _ _ _ _ _ _ _ _ _ _ _ _ _ _ _ _ _ _ _ _ _ _ _ _ _ _ _ _ _ _ _ _ _ _ _ _ _ _ _ _ _ _ _ _ _ _ _ _ _ _ _ _ _ _ _ _ _ _ _ _ _ _ _ _ _ _ _ _ _ _ _ _ _ _ _ _ _ _ _ _ _ ?_
      intro q15 q197 q198 q199 q200 q201 q202 q203 q204 q205 q206 q207 q208 q209 q210 q211 q212 q213 q214 q215 q216 q217 q218 q219 q220 q221 q222 q223 q224 q225 q226 q227 q228 q229 q230 q231 q232 q233 q234 q235 q236 q237 q238 q239 q240 q241 q242 q243 q244 q245 q246 q247 q248 q249 q250 q251 q252 q253 q254 q255 q256 q257 q258 q259 q260 q261 q262 q263 q264 q265 q266 q267 q268 q269 q270 q271 q272 q273 q274 q275 q276 q277 yd wx HA
      have HAH:Hid (LkA w1 p ya yb L yd wx):=HA
      have hbx:Below wr.heap.size wr wx:=by
       have h3:=HL.out
       have h4:=HA.1
       rw [← h3] at h4
       exact hb1.trans (h4.mono hb1.size)
      have hgx:wx.cell? ⟨g,0,none⟩ = some (.string p):=(hbx.cell (p:=⟨g,0,none⟩) (World.block_lt_of_cell? wr _ hgr)).trans hgr
      have hLx:L < wx.heap.size:=by
       rcases HA.2.2 with ⟨_,_,h5⟩ | ⟨_,_,_,h5⟩ <;> (rw [Array.getElem?_eq_some_iff] at h5;exact h5.1)
      have hLr:wr.heap.size≤L:=by have:=hb1.size;have:=HL.out;omega
      have HOX:Hid (wx.ownsRow w.heap.size 40 3 (.slice pm lm cm) acc.length (lv p.size acc)):=ownsRow_below HT.out.om hbx
      have HNX:Hid (wx.ownsRow w.heap.size 9 1 (.slice pn ln cn) names.length (names.map fun x=>Value.string (lba x))):=ownsRow_below HT.out.on hbx
      have HRO:Hid (∀ k,(Value.slice pm lm cm).ownBlock = some k→w.heap.size≤k∧k < L):=fun k hk=>by have:=HT.out.om.lt k hk;omega
      have HRN:Hid (∀ k,(Value.slice pn ln cn).ownBlock = some k→w.heap.size≤k∧k < L):=fun k hk=>by have:=HT.out.on.lt k hk;omega
      have HBX:Hid (Below w.heap.size w wx):=HT.out.bel.trans (hbx.mono HT.out.bel.size)
      have HLX:Hid (w.heap.size≤L∧L < wx.heap.size):=⟨Nat.le_trans HT.out.bel.size hLr,hLx⟩
      have HLA:Hid (acc.length≤4000∧names.length≤4000):=⟨by have:=HT.out.la;omega,by have:=HT.out.ls;omega⟩
      have HNR:Hid (NRow wx pn names):=by have h:=HNX.out;rw [← HLN.out] at h;exact NRow.of_own h
      clear B2 Q2 hg2 hbx hLx hLr HA hg1 hb1
      go_upto_region 49 with fail
      refine lkR49 p w1 wx ya yb yd L HAH.out (smallU nm) names pn ln cn HLN.out HLA.out.2 HNR.out _ _ _ _ _ _ _ _ _ _ _ _ _ _ _ _ _ _ _ _ _ _ _ _ _ _ _ _ _ _ _ _ _ _ _ _ _ _ _ _ _ _ _ _ _ _ _ _ _ _ _ _ _ _ _ _ _ _ _ _ _ _ _ _ _ _ _ _ _ _ _ _ _ _ _ _ _ _ _ _ _ _ _ _ _ _ _ _ _ _ _ _ _ _ _ _ _ _ _ _ _ _ _ _ _ _ _ _ _ _ _ _ _ _ _ _ _ _ _ _ _ _ _ _ _ _ _ _ _ _ _ _ _ _ _ _ _ _ _ _ _ _ _ _ _ _ _ _ _ _ _ _ _ _ _ _ _ _ _ _ _ _ _ _ _ _ _ _ _ _ _ _ _ _ _ _ _ _ _ _ _ _ _ _ _ _ _ _ _ _ _ _ _ _ _ _ _ _ _ _ _ _ _ _ _ _ _ _ _ _ _ _ _ _ _ _ _ _ _ _ _ _ _ _ _ _ _ _ _ _ _ _ _ _ _ _ _ _ _ _ _ _ _ _ _ _ _ _ _ _ _ _ _ _ _ _ _ _ _ _ _ _ _ _ _ _ _ _ _ _ _ _ _ _ _ _ _ _ _ _ _ _ _ _ _ _ _ _ _ _ _ _ _ _ _ _ _ _ _ _ _ _ _ _ _ _ _ _ _ _ _ _ _ _ _ _ _ _ _ _ _ _ _ _ _ ?_
      intro q278 q279 q280 q281 q282 q283 q284 q285 q286 q287 q288 q289 q290 q291 q292 q293 b x HXX
      have HXH:Hid (LkX p yb L wx (smallU nm) names b x):=HXX
      clear HXX
      go_upto_if 294 with fail
      refine lkM g p hp wx b w.heap.size acc pm lm cm HLM.out L x HOX.out (Nat.le_of_lt (Nat.lt_of_le_of_lt HLX.out.1 HLX.out.2)) (fun k hk=>by have:=HRO.out k hk;omega) HLX.out.2 (HXH.out.cells hSu2) HLA.out.1 hgx (hM wx HBX.out) _ _ _ _ _ _ _ _ _ _ _ _ _ _ _ _ _ _ _ _ _ _ _ _ _ _ _ _ _ _ _ _ _ _ _ _ _ _ _ _ _ _ _ _ _ _ _ _ _ _ _ _ _ _ _ _ _ _ _ _ _ _ _ _ _ _ _ _ _ _ _ _ _ _ _ _ _ _ _ _ _ _ _ _ _ _ _ _ _ _ _ _ _ _ _ _ _ _ _ _ _ _ _ _ _ _ _ _ _ _ _ _ _ _ _ _ _ _ _ _ _ _ _ _ _ _ _ _ _ _ _ _ _ _ _ _ _ _ _ _ _ _ _ _ _ _ _ _ _ _ _ _ _ _ _ _ _ _ _ _ _ _ _ _ _ _ _ _ _ _ _ _ _ _ _ _ _ _ _ _ _ _ _ _ _ _ _ _ _ _ _ _ _ _ _ _ _ _ _ _ _ _ _ _ _ _ _ _ _ _ _ _ _ _ _ _ _ _ _ _ _ _ _ _ _ _ _ _ _ _ _ _ _ _ _ _ _ _ _ _ _ _ _ _ _ _ _ _ _ _ _ _ _ _ _ _ _ _ _ _ _ _ _ _ _ _ _ _ _ _ _ _ _ _ _ _ _ _ _ _ _ _ _ _ _ _ _ _ _ _ _ _ _ _ _ _ _ _ _ _ _ _ _ _ _ _ _ _ _ _ _ _ _ _ _ _ _ _ _ _ _ _ _ _ ?_
      intro q295 q296 q297 q298 q299 q300 q301 q302 q303 q304 q305 q306 q307 v11 wy hoy hGy
      have HBY:Hid (Below w.heap.size w wy):=hGy.below HBX.out (Nat.le_of_lt (Nat.lt_of_le_of_lt HLX.out.1 HLX.out.2)) HLX.out.1 (fun k hk=>(HRO.out k hk).1)
      have HNY:Hid (wy.ownsRow w.heap.size 9 1 (.slice pn names.length cn) names.length (names.map fun x=>Value.string (lba x))):=by
       have h:=hGy.owns HNX.out (fun k hk=>⟨by have:=HRN.out k hk;omega,fun e=>by
        rcases rows_apart HNX.out HOX.out (by decide) with h2 | h2
        ·rw [h2] at hk;cases hk
        ·exact h2 (hk.trans e)⟩)
       rw [HLN.out] at h
       exact h
      have HMY:Hid (wy.ownsRow w.heap.size 40 3 v11 (acc ++ addK b x).length (lv p.size (acc ++ addK b x))):=hoy
      have hsy:w.heap.size≤wy.heap.size:=HBY.out.size
      have hnl4:=HLA.out.2
      obtain ⟨i1,hi,hz0,hz1,hz2⟩:=info_parts info_strK
      obtain rfl:ln = names.length:=HLN.out
      clear hGy hoy hgx HLN HRN HRO HOX HNX HBX HLX HNR hgr hgl hg hb0
      go_wp2_with (at_builtin;refine wpList_append_own _ rfl (.tmp 308) (.tmp 310) 26 rfl w.heap.size 9 i1 (.string ⟨#[]⟩) 1 16 Tryz.underlying26 hi hz0 hz1 hz2 rfl (by decide) _ _ _ rfl (HNY.out.alloc _) ⟨wy.heap.size,0,none⟩ 1 1 [.string (lba (smallU nm))] rfl rfl (cell_loneK _ _ _) (one_strK _) ?d1 ?d2 ?d3 ?_)
      case d1=>unfold maxLen;omega
      case d2=>omega
      case d3=>simp;omega
      intro v12 wz hnz hgz _
      have HBZ:Hid (Below w.heap.size w wz):=(HBY.out.alloc hsy _).grown hgz (by simp;omega) (fun k hk=>(HNY.out.lt k hk).1)
      have HMZ:Hid (wz.ownsRow w.heap.size 40 3 v11 (acc ++ addK b x).length (lv p.size (acc ++ addK b x))):=(HMY.out.alloc _).kept hgz (rows_apart HMY.out HNY.out (by decide))
      have hgap:inGap c = false:=by unfold inGap;rw [hs];simpa using n47
      have HEND:Hid (TgAt w p s0 v11 v12 wz yd (names ++ [smallU nm]) (acc ++ addK b x)):=by
       have hn0:=HNE.out
       have h:=HT.out.next (u11:=v11) (u12:=v12) (wz:=wz) n62 hgap HAH.out HU1.out HU2.out (b:=b) (x:=x) (by rw [hn0];exact HXH.out.mine HU1.out HU2.out) HBZ.out HMZ.out (by rw [hn0];exact hnz)
       rw [hn0] at h
       exact h
      have hydl:=HAH.out.len (c:=c) HU1.out HU2.out
      have hSd:=HAH.out.2.1
      obtain ⟨pm',cm',rfl,_⟩:=slice_of HMZ.out
      obtain ⟨pn',cn',rfl,_⟩:=slice_of hnz
      clear HMY HNY HBY hnz hgz HMZ HBZ HAH HXH
      go_wp2_with fail
      go_roundw
      case rel=>exact ⟨yd,names ++ [smallU nm],acc ++ addK b x,pm',pn',_,cm',_,cn',rfl,rfl,rfl,rfl,by simp,HEND⟩
      case measure=>have h1:=hSd.len;have h2:=HT.out.suf.len;have h3:=HEK.out;unfold pos at *;simp only [List.length_cons] at *;simp [intOf];omega
end Go.Proofs.YtbbfcbodhmeanaaGreatDoor


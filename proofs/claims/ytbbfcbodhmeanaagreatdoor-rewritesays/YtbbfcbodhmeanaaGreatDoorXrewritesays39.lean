
import Derived.Test.YtbbfcbodhmeanaaGreatDoorXrewritesays38
namespace Go.Proofs.YtbbfcbodhmeanaaGreatDoor
open Go.RowKit
structure FnAt (w:World) (p:ByteArray) (b:List UInt8) (v:Value) (wr:World) (sj:List UInt8) (acc:List LK):Prop where
 la:acc.length≤60
 suf:Suf p sj
 bel:Below w.heap.size w wr
 own:wr.ownsRow w.heap.size 40 3 v acc.length (lv p.size acc)
 eq:findP smallU b = findF smallU sj.length acc sj
theorem FnAt.piece {w:World} {p:ByteArray} {b:List UInt8} {v:Value} {wr:World} {c:UInt8} {t:List UInt8} {acc:List LK} (h:FnAt w p b v wr (c::t) acc) {l2:List LK} {R2:List UInt8} (hp:pieceP smallU (c::t) = (l2,R2)) :
  findP smallU b = (if 60 < (acc ++ l2).length then none else findF smallU R2.length (acc ++ l2) R2)∧R2.length < (c::t).length∧Suf p R2∧l2.length≤4000 + p.size:=by
 have hl:=piece_len smallU c t
 have hs:=(piece_suf smallU (c::t)).trans h.suf
 have hf:=piece_few smallU (c::t)
 have hn:=h.suf.len
 refine ⟨?_,by rw [hp] at hl;exact hl,by rw [hp] at hs;exact hs,by rw [hp] at hf;simp only at hf;omega⟩
 rw [h.eq,List.length_cons,findF,if_neg (by simp),hp]
 simp only
 rw [hp] at hl
 simp only [List.length_cons] at hl
 rw [findF_fuel smallU t.length R2.length _ _ (by omega) (Nat.le_refl _)]
theorem FnAt.pass {w:World} {p:ByteArray} {b:List UInt8} {v:Value} {wr w':World} {c:UInt8} {t:List UInt8} {acc:List LK} (h:FnAt w p b v wr (c::t) acc) {R2:List UInt8} (hp:pieceP smallU (c::t) = ([],R2)) (hb:Below wr.heap.size wr w'):FnAt w p b v w' R2 acc:=by
 obtain ⟨h1,_,h3,_⟩:=h.piece hp
 have hla:=h.la
 rw [List.append_nil,if_neg (by omega)] at h1
 exact ⟨h.la,h3,h.bel.trans (hb.mono h.bel.size),ownsRow_below h.own hb,h1⟩
theorem FnAt.fin {w:World} {p:ByteArray} {b:List UInt8} {v:Value} {wr:World} {acc:List LK} (h:FnAt w p b v wr [] acc):findP smallU b = some acc:=by rw [h.eq];rfl
theorem kpiece_other {c:UInt8} (t:List UInt8) (h:c ≠ 60):pieceP smallU (c::t) = ([],t):=by
 have hb:((60:UInt8) == c) = false:=by rw [beq_eq_false_iff_ne];exact fun e=>h e.symm
 unfold pieceP tagB comL
 rw [if_neg (by simp [List.isPrefixOf,hb]),if_neg (by simp [List.isPrefixOf,hb]),if_neg (by simp [List.isPrefixOf,hb]),if_neg (by simp [List.isPrefixOf,hb])]
 rfl
theorem kpiece_com {s:List UInt8} (h:comL.isPrefixOf s = true):pieceP smallU s = ([],behindL comE (s.drop 4)):=by
 unfold pieceP
 rw [if_pos h]
theorem kpiece_ex {s:List UInt8} (h:comL.isPrefixOf s = false) (h2:(([60,33]:List UInt8).isPrefixOf s || ([60,63]:List UInt8).isPrefixOf s) = true):pieceP smallU s = ([],behindL [62] s):=by
 unfold pieceP
 rw [if_neg (by rw [h];simp),if_pos (by simpa using h2)]
theorem kpiece_plain {t:List UInt8} (h:comL.isPrefixOf (60::t) = false) (h2:(([60,33]:List UInt8).isPrefixOf (60::t) || ([60,63]:List UInt8).isPrefixOf (60::t)) = false) (h3:(!tagB [60,47] (60::t) && !headL ((60::t).drop 1)) = true):pieceP smallU (60::t) = ([],t):=by
 rw [Bool.and_eq_true,Bool.not_eq_true',Bool.not_eq_true'] at h3
 unfold pieceP
 rw [if_neg (by rw [h];simp),if_neg (by rw [Bool.or_eq_false_iff] at h2;rw [h2.1,h2.2];simp),if_neg (by unfold tagB;show ¬ (true && headL ((60::t).drop 1)) = true;rw [h3.2];simp),if_neg (by rw [h3.1];simp)]
 rfl
def startK (sh:Bool) (t:List UInt8):List UInt8:=(t.dropWhile (slB sh)).dropWhile inName
theorem slB_false (t:List UInt8):t.dropWhile (slB false) = t:=by
 cases t with
 | nil=>rfl
 | cons c t=>rw [List.dropWhile_cons_of_neg (by simp [slB])]
theorem letB_47 {c:UInt8} (h:letB c = true):c ≠ 47:=by
 rintro rfl
 exact absurd h (by decide)
theorem kpiece_tag {t:List UInt8} {sh:Bool} (h:comL.isPrefixOf (60::t) = false) (h2:(([60,33]:List UInt8).isPrefixOf (60::t) || ([60,63]:List UInt8).isPrefixOf (60::t)) = false) (hsh:tagB [60,47] (60::t) = sh) (h3:(!sh && !headL ((60::t).drop 1)) = false):pieceP smallU (60::t) = (if sh = true then [] else (tagS smallU [] (startK sh t)).1.getD [],(tagS smallU [] (startK sh t)).2):=by
 unfold pieceP
 rw [if_neg (by rw [h];simp),if_neg (by rw [Bool.or_eq_false_iff] at h2;rw [h2.1,h2.2];simp)]
 cases sh with
 | true =>
  have h4:=hsh
  unfold tagB at h4
  rw [Bool.and_eq_true] at h4
  obtain ⟨h5,h6⟩:=h4
  cases t with
  | nil=>simp [List.isPrefixOf] at h5
  | cons c u =>
   have hc:c = 47:=by
    have h9:(true && ((47:UInt8) == c && true)) = true:=h5
    have h10:((47:UInt8) == c) = true:=by simpa using h9
    exact (beq_iff_eq.1 h10).symm
   subst hc
   have h7:headL u = true:=h6
   rw [if_neg (show ¬ tagB [60] (60::47::u) = true from (by decide:¬ (true && letB 47) = true)),if_pos hsh,if_pos rfl]
   have hst:startK true (47::u) = u.dropWhile inName:=by
    unfold startK
    rw [List.dropWhile_cons_of_pos rfl]
    cases u with
    | nil=>rfl
    | cons d u =>
     have h8:letB d = true:=h7
     rw [List.dropWhile_cons_of_neg (p:=slB true) (by simp [slB];exact letB_47 h8)]
   rw [hst]
   rfl
 | false =>
  have h4:headL t = true:=by simpa using h3
  rw [if_pos (by unfold tagB;show (true && headL ((60::t).drop 1)) = true;exact (by simpa using h4)),if_neg (by simp)]
  have hst:startK false t = t.dropWhile inName:=by unfold startK;rw [slB_false]
  rw [hst]
  rfl
end Go.Proofs.YtbbfcbodhmeanaaGreatDoor



namespace Go.Proofs.YtbbfcbodhmeanaaGreatDoor
open Go.RowKit
set_option maxRecDepth 1000000 in
set_option maxHeartbeats 4000000 in
theorem lk3 (g:Nat) (p:ByteArray) (hp:p.size≤4000) (s:List UInt8) (hS:Suf p s) (w:World) (hg:w.cell? ⟨g,0,none⟩ = some (.string p)) (c0 c1 c2 c3 c4 c7 c8 c10 c11 c12 c13 c14 c15 c16 c17 c18 c19 c20 c21 c22 c23 c24 c25 c26 c27 c28 c29 c30 c31 c32 c33 c34 c35 c36 c37 c38 c39 c40 c41 c42 c43 c44 c45 c46 c47 c48 c49 c50 c51 c52 c53 c54 c55 c56 c57 c58 c59 c60 c61 c62 c63 c64 c65 c66 c67 c68 c69 c70 c71 c72 c73 c74 c75 c76 c77 c78 c79 c80 c81 c82 c83 c84 c85 c86 c87 c88 c89 c90 c91 c92 c93 c94 c95 c96 c97 c98 c99 c100 c101 c102 c103 c104 c105 c106 c107 c108 c109 c110 c111 c112 c113 c114 c115 c116 c117 c118 c119 c120 c121 c122 c123 c124 c125 c126 c127 c128 c129 c130 c131 c132 c133 c134 c135 c136 c137 c138 c139 c140 c141 c142 c143 c144 c145 c146 c147 c148 c149 c150 c151 c152 c153 c154 c155 c156 c157 c158 c159 c160 c161 c162 c163 c164 c165 c166 c167 c168 c169 c170 c171 c172 c173 c174 c175 c176 c177 c178 c179 c180 c181 c182 c183 c184 c185 c186 c187 c188 c189 c190 c191 c192 c193 c194 c195 c196 c197 c198 c199 c200 c201 c202 c203 c204 c205 c206 c207 c208 c209 c210 c211 c212 c213 c214 c215 c216 c217 c218 c219 c220 c221 c222 c223 c224 c225 c226 c227 c228 c229 c230 c231 c232 c233 c234 c235 c236 c237 c238 c239 c240 c241 c242 c243 c244 c245 c246 c247 c248 c249 c250 c251 c252 c253 c254 c255 c256 c257 c258 c259 c260 c261 c262 c263 c264 c265 c266 c267 c268 c269 c270 c271 c272 c273 c274 c275 c276 c277 c278 c279 c280 c281 c282 c283 c284 c285 c286 c287 c288 c289 c290 c291 c292 c293 c294 c295 c296 c297 c298 c299 c300 c301 c302 c303 c304 c305 c306 c307 c308 c309 c310 c311 c312 c313 c314 c315 c316 c317 c318 c319 c320 c321 c322 c323 c324 c325 c326:Value) (Q:Exit→Act→World→Prop)
  (hexit:∀ u91 u92 u93 u94 u95 u96 u97 u98 u99 u100 u101 u102 u103 u104 u105 u106 u107 u108 u109 u110 u111 u112 u113 u114:Value,Q (.exit 4) ⟨(c0::c1::c2::c3::c4::.pointer (some ⟨g,0,none⟩)::.func (Fn.func 109) #[] #[.pointer (some ⟨g,0,none⟩)]::c7::c8::.int .i64 ((pos p (s.dropWhile inName):Nat):Int)::c10::c11::c12::c13::c14::c15::c16::c17::c18::c19::c20::c21::c22::c23::c24::c25::c26::c27::c28::c29::c30::c31::c32::c33::c34::c35::c36::c37::c38::c39::c40::c41::c42::c43::c44::c45::c46::c47::c48::c49::c50::c51::c52::c53::c54::c55::c56::c57::c58::c59::c60::c61::c62::c63::c64::c65::c66::c67::c68::c69::c70::c71::c72::c73::c74::c75::c76::c77::c78::c79::c80::c81::c82::c83::c84::c85::c86::c87::c88::c89::c90::u91::u92::u93::u94::u95::u96::u97::u98::u99::u100::u101::u102::u103::u104::u105::u106::u107::u108::u109::u110::u111::u112::u113::u114::c115::c116::c117::c118::c119::c120::c121::c122::c123::c124::c125::c126::c127::c128::c129::c130::c131::c132::c133::c134::c135::c136::c137::c138::c139::c140::c141::c142::c143::c144::c145::c146::c147::c148::c149::c150::c151::c152::c153::c154::c155::c156::c157::c158::c159::c160::c161::c162::c163::c164::c165::c166::c167::c168::c169::c170::c171::c172::c173::c174::c175::c176::c177::c178::c179::c180::c181::c182::c183::c184::c185::c186::c187::c188::c189::c190::c191::c192::c193::c194::c195::c196::c197::c198::c199::c200::c201::c202::c203::c204::c205::c206::c207::c208::c209::c210::c211::c212::c213::c214::c215::c216::c217::c218::c219::c220::c221::c222::c223::c224::c225::c226::c227::c228::c229::c230::c231::c232::c233::c234::c235::c236::c237::c238::c239::c240::c241::c242::c243::c244::c245::c246::c247::c248::c249::c250::c251::c252::c253::c254::c255::c256::c257::c258::c259::c260::c261::c262::c263::c264::c265::c266::c267::c268::c269::c270::c271::c272::c273::c274::c275::c276::c277::c278::c279::c280::c281::c282::c283::c284::c285::c286::c287::c288::c289::c290::c291::c292::c293::c294::c295::c296::c297::c298::c299::c300::c301::c302::c303::c304::c305::c306::c307::c308::c309::c310::c311::c312::c313::c314::c315::c316::c317::c318::c319::c320::c321::c322::c323::c324::c325::c326::[]).toArray,[]⟩ w) :
  Code.wp Tryz.prog (Code.loop (loopAt Tryz.f58 2)) Q ⟨(c0::c1::c2::c3::c4::.pointer (some ⟨g,0,none⟩)::.func (Fn.func 109) #[] #[.pointer (some ⟨g,0,none⟩)]::c7::c8::.int .i64 ((pos p s:Nat):Int)::c10::c11::c12::c13::c14::c15::c16::c17::c18::c19::c20::c21::c22::c23::c24::c25::c26::c27::c28::c29::c30::c31::c32::c33::c34::c35::c36::c37::c38::c39::c40::c41::c42::c43::c44::c45::c46::c47::c48::c49::c50::c51::c52::c53::c54::c55::c56::c57::c58::c59::c60::c61::c62::c63::c64::c65::c66::c67::c68::c69::c70::c71::c72::c73::c74::c75::c76::c77::c78::c79::c80::c81::c82::c83::c84::c85::c86::c87::c88::c89::c90::c91::c92::c93::c94::c95::c96::c97::c98::c99::c100::c101::c102::c103::c104::c105::c106::c107::c108::c109::c110::c111::c112::c113::c114::c115::c116::c117::c118::c119::c120::c121::c122::c123::c124::c125::c126::c127::c128::c129::c130::c131::c132::c133::c134::c135::c136::c137::c138::c139::c140::c141::c142::c143::c144::c145::c146::c147::c148::c149::c150::c151::c152::c153::c154::c155::c156::c157::c158::c159::c160::c161::c162::c163::c164::c165::c166::c167::c168::c169::c170::c171::c172::c173::c174::c175::c176::c177::c178::c179::c180::c181::c182::c183::c184::c185::c186::c187::c188::c189::c190::c191::c192::c193::c194::c195::c196::c197::c198::c199::c200::c201::c202::c203::c204::c205::c206::c207::c208::c209::c210::c211::c212::c213::c214::c215::c216::c217::c218::c219::c220::c221::c222::c223::c224::c225::c226::c227::c228::c229::c230::c231::c232::c233::c234::c235::c236::c237::c238::c239::c240::c241::c242::c243::c244::c245::c246::c247::c248::c249::c250::c251::c252::c253::c254::c255::c256::c257::c258::c259::c260::c261::c262::c263::c264::c265::c266::c267::c268::c269::c270::c271::c272::c273::c274::c275::c276::c277::c278::c279::c280::c281::c282::c283::c284::c285::c286::c287::c288::c289::c290::c291::c292::c293::c294::c295::c296::c297::c298::c299::c300::c301::c302::c303::c304::c305::c306::c307::c308::c309::c310::c311::c312::c313::c314::c315::c316::c317::c318::c319::c320::c321::c322::c323::c324::c325::c326::[]).toArray,[]⟩ w:=by
 have HX:Hid _:=hexit
 clear hexit
 conv=>arg 2;arg 1;whnf
 go_loopw [9] (fun iv wr=>∃ sj:List UInt8,iv = .int .i64 ((pos p sj:Nat):Int)∧Suf p sj∧Hid (s.dropWhile inName = sj.dropWhile inName)∧wr = w) (fun iv _=>p.size - (intOf iv).toNat)
 case atStart=>exact ⟨s,rfl,hS,rfl,rfl⟩
 case round =>
  obtain ⟨sj,rfl,hSj,HD,rfl⟩:=hrel
  cases sj with
  | nil =>
   have hk:pos p [] = p.size:=rfl
   rw [HD.out] at HX
   rw [show List.dropWhile inName [] = [] from rfl,hk] at HX
   rw [hk]
   have hki:decide ((p.size:Int) < (p.size:Int)) = false:=by simp
   clear hS hSj HD hk
   go_wp2_with fail
   exact HX.out _ _ _ _ _ _ _ _ _ _ _ _ _ _ _ _ _ _ _ _ _ _ _ _
  | cons c t =>
   obtain ⟨k,ek,hk,hpc,hnext⟩:=at_byte hSj
   have hki:(k:Int) < (p.size:Int):=by omega
   have hw1:IntKind.i64.wrap ((k:Int) + 1) = ((k + 1:Nat):Int):=by rw [IntKind.wrap_i64];omega
   have CS:Hid (Calls Tryz.prog 109 #[.int .i64 (k:Int),.pointer (some ⟨g,0,none⟩)] wr fun e w'=>e = .returned (.bool (spB c))∧w' = wr):=by rw [← hpc];exact rspace_any g p k hk wr hg
   have hSt:Suf p t:=hSj.tl
   rw [HD.out] at HX
   rw [ek]
   cases hq:inName c with
   | true =>
    have HD2:Hid (s.dropWhile inName = t.dropWhile inName):=by unfold Hid;rw [HD.out,List.dropWhile_cons_of_pos hq]
    clear HD hSj
    have ha:spB c = false∧c ≠ 47∧c ≠ 62:=by simpa [inName,and_assoc] using hq
    obtain ⟨hs,n47,n62⟩:=ha
    rw [hs] at CS
    have h47:((c.toNat:Int) != 47) = true:=by rw [bne_iff_ne];intro e;exact n47 (by rw [← UInt8.toNat_inj];exact Int.ofNat.inj e)
    have h62:((c.toNat:Int) != 62) = true:=by rw [bne_iff_ne];intro e;exact n62 (by rw [← UInt8.toNat_inj];exact Int.ofNat.inj e)
    go_wp2_with fail
    refine CS.out.mono ?_
    rintro e w' ⟨rfl,hw'⟩
    have hw'':=hw'.symm
    subst hw''
    clear CS
    go_wp2_with fail
    go_roundw
    case rel=>exact ⟨t,by rw [hnext];rfl,hSt,HD2,trivial⟩
    case measure=>simp [intOf];omega
   | false =>
    rw [List.dropWhile_cons_of_neg (by rw [hq];simp),ek] at HX
    clear HD hSj hSt hnext
    by_cases hs:spB c = true
    ·rw [hs] at CS
     go_wp2_with fail
     refine CS.out.mono ?_
     rintro e w' ⟨rfl,hw'⟩
     have hw'':=hw'.symm
     subst hw''
     clear CS
     go_wp2_with fail
     exact HX.out _ _ _ _ _ _ _ _ _ _ _ _ _ _ _ _ _ _ _ _ _ _ _ _
    ·have hs2:spB c = false:=by simpa using hs
     clear hs
     rw [hs2] at CS
     by_cases e47:c = 47
     ·subst e47
      go_wp2_with fail
      refine CS.out.mono ?_
      rintro e w' ⟨rfl,hw'⟩
      have hw'':=hw'.symm
      subst hw''
      clear CS
      go_wp2_with fail
      exact HX.out _ _ _ _ _ _ _ _ _ _ _ _ _ _ _ _ _ _ _ _ _ _ _ _
     have n47:c ≠ 47:=e47
     have h47:((c.toNat:Int) != 47) = true:=by rw [bne_iff_ne];intro e;exact n47 (by rw [← UInt8.toNat_inj];exact Int.ofNat.inj e)
     by_cases e62:c = 62
     ·subst e62
      go_wp2_with fail
      refine CS.out.mono ?_
      rintro e w' ⟨rfl,hw'⟩
      have hw'':=hw'.symm
      subst hw''
      clear CS
      go_wp2_with fail
      exact HX.out _ _ _ _ _ _ _ _ _ _ _ _ _ _ _ _ _ _ _ _ _ _ _ _
     have n62:c ≠ 62:=e62
     have h62:((c.toNat:Int) != 62) = true:=by rw [bne_iff_ne];intro e;exact n62 (by rw [← UInt8.toNat_inj];exact Int.ofNat.inj e)
     exact absurd hq (by simp [inName,hs2,n47,n62])
end Go.Proofs.YtbbfcbodhmeanaaGreatDoor



namespace Go.Proofs.YtbbfcbodhmeanaaGreatDoor
open Go.RowKit
set_option maxRecDepth 1000000 in
set_option maxHeartbeats 4000000 in
theorem lk7 (g:Nat) (p:ByteArray) (hp:p.size≤4000) (s:List UInt8) (hS:Suf p s) (w:World) (hg:w.cell? ⟨g,0,none⟩ = some (.string p)) (c0 c1 c2 c3 c4 c7 c8 c9 c10 c11 c12 c13 c14 c16 c17 c18 c19 c20 c21 c22 c23 c24 c25 c26 c27 c28 c29 c30 c31 c32 c33 c34 c35 c36 c37 c38 c39 c40 c41 c42 c43 c44 c45 c46 c47 c48 c49 c50 c51 c52 c53 c54 c55 c56 c57 c58 c59 c60 c61 c62 c63 c64 c65 c66 c67 c68 c69 c70 c71 c72 c73 c74 c75 c76 c77 c78 c79 c80 c81 c82 c83 c84 c85 c86 c87 c88 c89 c90 c91 c92 c93 c94 c95 c96 c97 c98 c99 c100 c101 c102 c103 c104 c105 c106 c107 c108 c109 c110 c111 c112 c113 c114 c115 c116 c117 c118 c119 c120 c121 c122 c123 c124 c125 c126 c127 c128 c129 c130 c131 c132 c133 c134 c135 c136 c137 c138 c139 c140 c141 c142 c143 c144 c145 c146 c147 c148 c149 c150 c151 c152 c153 c154 c155 c156 c157 c158 c159 c160 c161 c162 c163 c164 c165 c166 c167 c168 c169 c170 c171 c172 c173 c174 c175 c176 c177 c178 c179 c180 c181 c182 c183 c184 c185 c186 c187 c188 c189 c190 c191 c192 c193 c194 c195 c196 c197 c198 c199 c200 c201 c202 c203 c204 c205 c206 c207 c208 c209 c210 c211 c212 c213 c214 c215 c216 c217 c218 c219 c220 c221 c222 c223 c224 c225 c226 c227 c228 c229 c230 c231 c232 c233 c234 c235 c236 c237 c238 c239 c240 c241 c242 c243 c244 c245 c246 c247 c248 c249 c250 c251 c252 c253 c254 c255 c256 c257 c258 c259 c260 c261 c262 c263 c264 c265 c266 c267 c268 c269 c270 c271 c272 c273 c274 c275 c276 c277 c278 c279 c280 c281 c282 c283 c284 c285 c286 c287 c288 c289 c290 c291 c292 c293 c294 c295 c296 c297 c298 c299 c300 c301 c302 c303 c304 c305 c306 c307 c308 c309 c310 c311 c312 c313 c314 c315 c316 c317 c318 c319 c320 c321 c322 c323 c324 c325 c326:Value) (Q:Exit→Act→World→Prop)
  (hexit:∀ u199 u200 u201 u202 u203 u204 u205 u206 u207 u208 u209:Value,Q (.exit 12) ⟨(c0::c1::c2::c3::c4::.pointer (some ⟨g,0,none⟩)::.func (Fn.func 109) #[] #[.pointer (some ⟨g,0,none⟩)]::c7::c8::c9::c10::c11::c12::c13::c14::.int .i64 ((pos p (s.dropWhile spB):Nat):Int)::c16::c17::c18::c19::c20::c21::c22::c23::c24::c25::c26::c27::c28::c29::c30::c31::c32::c33::c34::c35::c36::c37::c38::c39::c40::c41::c42::c43::c44::c45::c46::c47::c48::c49::c50::c51::c52::c53::c54::c55::c56::c57::c58::c59::c60::c61::c62::c63::c64::c65::c66::c67::c68::c69::c70::c71::c72::c73::c74::c75::c76::c77::c78::c79::c80::c81::c82::c83::c84::c85::c86::c87::c88::c89::c90::c91::c92::c93::c94::c95::c96::c97::c98::c99::c100::c101::c102::c103::c104::c105::c106::c107::c108::c109::c110::c111::c112::c113::c114::c115::c116::c117::c118::c119::c120::c121::c122::c123::c124::c125::c126::c127::c128::c129::c130::c131::c132::c133::c134::c135::c136::c137::c138::c139::c140::c141::c142::c143::c144::c145::c146::c147::c148::c149::c150::c151::c152::c153::c154::c155::c156::c157::c158::c159::c160::c161::c162::c163::c164::c165::c166::c167::c168::c169::c170::c171::c172::c173::c174::c175::c176::c177::c178::c179::c180::c181::c182::c183::c184::c185::c186::c187::c188::c189::c190::c191::c192::c193::c194::c195::c196::c197::c198::u199::u200::u201::u202::u203::u204::u205::u206::u207::u208::u209::c210::c211::c212::c213::c214::c215::c216::c217::c218::c219::c220::c221::c222::c223::c224::c225::c226::c227::c228::c229::c230::c231::c232::c233::c234::c235::c236::c237::c238::c239::c240::c241::c242::c243::c244::c245::c246::c247::c248::c249::c250::c251::c252::c253::c254::c255::c256::c257::c258::c259::c260::c261::c262::c263::c264::c265::c266::c267::c268::c269::c270::c271::c272::c273::c274::c275::c276::c277::c278::c279::c280::c281::c282::c283::c284::c285::c286::c287::c288::c289::c290::c291::c292::c293::c294::c295::c296::c297::c298::c299::c300::c301::c302::c303::c304::c305::c306::c307::c308::c309::c310::c311::c312::c313::c314::c315::c316::c317::c318::c319::c320::c321::c322::c323::c324::c325::c326::[]).toArray,[]⟩ w) :
  Code.wp Tryz.prog (Code.loop (loopAt Tryz.f58 6)) Q ⟨(c0::c1::c2::c3::c4::.pointer (some ⟨g,0,none⟩)::.func (Fn.func 109) #[] #[.pointer (some ⟨g,0,none⟩)]::c7::c8::c9::c10::c11::c12::c13::c14::.int .i64 ((pos p s:Nat):Int)::c16::c17::c18::c19::c20::c21::c22::c23::c24::c25::c26::c27::c28::c29::c30::c31::c32::c33::c34::c35::c36::c37::c38::c39::c40::c41::c42::c43::c44::c45::c46::c47::c48::c49::c50::c51::c52::c53::c54::c55::c56::c57::c58::c59::c60::c61::c62::c63::c64::c65::c66::c67::c68::c69::c70::c71::c72::c73::c74::c75::c76::c77::c78::c79::c80::c81::c82::c83::c84::c85::c86::c87::c88::c89::c90::c91::c92::c93::c94::c95::c96::c97::c98::c99::c100::c101::c102::c103::c104::c105::c106::c107::c108::c109::c110::c111::c112::c113::c114::c115::c116::c117::c118::c119::c120::c121::c122::c123::c124::c125::c126::c127::c128::c129::c130::c131::c132::c133::c134::c135::c136::c137::c138::c139::c140::c141::c142::c143::c144::c145::c146::c147::c148::c149::c150::c151::c152::c153::c154::c155::c156::c157::c158::c159::c160::c161::c162::c163::c164::c165::c166::c167::c168::c169::c170::c171::c172::c173::c174::c175::c176::c177::c178::c179::c180::c181::c182::c183::c184::c185::c186::c187::c188::c189::c190::c191::c192::c193::c194::c195::c196::c197::c198::c199::c200::c201::c202::c203::c204::c205::c206::c207::c208::c209::c210::c211::c212::c213::c214::c215::c216::c217::c218::c219::c220::c221::c222::c223::c224::c225::c226::c227::c228::c229::c230::c231::c232::c233::c234::c235::c236::c237::c238::c239::c240::c241::c242::c243::c244::c245::c246::c247::c248::c249::c250::c251::c252::c253::c254::c255::c256::c257::c258::c259::c260::c261::c262::c263::c264::c265::c266::c267::c268::c269::c270::c271::c272::c273::c274::c275::c276::c277::c278::c279::c280::c281::c282::c283::c284::c285::c286::c287::c288::c289::c290::c291::c292::c293::c294::c295::c296::c297::c298::c299::c300::c301::c302::c303::c304::c305::c306::c307::c308::c309::c310::c311::c312::c313::c314::c315::c316::c317::c318::c319::c320::c321::c322::c323::c324::c325::c326::[]).toArray,[]⟩ w:=by
 have HX:Hid _:=hexit
 clear hexit
 conv=>arg 2;arg 1;whnf
 go_loopw [15] (fun iv wr=>∃ sj:List UInt8,iv = .int .i64 ((pos p sj:Nat):Int)∧Suf p sj∧Hid (s.dropWhile spB = sj.dropWhile spB)∧wr = w) (fun iv _=>p.size - (intOf iv).toNat)
 case atStart=>exact ⟨s,rfl,hS,rfl,rfl⟩
 case round =>
  obtain ⟨sj,rfl,hSj,HD,rfl⟩:=hrel
  cases sj with
  | nil =>
   have hk:pos p [] = p.size:=rfl
   rw [HD.out] at HX
   rw [show List.dropWhile spB [] = [] from rfl,hk] at HX
   rw [hk]
   have hki:decide ((p.size:Int) < (p.size:Int)) = false:=by simp
   clear hS hSj HD hk
   go_wp2_with fail
   exact HX.out _ _ _ _ _ _ _ _ _ _ _
  | cons c t =>
   obtain ⟨k,ek,hk,hpc,hnext⟩:=at_byte hSj
   have hki:(k:Int) < (p.size:Int):=by omega
   have hw1:IntKind.i64.wrap ((k:Int) + 1) = ((k + 1:Nat):Int):=by rw [IntKind.wrap_i64];omega
   have CS:Hid (Calls Tryz.prog 109 #[.int .i64 (k:Int),.pointer (some ⟨g,0,none⟩)] wr fun e w'=>e = .returned (.bool (spB c))∧w' = wr):=by rw [← hpc];exact rspace_any g p k hk wr hg
   have hSt:Suf p t:=hSj.tl
   rw [HD.out] at HX
   rw [ek]
   cases hq:spB c with
   | true =>
    have HD2:Hid (s.dropWhile spB = t.dropWhile spB):=by unfold Hid;rw [HD.out,List.dropWhile_cons_of_pos hq]
    clear HD hSj
    rw [hq] at CS
    go_wp2_with fail
    refine CS.out.mono ?_
    rintro e w' ⟨rfl,hw'⟩
    have hw'':=hw'.symm
    subst hw''
    clear CS
    go_wp2_with fail
    go_roundw
    case rel=>exact ⟨t,by rw [hnext];rfl,hSt,HD2,trivial⟩
    case measure=>simp [intOf];omega
   | false =>
    rw [List.dropWhile_cons_of_neg (by rw [hq];simp),ek] at HX
    clear HD hSj hSt hnext
    rw [hq] at CS
    go_wp2_with fail
    refine CS.out.mono ?_
    rintro e w' ⟨rfl,hw'⟩
    have hw'':=hw'.symm
    subst hw''
    clear CS
    go_wp2_with fail
    exact HX.out _ _ _ _ _ _ _ _ _ _ _
end Go.Proofs.YtbbfcbodhmeanaaGreatDoor



namespace Go.Proofs.YtbbfcbodhmeanaaGreatDoor
open Go.RowKit
set_option maxRecDepth 1000000 in
set_option maxHeartbeats 4000000 in
theorem lk8 (g:Nat) (p:ByteArray) (hp:p.size≤4000) (s:List UInt8) (hS:Suf p s) (w:World) (hg:w.cell? ⟨g,0,none⟩ = some (.string p)) (c0 c1 c2 c3 c4 c7 c8 c10 c11 c12 c13 c14 c15 c16 c17 c18 c19 c20 c21 c22 c23 c24 c25 c26 c27 c28 c29 c30 c31 c32 c33 c34 c35 c36 c37 c38 c39 c40 c41 c42 c43 c44 c45 c46 c47 c48 c49 c50 c51 c52 c53 c54 c55 c56 c57 c58 c59 c60 c61 c62 c63 c64 c65 c66 c67 c68 c69 c70 c71 c72 c73 c74 c75 c76 c77 c78 c79 c80 c81 c82 c83 c84 c85 c86 c87 c88 c89 c90 c91 c92 c93 c94 c95 c96 c97 c98 c99 c100 c101 c102 c103 c104 c105 c106 c107 c108 c109 c110 c111 c112 c113 c114 c115 c116 c117 c118 c119 c120 c121 c122 c123 c124 c125 c126 c127 c128 c129 c130 c131 c132 c133 c134 c135 c136 c137 c138 c139 c140 c141 c142 c143 c144 c145 c146 c147 c148 c149 c150 c151 c152 c153 c154 c155 c156 c157 c158 c159 c160 c161 c162 c163 c164 c165 c166 c167 c168 c169 c170 c171 c172 c173 c174 c175 c176 c177 c178 c179 c180 c181 c182 c183 c184 c185 c186 c187 c188 c189 c190 c191 c192 c193 c194 c195 c196 c197 c198 c199 c200 c201 c202 c203 c204 c205 c206 c207 c208 c209 c210 c211 c212 c213 c214 c215 c216 c217 c218 c219 c220 c221 c222 c223 c224 c225 c226 c227 c228 c229 c230 c231 c232 c233 c234 c235 c236 c237 c238 c239 c240 c241 c242 c243 c244 c245 c246 c247 c248 c249 c250 c251 c252 c253 c254 c255 c256 c257 c258 c259 c260 c261 c262 c263 c264 c265 c266 c267 c268 c269 c270 c271 c272 c273 c274 c275 c276 c277 c278 c279 c280 c281 c282 c283 c284 c285 c286 c287 c288 c289 c290 c291 c292 c293 c294 c295 c296 c297 c298 c299 c300 c301 c302 c303 c304 c305 c306 c307 c308 c309 c310 c311 c312 c313 c314 c315 c316 c317 c318 c319 c320 c321 c322 c323 c324 c325 c326:Value) (Q:Exit→Act→World→Prop)
  (hexit:∀ u258 u259 u260 u261 u262 u263 u264 u265 u266 u267 u268 u269 u270 u271 u272 u273 u274 u275:Value,Q (.exit 14) ⟨(c0::c1::c2::c3::c4::.pointer (some ⟨g,0,none⟩)::.func (Fn.func 109) #[] #[.pointer (some ⟨g,0,none⟩)]::c7::c8::.int .i64 ((pos p (s.dropWhile inBare):Nat):Int)::c10::c11::c12::c13::c14::c15::c16::c17::c18::c19::c20::c21::c22::c23::c24::c25::c26::c27::c28::c29::c30::c31::c32::c33::c34::c35::c36::c37::c38::c39::c40::c41::c42::c43::c44::c45::c46::c47::c48::c49::c50::c51::c52::c53::c54::c55::c56::c57::c58::c59::c60::c61::c62::c63::c64::c65::c66::c67::c68::c69::c70::c71::c72::c73::c74::c75::c76::c77::c78::c79::c80::c81::c82::c83::c84::c85::c86::c87::c88::c89::c90::c91::c92::c93::c94::c95::c96::c97::c98::c99::c100::c101::c102::c103::c104::c105::c106::c107::c108::c109::c110::c111::c112::c113::c114::c115::c116::c117::c118::c119::c120::c121::c122::c123::c124::c125::c126::c127::c128::c129::c130::c131::c132::c133::c134::c135::c136::c137::c138::c139::c140::c141::c142::c143::c144::c145::c146::c147::c148::c149::c150::c151::c152::c153::c154::c155::c156::c157::c158::c159::c160::c161::c162::c163::c164::c165::c166::c167::c168::c169::c170::c171::c172::c173::c174::c175::c176::c177::c178::c179::c180::c181::c182::c183::c184::c185::c186::c187::c188::c189::c190::c191::c192::c193::c194::c195::c196::c197::c198::c199::c200::c201::c202::c203::c204::c205::c206::c207::c208::c209::c210::c211::c212::c213::c214::c215::c216::c217::c218::c219::c220::c221::c222::c223::c224::c225::c226::c227::c228::c229::c230::c231::c232::c233::c234::c235::c236::c237::c238::c239::c240::c241::c242::c243::c244::c245::c246::c247::c248::c249::c250::c251::c252::c253::c254::c255::c256::c257::u258::u259::u260::u261::u262::u263::u264::u265::u266::u267::u268::u269::u270::u271::u272::u273::u274::u275::c276::c277::c278::c279::c280::c281::c282::c283::c284::c285::c286::c287::c288::c289::c290::c291::c292::c293::c294::c295::c296::c297::c298::c299::c300::c301::c302::c303::c304::c305::c306::c307::c308::c309::c310::c311::c312::c313::c314::c315::c316::c317::c318::c319::c320::c321::c322::c323::c324::c325::c326::[]).toArray,[]⟩ w) :
  Code.wp Tryz.prog (Code.loop (loopAt Tryz.f58 7)) Q ⟨(c0::c1::c2::c3::c4::.pointer (some ⟨g,0,none⟩)::.func (Fn.func 109) #[] #[.pointer (some ⟨g,0,none⟩)]::c7::c8::.int .i64 ((pos p s:Nat):Int)::c10::c11::c12::c13::c14::c15::c16::c17::c18::c19::c20::c21::c22::c23::c24::c25::c26::c27::c28::c29::c30::c31::c32::c33::c34::c35::c36::c37::c38::c39::c40::c41::c42::c43::c44::c45::c46::c47::c48::c49::c50::c51::c52::c53::c54::c55::c56::c57::c58::c59::c60::c61::c62::c63::c64::c65::c66::c67::c68::c69::c70::c71::c72::c73::c74::c75::c76::c77::c78::c79::c80::c81::c82::c83::c84::c85::c86::c87::c88::c89::c90::c91::c92::c93::c94::c95::c96::c97::c98::c99::c100::c101::c102::c103::c104::c105::c106::c107::c108::c109::c110::c111::c112::c113::c114::c115::c116::c117::c118::c119::c120::c121::c122::c123::c124::c125::c126::c127::c128::c129::c130::c131::c132::c133::c134::c135::c136::c137::c138::c139::c140::c141::c142::c143::c144::c145::c146::c147::c148::c149::c150::c151::c152::c153::c154::c155::c156::c157::c158::c159::c160::c161::c162::c163::c164::c165::c166::c167::c168::c169::c170::c171::c172::c173::c174::c175::c176::c177::c178::c179::c180::c181::c182::c183::c184::c185::c186::c187::c188::c189::c190::c191::c192::c193::c194::c195::c196::c197::c198::c199::c200::c201::c202::c203::c204::c205::c206::c207::c208::c209::c210::c211::c212::c213::c214::c215::c216::c217::c218::c219::c220::c221::c222::c223::c224::c225::c226::c227::c228::c229::c230::c231::c232::c233::c234::c235::c236::c237::c238::c239::c240::c241::c242::c243::c244::c245::c246::c247::c248::c249::c250::c251::c252::c253::c254::c255::c256::c257::c258::c259::c260::c261::c262::c263::c264::c265::c266::c267::c268::c269::c270::c271::c272::c273::c274::c275::c276::c277::c278::c279::c280::c281::c282::c283::c284::c285::c286::c287::c288::c289::c290::c291::c292::c293::c294::c295::c296::c297::c298::c299::c300::c301::c302::c303::c304::c305::c306::c307::c308::c309::c310::c311::c312::c313::c314::c315::c316::c317::c318::c319::c320::c321::c322::c323::c324::c325::c326::[]).toArray,[]⟩ w:=by
 have HX:Hid _:=hexit
 clear hexit
 conv=>arg 2;arg 1;whnf
 go_loopw [9] (fun iv wr=>∃ sj:List UInt8,iv = .int .i64 ((pos p sj:Nat):Int)∧Suf p sj∧Hid (s.dropWhile inBare = sj.dropWhile inBare)∧wr = w) (fun iv _=>p.size - (intOf iv).toNat)
 case atStart=>exact ⟨s,rfl,hS,rfl,rfl⟩
 case round =>
  obtain ⟨sj,rfl,hSj,HD,rfl⟩:=hrel
  cases sj with
  | nil =>
   have hk:pos p [] = p.size:=rfl
   rw [HD.out] at HX
   rw [show List.dropWhile inBare [] = [] from rfl,hk] at HX
   rw [hk]
   have hki:decide ((p.size:Int) < (p.size:Int)) = false:=by simp
   clear hS hSj HD hk
   go_wp2_with fail
   exact HX.out _ _ _ _ _ _ _ _ _ _ _ _ _ _ _ _ _ _
  | cons c t =>
   obtain ⟨k,ek,hk,hpc,hnext⟩:=at_byte hSj
   have hki:(k:Int) < (p.size:Int):=by omega
   have hw1:IntKind.i64.wrap ((k:Int) + 1) = ((k + 1:Nat):Int):=by rw [IntKind.wrap_i64];omega
   have CS:Hid (Calls Tryz.prog 109 #[.int .i64 (k:Int),.pointer (some ⟨g,0,none⟩)] wr fun e w'=>e = .returned (.bool (spB c))∧w' = wr):=by rw [← hpc];exact rspace_any g p k hk wr hg
   have hSt:Suf p t:=hSj.tl
   rw [HD.out] at HX
   rw [ek]
   cases hq:inBare c with
   | true =>
    have HD2:Hid (s.dropWhile inBare = t.dropWhile inBare):=by unfold Hid;rw [HD.out,List.dropWhile_cons_of_pos hq]
    clear HD hSj
    have ha:spB c = false∧c ≠ 62:=by simpa [inBare,and_assoc] using hq
    obtain ⟨hs,n62⟩:=ha
    rw [hs] at CS
    have h62:((c.toNat:Int) != 62) = true:=by rw [bne_iff_ne];intro e;exact n62 (by rw [← UInt8.toNat_inj];exact Int.ofNat.inj e)
    go_wp2_with fail
    refine CS.out.mono ?_
    rintro e w' ⟨rfl,hw'⟩
    have hw'':=hw'.symm
    subst hw''
    clear CS
    go_wp2_with fail
    go_roundw
    case rel=>exact ⟨t,by rw [hnext];rfl,hSt,HD2,trivial⟩
    case measure=>simp [intOf];omega
   | false =>
    rw [List.dropWhile_cons_of_neg (by rw [hq];simp),ek] at HX
    clear HD hSj hSt hnext
    by_cases hs:spB c = true
    ·rw [hs] at CS
     go_wp2_with fail
     refine CS.out.mono ?_
     rintro e w' ⟨rfl,hw'⟩
     have hw'':=hw'.symm
     subst hw''
     clear CS
     go_wp2_with fail
     exact HX.out _ _ _ _ _ _ _ _ _ _ _ _ _ _ _ _ _ _
    ·have hs2:spB c = false:=by simpa using hs
     clear hs
     rw [hs2] at CS
     by_cases e62:c = 62
     ·subst e62
      go_wp2_with fail
      refine CS.out.mono ?_
      rintro e w' ⟨rfl,hw'⟩
      have hw'':=hw'.symm
      subst hw''
      clear CS
      go_wp2_with fail
      exact HX.out _ _ _ _ _ _ _ _ _ _ _ _ _ _ _ _ _ _
     have n62:c ≠ 62:=e62
     have h62:((c.toNat:Int) != 62) = true:=by rw [bne_iff_ne];intro e;exact n62 (by rw [← UInt8.toNat_inj];exact Int.ofNat.inj e)
     exact absurd hq (by simp [inBare,hs2,n62])
end Go.Proofs.YtbbfcbodhmeanaaGreatDoor


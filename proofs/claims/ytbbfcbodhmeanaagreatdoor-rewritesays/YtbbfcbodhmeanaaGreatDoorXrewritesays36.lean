
import Derived.Test.YtbbfcbodhmeanaaGreatDoorXrewritesays35
import Derived.Lib.JoinFns
import Derived.Deep.CutRange
import Derived.Deep.RegionWith
import Derived.Lib.ReplaceLaws
import Derived.Lib.Join
namespace Go.Proofs.YtbbfcbodhmeanaaGreatDoor
open Go.RowKit
theorem tagS_of (low:List UInt8→List UInt8) (seen:List (List UInt8)) {s r:List UInt8} (h:s.dropWhile inGap = r.dropWhile inGap):tagS low seen s = tagS low seen r:=by
 cases hr:r.dropWhile inGap with
 | nil=>rw [tagS_nil low seen s (h.trans hr),tagS_nil low seen r hr]
 | cons c t =>
  by_cases hc:c = 62
  ·subst hc
   rw [tagS_end low seen s t (h.trans hr),tagS_end low seen r t hr]
  ·rw [tagS_next low seen s c t (h.trans hr) hc,tagS_next low seen r c t hr hc]
theorem tagS_gap (low:List UInt8→List UInt8) (seen:List (List UInt8)) {c:UInt8} (t:List UInt8) (h:inGap c = true):tagS low seen (c::t) = tagS low seen t:=tagS_of low seen (List.dropWhile_cons_of_pos h)
theorem gap_sp (s:List UInt8):(s.dropWhile spB).dropWhile inGap = s.dropWhile inGap:=by
 induction s with
 | nil=>rfl
 | cons c t ih =>
  by_cases h:spB c = true
  ·rw [List.dropWhile_cons_of_pos h,ih,List.dropWhile_cons_of_pos (by unfold inGap;rw [h];rfl)]
  ·rw [List.dropWhile_cons_of_neg h]
theorem tagS_sp (low:List UInt8→List UInt8) (seen:List (List UInt8)) (s:List UInt8):tagS low seen (s.dropWhile spB) = tagS low seen s:=tagS_of low seen (gap_sp s)
structure TgAt (w0:World) (p:ByteArray) (s0:List UInt8) (v11 v12:Value) (wr:World) (sj:List UInt8) (names:List (List UInt8)) (acc:List LK):Prop where
 la:acc.length + sj.length≤4000
 ls:names.length + sj.length≤4000
 suf:Suf p sj
 bel:Below w0.heap.size w0 wr
 om:wr.ownsRow w0.heap.size 40 3 v11 acc.length (lv p.size acc)
 on:wr.ownsRow w0.heap.size 9 1 v12 names.length (names.map fun x=>Value.string (lba x))
 eq:tagS smallU [] s0 = ((tagS smallU names.reverse sj).1.map (acc ++ ·),(tagS smallU names.reverse sj).2)
theorem TgAt.gap {w0:World} {p:ByteArray} {s0:List UInt8} {v11 v12:Value} {wr:World} {c:UInt8} {t:List UInt8} {names:List (List UInt8)} {acc:List LK} (h:TgAt w0 p s0 v11 v12 wr (c::t) names acc) (hc:inGap c = true):TgAt w0 p s0 v11 v12 wr t names acc :=
 ⟨by have:=h.la;simp only [List.length_cons] at this;omega,by have:=h.ls;simp only [List.length_cons] at this;omega,h.suf.tl,h.bel,h.om,h.on,by rw [h.eq,tagS_gap smallU _ t hc]⟩
def TgEnd (w0:World) (p:ByteArray) (r:Option (List LK) × List UInt8) (v9 v11:Value) (wr:World):Prop :=
 ∃ (sj:List UInt8) (acc:List LK),v9 = .int .i64 ((pos p sj:Nat):Int)∧Suf p sj∧Below w0.heap.size w0 wr∧acc.length≤4000∧wr.ownsRow w0.heap.size 40 3 v11 acc.length (lv p.size acc)∧((sj = []∧r = (none,[])) ∨ ∃ t,sj = 62::t∧r = (some acc,t))
theorem TgAt.nil {w0:World} {p:ByteArray} {s0:List UInt8} {v11 v12:Value} {wr:World} {names:List (List UInt8)} {acc:List LK} (h:TgAt w0 p s0 v11 v12 wr [] names acc):TgEnd w0 p (tagS smallU [] s0) (.int .i64 ((p.size:Nat):Int)) v11 wr :=
 ⟨[],acc,rfl,h.suf,h.bel,by have:=h.la;simp at this;omega,h.om,Or.inl ⟨rfl,by rw [h.eq,tagS_nil smallU _ [] rfl];rfl⟩⟩
theorem TgAt.fin {w0:World} {p:ByteArray} {s0:List UInt8} {v11 v12:Value} {wr:World} {t:List UInt8} {names:List (List UInt8)} {acc:List LK} (h:TgAt w0 p s0 v11 v12 wr (62::t) names acc) {k:Nat} (hk:pos p (62::t) = k):TgEnd w0 p (tagS smallU [] s0) (.int .i64 (k:Int)) v11 wr :=
 ⟨62::t,acc,by rw [hk],h.suf,h.bel,by have:=h.la;simp at this;omega,h.om,Or.inr ⟨t,rfl,by rw [h.eq,tagS_end smallU _ (62::t) t rfl];simp⟩⟩
theorem rows_apart {w:World} {b1 e1 s1 n1 b2 e2 s2 n2:Nat} {v1 v2:Value} {x1 x2:List Value} (h1:w.ownsRow b1 e1 s1 v1 n1 x1) (h2:w.ownsRow b2 e2 s2 v2 n2 x2) (hne:e1 ≠ e2):v1.ownBlock = none ∨ v1.ownBlock ≠ v2.ownBlock:=by
 rcases h1.2 with ⟨rfl,_⟩ | ⟨g,cap,cur,rfl,k1⟩
 ·exact Or.inl rfl
 ·rcases h2.2 with ⟨rfl,_⟩ | ⟨g',cap',cur',rfl,k2⟩
  ·exact Or.inr (by intro h;cases h)
  ·refine Or.inr fun h=>hne ?_
   have hg:g = g':=by
    have:(Value.slice (some ⟨g,0,none⟩) n1 cap).ownBlock = some g:=rfl
    have:(Value.slice (some ⟨g',0,none⟩) n2 cap').ownBlock = some g':=rfl
    simp_all
   subst hg
   obtain ⟨_,a1,_⟩:=k1
   obtain ⟨_,a2,_⟩:=k2
   simp_all
def eqB (s:List UInt8):Bool:=match s with
 | 61::_=>true
 | _=>false
theorem eqB_ne {d:UInt8} (y:List UInt8) (h:¬ d = 61):eqB (d::y) = false:=by
 unfold eqB
 split
 ·rename_i e
  exact absurd (List.cons.inj e).1 h
 ·rfl
theorem eqB_true {y:List UInt8} (h:eqB y = true):∃ t,y = 61::t:=by
 unfold eqB at h
 split at h
 ·exact ⟨_,rfl⟩
 ·cases h
def LkA (w1 : World) (p : ByteArray) (ya yb : List UInt8) (L : Nat) (yd : List UInt8) (wx : World) : Prop :=
  Below L w1 wx ∧ Suf p yd ∧
  ((eqB yb = false ∧ yd = ya ∧ wx.heap[L]? = some (.cells #[.int .i64 (-1), .int .i64 0, .string ⟨#[]⟩] 40)) ∨
   ∃ y2, yb = 61 :: y2 ∧ yd = (valP (y2.dropWhile spB)).2.2 ∧ wx.heap[L]? = some (.cells #[.int .i64 ((pos p (valP (y2.dropWhile spB)).1 : Nat) : Int), .int .i64 ((pos p (valP (y2.dropWhile spB)).1 + (valP (y2.dropWhile spB)).2.1.length : Nat) : Int), .string ⟨#[]⟩] 40))
theorem link_set {W:World} {L t:Nat} {a b c:Value} (h:W.heap[L]? = some (.cells #[a,b,c] t)) (x y:Value):((W.setCell ⟨L,0,none⟩ x).setCell ⟨L,1,none⟩ y).heap[L]? = some (.cells #[x,y,c] t):=by
 have h1:(W.setCell ⟨L,0,none⟩ x).heap[L]? = some (.cells #[x,b,c] t):=by
  show (W.heap.modify L _)[L]? = _
  rw [Array.getElem?_modify,if_pos rfl,h]
  rfl
 show ((W.setCell ⟨L,0,none⟩ x).heap.modify L _)[L]? = _
 rw [Array.getElem?_modify,if_pos rfl,h1]
 rfl
end Go.Proofs.YtbbfcbodhmeanaaGreatDoor



namespace Go.Proofs.YtbbfcbodhmeanaaGreatDoor
theorem indexQ (q:UInt8):∀ y:List UInt8,Lib.indexByte (y ++ [q]) q = ((y.takeWhile (notQ q)).length:Int)
 | []=>by simp [Lib.indexByte]
 | c::y=>by
  have ih:=indexQ q y
  rw [List.cons_append,Lib.indexByte]
  by_cases h:c = q
  ·subst h
   rw [if_pos (by simp),List.takeWhile_cons_of_neg (by simp [notQ])]
   rfl
  ·rw [if_neg (by simpa using h),ih,List.takeWhile_cons_of_pos (by simp [notQ,h]),if_neg (by simp)]
   rfl
theorem quote_len (q:UInt8) (y:List UInt8):(y.takeWhile (notQ q)).length + (y.dropWhile (notQ q)).length = y.length:=by
 have:=congrArg List.length (List.takeWhile_append_dropWhile (p:=notQ q) (l:=y))
 rw [List.length_append] at this
 exact this
theorem quote_pos {p:ByteArray} {q:UInt8} {y:List UInt8} (h:Suf p (q::y)):min (pos p (q::y) + 1 + (y.takeWhile (notQ q)).length + 1) p.size = pos p ((y.dropWhile (notQ q)).drop 1):=by
 have h1:=h.len
 have h2:=quote_len q y
 unfold pos
 rw [List.length_drop]
 simp only [List.length_cons] at *
 omega
theorem valP_q {q:UInt8} (y:List UInt8) (h:qB q = true):valP (q::y) = (y,y.takeWhile (notQ q),(y.dropWhile (notQ q)).drop 1):=by
 show (if qB q = true then _ else _) = _
 rw [if_pos h]
theorem quote_texts {p:ByteArray} {q:UInt8} {y:List UInt8} (h:Suf p (q::y)):p.extract (pos p (q::y) + 1) p.size = lba y∧p.extract (pos p (q::y)) (pos p (q::y) + 1) = ⟨#[q]⟩∧pos p y = pos p (q::y) + 1:=by
 obtain ⟨k,ek,hk,hpc,hn⟩:=at_byte h
 refine ⟨?_,?_,by rw [hn,ek]⟩
 ·rw [ek,← hn]
  exact ext_end h.tl
 ·have e:pos p (q::y) + 1 = pos p y:=by rw [ek,hn]
  rw [e]
  exact ext_of h (a:=[q]) (r:=y) rfl
end Go.Proofs.YtbbfcbodhmeanaaGreatDoor



namespace Go.Proofs.YtbbfcbodhmeanaaGreatDoor
open Go.RowKit
def condsOf:Code→List Code
 | .cond c a b=>.cond c a b::(condsOf a ++ condsOf b)
 | .loop c=>condsOf c
 | .seq a b=>condsOf a ++ condsOf b
 | .block _ c=>condsOf c
 | .scope c=>condsOf c
 | _=>[]
def condAt (f:Func) (k:Nat):Code:=((f.body.map condsOf).getD []).getD k .skip
set_option maxRecDepth 1000000 in
set_option maxHeartbeats 4000000 in
theorem lkQ (g:Nat) (p:ByteArray) (hp:p.size≤4000) (q:UInt8) (y:List UInt8) (hS:Suf p (q::y)) (w:World) (hg:w.cell? ⟨g,0,none⟩ = some (.string p)) (L:Nat) (la lb lc:Value) (hL:w.heap[L]? = some (.cells #[la,lb,lc] 40)) (hLg:g ≠ L) (c0 c1 c2 c3 c4 c6 c7 c8 c9 c10 c11 c12 c13 c14 c17 c18 c19 c20 c21 c22 c23 c24 c25 c26 c27 c28 c29 c30 c31 c32 c33 c34 c35 c36 c37 c38 c39 c40 c41 c42 c43 c44 c45 c46 c47 c48 c49 c50 c51 c52 c53 c54 c55 c56 c57 c58 c59 c60 c61 c62 c63 c64 c65 c66 c67 c68 c69 c70 c71 c72 c73 c74 c75 c76 c77 c78 c79 c80 c81 c82 c83 c84 c85 c86 c87 c88 c89 c90 c91 c92 c93 c94 c95 c96 c97 c98 c99 c100 c101 c102 c103 c104 c105 c106 c107 c108 c109 c110 c111 c112 c113 c114 c115 c116 c117 c118 c119 c120 c121 c122 c123 c124 c125 c126 c127 c128 c129 c130 c131 c132 c133 c134 c135 c136 c137 c138 c139 c140 c141 c142 c143 c144 c145 c146 c147 c148 c149 c150 c151 c152 c153 c154 c155 c156 c157 c158 c159 c160 c161 c162 c163 c164 c165 c166 c167 c168 c169 c170 c171 c172 c173 c174 c175 c176 c177 c178 c179 c180 c181 c182 c183 c184 c185 c186 c187 c188 c189 c190 c191 c192 c193 c194 c195 c196 c197 c198 c199 c200 c201 c202 c203 c204 c205 c206 c207 c208 c209 c210 c211 c212 c213 c214 c215 c216 c217 c218 c219 c220 c221 c222 c223 c224 c226 c227 c228 c229 c230 c231 c232 c233 c234 c235 c236 c237 c238 c239 c240 c241 c242 c243 c244 c245 c246 c247 c248 c249 c250 c251 c252 c253 c254 c255 c256 c257 c258 c259 c260 c261 c262 c263 c264 c265 c266 c267 c268 c269 c270 c271 c272 c273 c274 c275 c276 c277 c278 c279 c280 c281 c282 c283 c284 c285 c286 c287 c288 c289 c290 c291 c292 c293 c294 c295 c296 c297 c298 c299 c300 c301 c302 c303 c304 c305 c306 c307 c308 c309 c310 c311 c312 c313 c314 c315 c316 c317 c318 c319 c320 c321 c322 c323 c324 c325 c326:Value) (Q:Exit→Act→World→Prop)
  (hexit:∀ u226 u227 u228 u229 u230 u231 u232 u233 u234 u235 u236 u237 u238 u239 u240 u241 u242 u243 u244 u245 u246 u247 u248 u249 u250 u251 u252 u253 u254:Value,Q .normal ⟨(c0::c1::c2::c3::c4::.pointer (some ⟨g,0,none⟩)::c6::c7::c8::.int .i64 ((pos p ((y.dropWhile (notQ q)).drop 1):Nat):Int)::c10::c11::c12::c13::c14::.int .i64 ((pos p (q::y):Nat):Int)::.pointer (some ⟨L,0,none⟩)::c17::c18::c19::c20::c21::c22::c23::c24::c25::c26::c27::c28::c29::c30::c31::c32::c33::c34::c35::c36::c37::c38::c39::c40::c41::c42::c43::c44::c45::c46::c47::c48::c49::c50::c51::c52::c53::c54::c55::c56::c57::c58::c59::c60::c61::c62::c63::c64::c65::c66::c67::c68::c69::c70::c71::c72::c73::c74::c75::c76::c77::c78::c79::c80::c81::c82::c83::c84::c85::c86::c87::c88::c89::c90::c91::c92::c93::c94::c95::c96::c97::c98::c99::c100::c101::c102::c103::c104::c105::c106::c107::c108::c109::c110::c111::c112::c113::c114::c115::c116::c117::c118::c119::c120::c121::c122::c123::c124::c125::c126::c127::c128::c129::c130::c131::c132::c133::c134::c135::c136::c137::c138::c139::c140::c141::c142::c143::c144::c145::c146::c147::c148::c149::c150::c151::c152::c153::c154::c155::c156::c157::c158::c159::c160::c161::c162::c163::c164::c165::c166::c167::c168::c169::c170::c171::c172::c173::c174::c175::c176::c177::c178::c179::c180::c181::c182::c183::c184::c185::c186::c187::c188::c189::c190::c191::c192::c193::c194::c195::c196::c197::c198::c199::c200::c201::c202::c203::c204::c205::c206::c207::c208::c209::c210::c211::c212::c213::c214::c215::c216::c217::c218::c219::c220::c221::c222::c223::c224::.bool true::u226::u227::u228::u229::u230::u231::u232::u233::u234::u235::u236::u237::u238::u239::u240::u241::u242::u243::u244::u245::u246::u247::u248::u249::u250::u251::u252::u253::u254::c255::c256::c257::c258::c259::c260::c261::c262::c263::c264::c265::c266::c267::c268::c269::c270::c271::c272::c273::c274::c275::c276::c277::c278::c279::c280::c281::c282::c283::c284::c285::c286::c287::c288::c289::c290::c291::c292::c293::c294::c295::c296::c297::c298::c299::c300::c301::c302::c303::c304::c305::c306::c307::c308::c309::c310::c311::c312::c313::c314::c315::c316::c317::c318::c319::c320::c321::c322::c323::c324::c325::c326::[]).toArray,[]⟩ ((w.setCell ⟨L,0,none⟩ (.int .i64 ((pos p (q::y) + 1:Nat):Int))).setCell ⟨L,1,none⟩ (.int .i64 ((pos p (q::y) + 1 + (y.takeWhile (notQ q)).length:Nat):Int))).drew) :
  Code.wp Tryz.prog (condAt Tryz.f58 13) Q ⟨(c0::c1::c2::c3::c4::.pointer (some ⟨g,0,none⟩)::c6::c7::c8::c9::c10::c11::c12::c13::c14::.int .i64 ((pos p (q::y):Nat):Int)::.pointer (some ⟨L,0,none⟩)::c17::c18::c19::c20::c21::c22::c23::c24::c25::c26::c27::c28::c29::c30::c31::c32::c33::c34::c35::c36::c37::c38::c39::c40::c41::c42::c43::c44::c45::c46::c47::c48::c49::c50::c51::c52::c53::c54::c55::c56::c57::c58::c59::c60::c61::c62::c63::c64::c65::c66::c67::c68::c69::c70::c71::c72::c73::c74::c75::c76::c77::c78::c79::c80::c81::c82::c83::c84::c85::c86::c87::c88::c89::c90::c91::c92::c93::c94::c95::c96::c97::c98::c99::c100::c101::c102::c103::c104::c105::c106::c107::c108::c109::c110::c111::c112::c113::c114::c115::c116::c117::c118::c119::c120::c121::c122::c123::c124::c125::c126::c127::c128::c129::c130::c131::c132::c133::c134::c135::c136::c137::c138::c139::c140::c141::c142::c143::c144::c145::c146::c147::c148::c149::c150::c151::c152::c153::c154::c155::c156::c157::c158::c159::c160::c161::c162::c163::c164::c165::c166::c167::c168::c169::c170::c171::c172::c173::c174::c175::c176::c177::c178::c179::c180::c181::c182::c183::c184::c185::c186::c187::c188::c189::c190::c191::c192::c193::c194::c195::c196::c197::c198::c199::c200::c201::c202::c203::c204::c205::c206::c207::c208::c209::c210::c211::c212::c213::c214::c215::c216::c217::c218::c219::c220::c221::c222::c223::c224::.bool true::c226::c227::c228::c229::c230::c231::c232::c233::c234::c235::c236::c237::c238::c239::c240::c241::c242::c243::c244::c245::c246::c247::c248::c249::c250::c251::c252::c253::c254::c255::c256::c257::c258::c259::c260::c261::c262::c263::c264::c265::c266::c267::c268::c269::c270::c271::c272::c273::c274::c275::c276::c277::c278::c279::c280::c281::c282::c283::c284::c285::c286::c287::c288::c289::c290::c291::c292::c293::c294::c295::c296::c297::c298::c299::c300::c301::c302::c303::c304::c305::c306::c307::c308::c309::c310::c311::c312::c313::c314::c315::c316::c317::c318::c319::c320::c321::c322::c323::c324::c325::c326::[]).toArray,[]⟩ w:=by
 have HX:Hid _:=hexit
 clear hexit
 conv=>arg 2;whnf
 obtain ⟨hxa,hxb,hpy⟩:=quote_texts hS
 have hmin:=quote_pos hS
 obtain ⟨nq,enq⟩:∃ n,(y.takeWhile (notQ q)).length = n:=⟨_,rfl⟩
 obtain ⟨y6,ey6⟩:∃ z,(y.dropWhile (notQ q)).drop 1 = z:=⟨_,rfl⟩
 rw [enq,ey6] at hmin HX
 have hnl:pos p (q::y) + 1 + nq≤p.size:=by have:=quote_len q y;have h4:=hS.len;rw [enq] at this;unfold pos;simp only [List.length_cons] at *;omega
 have CI:Hid (∀ W,Calls Tryz.prog 86 #[.string (lba y ++ ⟨#[q]⟩),.string ⟨#[q]⟩] W fun e w'=>e = .returned (.int .i64 (nq:Int))∧w' = W):=fun W=>by
  have h:=Tryz.strings_Index_one (lba y ++ ⟨#[q]⟩) q W
  have e:(lba y ++ ⟨#[q]⟩:ByteArray).data.toList = y ++ [q]:=by rw [ByteArray.data_append];simp [lba]
  rw [e,indexQ,enq] at h
  exact h
 have hy4:y.length≤4000:=by have h4:=hS.len;simp only [List.length_cons] at h4;omega
 have s1:∀ W,(Op.stringOp .add (lba y) ⟨#[q]⟩).run Tryz.prog W = .ok (.string (lba y ++ ⟨#[q]⟩)) W:=fun W=>run_string_add_sum W _ _ (by rw [lba_size];show y.length + 1≤_;omega)
 have HMIN:Hid (min (pos p (q::y) + 1 + nq + 1) p.size = pos p y6):=hmin
 obtain ⟨kq,ekq⟩:∃ k,pos p (q::y) = k:=⟨_,rfl⟩
 rw [ekq] at hxa hxb HX HMIN hnl ⊢
 have hw5:IntKind.i64.wrap ((kq:Int) + 1) = (kq:Int) + 1:=by rw [IntKind.wrap_i64];omega
 have hw6:IntKind.i64.wrap ((kq:Int) + 1 + (nq:Int)) = (kq:Int) + 1 + (nq:Int):=by rw [IntKind.wrap_i64];omega
 have hw7:IntKind.i64.wrap ((kq:Int) + 1 + (nq:Int) + 1) = (kq:Int) + 1 + (nq:Int) + 1:=by rw [IntKind.wrap_i64];omega
 have hq1:(kq:Int) + 1≤(p.size:Int):=by omega
 have hq2:(0:Int)≤(kq:Int) + 1:=by omega
 have hq3:(kq:Int)≤(kq:Int) + 1:=by omega
 have hxa':p.extract ((kq:Int) + 1).toNat p.size = lba y:=by rw [show ((kq:Int) + 1).toNat = kq + 1 from by omega];exact hxa
 have hxb':p.extract kq ((kq:Int) + 1).toNat = ⟨#[q]⟩:=by rw [show ((kq:Int) + 1).toNat = kq + 1 from by omega];exact hxb
 obtain ⟨z0,z1,z2,zf⟩:=lcells3 hL
 have zf0:=zf 0
 have zf1:=zf 1
 obtain ⟨W1,hW1⟩:∃ W,W = w.setCell ⟨L,0,none⟩ (.int .i64 ((kq:Int) + 1)):=⟨_,rfl⟩
 have hgs:W1.cell? ⟨g,0,none⟩ = some (.string p):=by rw [hW1];exact (World.cell?_setCell_other _ _ _ _ (fun e=>hLg (by injection e with e _ _;exact e.symm))).trans hg
 have HSG2:Hid (∀ y,(W1.setCell ⟨L,1,none⟩ y).cell? ⟨g,0,none⟩ = some (.string p)):=fun y=>(World.cell?_setCell_other _ _ _ _ (fun e=>hLg (by injection e with e _ _;exact e.symm))).trans hgs
 have hL1:W1.heap[L]? = some (.cells #[.int .i64 ((kq:Int) + 1),lb,lc] 40):=by
  rw [hW1]
  show (w.heap.modify L _)[L]? = _
  rw [Array.getElem?_modify,if_pos rfl,hL]
  rfl
 obtain ⟨x0,x1,x2,xf⟩:=lcells3 hL1
 have xf1:=xf 1
 rw [show ((kq + 1:Nat):Int) = (kq:Int) + 1 from rfl,← hW1] at HX
 have HW1:Hid (w.setCell ⟨L,0,none⟩ (.int .i64 ((kq:Int) + 1)) = W1):=hW1.symm
 have HC1:Hid (∀ v,(W1.setCell ⟨L,1,none⟩ v).drew.cell? ⟨L,1,none⟩ = some v):=fun v=>by
  show (W1.setCell ⟨L,1,none⟩ v).cell? ⟨L,1,none⟩ = some v
  have h3:(W1.setCell ⟨L,1,none⟩ v).heap[L]? = some (.cells #[.int .i64 ((kq:Int) + 1),v,lc] 40):=by
   show (W1.heap.modify L _)[L]? = _
   rw [Array.getElem?_modify,if_pos rfl,hL1]
   rfl
  exact (lcells3 h3).2.1
 clear hmin hpy enq ey6 hnl ekq hL hL1 zf xf hW1 hS
 go_upto_region 42 with fail
 rw [HW1.out]
 clear z0 z1 z2 zf0 zf1 hg
 go_region_held3 (fun w'=>w'.cell? ⟨g,0,none⟩ = some (.string p)) (first | assumption | exact HSG2.out _) (first
  | (go_at_call 86;refine (CI.out _).mono ?_;rintro e w' ⟨rfl,hw'⟩;have hw'':=hw'.symm;subst hw''))
 clear hgs x0 x1 x2 xf1 CI s1
 rename_i hH
 have HXX:Hid (∀ u226 u227 u228 u229 u230 u231 u232 u233 u234 u235 u236 u237 u238 u239 u240 u241 u242 u243 u244 u245 u246 u247 u248 u249 u250 u251 u252 u253 u254:Value,Q .normal ⟨(c0::c1::c2::c3::c4::.pointer (some ⟨g,0,none⟩)::c6::c7::c8::.int .i64 ((pos p y6:Nat):Int)::c10::c11::c12::c13::c14::.int .i64 (kq:Int)::.pointer (some ⟨L,0,none⟩)::c17::c18::c19::c20::c21::c22::c23::c24::c25::c26::c27::c28::c29::c30::c31::c32::c33::c34::c35::c36::c37::c38::c39::c40::c41::c42::c43::c44::c45::c46::c47::c48::c49::c50::c51::c52::c53::c54::c55::c56::c57::c58::c59::c60::c61::c62::c63::c64::c65::c66::c67::c68::c69::c70::c71::c72::c73::c74::c75::c76::c77::c78::c79::c80::c81::c82::c83::c84::c85::c86::c87::c88::c89::c90::c91::c92::c93::c94::c95::c96::c97::c98::c99::c100::c101::c102::c103::c104::c105::c106::c107::c108::c109::c110::c111::c112::c113::c114::c115::c116::c117::c118::c119::c120::c121::c122::c123::c124::c125::c126::c127::c128::c129::c130::c131::c132::c133::c134::c135::c136::c137::c138::c139::c140::c141::c142::c143::c144::c145::c146::c147::c148::c149::c150::c151::c152::c153::c154::c155::c156::c157::c158::c159::c160::c161::c162::c163::c164::c165::c166::c167::c168::c169::c170::c171::c172::c173::c174::c175::c176::c177::c178::c179::c180::c181::c182::c183::c184::c185::c186::c187::c188::c189::c190::c191::c192::c193::c194::c195::c196::c197::c198::c199::c200::c201::c202::c203::c204::c205::c206::c207::c208::c209::c210::c211::c212::c213::c214::c215::c216::c217::c218::c219::c220::c221::c222::c223::c224::.bool true::u226::u227::u228::u229::u230::u231::u232::u233::u234::u235::u236::u237::u238::u239::u240::u241::u242::u243::u244::u245::u246::u247::u248::u249::u250::u251::u252::u253::u254::c255::c256::c257::c258::c259::c260::c261::c262::c263::c264::c265::c266::c267::c268::c269::c270::c271::c272::c273::c274::c275::c276::c277::c278::c279::c280::c281::c282::c283::c284::c285::c286::c287::c288::c289::c290::c291::c292::c293::c294::c295::c296::c297::c298::c299::c300::c301::c302::c303::c304::c305::c306::c307::c308::c309::c310::c311::c312::c313::c314::c315::c316::c317::c318::c319::c320::c321::c322::c323::c324::c325::c326::[]).toArray,[]⟩ (W1.setCell ⟨L,1,none⟩ (.int .i64 ((kq:Int) + 1 + (nq:Int)))).drew):=HX.out
 clear HX
 have hc1:(W1.setCell ⟨L,1,none⟩ (.int .i64 ((kq:Int) + 1 + (nq:Int)))).drew.cell? ⟨L,1,none⟩ = some (.int .i64 ((kq:Int) + 1 + (nq:Int))):=HC1.out _
 have hmn:min ((kq:Int) + 1 + (nq:Int) + 1) (p.size:Int) = ((pos p y6:Nat):Int):=by rw [← HMIN.out];omega
 generalize (W1.setCell ⟨L,1,none⟩ (.int .i64 ((kq:Int) + 1 + (nq:Int)))).drew = W2 at *
 go_wp2_with fail
 exact HXX.out _ _ _ _ _ _ _ _ _ _ _ _ _ _ _ _ _ _ _ _ _ _ _ _ _ _ _ _ _
end Go.Proofs.YtbbfcbodhmeanaaGreatDoor



namespace Go.Proofs.YtbbfcbodhmeanaaGreatDoor
open Go.RowKit
theorem splitK_ne (m:List UInt8):∀ (k:Nat) (s:List UInt8),Lib.splitK m 0 k s ≠ []
 | 0,s=>by simp [Lib.splitK]
 | k + 1,s=>by unfold Lib.splitK;split <;> simp
theorem inter_cons (n a:List UInt8) {t:List (List UInt8)} (h:t ≠ []):n.intercalate (a::t) = a ++ n ++ n.intercalate t:=by
 cases t with
 | nil=>exact absurd rfl h
 | cons b t=>simp [List.intercalate,List.intersperse]
theorem join_splitK (m n:List UInt8):∀ (k:Nat) (s:List UInt8),Lib.join (Lib.splitK m 0 k s) n = Lib.replaceK m n k s
 | 0,s=>by simp [Lib.splitK,Lib.replaceK,Lib.join,List.intercalate]
 | k + 1,s=>by
  unfold Lib.splitK Lib.replaceK
  split
  ·simp [Lib.join,List.intercalate]
  ·have ih:=join_splitK m n k (s.drop ((Lib.index s m).toNat + m.length))
   unfold Lib.join at *
   rw [inter_cons n _ (splitK_ne m k _),ih,Nat.add_zero]
theorem unamp_join (s:List UInt8):Lib.join (Lib.splitK ampL 0 (Lib.count s ampL) s) [38] = unamp s:=by
 rw [join_splitK]
 unfold unamp Lib.replaceAll Lib.replace Lib.replaceNum
 rw [if_neg (by decide),if_pos (Or.inl (by decide))]
theorem ramp_any (T:ByteArray) (hT:T.size≤4000) (w:World) (hM:∃ m:Int,w.cell? ⟨0,0,none⟩ = some (.int .i64 m)) :
  ∃ n:Nat,(Calls Tryz.prog 57 #[.string T,.string ⟨#[38,97,109,112,59]⟩] w fun e w'=>e = .returned (.slice (some ⟨w.heap.size,0,none⟩) n n)∧Below w.heap.size w w' ∧
   Calls Tryz.prog 107 #[.slice (some ⟨w.heap.size,0,none⟩) n n,.string ⟨#[38]⟩] w' fun e w''=>e = .returned (.string (lba (unamp T.data.toList)))∧Below w.heap.size w w''):=by
 obtain ⟨m,hm⟩:=hM
 refine ⟨Lib.countB T ⟨#[38,97,109,112,59]⟩ + 1,(Tryz.strings_Split T ⟨#[38,97,109,112,59]⟩ m w (by omega) hm (by decide)).mono ?_⟩
 rintro e w' ⟨rfl,rfl⟩
 have hb:Below w.heap.size w (w.alloc (.cells ((Lib.splitB ⟨#[38,97,109,112,59]⟩ 0 (Lib.countB T ⟨#[38,97,109,112,59]⟩) T).map Value.string).toArray 9)):=(Below.refl _ _).alloc (Nat.le_refl _) _
 obtain ⟨W,hW⟩:∃ W,W = w.alloc (.cells ((Lib.splitB ⟨#[38,97,109,112,59]⟩ 0 (Lib.countB T ⟨#[38,97,109,112,59]⟩) T).map Value.string).toArray 9):=⟨_,rfl⟩
 have hcell:∀ (j:Nat) x,(Lib.splitB ⟨#[38,97,109,112,59]⟩ 0 (Lib.countB T ⟨#[38,97,109,112,59]⟩) T)[j]? = some x→W.cell? ⟨w.heap.size,0 + j,none⟩ = some (.string x):=fun j x hx=>by
  rw [hW,World.cell?,lnew,Nat.zero_add]
  simp [hx]
 have hsz:w.heap.size < W.heap.size:=by rw [hW];show w.heap.size < (w.heap.push _).size;rw [Array.size_push];omega
 rw [← hW] at hb ⊢
 refine ⟨rfl,hb,?_⟩
 have hlen:=Lib.splitB_all ⟨#[38,97,109,112,59]⟩ (by decide) 0 _ T rfl
 have hdat:=Lib.splitB_data ⟨#[38,97,109,112,59]⟩ 0 (Lib.countB T ⟨#[38,97,109,112,59]⟩) T
 have hj:Lib.join ((Lib.splitB ⟨#[38,97,109,112,59]⟩ 0 (Lib.countB T ⟨#[38,97,109,112,59]⟩) T).map (·.data.toList)) [38] = unamp T.data.toList:=by
  rw [hdat]
  exact unamp_join T.data.toList
 have hc4:Lib.countB T ⟨#[38,97,109,112,59]⟩≤T.size:=by
  have:=Lib.countB_mul_le ⟨#[38,97,109,112,59]⟩ (by decide) T.size T (Nat.le_refl _)
  have h5:(ByteArray.mk #[38,97,109,112,59]).size = 5:=rfl
  rw [h5] at this
  omega
 have hun:(unamp T.data.toList).length≤4000:=by
  have:=unamp_le T.data.toList
  rw [← Lib.size_eq] at this
  omega
 have:=Tryz.strings_Join w.heap.size 0 (Lib.countB T ⟨#[38,97,109,112,59]⟩ + 1) (Lib.splitB ⟨#[38,97,109,112,59]⟩ 0 (Lib.countB T ⟨#[38,97,109,112,59]⟩) T) ⟨#[38]⟩ W hcell hsz (by omega) (by omega) (by show (Lib.join _ [38]).length≤_;rw [hj];omega)
 rw [hlen] at this
 refine this.mono ?_
 rintro e w'' ⟨rfl,hb2⟩
 refine ⟨?_,hb.trans (hb2.mono hb.size)⟩
 show _ = Ending.returned (.string ⟨(unamp T.data.toList).toArray⟩)
 rw [← hj]
end Go.Proofs.YtbbfcbodhmeanaaGreatDoor



import Derived.Test.YtbbfcbodhmeanaaGreatDoorXrewritesays48
namespace Go.Proofs.YtbbfcbodhmeanaaGreatDoor
open Go.RowKit
set_option maxRecDepth 1000000 in
set_option maxHeartbeats 4000000 in
theorem lgR24 (w:World) (hM:∀ W,Below w.heap.size w W→MaxAt W) (G:Nat) (LE:List UInt8) (hLE:LE.length≤120) (hg:w.cell? ⟨G,4,none⟩ = some (.string (tx8 LE))) (c0 c1 c2 c3 c4 c5 c7 c8 c9 c10 c11 c12 c13 c14 c16 c17 c18 c19 c20 c21 c22 c23 c24 c25 c26 c27 c28 c29 c30 c31 c32 c33 c34 c35 c36 c37 c38 c39 c40 c41 c42 c43 c44 c45 c46 c47 c48 c49 c50 c51 c52 c53 c54 c55 c56 c57 c58 c59 c60 c61 c62 c63 c64 c65 c66 c67 c68 c69 c70 c71 c72 c73 c74 c75 c76 c77 c78 c79 c80 c81 c82 c83 c84 c85 c86 c87 c88 c89 c90 c91 c92 c93 c94 c95 c96 c97 c98 c99 c100 c101 c102 c103 c104 c105 c106 c107 c108 c109 c110 c111 c112 c113 c114 c115 c116 c117 c118 c119 c120 c121 c122 c123 c124 c125 c126 c127 c128 c129 c130:Value) (Q:Exit→Act→World→Prop)
  (hexit:∀ u103 u104 u105 u106:Value,∀ w':World,Below w.heap.size w w'→Q .normal ⟨(c0::c1::c2::c3::c4::c5::.func (Fn.func 56) #[] #[]::c7::c8::c9::c10::c11::c12::c13::c14::.pointer (some ⟨G,0,none⟩)::c16::c17::c18::c19::c20::c21::c22::c23::c24::c25::c26::c27::c28::c29::c30::c31::c32::c33::c34::c35::c36::c37::c38::c39::c40::c41::c42::c43::c44::c45::c46::c47::c48::c49::c50::c51::c52::c53::c54::c55::c56::c57::c58::c59::c60::c61::c62::c63::c64::c65::c66::c67::c68::c69::c70::c71::c72::c73::c74::c75::c76::c77::c78::c79::c80::c81::c82::c83::c84::c85::c86::c87::c88::c89::c90::c91::c92::c93::c94::c95::c96::c97::c98::c99::c100::c101::c102::u103::u104::u105::u106::.bool (Lib.hasPrefix (noFr LE) cidS)::c108::c109::c110::c111::c112::c113::c114::c115::c116::c117::c118::c119::c120::c121::c122::c123::c124::c125::c126::c127::c128::c129::c130::[]).toArray,[]⟩ w') :
  Code.wp Tryz.prog (regAt Tryz.f14 23) Q ⟨(c0::c1::c2::c3::c4::c5::.func (Fn.func 56) #[] #[]::c7::c8::c9::c10::c11::c12::c13::c14::.pointer (some ⟨G,0,none⟩)::c16::c17::c18::c19::c20::c21::c22::c23::c24::c25::c26::c27::c28::c29::c30::c31::c32::c33::c34::c35::c36::c37::c38::c39::c40::c41::c42::c43::c44::c45::c46::c47::c48::c49::c50::c51::c52::c53::c54::c55::c56::c57::c58::c59::c60::c61::c62::c63::c64::c65::c66::c67::c68::c69::c70::c71::c72::c73::c74::c75::c76::c77::c78::c79::c80::c81::c82::c83::c84::c85::c86::c87::c88::c89::c90::c91::c92::c93::c94::c95::c96::c97::c98::c99::c100::c101::c102::c103::c104::c105::c106::c107::c108::c109::c110::c111::c112::c113::c114::c115::c116::c117::c118::c119::c120::c121::c122::c123::c124::c125::c126::c127::c128::c129::c130::[]).toArray,[]⟩ w:=by
 have HX:Hid _:=hexit
 clear hexit
 conv=>arg 2;whnf
 have C2:Hid (∀ W,Below w.heap.size w W→Calls Tryz.prog 56 #[.string (tx8 LE)] W fun e w'=>e = .returned (.string (tx8 (noFr LE)))∧Below w.heap.size w w'):=fun W hW=>(no_any (tx8 LE) (by rw [tx8_size];omega) W (hM W hW)).mono fun e w' h=>⟨h.1,hW.trans (h.2.mono hW.size)⟩
 have CH:Hid (∀ W,Calls Tryz.prog 59 #[.string (tx8 (noFr LE)),.string ⟨#[99,105,100,58]⟩] W fun e w'=>e = .returned (.bool (Lib.hasPrefix (noFr LE) cidS))∧w' = W):=fun W=>Tryz.strings_HasPrefix (tx8 (noFr LE)) ⟨#[99,105,100,58]⟩ W
 generalize Lib.hasPrefix (noFr LE) cidS = B1 at *
 generalize tx8 (noFr LE) = T2 at *
 go_wp2_with fail
 refine (C2.out _ (Below.refl _ _)).mono ?_
 rintro e w2 ⟨rfl,hb2⟩
 have HB2:Hid (Below w.heap.size w w2):=hb2
 clear C2 hb2
 go_wp2_with fail
 refine (CH.out _).mono ?_
 rintro e w3 ⟨rfl,hw3⟩
 have hw3':=hw3.symm
 subst hw3'
 go_wp2_with fail
 exact HX.out _ _ _ _ _ HB2.out
set_option maxRecDepth 1000000 in
set_option maxHeartbeats 4000000 in
theorem lgR25 (w:World) (hM:∀ W,Below w.heap.size w W→MaxAt W) (G Y:Nat) (id:ByteArray) (hid:id.size≤100000) (LE:List UInt8) (hLE:LE.length≤120) (hy:w.cell? ⟨Y,2,none⟩ = some (.string id)) (hg:w.cell? ⟨G,4,none⟩ = some (.string (tx8 LE))) (c0 c1 c2 c3 c4 c5 c7 c8 c9 c10 c11 c12 c13 c14 c16 c18 c19 c20 c21 c22 c23 c24 c25 c26 c27 c28 c29 c30 c31 c32 c33 c34 c35 c36 c37 c38 c39 c40 c41 c42 c43 c44 c45 c46 c47 c48 c49 c50 c51 c52 c53 c54 c55 c56 c57 c58 c59 c60 c61 c62 c63 c64 c65 c66 c67 c68 c69 c70 c71 c72 c73 c74 c75 c76 c77 c78 c79 c80 c81 c82 c83 c84 c85 c86 c87 c88 c89 c90 c91 c92 c93 c94 c95 c96 c97 c98 c99 c100 c101 c102 c103 c104 c105 c106 c107 c108 c109 c110 c111 c112 c113 c114 c115 c116 c117 c118 c119 c120 c121 c122 c123 c124 c125 c126 c127 c128 c129 c130:Value) (Q:Exit→Act→World→Prop)
  (hexit:∀ u108 u109 u110 u111 u112 u113 u114 u115 u116 u117 u118 u119 u120:Value,∀ w':World,Below w.heap.size w w'→Q .normal ⟨(c0::c1::c2::c3::c4::c5::.func (Fn.func 56) #[] #[]::c7::c8::c9::c10::c11::c12::c13::c14::.pointer (some ⟨G,0,none⟩)::c16::.pointer (some ⟨Y,0,none⟩)::.bool (!id.data.toList.isEmpty && (cidS ++ id.data.toList == noFr LE))::c19::c20::c21::c22::c23::c24::c25::c26::c27::c28::c29::c30::c31::c32::c33::c34::c35::c36::c37::c38::c39::c40::c41::c42::c43::c44::c45::c46::c47::c48::c49::c50::c51::c52::c53::c54::c55::c56::c57::c58::c59::c60::c61::c62::c63::c64::c65::c66::c67::c68::c69::c70::c71::c72::c73::c74::c75::c76::c77::c78::c79::c80::c81::c82::c83::c84::c85::c86::c87::c88::c89::c90::c91::c92::c93::c94::c95::c96::c97::c98::c99::c100::c101::c102::c103::c104::c105::c106::c107::u108::u109::u110::u111::u112::u113::u114::u115::u116::u117::u118::u119::u120::c121::c122::c123::c124::c125::c126::c127::c128::c129::c130::[]).toArray,[]⟩ w') :
  Code.wp Tryz.prog (regAt Tryz.f14 24) Q ⟨(c0::c1::c2::c3::c4::c5::.func (Fn.func 56) #[] #[]::c7::c8::c9::c10::c11::c12::c13::c14::.pointer (some ⟨G,0,none⟩)::c16::.pointer (some ⟨Y,0,none⟩)::c18::c19::c20::c21::c22::c23::c24::c25::c26::c27::c28::c29::c30::c31::c32::c33::c34::c35::c36::c37::c38::c39::c40::c41::c42::c43::c44::c45::c46::c47::c48::c49::c50::c51::c52::c53::c54::c55::c56::c57::c58::c59::c60::c61::c62::c63::c64::c65::c66::c67::c68::c69::c70::c71::c72::c73::c74::c75::c76::c77::c78::c79::c80::c81::c82::c83::c84::c85::c86::c87::c88::c89::c90::c91::c92::c93::c94::c95::c96::c97::c98::c99::c100::c101::c102::c103::c104::c105::c106::c107::c108::c109::c110::c111::c112::c113::c114::c115::c116::c117::c118::c119::c120::c121::c122::c123::c124::c125::c126::c127::c128::c129::c130::[]).toArray,[]⟩ w:=by
 have HX:Hid _:=hexit
 clear hexit
 conv=>arg 2;whnf
 have C2:Hid (∀ W,Below w.heap.size w W→Calls Tryz.prog 56 #[.string (tx8 LE)] W fun e w'=>e = .returned (.string (tx8 (noFr LE)))∧Below w.heap.size w w'):=fun W hW=>(no_any (tx8 LE) (by rw [tx8_size];omega) W (hM W hW)).mono fun e w' h=>⟨h.1,hW.trans (h.2.mono hW.size)⟩
 have e1:=goE_ba id
 have hYl:Y < w.heap.size:=World.block_lt_of_cell? w _ hy
 have hGl:G < w.heap.size:=World.block_lt_of_cell? w _ hg
 have f0:∀ W,Below w.heap.size w W→W.cell? ⟨Y,2,none⟩ = some (.string id):=fun W h=>(h.cell (p:=⟨Y,2,none⟩) hYl).trans hy
 have f2:∀ W,Below w.heap.size w W→W.cell? ⟨G,4,none⟩ = some (.string (tx8 LE)):=fun W h=>(h.cell (p:=⟨G,4,none⟩) hGl).trans hg
 have hb0:Below w.heap.size w w.drew:=(Below.refl _ _).drew
 have s1:∀ W,(Op.stringOp .add ⟨#[99,105,100,58]⟩ id).run Tryz.prog W = .ok (.string (⟨#[99,105,100,58]⟩ ++ id)) W:=fun W=>run_string_add_sum W _ _ (by show 4 + id.size≤_;omega)
 cases h1:id.data.toList.isEmpty with
 | true =>
  rw [h1] at e1 HX
  clear C2 h1 f2 s1
  go_region
  exact HX.out _ _ _ _ _ _ _ _ _ _ _ _ _ _ hb0
 | false =>
  rw [h1] at e1 HX
  have e3:((⟨#[99,105,100,58]⟩ ++ id:ByteArray).toList == (tx8 (noFr LE)).toList) = (cidS ++ id.data.toList == noFr LE):=by
   rw [ByteArray.toList_eq,ByteArray.toList_eq,ByteArray.data_append]
   simp [cidS,tx8]
  obtain ⟨T2,hT2⟩:∃ T,tx8 (noFr LE) = T:=⟨_,rfl⟩
  obtain ⟨T1,hT1⟩:∃ T,(⟨#[99,105,100,58]⟩ ++ id:ByteArray) = T:=⟨_,rfl⟩
  rw [hT2] at C2 e3
  rw [hT1] at s1 e3
  have HXX:Hid (∀ u108 u109 u110 u111 u112 u113 u114 u115 u116 u117 u118 u119 u120:Value,∀ w':World,Below w.heap.size w w'→Q .normal ⟨(c0::c1::c2::c3::c4::c5::.func (Fn.func 56) #[] #[]::c7::c8::c9::c10::c11::c12::c13::c14::.pointer (some ⟨G,0,none⟩)::c16::.pointer (some ⟨Y,0,none⟩)::.bool (!false && (cidS ++ id.data.toList == noFr LE))::c19::c20::c21::c22::c23::c24::c25::c26::c27::c28::c29::c30::c31::c32::c33::c34::c35::c36::c37::c38::c39::c40::c41::c42::c43::c44::c45::c46::c47::c48::c49::c50::c51::c52::c53::c54::c55::c56::c57::c58::c59::c60::c61::c62::c63::c64::c65::c66::c67::c68::c69::c70::c71::c72::c73::c74::c75::c76::c77::c78::c79::c80::c81::c82::c83::c84::c85::c86::c87::c88::c89::c90::c91::c92::c93::c94::c95::c96::c97::c98::c99::c100::c101::c102::c103::c104::c105::c106::c107::u108::u109::u110::u111::u112::u113::u114::u115::u116::u117::u118::u119::u120::c121::c122::c123::c124::c125::c126::c127::c128::c129::c130::[]).toArray,[]⟩ w'):=HX.out
  generalize (cidS ++ id.data.toList == noFr LE) = B1 at *
  clear h1 hT1 hT2 HX
  go_region_held3 (fun W=>Below w.heap.size w W) (first | assumption | exact hb0) (first
   | (go_at_call 56;refine (C2.out _ ?_).mono ?_;(first | assumption | exact hb0);rintro e w2 ⟨rfl,hb2⟩))
  exact HXX.out _ _ _ _ _ _ _ _ _ _ _ _ _ _ (by assumption)
end Go.Proofs.YtbbfcbodhmeanaaGreatDoor



namespace Go.Proofs.YtbbfcbodhmeanaaGreatDoor
def okGo (wh:List (List UInt8)) (LE:List UInt8) (k:Nat) (y:PT):Bool :=
 if Lib.hasPrefix (noFr LE) cidS = true then (!y.id.data.toList.isEmpty && (cidS ++ y.id.data.toList == noFr LE)) else (!y.loc.data.toList.isEmpty && !(wh.getD k []).isEmpty && (noFr (wh.getD k []) == noFr LE))
theorem firstP_same (ok ok':Nat→PT→Bool) (h:∀ k p,ok k p = ok' k p):∀ (k:Nat) (l:List PT),firstP ok k l = firstP ok' k l
 | _,[]=>rfl
 | k,p::l=>by
  unfold firstP
  rw [h k p,firstP_same ok ok' h (k + 1) l]
theorem okGo_is (wh:List (List UInt8)) (LE:List UInt8) (hne:noFr LE ≠ []) (k:Nat) (p:PT):okGo wh LE k p = if Lib.hasPrefix (noFr LE) cidS = true then okID ((noFr LE).drop 4) k p else okLoc wh (noFr LE) k p:=by
 unfold okGo
 by_cases h:Lib.hasPrefix (noFr LE) cidS = true
 ·rw [if_pos h,if_pos h]
  unfold okID
  congr 1
  unfold Lib.hasPrefix at h
  obtain ⟨t,ht⟩:=List.isPrefixOf_iff_prefix.1 h
  rw [← ht,Bool.eq_iff_iff,beq_iff_eq,beq_iff_eq]
  have e:(cidS ++ t).drop 4 = t:=rfl
  rw [e]
  exact ⟨fun h=>List.append_cancel_left h,fun h=>by rw [h]⟩
 ·rw [if_neg h,if_neg h]
  unfold okLoc
  cases hw:wh.getD k [] with
  | nil =>
   have e:(noFr [] == noFr LE) = false:=by
    rw [beq_eq_false_iff_ne]
    exact fun e=>hne e.symm
   rw [e]
   simp
  | cons a b=>simp
theorem find_is (L:List PT) (wh:List (List UInt8)) (LE:List UInt8) (h0:LE ≠ []) (hne:noFr LE ≠ []):findW L wh LE = firstP (okGo wh LE) 0 L:=by
 unfold findW
 rw [if_neg h0]
 by_cases h:Lib.hasPrefix (noFr LE) cidS = true
 ·rw [if_pos h]
  exact firstP_same _ _ (fun k p=>by rw [okGo_is wh LE hne,if_pos h]) 0 L
 ·rw [if_neg h]
  exact firstP_same _ _ (fun k p=>by rw [okGo_is wh LE hne,if_neg h]) 0 L
theorem first_at (ok:Nat→PT→Bool) (L:List PT) (k:Nat) (hk:k < L.length):firstP ok k (L.drop k) = if manyS (L.getD k pt0).ty.data.toList = false∧ok k (L.getD k pt0) = true then (k:Int) else firstP ok (k + 1) (L.drop (k + 1)):=by
 rw [List.drop_eq_getElem_cons hk,firstP,List.getD_eq_getElem?_getD,List.getElem?_eq_getElem hk]
 rfl
theorem first_end (ok:Nat→PT→Bool) (L:List PT) (k:Nat) (hk:L.length≤k):firstP ok k (L.drop k) = -1:=by
 rw [List.drop_of_length_le hk]
 rfl
end Go.Proofs.YtbbfcbodhmeanaaGreatDoor



namespace Go.Proofs.YtbbfcbodhmeanaaGreatDoor
open Go.RowKit
structure GoIn (w:World) (G ab ao wb wo:Nat) (L:List PT) (wh:List (List UInt8)):Prop where
 all:∀ W,Below G w W→∀ i,i < L.length→∃ pb cb pk ck,PCells W ab (ao + i * 7) (L.getD i pt0) pb cb pk ck
 tel:∀ W,Below G w W→∀ i,i < L.length→W.cell? ⟨wb,wo + i,none⟩ = some (.string (tx8 (wh.getD i [])))
 mx:∀ W,Below G w W→MaxAt W
 len:∀ i,i < L.length→(L.getD i pt0).ty.size≤maxLen∧(L.getD i pt0).id.size≤100000
 wl:∀ i,(wh.getD i []).length≤120
 few:L.length≤1000
theorem goal_set {W:World} {G t:Nat} {a b c d e f:Value} (h:W.heap[G]? = some (.cells #[a,b,c,d,e,f] t)) (x:Value):(W.setCell ⟨G,5,none⟩ x).heap[G]? = some (.cells #[a,b,c,d,e,x] t):=by
 show (W.heap.modify G _)[G]? = _
 rw [Array.getElem?_modify,if_pos rfl,h]
 rfl
set_option maxRecDepth 1000000 in
set_option maxHeartbeats 8000000 in
theorem lg3 (w:World) (G ab ao wb wo n ca cw:Nat) (L:List PT) (wh:List (List UInt8)) (en:n = L.length) (hI:GoIn w G ab ao wb wo L wh) (LE:List UInt8) (hLE:LE.length≤120) (hne:LE ≠ []→noFr LE ≠ []) (g0 g1 g2:Int) (g3:ByteArray) (hG:w.heap[G]? = some (.cells #[.int .i64 g0,.int .i64 g1,.int .i64 g2,.string g3,.string (tx8 LE),.int .i64 (-1)] 42)) (c0 c1 c2 c3 c7 c8 c9 c10 c11 c12 c13 c14 c17 c18 c19 c20 c21 c22 c23 c24 c25 c26 c27 c28 c29 c30 c31 c32 c33 c34 c35 c36 c37 c38 c39 c40 c41 c42 c43 c44 c45 c46 c47 c48 c49 c50 c51 c52 c53 c54 c55 c56 c57 c58 c59 c60 c61 c62 c63 c64 c65 c66 c67 c68 c69 c70 c71 c72 c73 c74 c75 c76 c77 c78 c79 c80 c81 c82 c83 c84 c85 c86 c87 c88 c89 c90 c91 c92 c93 c94 c95 c96 c97 c98 c99 c100 c101 c102 c103 c104 c105 c106 c107 c108 c109 c110 c111 c112 c113 c114 c115 c116 c117 c118 c119 c120 c121 c122 c123 c124 c125 c126 c127 c128 c129 c130:Value) (Q:Exit→Act→World→Prop)
  (hexit:∀ u16 u17 u18 u64 u65 u66 u67 u68 u69 u70 u71 u72 u73 u74 u75 u76 u77 u78 u79 u80 u81 u82 u83 u84 u85 u86 u87 u88 u89 u90 u91 u92 u93 u94 u95 u96 u97 u98 u99 u100 u101 u102 u103 u104 u105 u106 u107 u108 u109 u110 u111 u112 u113 u114 u115 u116 u117 u118 u119 u120 u121 u122 u123:Value,∀ w':World,Below G w w'→w'.heap[G]? = some (.cells #[.int .i64 g0,.int .i64 g1,.int .i64 g2,.string g3,.string (tx8 LE),.int .i64 (findW L wh LE)] 42)→Q (.exit 4) ⟨(c0::c1::c2::c3::.slice (some ⟨ab,ao,none⟩) n ca::.slice (some ⟨wb,wo,none⟩) n cw::.func (Fn.func 56) #[] #[]::c7::c8::c9::c10::c11::c12::c13::c14::.pointer (some ⟨G,0,none⟩)::u16::u17::u18::c19::c20::c21::c22::c23::c24::c25::c26::c27::c28::c29::c30::c31::c32::c33::c34::c35::c36::c37::c38::c39::c40::c41::c42::c43::c44::c45::c46::c47::c48::c49::c50::c51::c52::c53::c54::c55::c56::c57::c58::c59::c60::c61::c62::c63::u64::u65::u66::u67::u68::u69::u70::u71::u72::u73::u74::u75::u76::u77::u78::u79::u80::u81::u82::u83::u84::u85::u86::u87::u88::u89::u90::u91::u92::u93::u94::u95::u96::u97::u98::u99::u100::u101::u102::u103::u104::u105::u106::u107::u108::u109::u110::u111::u112::u113::u114::u115::u116::u117::u118::u119::u120::u121::u122::u123::c124::c125::c126::c127::c128::c129::c130::[]).toArray,[]⟩ w') :
  Code.wp Tryz.prog (Code.loop (loopAt Tryz.f14 2)) Q ⟨(c0::c1::c2::c3::.slice (some ⟨ab,ao,none⟩) n ca::.slice (some ⟨wb,wo,none⟩) n cw::.func (Fn.func 56) #[] #[]::c7::c8::c9::c10::c11::c12::c13::c14::.pointer (some ⟨G,0,none⟩)::.int .i64 ((n:Int) - 1)::c17::c18::c19::c20::c21::c22::c23::c24::c25::c26::c27::c28::c29::c30::c31::c32::c33::c34::c35::c36::c37::c38::c39::c40::c41::c42::c43::c44::c45::c46::c47::c48::c49::c50::c51::c52::c53::c54::c55::c56::c57::c58::c59::c60::c61::c62::c63::c64::c65::c66::c67::c68::c69::c70::c71::c72::c73::c74::c75::c76::c77::c78::c79::c80::c81::c82::c83::c84::c85::c86::c87::c88::c89::c90::c91::c92::c93::c94::c95::c96::c97::c98::c99::c100::c101::c102::c103::c104::c105::c106::c107::c108::c109::c110::c111::c112::c113::c114::c115::c116::c117::c118::c119::c120::c121::c122::c123::c124::c125::c126::c127::c128::c129::c130::[]).toArray,[]⟩ w:=by
 have HX:Hid _:=hexit
 clear hexit
 have HI:Hid (GoIn w G ab ao wb wo L wh):=hI
 have HN:Hid (n = L.length):=en
 have hn1000:n≤1000:=by rw [en];exact hI.few
 have hGl:G < w.heap.size:=(Array.getElem?_eq_some_iff.1 hG).1
 have hbe:=goE_bar LE
 conv=>arg 2;arg 1;whnf
 by_cases h0:LE = []
 ·have HF:Hid (findW L wh LE = -1):=by unfold Hid findW;rw [if_pos h0]
  have hemp:(tx8 LE).toList.isEmpty = true:=by rw [hbe,h0];rfl
  have HH:Hid (w.heap[G]? = some (.cells #[.int .i64 g0,.int .i64 g1,.int .i64 g2,.string g3,.string (tx8 LE),.int .i64 (findW L wh LE)] 42)):=by unfold Hid;rw [HF.out];exact hG
  have c4:w.cell? ⟨G,4,none⟩ = some (.string (tx8 LE)):=(blk_c hG 4).trans rfl
  clear hbe h0 hI hne en HF hG
  go_loopw [16] (fun iv wr=>iv = .int .i64 ((n:Int) - 1)∧wr = w) (fun _ _=>0)
  case atStart=>exact ⟨rfl,rfl⟩
  case round =>
   obtain ⟨rfl,hwr⟩:=hrel
   have hwr':=hwr.symm
   subst hwr'
   by_cases hz:0 < n
   ·have hzi:(0:Int)≤(n:Int) - 1:=by omega
    go_wp2_with fail
    exact HX.out _ _ _ _ _ _ _ _ _ _ _ _ _ _ _ _ _ _ _ _ _ _ _ _ _ _ _ _ _ _ _ _ _ _ _ _ _ _ _ _ _ _ _ _ _ _ _ _ _ _ _ _ _ _ _ _ _ _ _ _ _ _ _ _ (Below.refl _ _) HH.out
   ·obtain rfl:n = 0:=by omega
    go_wp2_with fail
    exact HX.out _ _ _ _ _ _ _ _ _ _ _ _ _ _ _ _ _ _ _ _ _ _ _ _ _ _ _ _ _ _ _ _ _ _ _ _ _ _ _ _ _ _ _ _ _ _ _ _ _ _ _ _ _ _ _ _ _ _ _ _ _ _ _ _ (Below.refl _ _) HH.out
 ·have hemp:(tx8 LE).toList.isEmpty = false:=by
   rw [hbe]
   cases hl:LE with
   | nil=>exact absurd hl h0
   | cons _ _=>rfl
  have HF:Hid (findW L wh LE = firstP (okGo wh LE) 0 (L.drop 0)):=find_is L wh LE h0 (hne h0)
  clear hbe h0 hI hne en
  go_loopw [16] (fun iv wr=>∃ k:Nat,iv = .int .i64 ((k:Int) - 1)∧k≤n∧Below G w wr∧Hid (wr.heap[G]? = some (.cells #[.int .i64 g0,.int .i64 g1,.int .i64 g2,.string g3,.string (tx8 LE),.int .i64 (firstP (okGo wh LE) k (L.drop k))] 42))) (fun iv _=>(intOf iv + 1).toNat)
  case atStart=>exact ⟨n,rfl,Nat.le_refl _,Below.refl _ _,by unfold Hid;rw [first_end _ L n (by rw [HN.out];exact Nat.le_refl _)];exact hG⟩
  case round =>
   obtain ⟨k,rfl,hkn,hbr,HK⟩:=hrel
   have c4:wr.cell? ⟨G,4,none⟩ = some (.string (tx8 LE)):=(blk_c HK.out 4).trans rfl
   clear hG
   cases k with
   | zero =>
    have hneg:((0:Nat):Int) - 1 = -1:=rfl
    rw [hneg]
    have HH:Hid (wr.heap[G]? = some (.cells #[.int .i64 g0,.int .i64 g1,.int .i64 g2,.string g3,.string (tx8 LE),.int .i64 (findW L wh LE)] 42)):=by unfold Hid;rw [HF.out];exact HK.out
    clear HK HF
    go_wp2_with fail
    exact HX.out _ _ _ _ _ _ _ _ _ _ _ _ _ _ _ _ _ _ _ _ _ _ _ _ _ _ _ _ _ _ _ _ _ _ _ _ _ _ _ _ _ _ _ _ _ _ _ _ _ _ _ _ _ _ _ _ _ _ _ _ _ _ _ _ hbr HH.out
   | succ k =>
    have hjj:((k + 1:Nat):Int) - 1 = (k:Int):=by omega
    rw [hjj]
    have hkL:k < L.length:=by rw [← HN.out];omega
    have hki:(k:Int) < (n:Int):=by omega
    have hk0:(0:Int)≤(k:Int):=by omega
    have hwk:IntKind.i64.wrap ((k:Int) - 1) = (k:Int) - 1:=by rw [IntKind.wrap_i64];omega
    obtain ⟨pb,cb,pk,ck,d0,d1,d2,d3,d4,d5,d6⟩:=HI.out.all wr hbr k hkL
    have HSTEP:Hid (firstP (okGo wh LE) k (L.drop k) = if manyS (L.getD k pt0).ty.data.toList = false∧okGo wh LE k (L.getD k pt0) = true then (k:Int) else firstP (okGo wh LE) (k + 1) (L.drop (k + 1))):=first_at (okGo wh LE) L k hkL
    have HOK:Hid (okGo wh LE k (L.getD k pt0) = if Lib.hasPrefix (noFr LE) cidS = true then (!(L.getD k pt0).id.data.toList.isEmpty && (cidS ++ (L.getD k pt0).id.data.toList == noFr LE)) else (!(L.getD k pt0).loc.data.toList.isEmpty && !(wh.getD k []).isEmpty && (noFr (wh.getD k []) == noFr LE))):=rfl
    obtain ⟨hl1,hl2⟩:=HI.out.len k hkL
    have hGr:G < wr.heap.size:=Nat.lt_of_lt_of_le hGl hbr.size
    obtain ⟨x,hx⟩:∃ x,L.getD k pt0 = x:=⟨_,rfl⟩
    rw [hx] at d0 d1 d2 d3 d4 d5 d6 HSTEP HOK hl1 hl2
    have CM:Hid (∀ W,Calls Tryz.prog 45 #[.string x.ty] W fun e w'=>e = .returned (.bool (manyS x.ty.data.toList))∧w' = W):=fun W=>rmany_any x.ty W hl1
    obtain ⟨pt1,pc1,pi1,pl1,ph1,pb1,pk1⟩:=x
    simp only at d0 d1 d2 d3 d4 d5 d6 HSTEP HOK hl1 hl2 CM
    generalize pb1.length = m1 at *
    generalize pk1.length = m2 at *
    go_upto_region 22 with fail
    obtain ⟨V,hV⟩:∃ W,W = wr.alloc (.cells #[.string pt1,.string pc1,.string pi1,.string pl1,.int .i64 ph1,.slice pb m1 cb,.slice pk m2 ck] 25):=⟨_,rfl⟩
    have kV:V.heap[wr.heap.size]? = some (.cells #[.string pt1,.string pc1,.string pi1,.string pl1,.int .i64 ph1,.slice pb m1 cb,.slice pk m2 ck] 25):=by rw [hV];exact blk_new wr _
    have hbV:Below G w V:=by rw [hV];exact hbr.alloc (Nat.le_of_lt hGr) _
    have HKV:Hid (V.heap[G]? = some (.cells #[.int .i64 g0,.int .i64 g1,.int .i64 g2,.string g3,.string (tx8 LE),.int .i64 (firstP (okGo wh LE) (k + 1) (L.drop (k + 1)))] 42)):=by unfold Hid;rw [hV,Below.heap_alloc _ _ _ hGr];exact HK.out
    rw [← hV]
    have hYG:wr.heap.size ≠ G:=by omega
    obtain ⟨Y,hY⟩:∃ k,wr.heap.size = k:=⟨_,rfl⟩
    rw [hY] at kV hYG ⊢
    have z0:V.cell? ⟨Y,0,none⟩ = some (.string pt1):=(blk_c kV 0).trans rfl
    clear hV hY d0 d1 d2 d3 d4 d5 d6 HK c4 hbr hGr
    have hGV:G≤V.heap.size:=Nat.le_of_lt (Array.getElem?_eq_some_iff.1 HKV.out).1
    have HVB:Hid (∀ W,Below V.heap.size V W→Below G w W):=fun W h=>hbV.trans (h.mono hGV)
    have HMX:Hid (∀ W,Below V.heap.size V W→MaxAt W):=fun W h=>HI.out.mx W (HVB.out W h)
    have HY:Hid (V.heap[Y]? = some (.cells #[.string pt1,.string pc1,.string pi1,.string pl1,.int .i64 ph1,.slice pb m1 cb,.slice pk m2 ck] 25)):=kV
    have HTE:Hid (∀ W,Below V.heap.size V W→W.cell? ⟨wb,wo + k,none⟩ = some (.string (tx8 (wh.getD k [])))):=fun W h=>HI.out.tel W (HVB.out W h) k hkL
    have hwl:=HI.out.wl k
    clear kV
    cases hm:manyS pt1.data.toList with
    | true =>
     rw [hm] at CM HSTEP
     have HKN:Hid (V.heap[G]? = some (.cells #[.int .i64 g0,.int .i64 g1,.int .i64 g2,.string g3,.string (tx8 LE),.int .i64 (firstP (okGo wh LE) k (L.drop k))] 42)):=by unfold Hid;rw [HSTEP.out,if_neg (by simp)];exact HKV.out
     clear hm HSTEP HOK HY HTE HMX HVB
     go_wp2_with fail
     refine (CM.out _).mono ?_
     rintro e w' ⟨rfl,hw'⟩
     have hw'':=hw'.symm
     subst hw''
     clear CM
     go_wp2_with fail
     go_roundw
     case rel=>exact ⟨k,rfl,by omega,hbV,HKN⟩
     case measure=>simp [intOf]
    | false =>
     rw [hm] at CM HSTEP
     clear hm
     go_wp2_with fail
     refine (CM.out _).mono ?_
     rintro e w' ⟨rfl,hw'⟩
     have hw'':=hw'.symm
     subst hw''
     clear CM z0
     go_upto_region 23 with fail
     refine lgR23 V HMX.out wb wo n cw G Y k (by omega) pl1 (wh.getD k []) LE hwl hLE ((blk_c HY.out 3).trans rfl) (HTE.out _ (Below.refl _ _)) ((blk_c HKV.out 4).trans rfl) _ _ _ _ _ _ _ _ _ _ _ _ _ _ _ _ _ _ _ _ _ _ _ _ _ _ _ _ _ _ _ _ _ _ _ _ _ _ _ _ _ _ _ _ _ _ _ _ _ _ _ _ _ _ _ _ _ _ _ _ _ _ _ _ _ _ _ _ _ _ _ _ _ _ _ _ _ _ _ _ _ _ _ _ _ _ _ _ _ _ _ _ _ _ _ _ _ _ _ _ _ _ _ _ _ _ _ _ _ _ _ _ _ _ _ _ _ _ _ _ _ _ _ _ _ _ _ ?_
     intro q80 q81 q82 q83 q84 q85 q86 q87 q88 q89 q90 q91 q92 q93 q94 q95 q96 q97 q98 q99 q100 q101 q102 w1 hb1
     go_upto_region 24 with fail
     refine lgR24 w1 (fun W h=>HMX.out W (hb1.trans (h.mono hb1.size))) G LE hLE ((blk_c (blk_on HKV.out hb1) 4).trans rfl) _ _ _ _ _ _ _ _ _ _ _ _ _ _ _ _ _ _ _ _ _ _ _ _ _ _ _ _ _ _ _ _ _ _ _ _ _ _ _ _ _ _ _ _ _ _ _ _ _ _ _ _ _ _ _ _ _ _ _ _ _ _ _ _ _ _ _ _ _ _ _ _ _ _ _ _ _ _ _ _ _ _ _ _ _ _ _ _ _ _ _ _ _ _ _ _ _ _ _ _ _ _ _ _ _ _ _ _ _ _ _ _ _ _ _ _ _ _ _ _ _ _ _ _ _ _ _ _ _ _ ?_
     intro q103 q104 q105 q106 w2 hb2
     have hb12:Below V.heap.size V w2:=hb1.trans (hb2.mono hb1.size)
     clear hb1 hb2
     cases hp:Lib.hasPrefix (noFr LE) cidS with
     | true =>
      rw [hp,if_pos rfl] at HOK
      go_upto_region 25 with fail
      refine lgR25 w2 (fun W h=>HMX.out W (hb12.trans (h.mono hb12.size))) G Y pi1 hl2 LE hLE ((blk_c (blk_on HY.out hb12) 2).trans rfl) ((blk_c (blk_on HKV.out hb12) 4).trans rfl) _ _ _ _ _ _ _ _ _ _ _ _ _ _ _ _ _ _ _ _ _ _ _ _ _ _ _ _ _ _ _ _ _ _ _ _ _ _ _ _ _ _ _ _ _ _ _ _ _ _ _ _ _ _ _ _ _ _ _ _ _ _ _ _ _ _ _ _ _ _ _ _ _ _ _ _ _ _ _ _ _ _ _ _ _ _ _ _ _ _ _ _ _ _ _ _ _ _ _ _ _ _ _ _ _ _ _ _ _ _ _ _ _ _ _ _ _ _ _ _ _ _ _ _ _ _ _ _ _ ?_
      intro q108 q109 q110 q111 q112 q113 q114 q115 q116 q117 q118 q119 q120 w3 hb3
      have hb13:Below V.heap.size V w3:=hb12.trans (hb3.mono hb12.size)
      clear hb12 hb3 hp
      rw [← HOK.out]
      have hk3:=blk_on HKV.out hb13
      have hbG:=HVB.out w3 hb13
      clear HKV HY HTE HMX HVB HOK hb13
      generalize hB:okGo wh LE k ⟨pt1,pc1,pi1,pl1,ph1,pb1,pk1⟩ = B at *
      cases B with
      | true =>
       have HKN:Hid ((w3.setCell ⟨G,5,none⟩ (.int .i64 (k:Int))).heap[G]? = some (.cells #[.int .i64 g0,.int .i64 g1,.int .i64 g2,.string g3,.string (tx8 LE),.int .i64 (firstP (okGo wh LE) k (L.drop k))] 42)):=by unfold Hid;rw [HSTEP.out,if_pos (by simp)];exact goal_set hk3 _
       have hbS:Below G w (w3.setCell ⟨G,5,none⟩ (.int .i64 (k:Int))):=hbG.setCell (p:=⟨G,5,none⟩) (Nat.le_refl _) _
       have c5:w3.cell? ⟨G,5,none⟩ = some (.int .i64 (firstP (okGo wh LE) (k + 1) (L.drop (k + 1)))):=(blk_c hk3 5).trans rfl
       have q5:w3.frozen? ⟨G,5,none⟩ = false:=blk_f hk3 5
       clear hk3 hbG HSTEP hB
       go_wp2_with fail
       go_roundw
       case rel=>exact ⟨k,rfl,by omega,hbS,HKN⟩
       case measure=>simp [intOf]
      | false =>
       have HKN:Hid (w3.heap[G]? = some (.cells #[.int .i64 g0,.int .i64 g1,.int .i64 g2,.string g3,.string (tx8 LE),.int .i64 (firstP (okGo wh LE) k (L.drop k))] 42)):=by unfold Hid;rw [HSTEP.out,if_neg (by simp)];exact hk3
       clear hk3 HSTEP hB
       go_wp2_with fail
       go_roundw
       case rel=>exact ⟨k,rfl,by omega,hbG,HKN⟩
       case measure=>simp [intOf]
     | false =>
      rw [hp,if_neg (by simp)] at HOK
      have hb13:Below V.heap.size V w2:=hb12
      clear hb12 hp
      rw [← HOK.out]
      obtain ⟨w3,hw3⟩:∃ W,W = w2:=⟨_,rfl⟩
      rw [← hw3] at hb13 ⊢
      clear hw3
      have hk3:=blk_on HKV.out hb13
      have hbG:=HVB.out w3 hb13
      clear HKV HY HTE HMX HVB HOK hb13
      generalize hB:okGo wh LE k ⟨pt1,pc1,pi1,pl1,ph1,pb1,pk1⟩ = B at *
      cases B with
      | true =>
       have HKN:Hid ((w3.setCell ⟨G,5,none⟩ (.int .i64 (k:Int))).heap[G]? = some (.cells #[.int .i64 g0,.int .i64 g1,.int .i64 g2,.string g3,.string (tx8 LE),.int .i64 (firstP (okGo wh LE) k (L.drop k))] 42)):=by unfold Hid;rw [HSTEP.out,if_pos (by simp)];exact goal_set hk3 _
       have hbS:Below G w (w3.setCell ⟨G,5,none⟩ (.int .i64 (k:Int))):=hbG.setCell (p:=⟨G,5,none⟩) (Nat.le_refl _) _
       have c5:w3.cell? ⟨G,5,none⟩ = some (.int .i64 (firstP (okGo wh LE) (k + 1) (L.drop (k + 1)))):=(blk_c hk3 5).trans rfl
       have q5:w3.frozen? ⟨G,5,none⟩ = false:=blk_f hk3 5
       clear hk3 hbG HSTEP hB
       go_wp2_with fail
       go_roundw
       case rel=>exact ⟨k,rfl,by omega,hbS,HKN⟩
       case measure=>simp [intOf]
      | false =>
       have HKN:Hid (w3.heap[G]? = some (.cells #[.int .i64 g0,.int .i64 g1,.int .i64 g2,.string g3,.string (tx8 LE),.int .i64 (firstP (okGo wh LE) k (L.drop k))] 42)):=by unfold Hid;rw [HSTEP.out,if_neg (by simp)];exact hk3
       clear hk3 HSTEP hB
       go_wp2_with fail
       go_roundw
       case rel=>exact ⟨k,rfl,by omega,hbG,HKN⟩
       case measure=>simp [intOf]
end Go.Proofs.YtbbfcbodhmeanaaGreatDoor



namespace Go.Proofs.YtbbfcbodhmeanaaGreatDoor
open Go.RowKit
theorem kept_on {W W':World} {k:Nat} {o:Obj} (h:W.heap[k]? = some o) (hb:Below W.heap.size W W'):W'.heap[k]? = some o:=by
 rw [hb.block _ (Array.getElem?_eq_some_iff.1 h).1];exact h
theorem kept_alloc {W:World} {k:Nat} {o o':Obj} (h:W.heap[k]? = some o):(W.alloc o').heap[k]? = some o:=kept_on h ((Below.refl _ _).alloc (Nat.le_refl _) _)
theorem cells_8 {W:World} {k:Nat} {t:TypeId} {v0 v1 v2 v3 v4 v5 v6 v7:Value} (h:W.heap[k]? = some (.cells #[v0,v1,v2,v3,v4,v5,v6,v7] t)) :
  W.cell? ⟨k,0,none⟩ = some v0∧W.cell? ⟨k,1,none⟩ = some v1∧W.cell? ⟨k,2,none⟩ = some v2∧W.cell? ⟨k,3,none⟩ = some v3∧W.cell? ⟨k,4,none⟩ = some v4∧W.cell? ⟨k,5,none⟩ = some v5∧W.cell? ⟨k,6,none⟩ = some v6∧W.cell? ⟨k,7,none⟩ = some v7∧∀ i,W.frozen? ⟨k,i,none⟩ = false :=
 ⟨blk_cell h 0,blk_cell h 1,blk_cell h 2,blk_cell h 3,blk_cell h 4,blk_cell h 5,blk_cell h 6,blk_cell h 7,blk_frozen h⟩
end Go.Proofs.YtbbfcbodhmeanaaGreatDoor


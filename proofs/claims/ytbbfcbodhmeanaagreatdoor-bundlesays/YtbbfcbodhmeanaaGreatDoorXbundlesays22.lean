
import Derived.Test.YtbbfcbodhmeanaaGreatDoorXbundlesays13
import Derived.Test.YtbbfcbodhmeanaaGreatDoorXbundlesays21
namespace Go.Proofs.YtbbfcbodhmeanaaGreatDoor
open Go.RowKit
theorem goE_bar (l:List UInt8):(tx8 l).toList.isEmpty = l.isEmpty:=by rw [ByteArray.toList_eq];rfl
theorem goE_ba (s:ByteArray):s.toList.isEmpty = s.data.toList.isEmpty:=by rw [ByteArray.toList_eq]
theorem goE_beq (a b:List UInt8):((tx8 a).toList == (tx8 b).toList) = (a == b):=by rw [ByteArray.toList_eq,ByteArray.toList_eq];rfl
set_option maxRecDepth 1000000 in
set_option maxHeartbeats 4000000 in
theorem lgR23 (w:World) (hM:∀ W,Below w.heap.size w W→MaxAt W) (wb wo n cw G Y k:Nat) (hk:k < n) (loc:ByteArray) (wk LE:List UInt8) (hwk:wk.length≤120) (hLE:LE.length≤120) (hy:w.cell? ⟨Y,3,none⟩ = some (.string loc)) (hw:w.cell? ⟨wb,wo + k,none⟩ = some (.string (tx8 wk))) (hg:w.cell? ⟨G,4,none⟩ = some (.string (tx8 LE))) (c0 c1 c2 c3 c4 c7 c8 c9 c10 c11 c12 c13 c14 c18 c19 c20 c21 c22 c23 c24 c25 c26 c27 c28 c29 c30 c31 c32 c33 c34 c35 c36 c37 c38 c39 c40 c41 c42 c43 c44 c45 c46 c47 c48 c49 c50 c51 c52 c53 c54 c55 c56 c57 c58 c59 c60 c61 c62 c63 c64 c65 c66 c67 c68 c69 c70 c71 c72 c73 c74 c75 c76 c77 c78 c79 c80 c81 c82 c83 c84 c85 c86 c87 c88 c89 c90 c91 c92 c93 c94 c95 c96 c97 c98 c99 c100 c101 c102 c103 c104 c105 c106 c107 c108 c109 c110 c111 c112 c113 c114 c115 c116 c117 c118 c119 c120 c121 c122 c123 c124 c125 c126 c127 c128 c129 c130:Value) (Q:Exit→Act→World→Prop)
  (hexit:∀ u80 u81 u82 u83 u84 u85 u86 u87 u88 u89 u90 u91 u92 u93 u94 u95 u96 u97 u98 u99 u100 u101 u102:Value,∀ w':World,Below w.heap.size w w'→Q .normal ⟨(c0::c1::c2::c3::c4::.slice (some ⟨wb,wo,none⟩) n cw::.func (Fn.func 56) #[] #[]::c7::c8::c9::c10::c11::c12::c13::c14::.pointer (some ⟨G,0,none⟩)::.int .i64 (k:Int)::.pointer (some ⟨Y,0,none⟩)::.bool (!loc.data.toList.isEmpty && !wk.isEmpty && (noFr wk == noFr LE))::c19::c20::c21::c22::c23::c24::c25::c26::c27::c28::c29::c30::c31::c32::c33::c34::c35::c36::c37::c38::c39::c40::c41::c42::c43::c44::c45::c46::c47::c48::c49::c50::c51::c52::c53::c54::c55::c56::c57::c58::c59::c60::c61::c62::c63::c64::c65::c66::c67::c68::c69::c70::c71::c72::c73::c74::c75::c76::c77::c78::c79::u80::u81::u82::u83::u84::u85::u86::u87::u88::u89::u90::u91::u92::u93::u94::u95::u96::u97::u98::u99::u100::u101::u102::c103::c104::c105::c106::c107::c108::c109::c110::c111::c112::c113::c114::c115::c116::c117::c118::c119::c120::c121::c122::c123::c124::c125::c126::c127::c128::c129::c130::[]).toArray,[]⟩ w') :
  Code.wp Tryz.prog (regAt Tryz.f14 22) Q ⟨(c0::c1::c2::c3::c4::.slice (some ⟨wb,wo,none⟩) n cw::.func (Fn.func 56) #[] #[]::c7::c8::c9::c10::c11::c12::c13::c14::.pointer (some ⟨G,0,none⟩)::.int .i64 (k:Int)::.pointer (some ⟨Y,0,none⟩)::c18::c19::c20::c21::c22::c23::c24::c25::c26::c27::c28::c29::c30::c31::c32::c33::c34::c35::c36::c37::c38::c39::c40::c41::c42::c43::c44::c45::c46::c47::c48::c49::c50::c51::c52::c53::c54::c55::c56::c57::c58::c59::c60::c61::c62::c63::c64::c65::c66::c67::c68::c69::c70::c71::c72::c73::c74::c75::c76::c77::c78::c79::c80::c81::c82::c83::c84::c85::c86::c87::c88::c89::c90::c91::c92::c93::c94::c95::c96::c97::c98::c99::c100::c101::c102::c103::c104::c105::c106::c107::c108::c109::c110::c111::c112::c113::c114::c115::c116::c117::c118::c119::c120::c121::c122::c123::c124::c125::c126::c127::c128::c129::c130::[]).toArray,[]⟩ w:=by
 have HX:Hid _:=hexit
 clear hexit
 conv=>arg 2;whnf
 have C1:Hid (∀ W,Below w.heap.size w W→Calls Tryz.prog 56 #[.string (tx8 wk)] W fun e w'=>e = .returned (.string (tx8 (noFr wk)))∧Below w.heap.size w w'):=fun W hW=>(no_any (tx8 wk) (by rw [tx8_size];omega) W (hM W hW)).mono fun e w' h=>⟨h.1,hW.trans (h.2.mono hW.size)⟩
 have C2:Hid (∀ W,Below w.heap.size w W→Calls Tryz.prog 56 #[.string (tx8 LE)] W fun e w'=>e = .returned (.string (tx8 (noFr LE)))∧Below w.heap.size w w'):=fun W hW=>(no_any (tx8 LE) (by rw [tx8_size];omega) W (hM W hW)).mono fun e w' h=>⟨h.1,hW.trans (h.2.mono hW.size)⟩
 have hki:(k:Int) < (n:Int):=by omega
 have e1:=goE_ba loc
 have e2:=goE_bar wk
 have hYl:Y < w.heap.size:=World.block_lt_of_cell? w _ hy
 have hWl:wb < w.heap.size:=World.block_lt_of_cell? w _ hw
 have hGl:G < w.heap.size:=World.block_lt_of_cell? w _ hg
 have f0:∀ W,Below w.heap.size w W→W.cell? ⟨Y,3,none⟩ = some (.string loc):=fun W h=>(h.cell (p:=⟨Y,3,none⟩) hYl).trans hy
 have f1:∀ W,Below w.heap.size w W→W.cell? ⟨wb,wo + k,none⟩ = some (.string (tx8 wk)):=fun W h=>(h.cell (p:=⟨wb,wo + k,none⟩) hWl).trans hw
 have f2:∀ W,Below w.heap.size w W→W.cell? ⟨G,4,none⟩ = some (.string (tx8 LE)):=fun W h=>(h.cell (p:=⟨G,4,none⟩) hGl).trans hg
 have hb0:Below w.heap.size w w.drew:=(Below.refl _ _).drew
 cases h1:loc.data.toList.isEmpty with
 | true =>
  rw [h1] at e1 HX
  clear C1 C2 h1 e2 f1 f2
  go_region
  exact HX.out _ _ _ _ _ _ _ _ _ _ _ _ _ _ _ _ _ _ _ _ _ _ _ _ hb0
 | false =>
  rw [h1] at e1 HX
  cases h2:wk.isEmpty with
  | true =>
   rw [h2] at e2 HX
   clear C1 C2 h1 h2 f2
   go_region
   exact HX.out _ _ _ _ _ _ _ _ _ _ _ _ _ _ _ _ _ _ _ _ _ _ _ _ hb0
  | false =>
   rw [h2] at e2 HX
   have e3:=goE_beq (noFr wk) (noFr LE)
   obtain ⟨T1,hT1⟩:∃ T,tx8 (noFr wk) = T:=⟨_,rfl⟩
   obtain ⟨T2,hT2⟩:∃ T,tx8 (noFr LE) = T:=⟨_,rfl⟩
   rw [hT1] at C1 e3
   rw [hT2] at C2 e3
   have HXX:Hid (∀ u80 u81 u82 u83 u84 u85 u86 u87 u88 u89 u90 u91 u92 u93 u94 u95 u96 u97 u98 u99 u100 u101 u102:Value,∀ w':World,Below w.heap.size w w'→Q .normal ⟨(c0::c1::c2::c3::c4::.slice (some ⟨wb,wo,none⟩) n cw::.func (Fn.func 56) #[] #[]::c7::c8::c9::c10::c11::c12::c13::c14::.pointer (some ⟨G,0,none⟩)::.int .i64 (k:Int)::.pointer (some ⟨Y,0,none⟩)::.bool (!false && !false && (noFr wk == noFr LE))::c19::c20::c21::c22::c23::c24::c25::c26::c27::c28::c29::c30::c31::c32::c33::c34::c35::c36::c37::c38::c39::c40::c41::c42::c43::c44::c45::c46::c47::c48::c49::c50::c51::c52::c53::c54::c55::c56::c57::c58::c59::c60::c61::c62::c63::c64::c65::c66::c67::c68::c69::c70::c71::c72::c73::c74::c75::c76::c77::c78::c79::u80::u81::u82::u83::u84::u85::u86::u87::u88::u89::u90::u91::u92::u93::u94::u95::u96::u97::u98::u99::u100::u101::u102::c103::c104::c105::c106::c107::c108::c109::c110::c111::c112::c113::c114::c115::c116::c117::c118::c119::c120::c121::c122::c123::c124::c125::c126::c127::c128::c129::c130::[]).toArray,[]⟩ w'):=HX.out
   generalize (noFr wk == noFr LE) = B1 at *
   clear h1 h2 hT1 hT2 HX
   go_region_held3 (fun W=>Below w.heap.size w W) (first | assumption | exact hb0) (first
    | (go_at_call 56;refine (C1.out _ ?_).mono ?_;(first | assumption | exact hb0);rintro e w1 ⟨rfl,hb1⟩)
    | (go_at_call 56;refine (C2.out _ ?_).mono ?_;(first | assumption | exact hb0);rintro e w2 ⟨rfl,hb2⟩))
   exact HXX.out _ _ _ _ _ _ _ _ _ _ _ _ _ _ _ _ _ _ _ _ _ _ _ _ (by assumption)
end Go.Proofs.YtbbfcbodhmeanaaGreatDoor



namespace Go.Proofs.YtbbfcbodhmeanaaGreatDoor
open Go.RowKit
set_option maxRecDepth 1000000 in
set_option maxHeartbeats 4000000 in
theorem lgR24 (w:World) (hM:∀ W,Below w.heap.size w W→MaxAt W) (G:Nat) (LE:List UInt8) (hLE:LE.length≤120) (hg:w.cell? ⟨G,4,none⟩ = some (.string (tx8 LE))) (c0 c1 c2 c3 c4 c5 c7 c8 c9 c10 c11 c12 c13 c14 c16 c17 c18 c19 c20 c21 c22 c23 c24 c25 c26 c27 c28 c29 c30 c31 c32 c33 c34 c35 c36 c37 c38 c39 c40 c41 c42 c43 c44 c45 c46 c47 c48 c49 c50 c51 c52 c53 c54 c55 c56 c57 c58 c59 c60 c61 c62 c63 c64 c65 c66 c67 c68 c69 c70 c71 c72 c73 c74 c75 c76 c77 c78 c79 c80 c81 c82 c83 c84 c85 c86 c87 c88 c89 c90 c91 c92 c93 c94 c95 c96 c97 c98 c99 c100 c101 c102 c103 c104 c105 c106 c107 c108 c109 c110 c111 c112 c113 c114 c115 c116 c117 c118 c119 c120 c121 c122 c123 c124 c125 c126 c127 c128 c129 c130:Value) (Q:Exit→Act→World→Prop)
  (hexit:∀ u103 u104 u105 u106:Value,∀ w':World,Below w.heap.size w w'→Q .normal ⟨(c0::c1::c2::c3::c4::c5::.func (Fn.func 56) #[] #[]::c7::c8::c9::c10::c11::c12::c13::c14::.pointer (some ⟨G,0,none⟩)::c16::c17::c18::c19::c20::c21::c22::c23::c24::c25::c26::c27::c28::c29::c30::c31::c32::c33::c34::c35::c36::c37::c38::c39::c40::c41::c42::c43::c44::c45::c46::c47::c48::c49::c50::c51::c52::c53::c54::c55::c56::c57::c58::c59::c60::c61::c62::c63::c64::c65::c66::c67::c68::c69::c70::c71::c72::c73::c74::c75::c76::c77::c78::c79::c80::c81::c82::c83::c84::c85::c86::c87::c88::c89::c90::c91::c92::c93::c94::c95::c96::c97::c98::c99::c100::c101::c102::u103::u104::u105::u106::.bool (Lib.hasPrefix (noFr LE) cidS)::c108::c109::c110::c111::c112::c113::c114::c115::c116::c117::c118::c119::c120::c121::c122::c123::c124::c125::c126::c127::c128::c129::c130::[]).toArray,[]⟩ w') :
  Code.wp Tryz.prog (regAt Tryz.f14 23) Q ⟨(c0::c1::c2::c3::c4::c5::.func (Fn.func 56) #[] #[]::c7::c8::c9::c10::c11::c12::c13::c14::.pointer (some ⟨G,0,none⟩)::c16::c17::c18::c19::c20::c21::c22::c23::c24::c25::c26::c27::c28::c29::c30::c31::c32::c33::c34::c35::c36::c37::c38::c39::c40::c41::c42::c43::c44::c45::c46::c47::c48::c49::c50::c51::c52::c53::c54::c55::c56::c57::c58::c59::c60::c61::c62::c63::c64::c65::c66::c67::c68::c69::c70::c71::c72::c73::c74::c75::c76::c77::c78::c79::c80::c81::c82::c83::c84::c85::c86::c87::c88::c89::c90::c91::c92::c93::c94::c95::c96::c97::c98::c99::c100::c101::c102::c103::c104::c105::c106::c107::c108::c109::c110::c111::c112::c113::c114::c115::c116::c117::c118::c119::c120::c121::c122::c123::c124::c125::c126::c127::c128::c129::c130::[]).toArray,[]⟩ w:=by
 have HX:Hid _:=hexit
 clear hexit
 conv=>arg 2;whnf
 have C2:Hid (∀ W,Below w.heap.size w W→Calls Tryz.prog 56 #[.string (tx8 LE)] W fun e w'=>e = .returned (.string (tx8 (noFr LE)))∧Below w.heap.size w w'):=fun W hW=>(no_any (tx8 LE) (by rw [tx8_size];omega) W (hM W hW)).mono fun e w' h=>⟨h.1,hW.trans (h.2.mono hW.size)⟩
 have CH:Hid (∀ W,Calls Tryz.prog 59 #[.string (tx8 (noFr LE)),.string ⟨#[99,105,100,58]⟩] W fun e w'=>e = .returned (.bool (Lib.hasPrefix (noFr LE) cidS))∧w' = W):=fun W=>Tryz.strings_HasPrefix (tx8 (noFr LE)) ⟨#[99,105,100,58]⟩ W
 generalize Lib.hasPrefix (noFr LE) cidS = B1 at *
 generalize tx8 (noFr LE) = T2 at *
 go_wp2_with fail
 refine (C2.out _ (Below.refl _ _)).mono ?_
 rintro e w2 ⟨rfl,hb2⟩
 have HB2:Hid (Below w.heap.size w w2):=hb2
 clear C2 hb2
 go_wp2_with fail
 refine (CH.out _).mono ?_
 rintro e w3 ⟨rfl,hw3⟩
 have hw3':=hw3.symm
 subst hw3'
 go_wp2_with fail
 exact HX.out _ _ _ _ _ HB2.out
set_option maxRecDepth 1000000 in
set_option maxHeartbeats 4000000 in
theorem lgR25 (w:World) (hM:∀ W,Below w.heap.size w W→MaxAt W) (G Y:Nat) (id:ByteArray) (hid:id.size≤100000) (LE:List UInt8) (hLE:LE.length≤120) (hy:w.cell? ⟨Y,2,none⟩ = some (.string id)) (hg:w.cell? ⟨G,4,none⟩ = some (.string (tx8 LE))) (c0 c1 c2 c3 c4 c5 c7 c8 c9 c10 c11 c12 c13 c14 c16 c18 c19 c20 c21 c22 c23 c24 c25 c26 c27 c28 c29 c30 c31 c32 c33 c34 c35 c36 c37 c38 c39 c40 c41 c42 c43 c44 c45 c46 c47 c48 c49 c50 c51 c52 c53 c54 c55 c56 c57 c58 c59 c60 c61 c62 c63 c64 c65 c66 c67 c68 c69 c70 c71 c72 c73 c74 c75 c76 c77 c78 c79 c80 c81 c82 c83 c84 c85 c86 c87 c88 c89 c90 c91 c92 c93 c94 c95 c96 c97 c98 c99 c100 c101 c102 c103 c104 c105 c106 c107 c108 c109 c110 c111 c112 c113 c114 c115 c116 c117 c118 c119 c120 c121 c122 c123 c124 c125 c126 c127 c128 c129 c130:Value) (Q:Exit→Act→World→Prop)
  (hexit:∀ u108 u109 u110 u111 u112 u113 u114 u115 u116 u117 u118 u119 u120:Value,∀ w':World,Below w.heap.size w w'→Q .normal ⟨(c0::c1::c2::c3::c4::c5::.func (Fn.func 56) #[] #[]::c7::c8::c9::c10::c11::c12::c13::c14::.pointer (some ⟨G,0,none⟩)::c16::.pointer (some ⟨Y,0,none⟩)::.bool (!id.data.toList.isEmpty && (cidS ++ id.data.toList == noFr LE))::c19::c20::c21::c22::c23::c24::c25::c26::c27::c28::c29::c30::c31::c32::c33::c34::c35::c36::c37::c38::c39::c40::c41::c42::c43::c44::c45::c46::c47::c48::c49::c50::c51::c52::c53::c54::c55::c56::c57::c58::c59::c60::c61::c62::c63::c64::c65::c66::c67::c68::c69::c70::c71::c72::c73::c74::c75::c76::c77::c78::c79::c80::c81::c82::c83::c84::c85::c86::c87::c88::c89::c90::c91::c92::c93::c94::c95::c96::c97::c98::c99::c100::c101::c102::c103::c104::c105::c106::c107::u108::u109::u110::u111::u112::u113::u114::u115::u116::u117::u118::u119::u120::c121::c122::c123::c124::c125::c126::c127::c128::c129::c130::[]).toArray,[]⟩ w') :
  Code.wp Tryz.prog (regAt Tryz.f14 24) Q ⟨(c0::c1::c2::c3::c4::c5::.func (Fn.func 56) #[] #[]::c7::c8::c9::c10::c11::c12::c13::c14::.pointer (some ⟨G,0,none⟩)::c16::.pointer (some ⟨Y,0,none⟩)::c18::c19::c20::c21::c22::c23::c24::c25::c26::c27::c28::c29::c30::c31::c32::c33::c34::c35::c36::c37::c38::c39::c40::c41::c42::c43::c44::c45::c46::c47::c48::c49::c50::c51::c52::c53::c54::c55::c56::c57::c58::c59::c60::c61::c62::c63::c64::c65::c66::c67::c68::c69::c70::c71::c72::c73::c74::c75::c76::c77::c78::c79::c80::c81::c82::c83::c84::c85::c86::c87::c88::c89::c90::c91::c92::c93::c94::c95::c96::c97::c98::c99::c100::c101::c102::c103::c104::c105::c106::c107::c108::c109::c110::c111::c112::c113::c114::c115::c116::c117::c118::c119::c120::c121::c122::c123::c124::c125::c126::c127::c128::c129::c130::[]).toArray,[]⟩ w:=by
 have HX:Hid _:=hexit
 clear hexit
 conv=>arg 2;whnf
 have C2:Hid (∀ W,Below w.heap.size w W→Calls Tryz.prog 56 #[.string (tx8 LE)] W fun e w'=>e = .returned (.string (tx8 (noFr LE)))∧Below w.heap.size w w'):=fun W hW=>(no_any (tx8 LE) (by rw [tx8_size];omega) W (hM W hW)).mono fun e w' h=>⟨h.1,hW.trans (h.2.mono hW.size)⟩
 have e1:=goE_ba id
 have hYl:Y < w.heap.size:=World.block_lt_of_cell? w _ hy
 have hGl:G < w.heap.size:=World.block_lt_of_cell? w _ hg
 have f0:∀ W,Below w.heap.size w W→W.cell? ⟨Y,2,none⟩ = some (.string id):=fun W h=>(h.cell (p:=⟨Y,2,none⟩) hYl).trans hy
 have f2:∀ W,Below w.heap.size w W→W.cell? ⟨G,4,none⟩ = some (.string (tx8 LE)):=fun W h=>(h.cell (p:=⟨G,4,none⟩) hGl).trans hg
 have hb0:Below w.heap.size w w.drew:=(Below.refl _ _).drew
 have s1:∀ W,(Op.stringOp .add ⟨#[99,105,100,58]⟩ id).run Tryz.prog W = .ok (.string (⟨#[99,105,100,58]⟩ ++ id)) W:=fun W=>run_string_add_sum W _ _ (by show 4 + id.size≤_;omega)
 cases h1:id.data.toList.isEmpty with
 | true =>
  rw [h1] at e1 HX
  clear C2 h1 f2 s1
  go_region
  exact HX.out _ _ _ _ _ _ _ _ _ _ _ _ _ _ hb0
 | false =>
  rw [h1] at e1 HX
  have e3:((⟨#[99,105,100,58]⟩ ++ id:ByteArray).toList == (tx8 (noFr LE)).toList) = (cidS ++ id.data.toList == noFr LE):=by
   rw [ByteArray.toList_eq,ByteArray.toList_eq,ByteArray.data_append]
   simp [cidS,tx8]
  obtain ⟨T2,hT2⟩:∃ T,tx8 (noFr LE) = T:=⟨_,rfl⟩
  obtain ⟨T1,hT1⟩:∃ T,(⟨#[99,105,100,58]⟩ ++ id:ByteArray) = T:=⟨_,rfl⟩
  rw [hT2] at C2 e3
  rw [hT1] at s1 e3
  have HXX:Hid (∀ u108 u109 u110 u111 u112 u113 u114 u115 u116 u117 u118 u119 u120:Value,∀ w':World,Below w.heap.size w w'→Q .normal ⟨(c0::c1::c2::c3::c4::c5::.func (Fn.func 56) #[] #[]::c7::c8::c9::c10::c11::c12::c13::c14::.pointer (some ⟨G,0,none⟩)::c16::.pointer (some ⟨Y,0,none⟩)::.bool (!false && (cidS ++ id.data.toList == noFr LE))::c19::c20::c21::c22::c23::c24::c25::c26::c27::c28::c29::c30::c31::c32::c33::c34::c35::c36::c37::c38::c39::c40::c41::c42::c43::c44::c45::c46::c47::c48::c49::c50::c51::c52::c53::c54::c55::c56::c57::c58::c59::c60::c61::c62::c63::c64::c65::c66::c67::c68::c69::c70::c71::c72::c73::c74::c75::c76::c77::c78::c79::c80::c81::c82::c83::c84::c85::c86::c87::c88::c89::c90::c91::c92::c93::c94::c95::c96::c97::c98::c99::c100::c101::c102::c103::c104::c105::c106::c107::u108::u109::u110::u111::u112::u113::u114::u115::u116::u117::u118::u119::u120::c121::c122::c123::c124::c125::c126::c127::c128::c129::c130::[]).toArray,[]⟩ w'):=HX.out
  generalize (cidS ++ id.data.toList == noFr LE) = B1 at *
  clear h1 hT1 hT2 HX
  go_region_held3 (fun W=>Below w.heap.size w W) (first | assumption | exact hb0) (first
   | (go_at_call 56;refine (C2.out _ ?_).mono ?_;(first | assumption | exact hb0);rintro e w2 ⟨rfl,hb2⟩))
  exact HXX.out _ _ _ _ _ _ _ _ _ _ _ _ _ _ (by assumption)
end Go.Proofs.YtbbfcbodhmeanaaGreatDoor



namespace Go.Proofs.YtbbfcbodhmeanaaGreatDoor
def okGo (wh:List (List UInt8)) (LE:List UInt8) (k:Nat) (y:PT):Bool :=
 if Lib.hasPrefix (noFr LE) cidS = true then (!y.id.data.toList.isEmpty && (cidS ++ y.id.data.toList == noFr LE)) else (!y.loc.data.toList.isEmpty && !(wh.getD k []).isEmpty && (noFr (wh.getD k []) == noFr LE))
theorem firstP_same (ok ok':Nat→PT→Bool) (h:∀ k p,ok k p = ok' k p):∀ (k:Nat) (l:List PT),firstP ok k l = firstP ok' k l
 | _,[]=>rfl
 | k,p::l=>by
  unfold firstP
  rw [h k p,firstP_same ok ok' h (k + 1) l]
theorem okGo_is (wh:List (List UInt8)) (LE:List UInt8) (hne:noFr LE ≠ []) (k:Nat) (p:PT):okGo wh LE k p = if Lib.hasPrefix (noFr LE) cidS = true then okID ((noFr LE).drop 4) k p else okLoc wh (noFr LE) k p:=by
 unfold okGo
 by_cases h:Lib.hasPrefix (noFr LE) cidS = true
 ·rw [if_pos h,if_pos h]
  unfold okID
  congr 1
  unfold Lib.hasPrefix at h
  obtain ⟨t,ht⟩:=List.isPrefixOf_iff_prefix.1 h
  rw [← ht,Bool.eq_iff_iff,beq_iff_eq,beq_iff_eq]
  have e:(cidS ++ t).drop 4 = t:=rfl
  rw [e]
  exact ⟨fun h=>List.append_cancel_left h,fun h=>by rw [h]⟩
 ·rw [if_neg h,if_neg h]
  unfold okLoc
  cases hw:wh.getD k [] with
  | nil =>
   have e:(noFr [] == noFr LE) = false:=by
    rw [beq_eq_false_iff_ne]
    exact fun e=>hne e.symm
   rw [e]
   simp
  | cons a b=>simp
theorem find_is (L:List PT) (wh:List (List UInt8)) (LE:List UInt8) (h0:LE ≠ []) (hne:noFr LE ≠ []):findW L wh LE = firstP (okGo wh LE) 0 L:=by
 unfold findW
 rw [if_neg h0]
 by_cases h:Lib.hasPrefix (noFr LE) cidS = true
 ·rw [if_pos h]
  exact firstP_same _ _ (fun k p=>by rw [okGo_is wh LE hne,if_pos h]) 0 L
 ·rw [if_neg h]
  exact firstP_same _ _ (fun k p=>by rw [okGo_is wh LE hne,if_neg h]) 0 L
theorem first_at (ok:Nat→PT→Bool) (L:List PT) (k:Nat) (hk:k < L.length):firstP ok k (L.drop k) = if manyS (L.getD k pt0).ty.data.toList = false∧ok k (L.getD k pt0) = true then (k:Int) else firstP ok (k + 1) (L.drop (k + 1)):=by
 rw [List.drop_eq_getElem_cons hk,firstP,List.getD_eq_getElem?_getD,List.getElem?_eq_getElem hk]
 rfl
theorem first_end (ok:Nat→PT→Bool) (L:List PT) (k:Nat) (hk:L.length≤k):firstP ok k (L.drop k) = -1:=by
 rw [List.drop_of_length_le hk]
 rfl
end Go.Proofs.YtbbfcbodhmeanaaGreatDoor



namespace Go.Proofs.YtbbfcbodhmeanaaGreatDoor
def ba (l:List UInt8):ByteArray:=⟨l.toArray⟩
theorem ba_data (l:List UInt8):(ba l).data.toList = l:=rfl
theorem ba_size (l:List UInt8):(ba l).size = l.length:=by rw [Lib.size_eq,ba_data]
end Go.Proofs.YtbbfcbodhmeanaaGreatDoor



namespace Go.Proofs.YtbbfcbodhmeanaaGreatDoor
open Go.RowKit
def rsmJ (x:Int):Int:=if 65≤x∧x≤90 then x + 32 else x
theorem rsmJ_any (x:Nat) (hx:x≤1114111) (w:World):Calls Tryz.prog 137 #[.int .i32 (x:Int)] w fun e w'=>e = .returned (.int .i32 (rsmJ x))∧w' = w:=by
 by_cases h1:65≤x
 ·have h1':(65:Int)≤(x:Int):=by omega
  by_cases h2:x≤90
  ·have h2':(x:Int)≤90:=by omega
   have HN:Hid (rsmJ x = (x:Int) + 32):=by unfold Hid rsmJ;rw [if_pos ⟨h1',h2'⟩]
   have hw:IntKind.i32.wrap ((x:Int) + 32) = (x:Int) + 32:=by rw [IntKind.wrap_i32];omega
   go_enter Tryz.func137,Tryz.ntmps137
   go_wp2
   go_ret
   exact ⟨by rw [HN.out];rfl,rfl⟩
  ·have h2':decide ((x:Int)≤90) = false:=by simp;omega
   have HN:Hid (rsmJ x = (x:Int)):=by unfold Hid rsmJ;rw [if_neg (by omega)]
   go_enter Tryz.func137,Tryz.ntmps137
   go_wp2
   go_ret
   exact ⟨by rw [HN.out];rfl,rfl⟩
 ·have h1':decide ((65:Int)≤(x:Int)) = false:=by simp;omega
  have HN:Hid (rsmJ x = (x:Int)):=by unfold Hid rsmJ;rw [if_neg (by omega)]
  go_enter Tryz.func137,Tryz.ntmps137
  go_wp2
  go_ret
  exact ⟨by rw [HN.out];rfl,rfl⟩
theorem decode_one (c:UInt8) (l:List UInt8) (h:c.toNat < 128):Lib.decodeL (c::l) = (c.toNat,1):=by
 have e:(ByteArray.mk (c::l).toArray).get! 0 = c:=rfl
 unfold Lib.decodeL Utf8.decode
 simp only [Nat.add_zero,e]
 rw [if_pos h]
theorem rsmJ_byte (c:UInt8) (h:c.toNat < 128):0≤rsmJ (c.toNat:Int)∧Lib.encodeRune (rsmJ (c.toNat:Int)) = [Lib.lowerB c]:=by
 have hl:=lower_num8 c
 have e:rsmJ (c.toNat:Int) = ((Lib.lowerB c).toNat:Int):=by
  unfold rsmJ
  by_cases hu:65≤c.toNat∧c.toNat≤90
  ·rw [if_pos hu] at hl;rw [if_pos (by omega),hl];omega
  ·rw [if_neg hu] at hl;rw [if_neg (by omega),hl]
 have h2:=ascii_low c h
 refine ⟨by rw [e];omega,?_⟩
 rw [e,Lib.encodeRune,Lib.encodeRuneZ_one (by omega) (by omega)]
 simp
theorem map_small:∀ (n:Nat) (l:List UInt8),l.length≤n→(∀ c ∈ l,c.toNat < 128)→Lib.mapGoD rsmJ n l = small8 l
 | 0,l,hn,_=>by
  have:l = []:=List.length_eq_zero_iff.1 (by omega)
  subst this;rfl
 | n + 1,[],_,_=>by rw [Lib.mapGoD,if_pos rfl];rfl
 | n + 1,c::l,hn,ha=>by
  have hc:=ha c (by simp)
  rw [Lib.mapGoD,if_neg (by simp),decode_one c l hc,if_pos (rsmJ_byte c hc).1,(rsmJ_byte c hc).2]
  simp only [List.drop_succ_cons,List.drop_zero]
  rw [map_small n l (by simpa using hn) (fun x hx=>ha x (by simp [hx]))]
  rfl
theorem rsmall_any (l:List UInt8) (w:World) (hs:l.length≤1000000) (ha:∀ c ∈ l,c.toNat < 128) (hT:Lib.Utf8Tabs 1 2 w) :
  Calls Tryz.prog 87 #[.string (ba l)] w fun e w'=>e = .returned (.string (ba (small8 l)))∧Below w.heap.size w w':=by
 have C:=Tryz.strings_Map_runes 137 #[] (fun args w=>by kernel_rfl) rsmJ (ba l) w (by rw [ba_size];omega) (fun W x hx _=>(rsmJ_any x hx W).mono (fun e w' h=>⟨h.1,0,h.2⟩)) (fun x hx=>by unfold rsmJ;split <;> omega) hT
 have e:Lib.mapD rsmJ (ba l).data.toList = small8 l:=map_small _ _ (Nat.le_refl _) ha
 rw [e] at C
 have HC:Hid (Calls Tryz.prog 136 #[.func (.func 137) #[] #[],.string (ba l)] w fun e w'=>e = .returned (.string (ba (small8 l)))∧Below w.heap.size w w'):=C
 clear C e ha hT
 go_enter Tryz.func87,Tryz.ntmps87
 go_wp2_with fail
 refine HC.out.mono ?_
 rintro e w1 ⟨rfl,hb⟩
 clear HC
 go_wp2
 go_ret
 exact ⟨rfl,hb⟩
end Go.Proofs.YtbbfcbodhmeanaaGreatDoor



namespace Go.Proofs.YtbbfcbodhmeanaaGreatDoor
open Go.RowKit
set_option maxHeartbeats 1000000 in
theorem between_any (s but:ByteArray) (bl:List UInt8) (hbut:but.data.toList = bl) (lo hi:Nat) (loi hii:Int) (e1:loi = (lo:Int)) (e2:hii = (hi:Int)) (w:World) (hs:s.size≤1000000) :
  Calls Tryz.prog 88 #[.string s,.int .u8 loi,.int .u8 hii,.string but] w fun e w'=>e = .returned (.bool (betw lo hi bl s.data.toList))∧w' = w:=by
 subst e1 e2
 go_enter Tryz.func88,Tryz.ntmps88
 go_wp2
 go_loop [12] (fun iv=>∃ k:Nat,k≤s.size∧iv = .int .i64 k∧Hid (betw lo hi bl (s.data.toList.drop k) = betw lo hi bl s.data.toList)) (fun iv=>s.size - (intOf iv).toNat)
 case atStart=>exact ⟨0,Nat.zero_le _,rfl,rfl⟩
 case round =>
  obtain ⟨k,hk,rfl,HK⟩:=hrel
  by_cases hlt:k < s.size
  ·have hdr:Hid (betw lo hi bl (s.data.toList.drop k) = (inB lo hi bl s[k] && betw lo hi bl (s.data.toList.drop (k + 1)))):=by unfold Hid;rw [dropB s k hlt,betw_cons]
   by_cases h1:s[k].toNat < lo
   ·have HN:Hid (betw lo hi bl s.data.toList = false):=by
     unfold Hid
     rw [← HK.out,hdr.out,show inB lo hi bl s[k] = false from by simp [inB];omega];rfl
    have h1':(s[k].toNat:Int) < (lo:Int):=by omega
    clear hdr HK
    go_wp2
    go_ret
    exact ⟨by rw [HN.out];rfl,rfl⟩
   ·have h1':decide ((s[k].toNat:Int) < (lo:Int)) = false:=by simp;omega
    by_cases h2:hi < s[k].toNat
    ·have HN:Hid (betw lo hi bl s.data.toList = false):=by
      unfold Hid
      rw [← HK.out,hdr.out,show inB lo hi bl s[k] = false from by simp [inB];omega];rfl
     have h2':(hi:Int) < (s[k].toNat:Int):=by omega
     clear hdr HK
     go_wp2
     go_ret
     exact ⟨by rw [HN.out];rfl,rfl⟩
    ·have h2':decide ((hi:Int) < (s[k].toNat:Int)) = false:=by simp;omega
     cases h3:bl.contains s[k]
     ·have HN:Hid (betw lo hi bl (s.data.toList.drop (k + 1)) = betw lo hi bl s.data.toList):=by
       unfold Hid
       rw [← HK.out,hdr.out,show inB lo hi bl s[k] = true from by simp only [inB,h3];simp;omega];rfl
      clear hdr HK
      go_wp2_with (go_at_call 93;refine (ix_any but bl hbut s[k] _ rfl _).mono ?_;rintro e w' ⟨i,rfl,hi9,hw'⟩;rw [h3] at hi9;have hw'':=hw'.symm;subst hw'')
      go_round
      case rel=>exact ⟨k + 1,by omega,by go_num,HN⟩
      case measure=>simp [intOf];omega
     ·have HN:Hid (betw lo hi bl s.data.toList = false):=by
       unfold Hid
       rw [← HK.out,hdr.out,show inB lo hi bl s[k] = false from by simp only [inB,h3];simp];rfl
      clear hdr HK
      go_wp2_with (go_at_call 93;refine (ix_any but bl hbut s[k] _ rfl _).mono ?_;rintro e w' ⟨i,rfl,hi9,hw'⟩;rw [h3] at hi9;have hw'':=hw'.symm;subst hw'')
      go_ret
      exact ⟨by rw [HN.out];rfl,rfl⟩
  ·obtain rfl:k = s.size:=by omega
   have HN:Hid (betw lo hi bl s.data.toList = true):=by
    unfold Hid
    rw [← HK.out,List.drop_of_length_le (by rw [← Lib.size_eq];exact Nat.le_refl _)];rfl
   clear HK
   go_wp2
   go_ret
   exact ⟨by rw [HN.out];rfl,rfl⟩
end Go.Proofs.YtbbfcbodhmeanaaGreatDoor



namespace Go.Proofs.YtbbfcbodhmeanaaGreatDoor
open Go.RowKit
theorem token_any (s:ByteArray) (w:World) (hs:s.size≤maxLen) :
  Calls Tryz.prog 47 #[.string s] w fun e w'=>e = .returned (.bool (tokenS s.data.toList))∧w' = w:=by
 unfold maxLen at hs
 have hle:=Lib.size_eq s
 by_cases h1:1≤s.size
 ·have h1':(1:Int)≤(s.size:Int):=by omega
  by_cases h2:s.size≤30
  ·have h2':(s.size:Int)≤30:=by omega
   have HN:Hid (tokenS s.data.toList = betw 33 126 specials s.data.toList):=by unfold Hid tokenS;rw [← hle];simp [h1,h2]
   clear hle
   go_enter Tryz.func47,Tryz.ntmps47
   go_wp2_with (go_at_call 88;refine (between_any s _ specials rfl 33 126 _ _ rfl rfl _ (by omega)).mono ?_;rintro e w' ⟨rfl,hw'⟩;have hw'':=hw'.symm;subst hw'')
   go_ret
   exact ⟨by rw [HN.out];rfl,rfl⟩
  ·have h2':decide ((s.size:Int)≤30) = false:=by simp;omega
   have HN:Hid (tokenS s.data.toList = false):=by unfold Hid tokenS;rw [← hle];simp;omega
   clear hle
   go_enter Tryz.func47,Tryz.ntmps47
   go_wp2
   go_ret
   exact ⟨by rw [HN.out];rfl,rfl⟩
 ·have h1':decide ((1:Int)≤(s.size:Int)) = false:=by simp;omega
  have HN:Hid (tokenS s.data.toList = false):=by unfold Hid tokenS;rw [← hle];simp;omega
  clear hle
  go_enter Tryz.func47,Tryz.ntmps47
  go_wp2
  go_ret
  exact ⟨by rw [HN.out];rfl,rfl⟩
end Go.Proofs.YtbbfcbodhmeanaaGreatDoor


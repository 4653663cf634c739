
import Derived.Test.YtbbfcbodhmeanaaGreatDoorXrewritesays55
import Derived.Test.YtbbfcbodhmeanaaGreatDoorXrewritesays43
namespace Go.Proofs.YtbbfcbodhmeanaaGreatDoor
open Go.RowKit
set_option maxRecDepth 1000000 in
set_option maxHeartbeats 16000000 in
theorem lg1 (w0:World) (hE0:LEnv w0) (ab ao wb wo n ca cw:Nat) (L:List PT) (wh:List (List UInt8)) (en:n = L.length) (w1:World) (hb0:Below w0.heap.size w0 w1) (hI:GoIn w1 w1.heap.size ab ao wb wo L wh) (hbod:∀ W,Below w1.heap.size w1 W→∀ i,i < L.length→∃ pb cb pk ck,PCells W ab (ao + i * 7) (L.getD i pt0) pb cb pk ck∧BRow W pb (L.getD i pt0).body∧(pb = none→(L.getD i pt0).body.length = 0∧cb = 0)) (h4:∀ i,i < L.length→(L.getD i pt0).body.length≤4000) (RES:Option (List GL)) (hRES:goalsGo smallU L wh 0 L [] = RES) (c0 c1 c2 c3 c8 c9 c10 c11 c12 c13 c14 c15 c16 c17 c18 c19 c20 c21 c22 c26 c27 c28 c29 c30 c31 c32 c33 c34 c35 c36 c37 c38 c39 c40 c41 c42 c43 c44 c45 c46 c47 c48 c49 c50 c51 c52 c53 c54 c55 c56 c57 c58 c59 c60 c61 c62 c63 c64 c65 c66 c67 c68 c69 c70 c71 c72 c73 c74 c75 c76 c77 c78 c79 c80 c81 c82 c83 c84 c85 c86 c87 c88 c89 c90 c91 c92 c93 c94 c95 c96 c97 c98 c99 c100 c101 c102 c103 c104 c105 c106 c107 c108 c109 c110 c111 c112 c113 c114 c115 c116 c117 c118 c119 c120 c121 c122 c123 c124 c125 c126 c127 c128 c129 c130:Value) (Q:Exit→Act→World→Prop)
  (hexit:∀ u2 u3 u8 u9 u10 u11 u12 u14 u15 u16 u17 u18 u25 u26 u27 u28 u29 u30 u31 u32 u33 u34 u35 u36 u37 u38 u39 u40 u41 u42 u43 u44 u45 u46 u47 u48 u49 u50 u51 u52 u53 u54 u55 u56 u57 u58 u59 u60 u61 u62 u63 u64 u65 u66 u67 u68 u69 u70 u71 u72 u73 u74 u75 u76 u77 u78 u79 u80 u81 u82 u83 u84 u85 u86 u87 u88 u89 u90 u91 u92 u93 u94 u95 u96 u97 u98 u99 u100 u101 u102 u103 u104 u105 u106 u107 u108 u109 u110 u111 u112 u113 u114 u115 u116 u117 u118 u119 u120 u121 u122 u123 u124 u125 u126 u127 u128 u129:Value,∀ (qy:Option Addr) (ny cy:Nat) (w':World) (acc:List GL),RES = some acc→Below w1.heap.size w1 w'→ny = acc.length→ny≤60 * n→w'.ownsRow w1.heap.size 42 6 (.slice qy ny cy) ny (glv acc)→Q (.exit 0) ⟨(c0::c1::u2::u3::.slice (some ⟨ab,ao,none⟩) n ca::.slice (some ⟨wb,wo,none⟩) n cw::.func (Fn.func 56) #[] #[]::.slice qy ny cy::u8::u9::u10::u11::u12::c13::u14::u15::u16::u17::u18::c19::c20::c21::c22::.slice (some ⟨ab,ao,none⟩) n ca::.int .i64 (n:Int)::u25::u26::u27::u28::u29::u30::u31::u32::u33::u34::u35::u36::u37::u38::u39::u40::u41::u42::u43::u44::u45::u46::u47::u48::u49::u50::u51::u52::u53::u54::u55::u56::u57::u58::u59::u60::u61::u62::u63::u64::u65::u66::u67::u68::u69::u70::u71::u72::u73::u74::u75::u76::u77::u78::u79::u80::u81::u82::u83::u84::u85::u86::u87::u88::u89::u90::u91::u92::u93::u94::u95::u96::u97::u98::u99::u100::u101::u102::u103::u104::u105::u106::u107::u108::u109::u110::u111::u112::u113::u114::u115::u116::u117::u118::u119::u120::u121::u122::u123::u124::u125::u126::u127::u128::u129::c130::[]).toArray,[]⟩ w')
  (hret:∀ u7 u8 u9 u10 u11 u12 u14 u15 u16 u17 u18 u25 u26 u27 u28 u29 u30 u31 u32 u33 u34 u35 u36 u37 u38 u39 u40 u41 u42 u43 u44 u45 u46 u47 u48 u49 u50 u51 u52 u53 u54 u55 u56 u57 u58 u59 u60 u61 u62 u63 u64 u65 u66 u67 u68 u69 u70 u71 u72 u73 u74 u75 u76 u77 u78 u79 u80 u81 u82 u83 u84 u85 u86 u87 u88 u89 u90 u91 u92 u93 u94 u95 u96 u97 u98 u99 u100 u101 u102 u103 u104 u105 u106 u107 u108 u109 u110 u111 u112 u113 u114 u115 u116 u117 u118 u119 u120 u121 u122 u123 u124 u125 u126 u127 u128 u129:Value,∀ (w':World),RES = none→Below w1.heap.size w1 w'→Q .ret ⟨(c0::c1::.slice none 0 0::.int .i64 2::.slice (some ⟨ab,ao,none⟩) n ca::.slice (some ⟨wb,wo,none⟩) n cw::.func (Fn.func 56) #[] #[]::u7::u8::u9::u10::u11::u12::c13::u14::u15::u16::u17::u18::c19::c20::c21::c22::.slice (some ⟨ab,ao,none⟩) n ca::.int .i64 (n:Int)::u25::u26::u27::u28::u29::u30::u31::u32::u33::u34::u35::u36::u37::u38::u39::u40::u41::u42::u43::u44::u45::u46::u47::u48::u49::u50::u51::u52::u53::u54::u55::u56::u57::u58::u59::u60::u61::u62::u63::u64::u65::u66::u67::u68::u69::u70::u71::u72::u73::u74::u75::u76::u77::u78::u79::u80::u81::u82::u83::u84::u85::u86::u87::u88::u89::u90::u91::u92::u93::u94::u95::u96::u97::u98::u99::u100::u101::u102::u103::u104::u105::u106::u107::u108::u109::u110::u111::u112::u113::u114::u115::u116::u117::u118::u119::u120::u121::u122::u123::u124::u125::u126::u127::u128::u129::c130::[]).toArray,[]⟩ w') :
  Code.wp Tryz.prog (Code.loop (loopAt Tryz.f14 0)) Q ⟨(c0::c1::c2::c3::.slice (some ⟨ab,ao,none⟩) n ca::.slice (some ⟨wb,wo,none⟩) n cw::.func (Fn.func 56) #[] #[]::.slice none 0 0::c8::c9::c10::c11::c12::c13::c14::c15::c16::c17::c18::c19::c20::c21::c22::.slice (some ⟨ab,ao,none⟩) n ca::.int .i64 (n:Int)::.int .i64 0::c26::c27::c28::c29::c30::c31::c32::c33::c34::c35::c36::c37::c38::c39::c40::c41::c42::c43::c44::c45::c46::c47::c48::c49::c50::c51::c52::c53::c54::c55::c56::c57::c58::c59::c60::c61::c62::c63::c64::c65::c66::c67::c68::c69::c70::c71::c72::c73::c74::c75::c76::c77::c78::c79::c80::c81::c82::c83::c84::c85::c86::c87::c88::c89::c90::c91::c92::c93::c94::c95::c96::c97::c98::c99::c100::c101::c102::c103::c104::c105::c106::c107::c108::c109::c110::c111::c112::c113::c114::c115::c116::c117::c118::c119::c120::c121::c122::c123::c124::c125::c126::c127::c128::c129::c130::[]).toArray,[]⟩ w1:=by
 have HX:Hid _:=hexit
 have HR:Hid _:=hret
 have HI:Hid (GoIn w1 w1.heap.size ab ao wb wo L wh):=hI
 have HBOD:Hid (∀ W,Below w1.heap.size w1 W→∀ i,i < L.length→∃ pb cb pk ck,PCells W ab (ao + i * 7) (L.getD i pt0) pb cb pk ck∧BRow W pb (L.getD i pt0).body∧(pb = none→(L.getD i pt0).body.length = 0∧cb = 0)):=hbod
 have H4:Hid (∀ i,i < L.length→(L.getD i pt0).body.length≤4000):=h4
 have HN:Hid (n = L.length):=en
 have HE0:Hid (LEnv w0):=hE0
 have HB0:Hid (Below w0.heap.size w0 w1):=hb0
 have HRES:Hid (goalsGo smallU L wh 0 (L.drop 0) [] = RES):=hRES
 have hn1000:n≤1000:=by rw [en];exact hI.few
 clear hexit hret hI hbod h4 en hE0 hb0 hRES
 conv=>arg 2;arg 1;whnf
 go_loopw [7,25] (fun ov iv wr=>∃ (k:Nat) (acc:List GL) (qv:Option Addr) (nv cv:Nat),k≤n∧iv = .int .i64 k∧ov = .slice qv nv cv∧Hid (nv = acc.length)∧nv≤60 * k∧Hid (Below w1.heap.size w1 wr)∧Hid (wr.ownsRow w1.heap.size 42 6 (.slice qv nv cv) nv (glv acc))∧Hid (goalsGo smallU L wh k (L.drop k) acc = RES)) (fun _ iv _=>n - (intOf iv).toNat)
 case atStart=>exact ⟨0,[],none,0,0,Nat.zero_le _,rfl,rfl,rfl,Nat.zero_le _,Below.refl _ _,World.ownsRow_nil _ _ _ _,HRES⟩
 case round =>
  obtain ⟨k,acc,qv,nv,cv,hk,rfl,rfl,HNV,hnv,HBR,HO,HG⟩:=hrel
  clear HRES
  by_cases hlt:k < n
  ·have hlz:(k:Int) < (n:Int):=by omega
   have hkl:k < L.length:=by rw [← HN.out];exact hlt
   obtain ⟨xb,xcb,xk,xck,⟨c0',c1',c2',c3',c4',c5',c6'⟩,hrow,hnil⟩:=HBOD.out wr HBR.out k hkl
   have HBO:Hid (BRow wr xb (L.getD k pt0).body∧(xb = none→(L.getD k pt0).body.length = 0∧xcb = 0)):=⟨hrow,hnil⟩
   have HB4K:Hid ((L.getD k pt0).body.length≤4000):=H4.out k hkl
   have HTEL:Hid (∀ W,Below w1.heap.size w1 W→W.cell? ⟨wb,wo + k,none⟩ = some (.string (tx8 (wh.getD k [])))):=fun W hW=>HI.out.tel W hW k hkl
   have HSKIP:Hid ((L.getD k pt0).ty.data.toList ≠ htmlS→goalsGo smallU L wh (k + 1) (L.drop (k + 1)) acc = RES):=fun hne=>by rw [← goalsGo_skip smallU L wh L k acc hkl hne];exact HG.out
   have HPAGE:Hid ((L.getD k pt0).ty.data.toList = htmlS→((findP smallU (L.getD k pt0).body).bind fun ls=>goalsGo smallU L wh (k + 1) (L.drop (k + 1)) (acc ++ ls.map (goalOf L wh k (L.getD k pt0).body.length))) = RES):=fun hne=>by rw [← goalsGo_page smallU L wh L k acc hkl hne];exact HG.out
   have HTY:Hid ((L.getD k pt0).ty.toList = (L.getD k pt0).ty.data.toList):=ByteArray.toList_eq _
   clear HG hkl hrow hnil
   generalize (L.getD k pt0).kids.length = xnk at *
   generalize (L.getD k pt0).how = xhow at *
   generalize (L.getD k pt0).body = BO at *
   obtain ⟨N,hN⟩:∃ N,BO.length = N:=⟨_,rfl⟩
   have HNB:Hid (BO.length = N):=hN
   rw [hN] at c5' HBO HPAGE
   clear hN
   generalize (L.getD k pt0).loc = xloc at *
   generalize (L.getD k pt0).id = xid at *
   generalize (L.getD k pt0).cs = xcs at *
   generalize (L.getD k pt0).ty = xty at *
   by_cases hty:xty.data.toList = htmlS
   ·have hE:(xty.toList == [116,101,120,116,47,104,116,109,108]) = true:=by rw [HTY.out,hty];rfl
    have HP':Hid (((findP smallU BO).bind fun ls=>goalsGo smallU L wh (k + 1) (L.drop (k + 1)) (acc ++ ls.map (goalOf L wh k N))) = RES):=HPAGE.out hty
    clear HSKIP HPAGE HTY hty
    obtain ⟨Wx,hWx⟩:∃ W,W = wr.alloc (.cells #[.string xty,.string xcs,.string xid,.string xloc,.int .i64 xhow,.slice xb N xcb,.slice xk xnk xck] 25):=⟨_,rfl⟩
    have hbx:Below wr.heap.size wr Wx:=by rw [hWx];exact (Below.refl _ _).alloc (Nat.le_refl _) _
    have HOx:Hid (Wx.ownsRow w1.heap.size 42 6 (.slice qv nv cv) nv (glv acc)):=ownsRow_below HO.out hbx
    have HBX:Hid (Below w1.heap.size w1 Wx):=HBR.out.trans (hbx.mono HBR.out.size)
    have CF:Hid (Calls Tryz.prog 58 #[.slice xb N xcb] Wx fun e w'=>FindPost Wx BO.length (findP smallU BO) e w'):=rlinks_any w0 HE0.out xb N xcb BO HNB.out.symm HB4K.out Wx (HB0.out.trans (HBX.out.mono HB0.out.size)) (HBO.out.1.under hbx) (by rw [← HNB.out];exact fun e=>⟨by rw [HNB.out];exact (HBO.out.2 e).1,(HBO.out.2 e).2⟩)
    clear HBO HO hbx HBR
    go_wp2_with fail
    rw [← hWx]
    clear hWx c0' c1' c2' c3' c4' c5' c6'
    refine CF.out.mono ?_
    rintro e w4 ⟨hb4,hF⟩
    clear CF
    have HB4:Hid (Below w1.heap.size w1 w4):=HBX.out.trans (hb4.mono HBX.out.size)
    have HO4:Hid (w4.ownsRow w1.heap.size 42 6 (.slice qv nv cv) nv (glv acc)):=ownsRow_below HOx.out hb4
    clear HOx hb4 HBX
    cases hfp:findP smallU BO with
    | none =>
     rw [hfp] at hF
     simp only at hF
     subst hF
     have HXN:Hid (RES = none):=by have h:=HP'.out;rw [hfp] at h;exact h.symm
     clear HP' hfp HO4
     go_wp2_with fail
     exact HR.out _ _ _ _ _ _ _ _ _ _ _ _ _ _ _ _ _ _ _ _ _ _ _ _ _ _ _ _ _ _ _ _ _ _ _ _ _ _ _ _ _ _ _ _ _ _ _ _ _ _ _ _ _ _ _ _ _ _ _ _ _ _ _ _ _ _ _ _ _ _ _ _ _ _ _ _ _ _ _ _ _ _ _ _ _ _ _ _ _ _ _ _ _ _ _ _ _ _ _ _ _ _ _ _ _ _ _ _ _ _ _ _ _ _ _ _ _ HXN.out HB4.out
    | some ls =>
     rw [hfp] at hF
     simp only at hF
     obtain ⟨v4,rfl,own4⟩:=hF
     have HLS:Hid (∀ x ∈ ls,(unamp x.2).length≤4000):=find_short ((find_like BO).trans hfp)
     have hm60:ls.length≤60:=(find_ord smallU BO ls hfp).2.1
     have HNEXT:Hid (goalsGo smallU L wh (k + 1) (L.drop (k + 1)) (acc ++ ls.map (goalOf L wh k N)) = RES):=by have h:=HP'.out;rw [hfp] at h;exact h
     clear HP' hfp
     obtain ⟨m,hm⟩:∃ m,ls.length = m:=⟨_,rfl⟩
     have HM:Hid (ls.length = m):=hm
     rw [hm] at own4 hm60
     rw [HNB.out] at own4
     obtain ⟨q4,cc4,rfl⟩:=owned_slice own4
     have HL4:Hid (w4.ownsRow Wx.heap.size 40 3 (.slice q4 m cc4) m (lv N ls)):=own4
     have tl:=HTEL.out w4 HB4.out
     clear hm own4 HTEL
     have hbe:=goE_bar (wh.getD k [])
     cases hw:wh.getD k [] with
     | nil =>
      rw [hw] at tl hbe
      have HFR:Hid (nowS = fromW wh k):=by unfold Hid fromW;rw [if_neg (by omega),Int.toNat_natCast,if_pos hw]
      have hemp:(tx8 []).toList.isEmpty = true:=hbe
      clear hbe hw
      go_wp2_with fail
      refine lg2 w1 ab ao wb wo n ca cw L wh HN.out HI.out k N Wx.heap.size m (by omega) nowS (HFR.out) acc ls HLS.out hm60 HM.out q4 cc4 w4 HB4.out HL4.out qv nv cv HNV.out hnv HO4.out _ _ _ _ _ _ _ _ _ _ _ _ _ _ _ _ _ _ _ _ _ _ _ _ _ _ _ _ _ _ _ _ _ _ _ _ _ _ _ _ _ _ _ _ _ _ _ _ _ _ _ _ _ _ _ _ _ _ _ _ _ _ _ _ _ _ _ _ _ _ _ _ _ _ _ _ _ _ _ _ _ _ _ _ _ _ _ _ _ _ _ _ _ _ _ _ _ _ _ _ _ _ _ _ _ _ _ _ _ _ _ _ _ _ _ _ _ _ _ _ _ _ _ ?_
      intro u14 u15 u16 u17 u18 u50 u51 u52 u53 u54 u55 u56 u57 u58 u59 u60 u61 u62 u63 u64 u65 u66 u67 u68 u69 u70 u71 u72 u73 u74 u75 u76 u77 u78 u79 u80 u81 u82 u83 u84 u85 u86 u87 u88 u89 u90 u91 u92 u93 u94 u95 u96 u97 u98 u99 u100 u101 u102 u103 u104 u105 u106 u107 u108 u109 u110 u111 u112 u113 u114 u115 u116 u117 u118 u119 u120 u121 u122 u123 u124 u125 u126 u127 u128 qy ny cy w9 hb9 hn9 hn69 hO9
      have HB9:Hid (Below w1.heap.size w1 w9):=hb9
      have HN9:Hid (ny = (acc ++ ls.map (goalOf L wh k N)).length):=hn9
      have HO9:Hid (w9.ownsRow w1.heap.size 42 6 (.slice qy ny cy) ny (glv (acc ++ ls.map (goalOf L wh k N)))):=hO9
      clear hb9 hn9 hO9 HO4 HL4 HB4 HNV
      go_wp2_with fail
      go_roundw
      case rel=>exact ⟨k + 1,_,qy,ny,cy,by omega,by go_num,rfl,HN9,by omega,HB9,HO9,HNEXT⟩
      case measure=>simp [intOf];omega
     | cons a l =>
      rw [hw] at tl hbe
      have HFR:Hid (a::l = fromW wh k):=by unfold Hid fromW;rw [if_neg (by omega),Int.toNat_natCast,if_neg (by rw [hw];simp),hw]
      have hemp:(tx8 (a::l)).toList.isEmpty = false:=hbe
      clear hbe hw
      generalize a::l = FR at *
      go_wp2_with fail
      refine lg2 w1 ab ao wb wo n ca cw L wh HN.out HI.out k N Wx.heap.size m (by omega) FR (HFR.out) acc ls HLS.out hm60 HM.out q4 cc4 w4 HB4.out HL4.out qv nv cv HNV.out hnv HO4.out _ _ _ _ _ _ _ _ _ _ _ _ _ _ _ _ _ _ _ _ _ _ _ _ _ _ _ _ _ _ _ _ _ _ _ _ _ _ _ _ _ _ _ _ _ _ _ _ _ _ _ _ _ _ _ _ _ _ _ _ _ _ _ _ _ _ _ _ _ _ _ _ _ _ _ _ _ _ _ _ _ _ _ _ _ _ _ _ _ _ _ _ _ _ _ _ _ _ _ _ _ _ _ _ _ _ _ _ _ _ _ _ _ _ _ _ _ _ _ _ _ _ _ ?_
      intro u14 u15 u16 u17 u18 u50 u51 u52 u53 u54 u55 u56 u57 u58 u59 u60 u61 u62 u63 u64 u65 u66 u67 u68 u69 u70 u71 u72 u73 u74 u75 u76 u77 u78 u79 u80 u81 u82 u83 u84 u85 u86 u87 u88 u89 u90 u91 u92 u93 u94 u95 u96 u97 u98 u99 u100 u101 u102 u103 u104 u105 u106 u107 u108 u109 u110 u111 u112 u113 u114 u115 u116 u117 u118 u119 u120 u121 u122 u123 u124 u125 u126 u127 u128 qy ny cy w9 hb9 hn9 hn69 hO9
      have HB9:Hid (Below w1.heap.size w1 w9):=hb9
      have HN9:Hid (ny = (acc ++ ls.map (goalOf L wh k N)).length):=hn9
      have HO9:Hid (w9.ownsRow w1.heap.size 42 6 (.slice qy ny cy) ny (glv (acc ++ ls.map (goalOf L wh k N)))):=hO9
      clear hb9 hn9 hO9 HO4 HL4 HB4 HNV
      go_wp2_with fail
      go_roundw
      case rel=>exact ⟨k + 1,_,qy,ny,cy,by omega,by go_num,rfl,HN9,by omega,HB9,HO9,HNEXT⟩
      case measure=>simp [intOf];omega
   ·have hE:(xty.toList == [116,101,120,116,47,104,116,109,108]) = false:=by rw [HTY.out,beq_eq_false_iff_ne];exact hty
    have HX':Hid (goalsGo smallU L wh (k + 1) (L.drop (k + 1)) acc = RES):=HSKIP.out hty
    clear HSKIP HPAGE HTY hty HBO HTEL
    have HO2:Hid ((wr.alloc (.cells #[.string xty,.string xcs,.string xid,.string xloc,.int .i64 xhow,.slice xb N xcb,.slice xk xnk xck] 25)).ownsRow w1.heap.size 42 6 (.slice qv nv cv) nv (glv acc)):=HO.out.alloc _
    have HB2:Hid (Below w1.heap.size w1 (wr.alloc (.cells #[.string xty,.string xcs,.string xid,.string xloc,.int .i64 xhow,.slice xb N xcb,.slice xk xnk xck] 25))):=HBR.out.alloc HBR.out.size _
    clear HO HBR
    go_wp2_with fail
    go_roundw
    case rel=>exact ⟨k + 1,acc,qv,nv,cv,by omega,by go_num,rfl,HNV,by omega,HB2,HO2,HX'⟩
    case measure=>simp [intOf];omega
  ·obtain rfl:k = n:=by omega
   have hlz:¬ (k:Int) < (k:Int):=by omega
   have HF:Hid (RES = some acc):=by
    have h:=HG.out
    rw [List.drop_of_length_le (by rw [← HN.out];omega),goalsGo] at h
    exact h.symm
   clear HG
   go_wp2_with fail
   exact HX.out _ _ _ _ _ _ _ _ _ _ _ _ _ _ _ _ _ _ _ _ _ _ _ _ _ _ _ _ _ _ _ _ _ _ _ _ _ _ _ _ _ _ _ _ _ _ _ _ _ _ _ _ _ _ _ _ _ _ _ _ _ _ _ _ _ _ _ _ _ _ _ _ _ _ _ _ _ _ _ _ _ _ _ _ _ _ _ _ _ _ _ _ _ _ _ _ _ _ _ _ _ _ _ _ _ _ _ _ _ _ _ _ _ _ _ _ _ qv nv cv _ acc HF.out HBR.out HNV.out hnv HO.out
end Go.Proofs.YtbbfcbodhmeanaaGreatDoor


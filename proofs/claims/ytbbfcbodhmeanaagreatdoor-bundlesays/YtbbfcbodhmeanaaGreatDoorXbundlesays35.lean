
import Derived.Test.YtbbfcbodhmeanaaGreatDoorXbundlesays34
namespace Go.Proofs.YtbbfcbodhmeanaaGreatDoor
open Go.RowKit
theorem goal_after {w1 w8 w9:World} {o:Obj} {v:Value} {n Bl m:Nat} {xs ys:List Value} {vl:Value} (hb:Below w1.heap.size w1 w8) (hO:w8.ownsRow w1.heap.size 42 6 v n xs) (hL:w8.ownsRow Bl 40 3 vl m ys) (g9:(w8.alloc o).grownBy w9 v.ownBlock):Below w1.heap.size w1 w9∧w9.ownsRow Bl 40 3 vl m ys:=by
 have hs:=hb.size
 exact ⟨(hb.alloc hs _).grown g9 (by simp;omega) (fun i hi=>(hO.lt i hi).1),(hL.alloc _).kept g9 (owns_apart (hL.alloc o) (hO.alloc _) (by decide))⟩
theorem from_short {w:World} {G ab ao wb wo:Nat} {L:List PT} {wh:List (List UInt8)} (h:GoIn w G ab ao wb wo L wh) (i:Int):(fromW wh i).length≤120:=by
 unfold fromW
 split
 ·rw [nowS_len];omega
 ·split
  ·rw [nowS_len];omega
  ·exact h.wl _
theorem GoIn.later {w W:World} {G ab ao wb wo:Nat} {L:List PT} {wh:List (List UInt8)} (h:GoIn w w.heap.size ab ao wb wo L wh) (hb:Below w.heap.size w W) (hG:w.heap.size≤G):GoIn W G ab ao wb wo L wh :=
 ⟨fun V hV=>h.all V (hb.trans (hV.mono hG)),fun V hV=>h.tel V (hb.trans (hV.mono hG)),fun V hV=>h.mx V (hb.trans (hV.mono hG)),h.len,h.wl,h.few⟩
set_option maxRecDepth 1000000 in
set_option maxHeartbeats 8000000 in
theorem lg2 (w1:World) (ab ao wb wo n ca cw:Nat) (L:List PT) (wh:List (List UInt8)) (en:n = L.length) (hI:GoIn w1 w1.heap.size ab ao wb wo L wh) (k N Bl m:Nat) (hk:k≤1000) (FR:List UInt8) (hFR:FR = fromW wh k) (acc:List GL) (ls:List LK) (hLS:∀ x ∈ ls,(unamp x.2).length≤4000) (hm60:m≤60) (hm:ls.length = m) (q4:Option Addr) (cc4:Nat) (w:World) (hb:Below w1.heap.size w1 w) (hL4:w.ownsRow Bl 40 3 (.slice q4 m cc4) m (lv N ls)) (qv:Option Addr) (nv cv:Nat) (hnv:nv = acc.length) (hn60:nv≤60 * k) (hO:w.ownsRow w1.heap.size 42 6 (.slice qv nv cv) nv (glv acc)) (c0 c1 c2 c3 c9 c10 c11 c13 c14 c15 c16 c17 c18 c19 c20 c21 c22 c23 c24 c25 c26 c27 c28 c29 c30 c31 c32 c33 c34 c35 c36 c37 c38 c39 c40 c41 c42 c43 c44 c45 c46 c47 c51 c52 c53 c54 c55 c56 c57 c58 c59 c60 c61 c62 c63 c64 c65 c66 c67 c68 c69 c70 c71 c72 c73 c74 c75 c76 c77 c78 c79 c80 c81 c82 c83 c84 c85 c86 c87 c88 c89 c90 c91 c92 c93 c94 c95 c96 c97 c98 c99 c100 c101 c102 c103 c104 c105 c106 c107 c108 c109 c110 c111 c112 c113 c114 c115 c116 c117 c118 c119 c120 c121 c122 c123 c124 c125 c126 c127 c128 c129 c130:Value) (Q:Exit→Act→World→Prop)
  (hexit:∀ u14 u15 u16 u17 u18 u50 u51 u52 u53 u54 u55 u56 u57 u58 u59 u60 u61 u62 u63 u64 u65 u66 u67 u68 u69 u70 u71 u72 u73 u74 u75 u76 u77 u78 u79 u80 u81 u82 u83 u84 u85 u86 u87 u88 u89 u90 u91 u92 u93 u94 u95 u96 u97 u98 u99 u100 u101 u102 u103 u104 u105 u106 u107 u108 u109 u110 u111 u112 u113 u114 u115 u116 u117 u118 u119 u120 u121 u122 u123 u124 u125 u126 u127 u128:Value,∀ (qy:Option Addr) (ny cy:Nat) (w':World),Below w1.heap.size w1 w'→ny = (acc ++ ls.map (goalOf L wh k N)).length→ny≤60 * k + 60→w'.ownsRow w1.heap.size 42 6 (.slice qy ny cy) ny (glv (acc ++ ls.map (goalOf L wh k N)))→Q (.exit 2) ⟨(c0::c1::c2::c3::.slice (some ⟨ab,ao,none⟩) n ca::.slice (some ⟨wb,wo,none⟩) n cw::.func (Fn.func 56) #[] #[]::.slice qy ny cy::.int .i64 (k:Int)::c9::c10::c11::.string (tx8 FR)::c13::u14::u15::u16::u17::u18::c19::c20::c21::c22::c23::c24::c25::c26::c27::c28::c29::c30::c31::c32::c33::c34::c35::c36::c37::c38::c39::c40::c41::c42::c43::c44::c45::c46::c47::.slice q4 m cc4::.int .i64 (m:Int)::u50::u51::u52::u53::u54::u55::u56::u57::u58::u59::u60::u61::u62::u63::u64::u65::u66::u67::u68::u69::u70::u71::u72::u73::u74::u75::u76::u77::u78::u79::u80::u81::u82::u83::u84::u85::u86::u87::u88::u89::u90::u91::u92::u93::u94::u95::u96::u97::u98::u99::u100::u101::u102::u103::u104::u105::u106::u107::u108::u109::u110::u111::u112::u113::u114::u115::u116::u117::u118::u119::u120::u121::u122::u123::u124::u125::u126::u127::u128::c129::c130::[]).toArray,[]⟩ w') :
  Code.wp Tryz.prog (Code.loop (loopAt Tryz.f14 1)) Q ⟨(c0::c1::c2::c3::.slice (some ⟨ab,ao,none⟩) n ca::.slice (some ⟨wb,wo,none⟩) n cw::.func (Fn.func 56) #[] #[]::.slice qv nv cv::.int .i64 (k:Int)::c9::c10::c11::.string (tx8 FR)::c13::c14::c15::c16::c17::c18::c19::c20::c21::c22::c23::c24::c25::c26::c27::c28::c29::c30::c31::c32::c33::c34::c35::c36::c37::c38::c39::c40::c41::c42::c43::c44::c45::c46::c47::.slice q4 m cc4::.int .i64 (m:Int)::.int .i64 0::c51::c52::c53::c54::c55::c56::c57::c58::c59::c60::c61::c62::c63::c64::c65::c66::c67::c68::c69::c70::c71::c72::c73::c74::c75::c76::c77::c78::c79::c80::c81::c82::c83::c84::c85::c86::c87::c88::c89::c90::c91::c92::c93::c94::c95::c96::c97::c98::c99::c100::c101::c102::c103::c104::c105::c106::c107::c108::c109::c110::c111::c112::c113::c114::c115::c116::c117::c118::c119::c120::c121::c122::c123::c124::c125::c126::c127::c128::c129::c130::[]).toArray,[]⟩ w:=by
 obtain ⟨i0,hi,hz0,hz1,hz2⟩:=info_parts info_goal
 have HX:Hid _:=hexit
 have HI:Hid (GoIn w1 w1.heap.size ab ao wb wo L wh):=hI
 have HN:Hid (n = L.length):=en
 have hn1000:n≤1000:=by rw [en];exact hI.few
 have HLS:Hid (∀ x ∈ ls,(unamp x.2).length≤4000):=hLS
 have HM:Hid (ls.length = m):=hm
 have HFR:Hid (FR = fromW wh k):=hFR
 have HFL:Hid (FR.length≤120):=by unfold Hid;rw [hFR];exact from_short hI _
 have hwn:IntKind.i64.wrap ((n:Int) - 1) = (n:Int) - 1:=by rw [IntKind.wrap_i64];omega
 clear hexit hI en hLS hm hFR
 conv=>arg 2;arg 1;whnf
 go_loopw [7,50] (fun ov iv wy=>∃ (j:Nat) (qy:Option Addr) (ny cy:Nat),j≤m∧iv = .int .i64 j∧ov = .slice qy ny cy∧Hid (ny = (acc ++ (ls.take j).map (goalOf L wh k N)).length)∧ny≤60 * k + j∧Hid (Below w1.heap.size w1 wy)∧Hid (wy.ownsRow w1.heap.size 42 6 (.slice qy ny cy) ny (glv (acc ++ (ls.take j).map (goalOf L wh k N))))∧Hid (wy.ownsRow Bl 40 3 (.slice q4 m cc4) m (lv N ls))) (fun _ iv _=>m - (intOf iv).toNat)
 case atStart=>exact ⟨0,qv,nv,cv,Nat.zero_le _,rfl,rfl,by unfold Hid;simpa using hnv,by omega,hb,by unfold Hid;simpa using hO,hL4⟩
 case round =>
  obtain ⟨j,qy,ny,cy,hj,rfl,rfl,HNY,hny,HBY,HOY,HLY⟩:=hrel
  clear hO hL4 hb hnv hn60
  by_cases hjl:j < m
  ·have hjz:(j:Int) < (m:Int):=by omega
   have hjt:j < ls.length:=by rw [HM.out];exact hjl
   have hKR:KRow wr q4 N ls:=by
    have h:=HLY.out
    rw [← HM.out] at h
    obtain ⟨p',c',e,_,_,_,hr⟩:=owned_links h
    cases e
    exact hr
   obtain ⟨b4,hq4,hc4⟩:=hKR (fun e=>by rw [e] at hjt;simp at hjt)
   subst hq4
   obtain ⟨l0,l1,l2⟩:=hc4 j hjt
   have HSN:Hid (acc ++ (ls.take (j + 1)).map (goalOf L wh k N) = (acc ++ (ls.take j).map (goalOf L wh k N)) ++ [goalOf L wh k N (ls.getD j (0,[]))]):=goals_snoc L wh k N acc ls j hjt
   have HTL:Hid ((unamp (ls.getD j (0,[])).2).length≤4000):=HLS.out _ (by rw [List.getD_eq_getElem?_getD,List.getElem?_eq_getElem hjt];exact List.getElem_mem hjt)
   clear hKR hc4 hjt
   generalize ls.getD j (0,[]) = y at *
   have HGO:Hid (g1v (goalOf L wh k N y) = [.int .i64 (k:Int),.int .i64 ((N - y.1:Nat):Int),.int .i64 ((N - y.1 + y.2.length:Nat):Int),.string (lba (unamp y.2)),.string (tx8 (ledU FR (lba (unamp y.2)).data.toList)),.int .i64 (findW L wh (ledU FR (lba (unamp y.2)).data.toList))]):=by unfold Hid;rw [HFR.out];rfl
   have HTS:Hid ((lba (unamp y.2)).size≤maxLen):=by have:=HTL.out;show (tx8 (unamp y.2)).size≤maxLen;rw [tx8_size];unfold maxLen;omega
   clear HTL
   generalize lba (unamp y.2) = TX at *
   generalize ((N - y.1:Nat):Int) = F0 at *
   generalize ((N - y.1 + y.2.length:Nat):Int) = T0 at *
   obtain ⟨Wy,hWy⟩:∃ W,W = wr.alloc (.cells #[.int .i64 F0,.int .i64 T0,.string TX] 40):=⟨_,rfl⟩
   have hbyy:Below wr.heap.size wr Wy:=by rw [hWy];exact (Below.refl _ _).alloc (Nat.le_refl _) _
   have hkc:Wy.heap[wr.heap.size]? = some (.cells #[.int .i64 F0,.int .i64 T0,.string TX] 40):=by rw [hWy];exact blk_new _ _
   have HB1:Hid (Below w1.heap.size w1 Wy):=HBY.out.trans (hbyy.mono HBY.out.size)
   have HOy:Hid (Wy.ownsRow w1.heap.size 42 6 (.slice qy ny cy) ny (glv (acc ++ (ls.take j).map (goalOf L wh k N)))):=ownsRow_below HOY.out hbyy
   have HLy:Hid (Wy.ownsRow Bl 40 3 (.slice (some ⟨b4,0,none⟩) m cc4) m (lv N ls)):=ownsRow_below HLY.out hbyy
   have HKC:Hid (Wy.heap[wr.heap.size]? = some (.cells #[.int .i64 F0,.int .i64 T0,.string TX] 40)):=hkc
   clear hbyy hkc HBY HOY HLY
   go_upto_region 17 with fail
   rw [← hWy]
   clear hWy l0 l1 l2
   obtain ⟨Z,hZ⟩:∃ Z,wr.heap.size = Z:=⟨_,rfl⟩
   rw [hZ] at HKC ⊢
   clear hZ
   refine lgR17 Wy (fun W hW=>HI.out.mx W (HB1.out.trans (hW.mono HB1.out.size))) Z k F0 T0 TX FR (by have:=HFL.out;unfold maxLen;omega) HTS.out HKC.out _ _ _ _ _ _ _ _ _ _ _ _ _ _ _ _ _ _ _ _ _ _ _ _ _ _ _ _ _ _ _ _ _ _ _ _ _ _ _ _ _ _ _ _ _ _ _ _ _ _ _ _ _ _ _ _ _ _ _ _ _ _ _ _ _ _ _ _ _ _ _ _ _ _ _ _ _ _ _ _ _ _ _ _ _ _ _ _ _ _ _ _ _ _ _ _ _ _ _ _ _ _ _ _ _ _ _ _ _ _ _ _ _ _ _ _ _ _ _ _ _ _ _ _ _ _ _ _ _ ?_
   intro u54 u55 u56 u57 u58 u59 u60 G W7 hb7 hG7 hg7
   have HLl:Hid ((ledU FR TX.data.toList).length≤120):=ledU_len _ _
   have HNE:Hid (ledU FR TX.data.toList ≠ []→noFr (ledU FR TX.data.toList) ≠ []):=noFr_led _ _
   have HB7:Hid (Below Wy.heap.size Wy W7):=hb7
   have HG7:Hid (Wy.heap.size≤G):=hG7
   have Hg7:Hid (W7.heap[G]? = some (.cells #[.int .i64 (k:Int),.int .i64 F0,.int .i64 T0,.string TX,.string (tx8 (ledU FR TX.data.toList)),.int .i64 (-1)] 42)):=hg7
   generalize ledU FR TX.data.toList = LE at *
   clear hb7 hG7 hg7 HKC HTS
   go_wp2_with fail
   refine lg3 W7 G ab ao wb wo n ca cw L wh HN.out (HI.out.later (HB1.out.trans (HB7.out.mono HB1.out.size)) (Nat.le_trans HB1.out.size HG7.out)) LE HLl.out HNE.out (k:Int) F0 T0 TX Hg7.out _ _ _ _ _ _ _ _ _ _ _ _ _ _ _ _ _ _ _ _ _ _ _ _ _ _ _ _ _ _ _ _ _ _ _ _ _ _ _ _ _ _ _ _ _ _ _ _ _ _ _ _ _ _ _ _ _ _ _ _ _ _ _ _ _ _ _ _ _ _ _ _ _ _ _ _ _ _ _ _ _ _ _ _ _ _ _ _ _ _ _ _ _ _ _ _ _ _ _ _ _ _ _ _ _ _ _ _ _ _ _ _ _ _ _ _ _ _ _ _ _ _ _ _ _ _ _ ?_
   intro v16 v17 v18 v64 v65 v66 v67 v68 v69 v70 v71 v72 v73 v74 v75 v76 v77 v78 v79 v80 v81 v82 v83 v84 v85 v86 v87 v88 v89 v90 v91 v92 v93 v94 v95 v96 v97 v98 v99 v100 v101 v102 v103 v104 v105 v106 v107 v108 v109 v110 v111 v112 v113 v114 v115 v116 v117 v118 v119 v120 v121 v122 v123 w8 hb8 hg8
   have hby8:Below Wy.heap.size Wy w8:=HB7.out.trans (hb8.mono HG7.out)
   have hb18:Below w1.heap.size w1 w8:=HB1.out.trans (hby8.mono HB1.out.size)
   have HO8:Hid (w8.ownsRow w1.heap.size 42 6 (.slice qy ny cy) ny (glv (acc ++ (ls.take j).map (goalOf L wh k N)))):=ownsRow_below HOy.out hby8
   have HL8:Hid (w8.ownsRow Bl 40 3 (.slice (some ⟨b4,0,none⟩) m cc4) m (lv N ls)):=ownsRow_below HLy.out hby8
   have HB8:Hid (Below w1.heap.size w1 w8):=hb18
   have hs8:=hb18.size
   have x0:w8.cell? ⟨G,0,none⟩ = some (.int .i64 (k:Int)):=(blk_c hg8 0).trans rfl
   have x1:w8.cell? ⟨G,1,none⟩ = some (.int .i64 F0):=(blk_c hg8 1).trans rfl
   have x2:w8.cell? ⟨G,2,none⟩ = some (.int .i64 T0):=(blk_c hg8 2).trans rfl
   have x3:w8.cell? ⟨G,3,none⟩ = some (.string TX):=(blk_c hg8 3).trans rfl
   have x4:w8.cell? ⟨G,4,none⟩ = some (.string (tx8 LE)):=(blk_c hg8 4).trans rfl
   have x5:w8.cell? ⟨G,5,none⟩ = some (.int .i64 (findW L wh LE)):=(blk_c hg8 5).trans rfl
   generalize findW L wh LE = FI at *
   obtain ⟨GV,hGV⟩:∃ GV,GV = glv (acc ++ (ls.take j).map (goalOf L wh k N)):=⟨_,rfl⟩
   have HGV:Hid (GV = glv (acc ++ (ls.take j).map (goalOf L wh k N))):=hGV
   rw [← hGV] at HO8
   clear hGV hby8 hb8 hg8 hb18 HB7 HG7 Hg7 HOy HLy HB1 HLl HNE
   go_wp2_with (at_builtin;refine wpList_append_own _ rfl (.tmp 124) (.tmp 126) 30 rfl w1.heap.size 42 i0 (.agg #[.int .i64 0,.int .i64 0,.int .i64 0,.string ⟨#[]⟩,.string ⟨#[]⟩,.int .i64 0]) 6 64 Tryz.underlying30 hi hz0 hz1 hz2 rfl (by decide) _ _ _ rfl (HO8.out.alloc _) ⟨w8.heap.size,0,none⟩ 1 1 [.int .i64 (k:Int),.int .i64 F0,.int .i64 T0,.string TX,.string (tx8 LE),.int .i64 FI] rfl rfl ?c1 ?c2 ?c3 ?c4 ?c5 ?_)
   case c1=>exact goal_cells w8 _ _ _ _ _ _ _
   case c2=>exact six_one _ _ _ _ _ _
   case c3=>unfold maxLen;omega
   case c4=>omega
   case c5=>simp;omega
   intro v9 w9 own9 g9 _
   obtain ⟨hb9,hL9⟩:=goal_after HB8.out HO8.out HL8.out g9
   have R9:w9.ownsRow w1.heap.size 42 6 v9 (ny + 1) (glv (acc ++ (ls.take (j + 1)).map (goalOf L wh k N))):=by
    rw [HSN.out,glv_snoc,HGO.out,← HGV.out]
    exact own9
   obtain ⟨q9,c9,rfl⟩:=owned_slice R9
   have HR9:Hid (w9.ownsRow w1.heap.size 42 6 (.slice q9 (ny + 1) c9) (ny + 1) (glv (acc ++ (ls.take (j + 1)).map (goalOf L wh k N)))):=R9
   have HL9:Hid (w9.ownsRow Bl 40 3 (.slice (some ⟨b4,0,none⟩) m cc4) m (lv N ls)):=hL9
   have HB9:Hid (Below w1.heap.size w1 w9):=hb9
   have HN9:Hid (ny + 1 = (acc ++ (ls.take (j + 1)).map (goalOf L wh k N)).length):=by unfold Hid;rw [HSN.out,List.length_append,← HNY.out];rfl
   clear own9 g9 R9 hL9 hb9 x0 x1 x2 x3 x4 x5 HSN HGO HGV HO8 HL8 HB8 hs8
   go_wp2_with fail
   go_roundw
   case rel=>exact ⟨j + 1,q9,ny + 1,c9,by omega,by go_num,rfl,HN9,by omega,HB9,HR9,HL9⟩
   case measure=>simp [intOf];omega
  ·obtain rfl:j = m:=by omega
   have hjz:¬ (j:Int) < (j:Int):=by omega
   have HF2:Hid (wr.ownsRow w1.heap.size 42 6 (.slice qy ny cy) ny (glv (acc ++ ls.map (goalOf L wh k N)))):=by
    have h:=HOY.out
    rw [List.take_of_length_le (by rw [HM.out];omega)] at h
    exact h
   have HN2:Hid (ny = (acc ++ ls.map (goalOf L wh k N)).length):=by
    have h:=HNY.out
    rw [List.take_of_length_le (by rw [HM.out];omega)] at h
    exact h
   clear HOY HNY HLY
   go_wp2_with fail
   exact HX.out _ _ _ _ _ _ _ _ _ _ _ _ _ _ _ _ _ _ _ _ _ _ _ _ _ _ _ _ _ _ _ _ _ _ _ _ _ _ _ _ _ _ _ _ _ _ _ _ _ _ _ _ _ _ _ _ _ _ _ _ _ _ _ _ _ _ _ _ _ _ _ _ _ _ _ _ _ _ _ _ _ _ _ _ qy ny cy _ HBY.out HN2.out (by omega) HF2.out
end Go.Proofs.YtbbfcbodhmeanaaGreatDoor


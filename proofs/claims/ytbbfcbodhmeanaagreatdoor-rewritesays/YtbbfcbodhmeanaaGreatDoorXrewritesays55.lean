
import Derived.Test.YtbbfcbodhmeanaaGreatDoorXrewritesays54
namespace Go.Proofs.YtbbfcbodhmeanaaGreatDoor
open Go.RowKit
theorem LEnv.below {w0 w:World} (h:LEnv w0) (hb:Below w0.heap.size w0 w):LEnv w:=fun W hW=>h W (hb.trans (hW.mono hb.size))
theorem LEnv.max {w0 w:World} (h:LEnv w0) (hb:Below w0.heap.size w0 w):MaxAt w:=(h w hb).mx
theorem goal_cells (w:World) (t:TypeId) (v0 v1 v2 v3 v4 v5:Value):∀ j x,[v0,v1,v2,v3,v4,v5][j]? = some x→(w.alloc (.cells #[v0,v1,v2,v3,v4,v5] t)).cell? ((⟨w.heap.size,0,none⟩:Addr).add j) = some x:=by
 intro j x hj
 rw [Addr.add_lit,Nat.zero_add,blk_c (blk_new w _) j]
 rw [← hj]
 simp
theorem goals_snoc (l:List PT) (wh:List (List UInt8)) (k N:Nat) (acc:List GL) (ls:List LK) (j:Nat) (hj:j < ls.length):acc ++ (ls.take (j + 1)).map (goalOf l wh k N) = (acc ++ (ls.take j).map (goalOf l wh k N)) ++ [goalOf l wh k N (ls.getD j (0,[]))]:=by
 rw [List.take_add_one,List.getElem?_eq_getElem hj,List.map_append,List.getD_eq_getElem?_getD,List.getElem?_eq_getElem hj,List.append_assoc]
 rfl
theorem goal_not_link {w:World} {B n j:Nat} {v:Value} {xs:List Value} {c:Array Value} (h:w.ownsRow B 42 6 v n xs) (hk:w.heap[j]? = some (.cells c 40)) (e:v.ownBlock = some j):False:=by
 rcases h.2 with ⟨rfl,_⟩ | ⟨g,cap,cur,rfl,_,hg,_⟩
 ·simp [Value.ownBlock] at e
 ·simp [Value.ownBlock] at e
  subst e
  rw [hg] at hk
  injection hk with hk
  injection hk with _ h _
  exact absurd h (by decide)
theorem six_one (a b c:Int) (s t:ByteArray) (d:Int):∀ u ∈ [Value.int .i64 a,.int .i64 b,.int .i64 c,.string s,.string t,.int .i64 d],u.oneCell' = true:=by
 intro u hu
 simp at hu
 rcases hu with rfl | rfl | rfl | rfl | rfl | rfl <;> rfl
theorem after_app {w2 w7 w9:World} {o:Obj} {v:Value} {n j:Nat} {xs:List Value} {c:Array Value} (hb:Below w2.heap.size w2 w7) (hO:w7.ownsRow w2.heap.size 42 6 v n xs) (hk:w7.heap[j]? = some (.cells c 40)) (g9:(w7.alloc o).grownBy w9 v.ownBlock):Below w2.heap.size w2 w9∧w9.heap[j]? = some (.cells c 40):=by
 have hs:=hb.size
 refine ⟨(hb.alloc hs _).grown g9 (by simp;omega) (fun i hi=>(hO.lt i hi).1),?_⟩
 refine (g9.block j (by have:=(Array.getElem?_eq_some_iff.1 hk).1;simp;omega) (fun e=>goal_not_link hO hk e.symm)).trans (blk_on hk ((Below.refl _ _).alloc (Nat.le_refl _) _))
set_option maxHeartbeats 8000000 in
set_option maxRecDepth 100000 in
theorem bgoals_any (p:PT) (pb:Option Addr) (cb:Nat) (pk:Option Addr) (ck F:Nat) (w:World) (hE:LEnv w) (hH:PHeld w F p pb cb pk ck) :
  Calls Tryz.prog 9 #[.agg #[.string p.ty,.string p.cs,.string p.id,.string p.loc,.int .i64 p.how,.slice pb p.body.length cb,.slice pk p.kids.length ck]] w fun e w'=>GoalsPost w (placesP p) e w':=by
 obtain ⟨i0,hi,hz0,hz1,hz2⟩:=info_parts info_goal
 have HE:Hid (LEnv w):=hE
 have CS:Hid (∀ W,Below w.heap.size w W→Calls Tryz.prog 39 #[.agg #[.string p.ty,.string p.cs,.string p.id,.string p.loc,.int .i64 p.how,.slice pb p.body.length cb,.slice pk p.kids.length ck]] W fun e w'=>ShelvePost W (placesP p) e w'):=fun W hb=>shelve_any p pb cb pk ck F W (hE.max hb) (hH.below hb)
 have h12:=placesP_few p
 generalize placesP p = R at *
 clear hE hH
 go_enter Tryz.func9,Tryz.ntmps9
 go_wp2_with fail
 have hb1:Below w.heap.size w (w.alloc (.cells #[.string p.ty,.string p.cs,.string p.id,.string p.loc,.int .i64 p.how,.slice pb p.body.length cb,.slice pk p.kids.length ck] 25)):=(Below.refl _ _).alloc (Nat.le_refl _) _
 refine (CS.out _ hb1).mono ?_
 rintro e w2 ⟨hb2,hno,hok⟩
 have hbe2:Below w.heap.size w w2:=hb1.trans (hb2.mono (by simp))
 clear hb2 hb1 CS
 by_cases h0:R.1 = 0
 ·obtain ⟨g,q,c,rfl,hg,hS⟩:=hok h0
  clear hno hok
  have HR:Hid (R.1 = 0):=h0
  obtain ⟨L,hL⟩:∃ L,R.2.map (fun x=>x.1.alone) = L:=⟨_,rfl⟩
  obtain ⟨wh,hwh⟩:∃ wh,whereP R.2 = wh:=⟨_,rfl⟩
  rw [hL,hwh] at hS
  have hLl:L.length≤12:=hS.few
  obtain ⟨n,hn⟩:∃ n,L.length = n:=⟨_,rfl⟩
  have HN:Hid (L.length = n):=hn
  have hsl:=hS.slice
  rw [hn] at hsl hLl
  have HS:Hid (SAt w2 g q c L wh):=hS
  have hcap:=hS.cap
  rw [hn] at hcap
  obtain ⟨hc1,hc2⟩:=hcap
  have HPOST:Hid (∀ (e:Ending) (w':World),Below w.heap.size w w'→(match goalsGo lowT L wh 0 L [] with | none=>e = .returned (.tuple #[.slice none 0 0,.int .i64 2]) | some l=>∃ v,e = .returned (.tuple #[v,.int .i64 0])∧w'.ownsRow w.heap.size 42 6 v l.length (glv l))→GoalsPost w R e w'):=fun e w' hb h=>⟨hb,fun h1=>absurd HR.out h1,fun _=>by rw [hL,hwh];exact h⟩
  obtain ⟨RES,hRES⟩:∃ r,goalsGo lowT L wh 0 L [] = r:=⟨_,rfl⟩
  rw [hRES] at HPOST
  have HRES:Hid (goalsGo lowT L wh 0 (L.drop 0) [] = RES):=hRES
  clear hS hg h0 hL hwh hn hRES HR h12
  go_wp2_with fail
  go_loopw [6,27] (fun ov iv wr=>∃ (k:Nat) (acc:List GL) (qv:Option Addr) (nv cv:Nat),k≤n∧iv = .int .i64 k∧ov = .slice qv nv cv∧Hid (nv = acc.length)∧nv≤60 * k∧Below w2.heap.size w2 wr∧Hid (wr.ownsRow w2.heap.size 42 6 (.slice qv nv cv) nv (glv acc))∧Hid (goalsGo lowT L wh k (L.drop k) acc = RES)) (fun _ iv _=>n - (intOf iv).toNat)
  case atStart=>exact ⟨0,[],none,0,0,Nat.zero_le _,rfl,rfl,rfl,Nat.zero_le _,Below.refl _ _,World.ownsRow_nil _ _ _ _,HRES⟩
  case round =>
   obtain ⟨k,acc,qv,nv,cv,hk,rfl,rfl,HNV,hnv,hbr,HO,HG⟩:=hrel
   clear HRES
   have hsz:=hbr.size
   by_cases hlt:k < n
   ·have hlz:(k:Int) < (n:Int):=by omega
    have hkl:k < L.length:=by rw [HN.out];exact hlt
    obtain ⟨b,o,rfl,hbl,xb,xcb,xk,xck,⟨c0,c1,c2,c3,c4,c5,c6⟩,hH⟩:=(HS.out.below hbr).part k hkl
    have HBO:Hid (BRow wr xb (L.getD k pt0).body∧(xb = none→(L.getD k pt0).body.length = 0∧xcb = 0)):=⟨hH.2.2.1,fun e=>by have h1:=hH.2.1.2.2 e;have h2:=hH.2.1.1;exact ⟨by omega,h1⟩⟩
    have HSKIP:Hid ((L.getD k pt0).ty.data.toList ≠ htmlS→goalsGo lowT L wh (k + 1) (L.drop (k + 1)) acc = RES):=fun hne=>by rw [← goalsGo_skip lowT L wh L k acc hkl hne];exact HG.out
    have HPAGE:Hid ((L.getD k pt0).ty.data.toList = htmlS→((findP lowT (L.getD k pt0).body).bind fun ls=>goalsGo lowT L wh (k + 1) (L.drop (k + 1)) (acc ++ ls.map (goalOf L wh k (L.getD k pt0).body.length))) = RES):=fun hne=>by rw [← goalsGo_page lowT L wh L k acc hkl hne];exact HG.out
    have HTY:Hid ((L.getD k pt0).ty.toList = (L.getD k pt0).ty.data.toList):=ByteArray.toList_eq _
    clear hH HG hkl
    generalize (L.getD k pt0).kids.length = xnk at *
    generalize (L.getD k pt0).how = xhow at *
    generalize (L.getD k pt0).body = BO at *
    obtain ⟨N,hN⟩:∃ N,BO.length = N:=⟨_,rfl⟩
    have HNB:Hid (BO.length = N):=hN
    rw [hN] at c5 HBO HPAGE
    clear hN
    generalize (L.getD k pt0).loc = xloc at *
    generalize (L.getD k pt0).id = xid at *
    generalize (L.getD k pt0).cs = xcs at *
    generalize (L.getD k pt0).ty = xty at *
    by_cases hty:xty.data.toList = htmlS
    ·have hE:(xty.toList == [116,101,120,116,47,104,116,109,108]) = true:=by rw [HTY.out,hty];rfl
     have HP:=HPAGE.out hty
     have HP':Hid (((findP lowT BO).bind fun ls=>goalsGo lowT L wh (k + 1) (L.drop (k + 1)) (acc ++ ls.map (goalOf L wh k N))) = RES):=HP
     clear HP HSKIP HPAGE HTY hty
     obtain ⟨Wx,hWx⟩:∃ W,W = wr.alloc (.cells #[.string xty,.string xcs,.string xid,.string xloc,.int .i64 xhow,.slice xb N xcb,.slice xk xnk xck] 25):=⟨_,rfl⟩
     have hbx:Below wr.heap.size wr Wx:=by rw [hWx];exact (Below.refl _ _).alloc (Nat.le_refl _) _
     have HOx:Hid (Wx.ownsRow w2.heap.size 42 6 (.slice qv nv cv) nv (glv acc)):=ownsRow_below HO.out hbx
     have hb2x:Below w2.heap.size w2 Wx:=hbr.trans (hbx.mono hbr.size)
     have hbex:Below w.heap.size w Wx:=hbe2.trans (hb2x.mono hbe2.size)
     have CF:Hid (Calls Tryz.prog 35 #[.slice xb N xcb] Wx fun e w'=>FindPost Wx BO.length (findP lowT BO) e w'):=find_any w HE.out xb N xcb BO HNB.out.symm Wx hbex (HBO.out.1.under hbx) HBO.out.2
     clear HBO HO
     go_wp2_with fail
     rw [← hWx]
     clear hWx hbx hbr c0 c1 c2 c3 c4 c5 c6 hsz
     refine CF.out.mono ?_
     rintro e w4 ⟨hb4,hF⟩
     clear CF
     have hb24:Below w2.heap.size w2 w4:=hb2x.trans (hb4.mono hb2x.size)
     have HO4:Hid (w4.ownsRow w2.heap.size 42 6 (.slice qv nv cv) nv (glv acc)):=ownsRow_below HOx.out hb4
     clear HOx
     cases hfp:findP lowT BO with
     | none =>
      rw [hfp] at hF
      simp only at hF
      subst hF
      have HX:Hid (none = RES):=by have h:=HP'.out;rw [hfp] at h;exact h
      clear HP' hfp
      go_wp2_with fail
      go_ret2
      refine HPOST.out _ _ (hbe2.trans (hb24.mono hbe2.size)) ?_
      rw [← HX.out]
      rfl
     | some ls =>
      rw [hfp] at hF
      simp only at hF
      obtain ⟨v4,rfl,own4⟩:=hF
      have HLS:Hid (∀ x ∈ ls,(unamp x.2).length≤4000):=find_short hfp
      have hm60:ls.length≤60:=(find_ord lowT BO ls hfp).2.1
      have HX:Hid (goalsGo lowT L wh (k + 1) (L.drop (k + 1)) (acc ++ ls.map (goalOf L wh k N)) = RES):=by have h:=HP'.out;rw [hfp] at h;exact h
      clear HP' hfp
      obtain ⟨m,hm⟩:∃ m,ls.length = m:=⟨_,rfl⟩
      have HM:Hid (ls.length = m):=hm
      rw [hm] at own4 hm60
      rw [HNB.out] at own4
      obtain ⟨q4,cc4,rfl⟩:=owned_slice own4
      have HL4:Hid (w4.ownsRow Wx.heap.size 40 3 (.slice q4 m cc4) m (lv N ls)):=own4
      clear hm own4
      go_wp2_with fail
      go_loopw [6,46] (fun ov iv wy=>∃ (j:Nat) (qy:Option Addr) (ny cy:Nat),j≤m∧iv = .int .i64 j∧ov = .slice qy ny cy∧Hid (ny = (acc ++ (ls.take j).map (goalOf L wh k N)).length)∧ny≤60 * k + j∧Below w2.heap.size w2 wy∧Hid (wy.ownsRow w2.heap.size 42 6 (.slice qy ny cy) ny (glv (acc ++ (ls.take j).map (goalOf L wh k N))))∧Hid (wy.ownsRow Wx.heap.size 40 3 (.slice q4 m cc4) m (lv N ls))) (fun _ iv _=>m - (intOf iv).toNat)
      case atStart=>exact ⟨0,qv,nv,cv,Nat.zero_le _,rfl,rfl,by unfold Hid;simpa using HNV.out,by omega,hb24,by unfold Hid;simpa using HO4.out,HL4⟩
      case round =>
       obtain ⟨j,qy,ny,cy,hj,rfl,rfl,HNY,hny,hby,HOY,HLY⟩:=hrel
       clear HO4 HL4 hb4 hb24
       have hsy:=hby.size
       by_cases hjl:j < m
       ·have hjz:(j:Int) < (m:Int):=by omega
        have hjt:j < ls.length:=by rw [HM.out];exact hjl
        have hKR:KRow wr q4 N ls:=by
         have h:=HLY.out
         rw [← HM.out] at h
         obtain ⟨p',c',e,_,_,_,hr⟩:=owned_links h
         cases e
         exact hr
        obtain ⟨b4,rfl,hc4⟩:=hKR (fun e=>by rw [e] at hjt;simp at hjt)
        obtain ⟨l0,l1,l2⟩:=hc4 j hjt
        have HSN:Hid (acc ++ (ls.take (j + 1)).map (goalOf L wh k N) = (acc ++ (ls.take j).map (goalOf L wh k N)) ++ [goalOf L wh k N (ls.getD j (0,[]))]):=goals_snoc L wh k N acc ls j hjt
        have HTL:Hid ((unamp (ls.getD j (0,[])).2).length≤4000):=HLS.out _ (by rw [List.getD_eq_getElem?_getD,List.getElem?_eq_getElem hjt];exact List.getElem_mem hjt)
        generalize ls.getD j (0,[]) = y at *
        have HGO:Hid (g1v (goalOf L wh k N y) = [.int .i64 (k:Int),.int .i64 ((N - y.1:Nat):Int),.int .i64 ((N - y.1 + y.2.length:Nat):Int),.string (lba (unamp y.2)),.string (tx8 (ledU (fromW wh k) (unamp y.2))),.int .i64 (findW L wh (ledU (fromW wh k) (unamp y.2)))]):=rfl
        have CLED:Hid (∀ W,Below w.heap.size w W→Calls Tryz.prog 12 #[.string (tx8 (fromW wh k)),.string (lba (unamp y.2))] W fun e w'=>e = .returned (.string (tx8 (ledU (fromW wh k) (unamp y.2))))∧Below W.heap.size W w'):=fun W hW=>bled_any _ _ (by rw [tx8_size];have:=fromW_len wh HS.out.short k;unfold maxLen;omega) (by have:=HTL.out;show (tx8 (unamp y.2)).size≤maxLen;rw [tx8_size];unfold maxLen;omega) W (HE.out.max hW)
        have CFI:Hid (∀ W,Below w2.heap.size w2 W→Calls Tryz.prog 42 #[.pointer (some ⟨g,0,none⟩),.string (tx8 (ledU (fromW wh k) (unamp y.2)))] W fun e w'=>e = .returned (.int .i64 (findW L wh (ledU (fromW wh k) (unamp y.2))))∧Below W.heap.size W w'):=fun W hW=>bfind_any _ (ledU_len _ _) W g (some ⟨b,o,none⟩) c L wh (HS.out.below hW)
        have CFR:Hid (∀ W,Below w2.heap.size w2 W→Calls Tryz.prog 41 #[.pointer (some ⟨g,0,none⟩),.int .i64 (k:Int)] W fun e w'=>e = .returned (.string (tx8 (fromW wh k)))∧w' = W):=fun W hW=>from_any (k:Int) (by omega) W g (some ⟨b,o,none⟩) c L wh (HS.out.below hW)
        clear hKR hc4 hjt
        generalize findW L wh (ledU (fromW wh k) (unamp y.2)) = FI at *
        generalize ledU (fromW wh k) (unamp y.2) = LE at *
        generalize fromW wh k = FR at *
        generalize lba (unamp y.2) = TX at *
        generalize ((N - y.1:Nat):Int) = F0 at *
        generalize ((N - y.1 + y.2.length:Nat):Int) = T0 at *
        obtain ⟨Wy,hWy⟩:∃ W,W = wr.alloc (.cells #[.int .i64 F0,.int .i64 T0,.string TX] 40):=⟨_,rfl⟩
        have hbyy:Below wr.heap.size wr Wy:=by rw [hWy];exact (Below.refl _ _).alloc (Nat.le_refl _) _
        have hkc:Wy.heap[wr.heap.size]? = some (.cells #[.int .i64 F0,.int .i64 T0,.string TX] 40):=by rw [hWy];exact blk_new _ _
        have hb2y:Below w2.heap.size w2 Wy:=hby.trans (hbyy.mono hby.size)
        have HOy:Hid (Wy.ownsRow w2.heap.size 42 6 (.slice qy ny cy) ny (glv (acc ++ (ls.take j).map (goalOf L wh k N)))):=ownsRow_below HOY.out hbyy
        have HLy:Hid (Wy.ownsRow Wx.heap.size 40 3 (.slice (some ⟨b4,0,none⟩) m cc4) m (lv N ls)):=ownsRow_below HLY.out hbyy
        have hb0:Below Wy.heap.size Wy Wy:=Below.refl _ _
        have e2:∀ w',Below Wy.heap.size Wy w'→w'.cell? ⟨wr.heap.size,2,none⟩ = some (.string TX):=fun w' hb=>(blk_c (blk_on hkc hb) 2).trans rfl
        go_upto_region 15 with fail
        rw [← hWy]
        clear hWy hbyy hby HOY HLY l0 l1 l2 hsy
        go_region_held3 (fun w'=>Below Wy.heap.size Wy w') (first | assumption | exact hb0.drew) (first
         | (go_at_call 41;refine (CFR.out _ hb2y.drew).mono ?_;rintro e w5 ⟨rfl,hw5⟩;have hw5':=hw5.symm;subst hw5')
         | (go_at_call 12;refine (CLED.out _ (hbe2.trans ((hb2y.drew).mono hbe2.size))).mono ?_;rintro e w6 ⟨rfl,hb6⟩;have hbe6:Below Wy.heap.size Wy w6:=(hb0.drew).trans (hb6.mono (Nat.le_refl _));clear hb6))
        have hk6:=blk_on hkc hbe6
        have hb26:Below w2.heap.size w2 w6:=hb2y.trans (hbe6.mono hb2y.size)
        have HO6:Hid (w6.ownsRow w2.heap.size 42 6 (.slice qy ny cy) ny (glv (acc ++ (ls.take j).map (goalOf L wh k N)))):=ownsRow_below HOy.out hbe6
        have HL6:Hid (w6.ownsRow Wx.heap.size 40 3 (.slice (some ⟨b4,0,none⟩) m cc4) m (lv N ls)):=ownsRow_below HLy.out hbe6
        have hkl6:wr.heap.size < w6.heap.size:=(Array.getElem?_eq_some_iff.1 hk6).1
        clear HOy HLy CFR CLED hb0 e2 hkc hb2y hbe6
        have f0:∀ w',(Below w2.heap.size w2 w'∧w'.heap[wr.heap.size]? = some (.cells #[.int .i64 F0,.int .i64 T0,.string TX] 40))→w'.cell? ⟨wr.heap.size,0,none⟩ = some (.int .i64 F0):=fun w' h=>(blk_c h.2 0).trans rfl
        have f1:∀ w',(Below w2.heap.size w2 w'∧w'.heap[wr.heap.size]? = some (.cells #[.int .i64 F0,.int .i64 T0,.string TX] 40))→w'.cell? ⟨wr.heap.size,1,none⟩ = some (.int .i64 T0):=fun w' h=>(blk_c h.2 1).trans rfl
        have f2:∀ w',(Below w2.heap.size w2 w'∧w'.heap[wr.heap.size]? = some (.cells #[.int .i64 F0,.int .i64 T0,.string TX] 40))→w'.cell? ⟨wr.heap.size,2,none⟩ = some (.string TX):=fun w' h=>(blk_c h.2 2).trans rfl
        obtain ⟨GV,hGV⟩:∃ GV,GV = glv (acc ++ (ls.take j).map (goalOf L wh k N)):=⟨_,rfl⟩
        have HGV:Hid (GV = glv (acc ++ (ls.take j).map (goalOf L wh k N))):=hGV
        rw [← hGV] at HO6
        clear hGV
        have hq1:ny + 1≤maxLen:=by unfold maxLen;omega
        have hq2:(ny + 1) * 64≤140737488355328:=by omega
        have hS6:Below w2.heap.size w2 w6∧w6.heap[wr.heap.size]? = some (.cells #[.int .i64 F0,.int .i64 T0,.string TX] 40):=⟨hb26,hk6⟩
        have hS6d:Below w2.heap.size w2 w6.drew∧w6.drew.heap[wr.heap.size]? = some (.cells #[.int .i64 F0,.int .i64 T0,.string TX] 40):=⟨hb26.drew,hk6⟩
        go_wp2_with fail
        go_region_held3 (fun w'=>Below w2.heap.size w2 w'∧w'.heap[wr.heap.size]? = some (.cells #[.int .i64 F0,.int .i64 T0,.string TX] 40)) (first | assumption | exact ⟨hb27.alloc hb27.size _,blk_on hk7 ((Below.refl _ _).alloc (Nat.le_refl _) _)⟩ | exact hS9) (first
         | (go_at_call 42;refine (CFI.out _ hb26.drew).mono ?_;rintro e w7 ⟨rfl,hb7⟩;have hb67:Below w6.heap.size w6 w7:=((Below.refl _ w6).drew).trans (hb7.mono (Nat.le_refl _));have hb27:Below w2.heap.size w2 w7:=hb26.trans (hb67.mono hb26.size);have hk7:=blk_on hk6 hb67;have hO7:=ownsRow_below HO6.out hb67;have hL7:=ownsRow_below HL6.out hb67;have hS7:Below w2.heap.size w2 w7∧w7.heap[wr.heap.size]? = some (.cells #[.int .i64 F0,.int .i64 T0,.string TX] 40):=⟨hb27,hk7⟩;have hq3:w2.heap.size≤(w7.alloc (.cells #[.int .i64 (k:Int),.int .i64 F0,.int .i64 T0,.string TX,.string (tx8 LE),.int .i64 FI] 42)).heap.size:=(by have:=hb27.size;simp;omega);clear hb7)
         | (refine step_append_own rfl (.tmp 56) (.tmp 64) 30 rfl w2.heap.size 42 i0 (.agg #[.int .i64 0,.int .i64 0,.int .i64 0,.string ⟨#[]⟩,.string ⟨#[]⟩,.int .i64 0]) 6 64 Tryz.underlying30 hi hz0 hz1 hz2 rfl (by decide) (.slice qy ny cy) ny GV rfl (hO7.alloc _) ⟨w7.heap.size,0,none⟩ 1 1 [.int .i64 (k:Int),.int .i64 F0,.int .i64 T0,.string TX,.string (tx8 LE),.int .i64 FI] rfl rfl (goal_cells w7 _ _ _ _ _ _ _) (six_one _ _ _ _ _ _) hq1 hq2 hq3 ?_;intro v9 w9 own9 g9;have hS9:=after_app hb27 hO7 hk7 g9))
        have hL9:w9.ownsRow Wx.heap.size 40 3 (.slice (some ⟨b4,0,none⟩) m cc4) m (lv N ls):=(hL7.alloc _).kept g9 (owns_apart (hL7.alloc (.cells #[.int .i64 (k:Int),.int .i64 F0,.int .i64 T0,.string TX,.string (tx8 LE),.int .i64 FI] 42)) (hO7.alloc _) (by decide))
        have R9:w9.ownsRow w2.heap.size 42 6 v9 (ny + 1) (glv (acc ++ (ls.take (j + 1)).map (goalOf L wh k N))):=by
         rw [HSN.out,glv_snoc,HGO.out,← HGV.out]
         exact own9
        obtain ⟨q9,c9,rfl⟩:=owned_slice R9
        have HR9:Hid (w9.ownsRow w2.heap.size 42 6 (.slice q9 (ny + 1) c9) (ny + 1) (glv (acc ++ (ls.take (j + 1)).map (goalOf L wh k N)))):=R9
        have HL9:Hid (w9.ownsRow Wx.heap.size 40 3 (.slice (some ⟨b4,0,none⟩) m cc4) m (lv N ls)):=hL9
        have HN9:Hid (ny + 1 = (acc ++ (ls.take (j + 1)).map (goalOf L wh k N)).length):=by unfold Hid;rw [HSN.out,List.length_append,← HNY.out];rfl
        have hb29:=hS9.1
        clear own9 g9 R9 hL9 hO7 hL7 hS9 hk7 hS7 hq3 hb27 hb67 HGV HSN HGO HO6 HL6 f0 f1 f2 hS6 hS6d hk6 hb26 hq1 hq2 CFI
        go_wp2_with fail
        go_roundw
        case rel=>exact ⟨j + 1,q9,ny + 1,c9,by omega,by go_num,rfl,HN9,by omega,hb29,HR9,HL9⟩
        case measure=>simp [intOf];omega
       ·obtain rfl:j = m:=by omega
        have hjz:¬ (j:Int) < (j:Int):=by omega
        have HF2:Hid (wr.ownsRow w2.heap.size 42 6 (.slice qy ny cy) ny (glv (acc ++ ls.map (goalOf L wh k N)))):=by
         have h:=HOY.out
         rw [List.take_of_length_le (by rw [HM.out];omega)] at h
         exact h
        have HN2:Hid (ny = (acc ++ ls.map (goalOf L wh k N)).length):=by
         have h:=HNY.out
         rw [List.take_of_length_le (by rw [HM.out];omega)] at h
         exact h
        clear HOY HNY HLY
        go_wp2_with fail
        go_roundw
        case rel=>exact ⟨k + 1,_,qy,ny,cy,by omega,by go_num,rfl,HN2,by omega,hby,HF2,HX⟩
        case measure=>simp [intOf];omega
    ·have hE:(xty.toList == [116,101,120,116,47,104,116,109,108]) = false:=by rw [HTY.out,beq_eq_false_iff_ne];exact hty
     have HX:=HSKIP.out hty
     have HX':Hid (goalsGo lowT L wh (k + 1) (L.drop (k + 1)) acc = RES):=HX
     clear HX HSKIP HPAGE HTY hty HBO
     have HO2:Hid ((wr.alloc (.cells #[.string xty,.string xcs,.string xid,.string xloc,.int .i64 xhow,.slice xb N xcb,.slice xk xnk xck] 25)).ownsRow w2.heap.size 42 6 (.slice qv nv cv) nv (glv acc)):=HO.out.alloc _
     clear HO
     go_wp2_with fail
     go_roundw
     case rel=>exact ⟨k + 1,acc,qv,nv,cv,by omega,by go_num,rfl,HNV,by omega,hbr.alloc hsz _,HO2,HX'⟩
     case measure=>simp [intOf];omega
   ·obtain rfl:k = n:=by omega
    have hlz:¬ (k:Int) < (k:Int):=by omega
    have HF:Hid (some acc = RES):=by
     have h:=HG.out
     rw [List.drop_of_length_le (by rw [HN.out];omega),goalsGo] at h
     exact h
    clear HG
    go_wp2_with fail
    go_ret2
    refine HPOST.out _ _ (hbe2.trans (hbr.mono hbe2.size)) ?_
    rw [← HF.out]
    refine ⟨_,rfl,?_⟩
    rw [← HNV.out]
    exact owns_weaken HO.out hbe2.size
 ·obtain rfl:=hno h0
  have hz:((R.1:Int) == 0) = false:=by rw [beq_eq_false_iff_ne];omega
  have HR:Hid (R.1 ≠ 0):=h0
  clear h0 hno hok
  go_wp2_with fail
  go_ret2
  exact ⟨hbe2,fun _=>rfl,fun h=>absurd h HR.out⟩
end Go.Proofs.YtbbfcbodhmeanaaGreatDoor



namespace Go.Proofs.YtbbfcbodhmeanaaGreatDoor
open Go.RowKit
theorem goal_after {w1 w8 w9:World} {o:Obj} {v:Value} {n Bl m:Nat} {xs ys:List Value} {vl:Value} (hb:Below w1.heap.size w1 w8) (hO:w8.ownsRow w1.heap.size 42 6 v n xs) (hL:w8.ownsRow Bl 40 3 vl m ys) (g9:(w8.alloc o).grownBy w9 v.ownBlock):Below w1.heap.size w1 w9∧w9.ownsRow Bl 40 3 vl m ys:=by
 have hs:=hb.size
 exact ⟨(hb.alloc hs _).grown g9 (by simp;omega) (fun i hi=>(hO.lt i hi).1),(hL.alloc _).kept g9 (owns_apart (hL.alloc o) (hO.alloc _) (by decide))⟩
theorem from_short {w:World} {G ab ao wb wo:Nat} {L:List PT} {wh:List (List UInt8)} (h:GoIn w G ab ao wb wo L wh) (i:Int):(fromW wh i).length≤120:=by
 unfold fromW
 split
 ·rw [nowS_len];omega
 ·split
  ·rw [nowS_len];omega
  ·exact h.wl _
theorem GoIn.later {w W:World} {G ab ao wb wo:Nat} {L:List PT} {wh:List (List UInt8)} (h:GoIn w w.heap.size ab ao wb wo L wh) (hb:Below w.heap.size w W) (hG:w.heap.size≤G):GoIn W G ab ao wb wo L wh :=
 ⟨fun V hV=>h.all V (hb.trans (hV.mono hG)),fun V hV=>h.tel V (hb.trans (hV.mono hG)),fun V hV=>h.mx V (hb.trans (hV.mono hG)),h.len,h.wl,h.few⟩
set_option maxRecDepth 1000000 in
set_option maxHeartbeats 8000000 in
theorem lg2 (w1:World) (ab ao wb wo n ca cw:Nat) (L:List PT) (wh:List (List UInt8)) (en:n = L.length) (hI:GoIn w1 w1.heap.size ab ao wb wo L wh) (k N Bl m:Nat) (hk:k≤1000) (FR:List UInt8) (hFR:FR = fromW wh k) (acc:List GL) (ls:List LK) (hLS:∀ x ∈ ls,(unamp x.2).length≤4000) (hm60:m≤60) (hm:ls.length = m) (q4:Option Addr) (cc4:Nat) (w:World) (hb:Below w1.heap.size w1 w) (hL4:w.ownsRow Bl 40 3 (.slice q4 m cc4) m (lv N ls)) (qv:Option Addr) (nv cv:Nat) (hnv:nv = acc.length) (hn60:nv≤60 * k) (hO:w.ownsRow w1.heap.size 42 6 (.slice qv nv cv) nv (glv acc)) (c0 c1 c2 c3 c9 c10 c11 c13 c14 c15 c16 c17 c18 c19 c20 c21 c22 c23 c24 c25 c26 c27 c28 c29 c30 c31 c32 c33 c34 c35 c36 c37 c38 c39 c40 c41 c42 c43 c44 c45 c46 c47 c51 c52 c53 c54 c55 c56 c57 c58 c59 c60 c61 c62 c63 c64 c65 c66 c67 c68 c69 c70 c71 c72 c73 c74 c75 c76 c77 c78 c79 c80 c81 c82 c83 c84 c85 c86 c87 c88 c89 c90 c91 c92 c93 c94 c95 c96 c97 c98 c99 c100 c101 c102 c103 c104 c105 c106 c107 c108 c109 c110 c111 c112 c113 c114 c115 c116 c117 c118 c119 c120 c121 c122 c123 c124 c125 c126 c127 c128 c129 c130:Value) (Q:Exit→Act→World→Prop)
  (hexit:∀ u14 u15 u16 u17 u18 u50 u51 u52 u53 u54 u55 u56 u57 u58 u59 u60 u61 u62 u63 u64 u65 u66 u67 u68 u69 u70 u71 u72 u73 u74 u75 u76 u77 u78 u79 u80 u81 u82 u83 u84 u85 u86 u87 u88 u89 u90 u91 u92 u93 u94 u95 u96 u97 u98 u99 u100 u101 u102 u103 u104 u105 u106 u107 u108 u109 u110 u111 u112 u113 u114 u115 u116 u117 u118 u119 u120 u121 u122 u123 u124 u125 u126 u127 u128:Value,∀ (qy:Option Addr) (ny cy:Nat) (w':World),Below w1.heap.size w1 w'→ny = (acc ++ ls.map (goalOf L wh k N)).length→ny≤60 * k + 60→w'.ownsRow w1.heap.size 42 6 (.slice qy ny cy) ny (glv (acc ++ ls.map (goalOf L wh k N)))→Q (.exit 2) ⟨(c0::c1::c2::c3::.slice (some ⟨ab,ao,none⟩) n ca::.slice (some ⟨wb,wo,none⟩) n cw::.func (Fn.func 56) #[] #[]::.slice qy ny cy::.int .i64 (k:Int)::c9::c10::c11::.string (tx8 FR)::c13::u14::u15::u16::u17::u18::c19::c20::c21::c22::c23::c24::c25::c26::c27::c28::c29::c30::c31::c32::c33::c34::c35::c36::c37::c38::c39::c40::c41::c42::c43::c44::c45::c46::c47::.slice q4 m cc4::.int .i64 (m:Int)::u50::u51::u52::u53::u54::u55::u56::u57::u58::u59::u60::u61::u62::u63::u64::u65::u66::u67::u68::u69::u70::u71::u72::u73::u74::u75::u76::u77::u78::u79::u80::u81::u82::u83::u84::u85::u86::u87::u88::u89::u90::u91::u92::u93::u94::u95::u96::u97::u98::u99::u100::u101::u102::u103::u104::u105::u106::u107::u108::u109::u110::u111::u112::u113::u114::u115::u116::u117::u118::u119::u120::u121::u122::u123::u124::u125::u126::u127::u128::c129::c130::[]).toArray,[]⟩ w') :
  Code.wp Tryz.prog (Code.loop (loopAt Tryz.f14 1)) Q ⟨(c0::c1::c2::c3::.slice (some ⟨ab,ao,none⟩) n ca::.slice (some ⟨wb,wo,none⟩) n cw::.func (Fn.func 56) #[] #[]::.slice qv nv cv::.int .i64 (k:Int)::c9::c10::c11::.string (tx8 FR)::c13::c14::c15::c16::c17::c18::c19::c20::c21::c22::c23::c24::c25::c26::c27::c28::c29::c30::c31::c32::c33::c34::c35::c36::c37::c38::c39::c40::c41::c42::c43::c44::c45::c46::c47::.slice q4 m cc4::.int .i64 (m:Int)::.int .i64 0::c51::c52::c53::c54::c55::c56::c57::c58::c59::c60::c61::c62::c63::c64::c65::c66::c67::c68::c69::c70::c71::c72::c73::c74::c75::c76::c77::c78::c79::c80::c81::c82::c83::c84::c85::c86::c87::c88::c89::c90::c91::c92::c93::c94::c95::c96::c97::c98::c99::c100::c101::c102::c103::c104::c105::c106::c107::c108::c109::c110::c111::c112::c113::c114::c115::c116::c117::c118::c119::c120::c121::c122::c123::c124::c125::c126::c127::c128::c129::c130::[]).toArray,[]⟩ w:=by
 obtain ⟨i0,hi,hz0,hz1,hz2⟩:=info_parts info_goal
 have HX:Hid _:=hexit
 have HI:Hid (GoIn w1 w1.heap.size ab ao wb wo L wh):=hI
 have HN:Hid (n = L.length):=en
 have hn1000:n≤1000:=by rw [en];exact hI.few
 have HLS:Hid (∀ x ∈ ls,(unamp x.2).length≤4000):=hLS
 have HM:Hid (ls.length = m):=hm
 have HFR:Hid (FR = fromW wh k):=hFR
 have HFL:Hid (FR.length≤120):=by unfold Hid;rw [hFR];exact from_short hI _
 have hwn:IntKind.i64.wrap ((n:Int) - 1) = (n:Int) - 1:=by rw [IntKind.wrap_i64];omega
 clear hexit hI en hLS hm hFR
 conv=>arg 2;arg 1;whnf
 go_loopw [7,50] (fun ov iv wy=>∃ (j:Nat) (qy:Option Addr) (ny cy:Nat),j≤m∧iv = .int .i64 j∧ov = .slice qy ny cy∧Hid (ny = (acc ++ (ls.take j).map (goalOf L wh k N)).length)∧ny≤60 * k + j∧Hid (Below w1.heap.size w1 wy)∧Hid (wy.ownsRow w1.heap.size 42 6 (.slice qy ny cy) ny (glv (acc ++ (ls.take j).map (goalOf L wh k N))))∧Hid (wy.ownsRow Bl 40 3 (.slice q4 m cc4) m (lv N ls))) (fun _ iv _=>m - (intOf iv).toNat)
 case atStart=>exact ⟨0,qv,nv,cv,Nat.zero_le _,rfl,rfl,by unfold Hid;simpa using hnv,by omega,hb,by unfold Hid;simpa using hO,hL4⟩
 case round =>
  obtain ⟨j,qy,ny,cy,hj,rfl,rfl,HNY,hny,HBY,HOY,HLY⟩:=hrel
  clear hO hL4 hb hnv hn60
  by_cases hjl:j < m
  ·have hjz:(j:Int) < (m:Int):=by omega
   have hjt:j < ls.length:=by rw [HM.out];exact hjl
   have hKR:KRow wr q4 N ls:=by
    have h:=HLY.out
    rw [← HM.out] at h
    obtain ⟨p',c',e,_,_,_,hr⟩:=owned_links h
    cases e
    exact hr
   obtain ⟨b4,hq4,hc4⟩:=hKR (fun e=>by rw [e] at hjt;simp at hjt)
   subst hq4
   obtain ⟨l0,l1,l2⟩:=hc4 j hjt
   have HSN:Hid (acc ++ (ls.take (j + 1)).map (goalOf L wh k N) = (acc ++ (ls.take j).map (goalOf L wh k N)) ++ [goalOf L wh k N (ls.getD j (0,[]))]):=goals_snoc L wh k N acc ls j hjt
   have HTL:Hid ((unamp (ls.getD j (0,[])).2).length≤4000):=HLS.out _ (by rw [List.getD_eq_getElem?_getD,List.getElem?_eq_getElem hjt];exact List.getElem_mem hjt)
   clear hKR hc4 hjt
   generalize ls.getD j (0,[]) = y at *
   have HGO:Hid (g1v (goalOf L wh k N y) = [.int .i64 (k:Int),.int .i64 ((N - y.1:Nat):Int),.int .i64 ((N - y.1 + y.2.length:Nat):Int),.string (lba (unamp y.2)),.string (tx8 (ledU FR (lba (unamp y.2)).data.toList)),.int .i64 (findW L wh (ledU FR (lba (unamp y.2)).data.toList))]):=by unfold Hid;rw [HFR.out];rfl
   have HTS:Hid ((lba (unamp y.2)).size≤maxLen):=by have:=HTL.out;show (tx8 (unamp y.2)).size≤maxLen;rw [tx8_size];unfold maxLen;omega
   clear HTL
   generalize lba (unamp y.2) = TX at *
   generalize ((N - y.1:Nat):Int) = F0 at *
   generalize ((N - y.1 + y.2.length:Nat):Int) = T0 at *
   obtain ⟨Wy,hWy⟩:∃ W,W = wr.alloc (.cells #[.int .i64 F0,.int .i64 T0,.string TX] 40):=⟨_,rfl⟩
   have hbyy:Below wr.heap.size wr Wy:=by rw [hWy];exact (Below.refl _ _).alloc (Nat.le_refl _) _
   have hkc:Wy.heap[wr.heap.size]? = some (.cells #[.int .i64 F0,.int .i64 T0,.string TX] 40):=by rw [hWy];exact blk_new _ _
   have HB1:Hid (Below w1.heap.size w1 Wy):=HBY.out.trans (hbyy.mono HBY.out.size)
   have HOy:Hid (Wy.ownsRow w1.heap.size 42 6 (.slice qy ny cy) ny (glv (acc ++ (ls.take j).map (goalOf L wh k N)))):=ownsRow_below HOY.out hbyy
   have HLy:Hid (Wy.ownsRow Bl 40 3 (.slice (some ⟨b4,0,none⟩) m cc4) m (lv N ls)):=ownsRow_below HLY.out hbyy
   have HKC:Hid (Wy.heap[wr.heap.size]? = some (.cells #[.int .i64 F0,.int .i64 T0,.string TX] 40)):=hkc
   clear hbyy hkc HBY HOY HLY
   go_upto_region 17 with fail
   rw [← hWy]
   clear hWy l0 l1 l2
   obtain ⟨Z,hZ⟩:∃ Z,wr.heap.size = Z:=⟨_,rfl⟩
   rw [hZ] at HKC ⊢
   clear hZ
   refine lgR17 Wy (fun W hW=>HI.out.mx W (HB1.out.trans (hW.mono HB1.out.size))) Z k F0 T0 TX FR (by have:=HFL.out;unfold maxLen;omega) HTS.out HKC.out _ _ _ _ _ _ _ _ _ _ _ _ _ _ _ _ _ _ _ _ _ _ _ _ _ _ _ _ _ _ _ _ _ _ _ _ _ _ _ _ _ _ _ _ _ _ _ _ _ _ _ _ _ _ _ _ _ _ _ _ _ _ _ _ _ _ _ _ _ _ _ _ _ _ _ _ _ _ _ _ _ _ _ _ _ _ _ _ _ _ _ _ _ _ _ _ _ _ _ _ _ _ _ _ _ _ _ _ _ _ _ _ _ _ _ _ _ _ _ _ _ _ _ _ _ _ _ _ _ ?_
   intro u54 u55 u56 u57 u58 u59 u60 G W7 hb7 hG7 hg7
   have HLl:Hid ((ledU FR TX.data.toList).length≤120):=ledU_len _ _
   have HNE:Hid (ledU FR TX.data.toList ≠ []→noFr (ledU FR TX.data.toList) ≠ []):=noFr_led _ _
   have HB7:Hid (Below Wy.heap.size Wy W7):=hb7
   have HG7:Hid (Wy.heap.size≤G):=hG7
   have Hg7:Hid (W7.heap[G]? = some (.cells #[.int .i64 (k:Int),.int .i64 F0,.int .i64 T0,.string TX,.string (tx8 (ledU FR TX.data.toList)),.int .i64 (-1)] 42)):=hg7
   generalize ledU FR TX.data.toList = LE at *
   clear hb7 hG7 hg7 HKC HTS
   go_wp2_with fail
   refine lg3 W7 G ab ao wb wo n ca cw L wh HN.out (HI.out.later (HB1.out.trans (HB7.out.mono HB1.out.size)) (Nat.le_trans HB1.out.size HG7.out)) LE HLl.out HNE.out (k:Int) F0 T0 TX Hg7.out _ _ _ _ _ _ _ _ _ _ _ _ _ _ _ _ _ _ _ _ _ _ _ _ _ _ _ _ _ _ _ _ _ _ _ _ _ _ _ _ _ _ _ _ _ _ _ _ _ _ _ _ _ _ _ _ _ _ _ _ _ _ _ _ _ _ _ _ _ _ _ _ _ _ _ _ _ _ _ _ _ _ _ _ _ _ _ _ _ _ _ _ _ _ _ _ _ _ _ _ _ _ _ _ _ _ _ _ _ _ _ _ _ _ _ _ _ _ _ _ _ _ _ _ _ _ _ ?_
   intro v16 v17 v18 v64 v65 v66 v67 v68 v69 v70 v71 v72 v73 v74 v75 v76 v77 v78 v79 v80 v81 v82 v83 v84 v85 v86 v87 v88 v89 v90 v91 v92 v93 v94 v95 v96 v97 v98 v99 v100 v101 v102 v103 v104 v105 v106 v107 v108 v109 v110 v111 v112 v113 v114 v115 v116 v117 v118 v119 v120 v121 v122 v123 w8 hb8 hg8
   have hby8:Below Wy.heap.size Wy w8:=HB7.out.trans (hb8.mono HG7.out)
   have hb18:Below w1.heap.size w1 w8:=HB1.out.trans (hby8.mono HB1.out.size)
   have HO8:Hid (w8.ownsRow w1.heap.size 42 6 (.slice qy ny cy) ny (glv (acc ++ (ls.take j).map (goalOf L wh k N)))):=ownsRow_below HOy.out hby8
   have HL8:Hid (w8.ownsRow Bl 40 3 (.slice (some ⟨b4,0,none⟩) m cc4) m (lv N ls)):=ownsRow_below HLy.out hby8
   have HB8:Hid (Below w1.heap.size w1 w8):=hb18
   have hs8:=hb18.size
   have x0:w8.cell? ⟨G,0,none⟩ = some (.int .i64 (k:Int)):=(blk_c hg8 0).trans rfl
   have x1:w8.cell? ⟨G,1,none⟩ = some (.int .i64 F0):=(blk_c hg8 1).trans rfl
   have x2:w8.cell? ⟨G,2,none⟩ = some (.int .i64 T0):=(blk_c hg8 2).trans rfl
   have x3:w8.cell? ⟨G,3,none⟩ = some (.string TX):=(blk_c hg8 3).trans rfl
   have x4:w8.cell? ⟨G,4,none⟩ = some (.string (tx8 LE)):=(blk_c hg8 4).trans rfl
   have x5:w8.cell? ⟨G,5,none⟩ = some (.int .i64 (findW L wh LE)):=(blk_c hg8 5).trans rfl
   generalize findW L wh LE = FI at *
   obtain ⟨GV,hGV⟩:∃ GV,GV = glv (acc ++ (ls.take j).map (goalOf L wh k N)):=⟨_,rfl⟩
   have HGV:Hid (GV = glv (acc ++ (ls.take j).map (goalOf L wh k N))):=hGV
   rw [← hGV] at HO8
   clear hGV hby8 hb8 hg8 hb18 HB7 HG7 Hg7 HOy HLy HB1 HLl HNE
   go_wp2_with (at_builtin;refine wpList_append_own _ rfl (.tmp 124) (.tmp 126) 30 rfl w1.heap.size 42 i0 (.agg #[.int .i64 0,.int .i64 0,.int .i64 0,.string ⟨#[]⟩,.string ⟨#[]⟩,.int .i64 0]) 6 64 Tryz.underlying30 hi hz0 hz1 hz2 rfl (by decide) _ _ _ rfl (HO8.out.alloc _) ⟨w8.heap.size,0,none⟩ 1 1 [.int .i64 (k:Int),.int .i64 F0,.int .i64 T0,.string TX,.string (tx8 LE),.int .i64 FI] rfl rfl ?c1 ?c2 ?c3 ?c4 ?c5 ?_)
   case c1=>exact goal_cells w8 _ _ _ _ _ _ _
   case c2=>exact six_one _ _ _ _ _ _
   case c3=>unfold maxLen;omega
   case c4=>omega
   case c5=>simp;omega
   intro v9 w9 own9 g9 _
   obtain ⟨hb9,hL9⟩:=goal_after HB8.out HO8.out HL8.out g9
   have R9:w9.ownsRow w1.heap.size 42 6 v9 (ny + 1) (glv (acc ++ (ls.take (j + 1)).map (goalOf L wh k N))):=by
    rw [HSN.out,glv_snoc,HGO.out,← HGV.out]
    exact own9
   obtain ⟨q9,c9,rfl⟩:=owned_slice R9
   have HR9:Hid (w9.ownsRow w1.heap.size 42 6 (.slice q9 (ny + 1) c9) (ny + 1) (glv (acc ++ (ls.take (j + 1)).map (goalOf L wh k N)))):=R9
   have HL9:Hid (w9.ownsRow Bl 40 3 (.slice (some ⟨b4,0,none⟩) m cc4) m (lv N ls)):=hL9
   have HB9:Hid (Below w1.heap.size w1 w9):=hb9
   have HN9:Hid (ny + 1 = (acc ++ (ls.take (j + 1)).map (goalOf L wh k N)).length):=by unfold Hid;rw [HSN.out,List.length_append,← HNY.out];rfl
   clear own9 g9 R9 hL9 hb9 x0 x1 x2 x3 x4 x5 HSN HGO HGV HO8 HL8 HB8 hs8
   go_wp2_with fail
   go_roundw
   case rel=>exact ⟨j + 1,q9,ny + 1,c9,by omega,by go_num,rfl,HN9,by omega,HB9,HR9,HL9⟩
   case measure=>simp [intOf];omega
  ·obtain rfl:j = m:=by omega
   have hjz:¬ (j:Int) < (j:Int):=by omega
   have HF2:Hid (wr.ownsRow w1.heap.size 42 6 (.slice qy ny cy) ny (glv (acc ++ ls.map (goalOf L wh k N)))):=by
    have h:=HOY.out
    rw [List.take_of_length_le (by rw [HM.out];omega)] at h
    exact h
   have HN2:Hid (ny = (acc ++ ls.map (goalOf L wh k N)).length):=by
    have h:=HNY.out
    rw [List.take_of_length_le (by rw [HM.out];omega)] at h
    exact h
   clear HOY HNY HLY
   go_wp2_with fail
   exact HX.out _ _ _ _ _ _ _ _ _ _ _ _ _ _ _ _ _ _ _ _ _ _ _ _ _ _ _ _ _ _ _ _ _ _ _ _ _ _ _ _ _ _ _ _ _ _ _ _ _ _ _ _ _ _ _ _ _ _ _ _ _ _ _ _ _ _ _ _ _ _ _ _ _ _ _ _ _ _ _ _ _ _ _ _ qy ny cy _ HBY.out HN2.out (by omega) HF2.out
end Go.Proofs.YtbbfcbodhmeanaaGreatDoor


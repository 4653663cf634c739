
import Derived.Test.YtbbfcbodhmeanaaGreatDoorXrewritenone35
import Derived.Test.YtbbfcbodhmeanaaGreatDoorXrewritenone36
import Derived.SizedLaws
import Derived.Lib.LaidCase
import Derived.Lib.LaidU8T
import Derived.Lib.LaidTab
import Derived.LaidByTextLater
import Derived.HandedShaped
import Derived.Shelf.Vars
import Derived.Lay
import Derived.SevenTiedAt
import Derived.Stop.Joined
import Derived.ShutString
import Derived.ChangeOld
namespace Go.Proofs.YtbbfcbodhmeanaaGreatDoor
open Go.RowKit
theorem put7_full {W:World} {b t:Nat} {u0 u1 u2 u3 u4 u5 u6 v0 v1 v2 v3 v4 v5 v6:Value} (h:W.heap[b]? = some (.cells #[u0,u1,u2,u3,u4,u5,u6] t)):(put7 W b v0 v1 v2 v3 v4 v5 v6).heap[b]? = some (.cells #[v0,v1,v2,v3,v4,v5,v6] t):=by
 have h1:(W.setCell ⟨b,0,none⟩ v0).heap[b]? = some (.cells #[v0,u1,u2,u3,u4,u5,u6] t):=set_blk h 0 v0
 have h2:((W.setCell ⟨b,0,none⟩ v0).setCell ⟨b,1,none⟩ v1).heap[b]? = some (.cells #[v0,v1,u2,u3,u4,u5,u6] t):=set_blk h1 1 v1
 have h3:(((W.setCell ⟨b,0,none⟩ v0).setCell ⟨b,1,none⟩ v1).setCell ⟨b,2,none⟩ v2).heap[b]? = some (.cells #[v0,v1,v2,u3,u4,u5,u6] t):=set_blk h2 2 v2
 have h4:((((W.setCell ⟨b,0,none⟩ v0).setCell ⟨b,1,none⟩ v1).setCell ⟨b,2,none⟩ v2).setCell ⟨b,3,none⟩ v3).heap[b]? = some (.cells #[v0,v1,v2,v3,u4,u5,u6] t):=set_blk h3 3 v3
 have h5:(((((W.setCell ⟨b,0,none⟩ v0).setCell ⟨b,1,none⟩ v1).setCell ⟨b,2,none⟩ v2).setCell ⟨b,3,none⟩ v3).setCell ⟨b,4,none⟩ v4).heap[b]? = some (.cells #[v0,v1,v2,v3,v4,u5,u6] t):=set_blk h4 4 v4
 have h6:((((((W.setCell ⟨b,0,none⟩ v0).setCell ⟨b,1,none⟩ v1).setCell ⟨b,2,none⟩ v2).setCell ⟨b,3,none⟩ v3).setCell ⟨b,4,none⟩ v4).setCell ⟨b,5,none⟩ v5).heap[b]? = some (.cells #[v0,v1,v2,v3,v4,v5,u6] t):=set_blk h5 5 v5
 have h7:(((((((W.setCell ⟨b,0,none⟩ v0).setCell ⟨b,1,none⟩ v1).setCell ⟨b,2,none⟩ v2).setCell ⟨b,3,none⟩ v3).setCell ⟨b,4,none⟩ v4).setCell ⟨b,5,none⟩ v5).setCell ⟨b,6,none⟩ v6).heap[b]? = some (.cells #[v0,v1,v2,v3,v4,v5,v6] t):=set_blk h6 6 v6
 exact h7
theorem names_bad {w w':World} {R:Nat × PT} {e:Ending} (h:NamesPost w R e w') (h0:R.1 ≠ 0):e = .returned (.tuple #[.agg #[.string ⟨#[]⟩,.string ⟨#[]⟩,.string ⟨#[]⟩,.string ⟨#[]⟩,.int .i64 0,.slice none 0 0,.slice none 0 0],.int .i64 (R.1:Int)])∧Below w.heap.size w w':=⟨h.2.1 h0,h.1⟩
theorem names_ok {w w':World} {R:Nat × PT} {p:PT} {e:Ending} (h:NamesPost w R e w') (h0:R = (0,p)):∃ (qb:Option Addr) (db:Nat) (qk:Option Addr) (dk:Nat),e = .returned (.tuple #[.agg #[.string p.ty,.string p.cs,.string p.id,.string p.loc,.int .i64 p.how,.slice qb p.body.length db,.slice qk p.kids.length dk],.int .i64 0])∧Below w.heap.size w w'∧PHeld w' 4 p qb db qk dk∧NFar w w' p qb db qk dk:=by
 subst h0
 obtain ⟨qb,db,qk,dk,h1,h2,h3⟩:=h.2.2 rfl
 exact ⟨qb,db,qk,dk,h1,h.1,h2,h3⟩
theorem same_same {p:PT} (h:(placesP p).1 = 0) {pb qb:Option Addr} {cb:Nat} {pk qk:Option Addr} {ck cb2 ck2 F F2:Nat} {w:World} (hH:PHeld w F p pb cb pk ck) (hH2:PHeld w F2 p qb cb2 qk ck2) :
  Calls Tryz.prog 27 #[.agg #[.string p.ty,.string p.cs,.string p.id,.string p.loc,.int .i64 p.how,.slice pb p.body.length cb,.slice pk p.kids.length ck],.agg #[.string p.ty,.string p.cs,.string p.id,.string p.loc,.int .i64 p.how,.slice qb p.body.length cb2,.slice qk p.kids.length ck2]] w fun e w'=>e = .returned (.bool true)∧Below w.heap.size w w':=by
 refine (same_any p p pb qb cb pk qk ck cb2 ck2 F F2 w hH hH2 (cnt_ok h)).mono ?_
 rintro e w' ⟨b,rfl,hb,hw⟩
 obtain rfl:b = true:=hb.2 rfl
 exact ⟨rfl,hw⟩
set_option maxHeartbeats 8000000 in
set_option maxRecDepth 100000 in
theorem none_any (p:PT) (pb:Option Addr) (cb:Nat) (pk:Option Addr) (ck F:Nat) (na:Option Addr) (nn nc:Nat) (ns:List NM) (en:nn = ns.length) (hnl:NLen ns) (w:World) (hE:LEnv w) (hH:PHeld w F p pb cb pk ck) (hnr:NRow w na ns) (hnz:na = none→nn = 0∧nc = 0) (hsz:nn * 24≤140737488355328) :
  Calls Tryz.prog 6 #[.agg #[.string p.ty,.string p.cs,.string p.id,.string p.loc,.int .i64 p.how,.slice pb p.body.length cb,.slice pk p.kids.length ck],.slice na nn nc] w fun e w'=>e = .returned (.bool true)∧Below w.heap.size w w':=by
 obtain ⟨W1,hW1⟩:∃ W,W = w.alloc (.cells #[.string p.ty,.string p.cs,.string p.id,.string p.loc,.int .i64 p.how,.slice pb p.body.length cb,.slice pk p.kids.length ck] 25):=⟨_,rfl⟩
 have hb1:Below w.heap.size w W1:=by rw [hW1];exact (Below.refl _ _).alloc (Nat.le_refl _) _
 have kW:W1.heap[w.heap.size]? = some (.cells #[.string p.ty,.string p.cs,.string p.id,.string p.loc,.int .i64 p.how,.slice pb p.body.length cb,.slice pk p.kids.length ck] 25):=by rw [hW1];exact blk_new _ _
 have hlow:∀ W,Below W1.heap.size W1 W→Below w.heap.size w W:=fun W hW=>hb1.trans (hW.mono hb1.size)
 have HLOW:Hid (∀ W,Below W1.heap.size W1 W→Below w.heap.size w W):=hlow
 have HKA:Hid (W1.heap[w.heap.size]? = some (.cells #[.string p.ty,.string p.cs,.string p.id,.string p.loc,.int .i64 p.how,.slice pb p.body.length cb,.slice pk p.kids.length ck] 25)):=kW
 have HWS:Hid (W1.heap.size = w.heap.size + 1):=by unfold Hid;rw [hW1];simp
 have HW1:Hid (W1 = w.alloc (.cells #[.string p.ty,.string p.cs,.string p.id,.string p.loc,.int .i64 p.how,.slice pb p.body.length cb,.slice pk p.kids.length ck] 25)):=hW1
 have HE:Hid (∀ W,Below W1.heap.size W1 W→LEnv W):=fun W hW=>hE.below (hlow W hW)
 have HPH:Hid (∀ W,Below W1.heap.size W1 W→PHeld W F p pb cb pk ck):=fun W hW=>hH.below (hlow W hW)
 have CR:Hid (∀ W,Below W1.heap.size W1 W→Calls Tryz.prog 23 #[] W fun e w'=>e = .returned (.bool true)∧Below W.heap.size W w'):=fun W hW=>renamed_any W (HE.out W hW)
 have CN0:=fun W (hW:Below W1.heap.size W1 W)=>names_any p pb cb pk ck F none 0 0 [] rfl ⟨by decide,fun n hn=>by cases hn⟩ W (HE.out W hW) (HPH.out W hW) (fun h=>absurd rfl h)
 have h00:Below W1.heap.size W1 W1:=Below.refl _ _
 by_cases hz:(namesP p []).1 = 0
 ·obtain ⟨hok,gs,hg,hnm⟩:=names_nil p hz
  have hg7:=(goalsP_in p gs hg).2
  have CN1:Hid (∀ W,Below W1.heap.size W1 W→Calls Tryz.prog 21 #[.agg #[.string p.ty,.string p.cs,.string p.id,.string p.loc,.int .i64 p.how,.slice pb p.body.length cb,.slice pk p.kids.length ck],.slice none 0 0] W fun e w'=>∃ (qb:Option Addr) (db:Nat) (qk:Option Addr) (dk:Nat),e = .returned (.tuple #[.agg #[.string p.ty,.string p.cs,.string p.id,.string p.loc,.int .i64 p.how,.slice qb p.body.length db,.slice qk p.kids.length dk],.int .i64 0])∧Below W.heap.size W w'∧PHeld w' 4 p qb db qk dk):=fun W hW=>(CN0 W hW).mono fun e w' h=>by
   obtain ⟨qb,db,qk,dk,h1,h2,h3,_⟩:=names_ok h hnm
   exact ⟨qb,db,qk,dk,h1,h2,h3⟩
  have CG:Hid (∀ W,Below W1.heap.size W1 W→Calls Tryz.prog 9 #[.agg #[.string p.ty,.string p.cs,.string p.id,.string p.loc,.int .i64 p.how,.slice pb p.body.length cb,.slice pk p.kids.length ck]] W fun e w'=>∃ q c,e = .returned (.tuple #[.slice q gs.length c,.int .i64 0])∧Below W.heap.size W w'∧G6 w' q gs.length gs):=fun W hW=>(bgoals_any p pb cb pk ck F W (HE.out W hW) (HPH.out W hW)).mono fun e w' h=>by
   have h2:=h.2.2 hok
   rw [show goalsGo lowT ((placesP p).2.map fun x=>x.1.alone) (whereP (placesP p).2) 0 ((placesP p).2.map fun x=>x.1.alone) [] = some gs from hg] at h2
   obtain ⟨v,he,ho⟩:=h2
   obtain ⟨q,c,rfl,_,_,hk⟩:=owned_goals ho
   exact ⟨q,c,he,h.1,hk⟩
  have CS:Hid (∀ (W:World) (qb:Option Addr) (db:Nat) (qk:Option Addr) (dk:Nat),Below W1.heap.size W1 W→PHeld W 4 p qb db qk dk→Calls Tryz.prog 27 #[.agg #[.string p.ty,.string p.cs,.string p.id,.string p.loc,.int .i64 p.how,.slice pb p.body.length cb,.slice pk p.kids.length ck],.agg #[.string p.ty,.string p.cs,.string p.id,.string p.loc,.int .i64 p.how,.slice qb p.body.length db,.slice qk p.kids.length dk]] W fun e w'=>e = .returned (.bool true)∧Below W.heap.size W w'):=fun W qb db qk dk hW h=>same_same hok (HPH.out W hW) h
  have CC:Hid (∀ W,Below W1.heap.size W1 W→Calls Tryz.prog 29 #[.slice na nn nc] W fun e w'=>Below W.heap.size W w'∧∃ v,e = .returned v∧w'.ownsRow W.heap.size 56 2 v ns.length (nv ns)):=fun W hW=>nclone_any na nn nc ns en W hsz hnz (hnr.below (hlow W hW))
  have CD:Hid (∀ (W V:World) (v:Value) (g:Nat),Below W.heap.size W V→AskAt W g gs→V.ownsRow W.heap.size 56 2 v ns.length (nv ns)→Calls Tryz.prog 28 #[v,.func (Fn.func 30) #[] #[.pointer (some ⟨g,0,none⟩)]] V fun e w'=>Below W.heap.size W w'∧∃ p c n,e = .returned (.slice p n c)∧n = (nkept gs ns).length∧NRow w' p (nkept gs ns)):=fun W V v g hV hA ho=>(ndelete_any W.heap.size g gs v ns V (by omega) (fun U hU=>hA.below (hV.trans hU)) hV.size ho).mono fun e w' ⟨hb,v',he,hown⟩=>by
   obtain ⟨p',c',hv,_,_,_,_,_,hr⟩:=owned_names hown
   subst hv
   exact ⟨hV.trans hb,p',c',_,he,rfl,hr⟩
  have HFEW:Hid ((namesP p (nkept gs ns)).1 = 1 ∨ (namesP p (nkept gs ns)).1 = 5 ∨ (namesP p (nkept gs ns)).1 = 6 ∨ namesP p (nkept gs ns) = (0,p)):=names_few p ns gs hok hg
  have CN2:Hid (∀ (W:World) (a:Option Addr) (n c:Nat),Below W1.heap.size W1 W→n = (nkept gs ns).length→NRow W a (nkept gs ns)→Calls Tryz.prog 21 #[.agg #[.string p.ty,.string p.cs,.string p.id,.string p.loc,.int .i64 p.how,.slice pb p.body.length cb,.slice pk p.kids.length ck],.slice a n c] W fun e w'=>NamesPost W (namesP p (nkept gs ns)) e w'):=fun W a n c hW hn hr=>names_any p pb cb pk ck F a n c _ hn (nlen_few hnl gs) W (HE.out W hW) (HPH.out W hW) hr
  generalize nkept gs ns = few at *
  obtain ⟨RF,hRF⟩:∃ R,namesP p few = R:=⟨_,rfl⟩
  rw [hRF] at CN2 HFEW
  obtain ⟨gn,hgn⟩:∃ n,gs.length = n:=⟨_,rfl⟩
  rw [hgn] at CG hg7
  obtain ⟨nb,hnb⟩:∃ n,p.body.length = n:=⟨_,rfl⟩
  obtain ⟨nk,hnk⟩:∃ n,p.kids.length = n:=⟨_,rfl⟩
  have HBL:Hid (p.body.length = nb∧p.kids.length = nk):=⟨hnb,hnk⟩
  rw [hnb,hnk] at HKA HW1 CG
  simp only [hnb,hnk] at CN1 CS CN2
  rw [hnb,hnk]
  clear hRF hgn hnb hnk CN0 hz hok hg hnm hW1 hb1 kW hlow hE hH hnr hnl en hnz hsz
  go_enter Tryz.func6,Tryz.ntmps6
  go_upto_region 1 with fail
  rw [← HW1.out]
  obtain ⟨z0,z1,z2,z3,z4,z5,z6,zf⟩:=o_cells HKA.out
  go_wp2_with fail
  refine (CN1.out _ h00).mono ?_
  rintro e w2 ⟨qb,db,qk,dk,rfl,hb2,hh2⟩
  clear z0 z1 z2 z3 z4 z5 z6 zf CN1 HW1 h00
  obtain ⟨QB,hQB⟩:∃ n,w2.heap.size = n:=⟨_,rfl⟩
  obtain ⟨V2,hV2⟩:∃ V,V = w2.alloc (.cells #[.string p.ty,.string p.cs,.string p.id,.string p.loc,.int .i64 p.how,.slice qb nb db,.slice qk nk dk] 25):=⟨_,rfl⟩
  have hb2V:Below w2.heap.size w2 V2:=by rw [hV2];exact (Below.refl _ _).alloc (Nat.le_refl _) _
  have kQ:V2.heap[QB]? = some (.cells #[.string p.ty,.string p.cs,.string p.id,.string p.loc,.int .i64 p.how,.slice qb nb db,.slice qk nk dk] 25):=by rw [hV2,← hQB];exact blk_new _ _
  have hBV:Below W1.heap.size W1 V2:=hb2.trans (hb2V.mono hb2.size)
  have HKQ:Hid (V2.heap[QB]? = some (.cells #[.string p.ty,.string p.cs,.string p.id,.string p.loc,.int .i64 p.how,.slice qb nb db,.slice qk nk dk] 25)):=kQ
  have HQP:Hid (∀ W,Below V2.heap.size V2 W→PHeld W 4 p qb db qk dk):=fun W hW=>hh2.below (hb2V.trans (hW.mono hb2V.size))
  have HUP:Hid (∀ W,Below V2.heap.size V2 W→Below W1.heap.size W1 W):=fun W hW=>hBV.trans (hW.mono hBV.size)
  have HQS:Hid (W1.heap.size≤QB):=by rw [← hQB];exact hb2.size
  have HV2:Hid (V2 = w2.alloc (.cells #[.string p.ty,.string p.cs,.string p.id,.string p.loc,.int .i64 p.how,.slice qb nb db,.slice qk nk dk] 25)):=hV2
  have h02:Below V2.heap.size V2 V2:=Below.refl _ _
  clear hV2 hb2V kQ hBV hb2 hh2
  go_upto_region 2 with fail
  rw [← HV2.out]
  clear HV2 hQB
  go_wp2_with fail
  refine (CR.out _ (HUP.out _ h02)).mono ?_
  rintro e w3 ⟨rfl,hb3⟩
  clear h02
  go_upto_region 4 with fail
  obtain ⟨z0,z1,z2,z3,z4,z5,z6,zf⟩:=o_cells (blk_on HKA.out (HUP.out _ hb3))
  go_wp2_with fail
  refine (CG.out _ (HUP.out _ hb3)).mono ?_
  rintro e w4 ⟨ga,gc,rfl,hb34,hg4⟩
  have hb4:Below V2.heap.size V2 w4:=hb3.trans (hb34.mono hb3.size)
  clear z0 z1 z2 z3 z4 z5 z6 zf CG hb34 hb3
  obtain ⟨GB,hGB⟩:∃ n,w4.heap.size = n:=⟨_,rfl⟩
  obtain ⟨V4,hV4⟩:∃ V,V = w4.alloc (.cells #[.slice ga gn gc] 30):=⟨_,rfl⟩
  have hb4V:Below w4.heap.size w4 V4:=by rw [hV4];exact (Below.refl _ _).alloc (Nat.le_refl _) _
  have kG:V4.heap[GB]? = some (.cells #[.slice ga gn gc] 30):=by rw [hV4,← hGB];exact blk_new _ _
  have hBV4:Below V2.heap.size V2 V4:=hb4.trans (hb4V.mono hb4.size)
  have HASK:Hid (∀ W,Below V4.heap.size V4 W→AskAt W GB gs):=fun W hW=>AskAt.below ⟨ga,gn,gc,by omega,hg4.below hb4V,(blk_c kG 0).trans rfl⟩ hW
  have HV4:Hid (V4 = w4.alloc (.cells #[.slice ga gn gc] 30)):=hV4
  have HUP4:Hid (∀ W,Below V4.heap.size V4 W→Below V2.heap.size V2 W):=fun W hW=>hBV4.trans (hW.mono hBV4.size)
  have h04:Below V4.heap.size V4 V4:=Below.refl _ _
  clear hV4 hb4V kG hBV4 hb4 hg4
  go_upto_region 5 with fail
  rw [← HV4.out]
  clear HV4 hGB
  obtain ⟨z0,z1,z2,z3,z4,z5,z6,zf⟩:=o_cells (blk_on HKA.out (HUP.out _ (HUP4.out _ h04)))
  obtain ⟨y0,y1,y2,y3,y4,y5,y6,yf⟩:=o_cells (blk_on HKQ.out (HUP4.out _ h04))
  go_wp2_with fail
  refine (CS.out _ qb db qk dk (HUP.out _ (HUP4.out _ h04)) (HQP.out _ (HUP4.out _ h04))).mono ?_
  rintro e w5 ⟨rfl,hb5⟩
  clear z0 z1 z2 z3 z4 z5 z6 zf y0 y1 y2 y3 y4 y5 y6 yf h04
  go_wp2_with fail
  refine (CC.out _ (HUP.out _ (HUP4.out _ hb5))).mono ?_
  rintro e w6 ⟨hb56,v6,rfl,ho6⟩
  clear CC
  go_wp2_with fail
  refine (CD.out w5 w6 v6 GB hb56 (HASK.out _ hb5) ho6).mono ?_
  rintro e w7 ⟨hb57,fa,fc,fn,rfl,hfn,hf7⟩
  have hb7:Below V2.heap.size V2 w7:=HUP4.out _ (hb5.trans (hb57.mono hb5.size))
  have HFN:Hid (fn = few.length):=hfn
  have HF7:Hid (NRow w7 fa few):=hf7
  clear CD HASK hb56 ho6 hb5 hb57 hfn hf7
  go_upto_region 8 with fail
  obtain ⟨z0,z1,z2,z3,z4,z5,z6,zf⟩:=o_cells (blk_on HKA.out (HUP.out _ hb7))
  go_wp2_with fail
  refine (CN2.out _ fa fn fc (HUP.out _ hb7) HFN.out HF7.out).mono ?_
  intro e w8 h8
  clear z0 z1 z2 z3 z4 z5 z6 zf CN2 HFN HF7
  by_cases hz8:RF.1 = 0
  ·have hRF:RF = (0,p):=by rcases HFEW.out with h | h | h | h <;> first | exact h | (rw [hz8] at h;cases h)
   obtain ⟨sb,eb,sk,ek,rfl,hb78,_,hh8⟩:=names_ok h8 hRF
   have hQ7:QB < w7.heap.size:=(Array.getElem?_eq_some_iff.1 (blk_on HKQ.out hb7)).1
   rw [HBL.out.1,HBL.out.2]
   have hb8:Below V2.heap.size V2 w8:=hb7.trans (hb78.mono hb7.size)
   obtain ⟨V8,hV8⟩:∃ V,V = put7 w8 QB (.string p.ty) (.string p.cs) (.string p.id) (.string p.loc) (.int .i64 p.how) (.slice sb nb eb) (.slice sk nk ek):=⟨_,rfl⟩
   have kQ8:V8.heap[QB]? = some (.cells #[.string p.ty,.string p.cs,.string p.id,.string p.loc,.int .i64 p.how,.slice sb nb eb,.slice sk nk ek] 25):=by rw [hV8];exact put7_full (blk_on HKQ.out hb8)
   have hB8:Below W1.heap.size W1 V8:=by rw [hV8];exact put7_below (HUP.out _ hb8) HQS.out _ _ _ _ _ _ _
   have HV8:Hid (V8 = put7 w8 QB (.string p.ty) (.string p.cs) (.string p.id) (.string p.loc) (.int .i64 p.how) (.slice sb nb eb) (.slice sk nk ek)):=hV8
   have HH8:Hid (PHeld V8 4 p sb eb sk ek):=hh8 V8 (fun b h1 _=>by rw [hV8];exact put7_block w8 QB _ _ _ _ _ _ _ b (by omega))
   obtain ⟨r0,r1,r2,r3,r4,r5,r6,rf⟩:=o_cells (blk_on HKQ.out hb8)
   clear hh8 h8 hb78 hb8 hb7 hV8 hRF hz8 HFEW hQ7
   go_upto_region 9 with fail
   have hV8':=HV8.out
   unfold put7 at hV8'
   rw [← hV8']
   clear r0 r1 r2 r3 r4 r5 r6 rf HV8 hV8'
   obtain ⟨z0,z1,z2,z3,z4,z5,z6,zf⟩:=o_cells (blk_on HKA.out hB8)
   obtain ⟨y0,y1,y2,y3,y4,y5,y6,yf⟩:=o_cells kQ8
   go_wp2_with fail
   refine (CS.out _ sb eb sk ek hB8 HH8.out).mono ?_
   rintro e w9 ⟨rfl,hb9⟩
   have HB:Hid (Below w.heap.size w w9):=HLOW.out _ (hB8.trans (hb9.mono hB8.size))
   clear hb9 hB8 kQ8
   go_wp2_with fail
   go_ret
   exact ⟨rfl,HB.out⟩
  ·obtain ⟨rfl,hb78⟩:=names_bad h8 hz8
   have hb8:Below V2.heap.size V2 w8:=hb7.trans (hb78.mono hb7.size)
   obtain ⟨r0,r1,r2,r3,r4,r5,r6,rf⟩:=o_cells (blk_on HKQ.out hb8)
   have HB:Hid (Below w.heap.size w (put7 w8 QB (.string ⟨#[]⟩) (.string ⟨#[]⟩) (.string ⟨#[]⟩) (.string ⟨#[]⟩) (.int .i64 0) (.slice none 0 0) (.slice none 0 0))):=HLOW.out _ (put7_below (HUP.out _ hb8) HQS.out _ _ _ _ _ _ _)
   obtain ⟨re,rp⟩:=RF
   simp only at HFEW ⊢ hz8
   have h3:re = 1 ∨ re = 5 ∨ re = 6:=by
    rcases HFEW.out with h | h | h | h
    ·exact .inl h
    ·exact .inr (.inl h)
    ·exact .inr (.inr h)
    ·injection h with h1 _
     exact absurd h1 hz8
   clear hb8 hb7 hb78 HFEW h8 hz8
   rcases h3 with rfl | rfl | rfl
   ·go_wp2_with fail
    go_ret
    exact ⟨rfl,HB.out⟩
   ·go_wp2_with fail
    go_ret
    exact ⟨rfl,HB.out⟩
   ·go_wp2_with fail
    go_ret
    exact ⟨rfl,HB.out⟩
 ·have CN1:Hid (∀ W,Below W1.heap.size W1 W→Calls Tryz.prog 21 #[.agg #[.string p.ty,.string p.cs,.string p.id,.string p.loc,.int .i64 p.how,.slice pb p.body.length cb,.slice pk p.kids.length ck],.slice none 0 0] W fun e w'=>e = .returned (.tuple #[.agg #[.string ⟨#[]⟩,.string ⟨#[]⟩,.string ⟨#[]⟩,.string ⟨#[]⟩,.int .i64 0,.slice none 0 0,.slice none 0 0],.int .i64 ((namesP p []).1:Int)])∧Below W.heap.size W w'):=fun W hW=>(CN0 W hW).mono fun e w' h=>names_bad h hz
  have hzz:(((namesP p []).1:Int) == 0) = false:=by rw [beq_eq_false_iff_ne];omega
  have hz2:¬ ((namesP p []).1:Int) = 0:=by omega
  generalize ((namesP p []).1:Int) = BAD at *
  generalize p.body.length = nb at *
  generalize p.kids.length = nk at *
  clear CN0 hz hW1 hb1 kW hlow hE hH hnr hnl en hnz hsz
  go_enter Tryz.func6,Tryz.ntmps6
  go_upto_region 1 with fail
  rw [← HW1.out]
  obtain ⟨z0,z1,z2,z3,z4,z5,z6,zf⟩:=o_cells HKA.out
  go_wp2_with fail
  refine (CN1.out _ h00).mono ?_
  rintro e w2 ⟨rfl,hb2⟩
  clear z0 z1 z2 z3 z4 z5 z6 zf CN1 HW1
  have hb2V:Below W1.heap.size W1 (w2.alloc (.cells #[.string ⟨#[]⟩,.string ⟨#[]⟩,.string ⟨#[]⟩,.string ⟨#[]⟩,.int .i64 0,.slice none 0 0,.slice none 0 0] 25)):=hb2.alloc hb2.size _
  go_wp2_with fail
  refine (CR.out _ hb2V).mono ?_
  rintro e w3 ⟨rfl,hb3⟩
  have hb3':Below W1.heap.size W1 w3:=hb2V.trans (hb3.mono hb2V.size)
  clear hb3 hb2V hb2
  go_wp2_with fail
  refine (CR.out _ hb3').mono ?_
  rintro e w4 ⟨rfl,hb4⟩
  have HB:Hid (Below w.heap.size w w4):=HLOW.out _ (hb3'.trans (hb4.mono hb3'.size))
  clear hb4 hb3'
  go_wp2_with fail
  go_ret
  exact ⟨rfl,HB.out⟩
end Go.Proofs.YtbbfcbodhmeanaaGreatDoor



namespace Go.Proofs.YtbbfcbodhmeanaaGreatDoor
open Go.ChangeShapes Go.WideShapes Go.ChangeAt Go.RowKit
theorem nam_under:∃ f0 f1:Field,Tryz.prog.underlying 56 = some (.struct #[f0,f1])∧f0.offset = 0∧f1.offset = 1∧f0.type = 3∧f1.type = 9 :=
 ⟨_,_,Tryz.underlying56,rfl,rfl,rfl,rfl⟩
theorem names_open {H:Type} {enc:TypeId × Value→H} {W:World} {base:Nat} {spare:Nat→Bool} {held:Bool} {fuel:Nat} {a0:Option Addr} {len cap:Nat} {x:DataW H × List MemPlace}
  (h:DataW.trod enc Tryz.prog W base spare held fuel 48 [.slice a0 len cap] = some x) :
  ∃ l:List NM,l.length = len∧len≤cap∧cap≤maxLen∧(a0 = none→len = 0∧cap = 0)∧NRow W a0 l∧NLen l:=by
 obtain ⟨f0,f1,hu,o0,o1,t0,t1⟩:=nam_under
 rcases Go.Deep.open_slice_pairs Tryz.underlying48 hu (by kernel_rfl) o0 o1 (by rw [t0];kernel_rfl) (by rw [t1];kernel_rfl) h with ⟨hcs,_⟩ | ⟨a,l,c,m,n,V0,V1,D0,D1,P0,P1,hcs,_,hl,hm,hmm,_,hx⟩
 ·simp at hcs
  obtain ⟨rfl,rfl,rfl⟩:=hcs
  exact ⟨[],rfl,Nat.le_refl _,by decide,fun _=>⟨rfl,rfl⟩,fun h=>absurd rfl h,by decide,fun f hf=>by cases hf⟩
 ·simp at hcs
  obtain ⟨rfl,rfl,rfl⟩:=hcs
  have hlm:len≤m:=by rw [hmm];split <;> omega
  have each:∀ i,i < len→∃ f:NM,W.cell? (a.add (i * 2)) = some (.int .i64 f.1)∧W.cell? (a.add (i * 2 + 1)) = some (.string f.2)∧-9223372036854775808≤f.1∧f.1≤9223372036854775807∧f.2.size≤maxLen:=fun i hi=>by
   obtain ⟨h1,h2,h3,h4⟩:=hx i (by omega)
   rw [t0] at h3
   rw [t1] at h4
   obtain ⟨s,e1,_,s1⟩:=DataW.trod_int Tryz.underlying3 h3
   obtain ⟨t,e2,_,s2⟩:=DataW.trod_string Tryz.underlying9 h4
   simp at e1 e2
   have hs:-9223372036854775808≤s∧s≤9223372036854775807:=by
    simp only [Lit.wf,Bool.and_eq_true,decide_eq_true_eq] at s1
    exact s1
   exact ⟨(s,t),by rw [h1,e1],by rw [h2,e2],hs.1,hs.2,s2⟩
  obtain ⟨F,hF⟩:=Go.Deep.choose_lt each
  refine ⟨(List.range len).map F,by simp,hl,hm,(fun h=>by cases h),fun hne=>?_,by simp;omega,fun f hf=>?_⟩
  ·have hpos:0 < len:=by
    rcases Nat.eq_zero_or_pos len with e | e
    ·subst e;exact absurd rfl hne
    ·exact e
   obtain ⟨b,o,spot⟩:=a
   have hspot:spot = none:=by simpa [Addr.add] using World.cell?_spot (hF 0 hpos).1
   subst hspot
   refine ⟨b,o,rfl,fun i hi=>?_⟩
   have hi':i < len:=by simpa using hi
   have e1:((List.range len).map F).getD i nm0 = F i:=by simp [List.getD_eq_getElem?_getD,hi']
   have h1:=(hF i hi').1
   have h2:=(hF i hi').2.1
   rw [Addr.add_lit] at h1 h2
   rw [e1]
   exact ⟨h1,by rw [Nat.add_assoc];exact h2⟩
  ·obtain ⟨i,hi,rfl⟩:=List.mem_map.1 hf
   exact (hF i (by simpa using hi)).2.2
end Go.Proofs.YtbbfcbodhmeanaaGreatDoor



namespace Go.Proofs.YtbbfcbodhmeanaaGreatDoor
open Go.RowKit Go.Lib Go.Shelf
theorem utf8_laidL {w : World} (h3 : VarReads Tryz.prog w "unicode/utf8.first" firstData) (h4 : VarReads Tryz.prog w "unicode/utf8.acceptRanges" acceptData) : Lib.Utf8Tabs 1 2 w :=
 utf8Tabs_of_readsT (ρ:=Tryz.lays159_ren) { Tryz.lays159 with } ⟨by kernel_rfl,by kernel_rfl,by kernel_rfl,by kernel_rfl,by kernel_rfl,by kernel_rfl,by kernel_rfl⟩ h3 h4
theorem case_laidL {w : World} (h : VarReads Tryz.prog w "unicode.CaseRanges" caseData) : CaseVar 3 caseA w :=
 caseVar_of_reads (ρ:=Tryz.lays159_ren) { Tryz.lays159 with } Tryz.lays159.t206 ⟨by kernel_rfl,by kernel_rfl,by kernel_rfl,by kernel_rfl,by kernel_rfl,by kernel_rfl⟩ h
theorem lenv_laid {W : World} (h : laidMetH Tryz.prog [("unicode/utf8.acceptRanges", Rows.laid_unicode_utf8_acceptRanges), ("unicode.CaseRanges", Rows.laid_unicode_CaseRanges), ("unicode/utf8.first", Rows.laid_unicode_utf8_first)] W) (m : Int) (hm : W.cell? ⟨0, 0, none⟩ = some (.int .i64 m)) : LEnv W := by
 rw [MakeChecks.laidMetH_plain _ _ _ (by kernel_rfl)] at h
 have h1:=utf8_laidL (laidMet.reads h (List.mem_of_getElem? (i:=2) (by kernel_rfl))) (laidMet.reads h (List.mem_of_getElem? (i:=0) (by kernel_rfl)))
 have h2:=case_laidL (laidMet.reads h (List.mem_of_getElem? (i:=1) (by kernel_rfl)))
 intro W' hb
 exact ⟨⟨m,(hb.cell (p:=⟨0,0,none⟩) (World.block_lt_of_cell? W _ hm)).trans hm⟩,CaseVar_below h2 hb,Utf8Tabs_below h1 hb⟩
end Go.Proofs.YtbbfcbodhmeanaaGreatDoor



namespace Go.Proofs.YtbbfcbodhmeanaaGreatDoor
open Go.ChangeShapes Go.WideShapes Go.ChangeAt Go.RowKit
set_option linter.unusedVariables false
theorem own:ownKnob Tryz.prog.godebug = none:=by kernel_rfl
theorem laidOut:laidOutB Tryz.prog = true:=by kernel_rfl
theorem sized_of_heap {H:Type} {enc:TypeId × Value→H} {P:Program} {fn:Func} {s:OpenSpec} {apart:Bool} {w w':World} {args:Array Value} (hh:w.heap = w'.heap) (h:sizedMet enc P fn s apart w args):sizedMet enc P fn s apart w' args:=by
 obtain ⟨h1,ds,gs,before,hw,h2⟩:=h
 exact ⟨h1,ds,gs,before,DataW.Whole.of_heap hh hw,h2⟩
theorem handed_sized {H:Type} {enc:TypeId × Value→H} {a:Assume} {C:Checked} {os:Os} {f:FuncId} {fn:Func} {s:ChangeSpec} {conds:List PathCond} {apart fresh handsOn again:Bool} {X:World→Array Value→Prop}
  (hX:∀ (w w':World) (args:Array Value),w.heap = w'.heap→X w args→X w' args)
  (own:ownKnob C.prog.godebug = none) (started:os.Started) (noInit:C.prog.inits.idxOf? f = none) (hfn:C.prog.funcs[f]? = some fn)
  (witness:∃ (w:World) (tape:Tape) (i:Input),w.os = os∧(w.forCall tape i).Shaped C.prog∧i.vars = []∧Input.okWide C.prog (w.forCall tape i) .any w.heap.size f i ∧
   ((s.pre enc C.prog fn conds apart (w.forCall tape i).memory i.args∧X (w.forCall tape i).memory i.args)∧sizedMet enc C.prog fn (OpenSpec.ofChange s) apart (w.forCall tape i).memory i.args)∧a.holds C.prog (lone (Frame.enter C.prog f i.args .normal) [] (w.forCall tape i)))
  (contract:∀ (W:World) (base:Nat) (args:Array Value) (ds gs:List (DataW H)) (before:List MemPlace),
   (∀ (j:Nat) t v,fn.params[j]? = some t→args[j]? = some v→Value.okWide C.prog W .any base t v) →
   DataW.Whole enc C.prog fn.params.toList s.vars apart W args.toList ds gs before→X W args→sizedMet enc C.prog fn (OpenSpec.ofChange s) apart W args→W.ShapedOpen C.prog →
   Calls C.prog f args W fun e W'=>∃ v,e = .returned v∧s.post enc C.prog fn apart fresh handsOn again W args v W') :
  ReturnsInHanded a C os f .any (fun w args=>(s.pre enc C.prog fn conds apart w args∧X w args)∧sizedMet enc C.prog fn (OpenSpec.ofChange s) apart w args) (s.post enc C.prog fn apart fresh handsOn again):=by
 refine returnsInHanded_of_calls own started noInit witness ?_
 intro w tape i _ hsh _ hok hpre hholds
 obtain ⟨_,_,_,fn',hfn',_,_,_,_,hval⟩:=hok
 have e:fn' = fn:=Option.some.inj (hfn'.symm.trans hfn)
 subst e
 obtain ⟨⟨⟨ds,gs,before,hw,hc⟩,hx⟩,hz⟩:=hpre
 have hw':=DataW.Whole.of_heap (w':=w.forCall tape i) (by rfl) hw
 refine (contract (w.forCall tape i) w.heap.size i.args ds gs before hval hw' (hX _ _ _ (by rfl) hx) (sized_of_heap (by rfl) hz) hsh).mono fun e W' ⟨v,he,hp⟩=>?_
 subst he
 exact ChangeSpec.post_blind hp
theorem maxLen_cell {W:World} (h:W.ShapedOpen Tryz.prog):∃ m,W.cell? ⟨0,0,none⟩ = some (.int .i64 m) :=
 cell_of_shapedOpen_int (P:=Tryz.prog) (g:=0) (t:=3) (zero:=#[.int .i64 0]) h (of_decide_eq_true (by kernel_rfl)) (by kernel_rfl) rfl (by kernel_rfl) (by kernel_rfl) Tryz.underlying3
end Go.Proofs.YtbbfcbodhmeanaaGreatDoor


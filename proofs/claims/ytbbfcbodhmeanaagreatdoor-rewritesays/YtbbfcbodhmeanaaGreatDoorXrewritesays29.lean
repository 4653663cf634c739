
import Derived.Test.YtbbfcbodhmeanaaGreatDoorXrewritesays28
import Derived.Test.YtbbfcbodhmeanaaGreatDoorXrewritesays16
namespace Go.Proofs.YtbbfcbodhmeanaaGreatDoor
open Go.RowKit
def ShelvePost (w:World) (r:Nat × List (PT × Int)) (e:Ending) (w':World):Prop :=
 Below w.heap.size w w'∧(r.1 ≠ 0→e = .returned (.tuple #[.pointer none,.int .i64 (r.1:Int)])) ∧
 (r.1 = 0→∃ g q c,e = .returned (.tuple #[.pointer (some ⟨g,0,none⟩),.int .i64 0])∧w.heap.size≤g∧SAt w' g q c (r.2.map fun x=>x.1.alone) (whereP r.2))
theorem alone_get (l:List (PT × Int)) (k:Nat) (hk:k < l.length):(l.map fun x=>x.1.alone).getD k pt0 = (l.getD k (pt0,0)).1.alone:=by
 simp [List.getD_eq_getElem?_getD,List.getElem?_eq_getElem hk]
theorem in_get (l:List (PT × Int)) (k:Nat) (hk:k < l.length):(l.map (·.2)).getD k 0 = (l.getD k (pt0,0)).2:=by
 simp [List.getD_eq_getElem?_getD,List.getElem?_eq_getElem hk]
theorem sh0 (i:Nat) (hi:i < 12) (q:Option Addr) (n c:Nat):(#[Value.slice q n c,.string ⟨#[]⟩,.string ⟨#[]⟩,.string ⟨#[]⟩,.string ⟨#[]⟩,.string ⟨#[]⟩,.string ⟨#[]⟩,.string ⟨#[]⟩,.string ⟨#[]⟩,.string ⟨#[]⟩,.string ⟨#[]⟩,.string ⟨#[]⟩,.string ⟨#[]⟩]:Array Value)[1 + i]? = some (.string (tx8 ((whereP ([]:List (PT × Int))).getD i []))):=by
 match i,hi with
 | 0,_=>rfl
 | 1,_=>rfl
 | 2,_=>rfl
 | 3,_=>rfl
 | 4,_=>rfl
 | 5,_=>rfl
 | 6,_=>rfl
 | 7,_=>rfl
 | 8,_=>rfl
 | 9,_=>rfl
 | 10,_=>rfl
 | 11,_=>rfl
theorem chkA_loc {p:PT} (h:chkA p = 0):p.loc.data.toList.length≤120:=by
 unfold chkA at h
 split at h
 ·cases h
 ·rename_i h1
  have:textsOk p = true:=by simpa using h1
  unfold textsOk at this
  rw [Bool.and_eq_true] at this
  have h2:=this.2
  unfold wordS at h2
  rw [Bool.and_eq_true] at h2
  exact of_decide_eq_true h2.1
set_option maxHeartbeats 8000000 in
set_option maxRecDepth 100000 in
theorem shelve_any (p:PT) (pb:Option Addr) (cb:Nat) (pk:Option Addr) (ck F:Nat) (w:World) (hM:MaxAt w) (hH:PHeld w F p pb cb pk ck) :
  Calls Tryz.prog 39 #[.agg #[.string p.ty,.string p.cs,.string p.id,.string p.loc,.int .i64 p.how,.slice pb p.body.length cb,.slice pk p.kids.length ck]] w fun e w'=>ShelvePost w (placesP p) e w':=by
 have CA:Hid (∀ W,Below w.heap.size w W→Calls Tryz.prog 33 #[.agg #[.string p.ty,.string p.cs,.string p.id,.string p.loc,.int .i64 p.how,.slice pb p.body.length cb,.slice pk p.kids.length ck]] W fun e w'=>AllPost W (placesP p) e w'):=fun W hb=>all_any p pb cb pk ck F W (hH.below hb)
 have CI:Hid (∀ W,Below w.heap.size w W→Calls Tryz.prog 79 #[.agg #[.string p.ty,.string p.cs,.string p.id,.string p.loc,.int .i64 p.how,.slice pb p.body.length cb,.slice pk p.kids.length ck]] W fun e w'=>WithinPost W (placesP p) e w'):=fun W hb=>within_any p pb cb pk ck F W (hH.below hb)
 have HM:Hid (∀ W,Below w.heap.size w W→MaxAt W):=fun W hb=>hM.below hb
 have h12:=placesP_few p
 have HIN:Hid (∀ x ∈ (placesP p).2,x.2 < 12):=places_in p
 have HCK:Hid (∀ x ∈ (placesP p).2,chkA x.1 = 0):=placesP_each p
 generalize placesP p = R at *
 clear hM hH
 obtain ⟨W1,hW1⟩:∃ W,W = w.alloc (.cells #[.string p.ty,.string p.cs,.string p.id,.string p.loc,.int .i64 p.how,.slice pb p.body.length cb,.slice pk p.kids.length ck] 25):=⟨_,rfl⟩
 have hb1:Below w.heap.size w W1:=by rw [hW1];exact (Below.refl _ _).alloc (Nat.le_refl _) _
 have hk1:W1.heap[w.heap.size]? = some (.cells #[.string p.ty,.string p.cs,.string p.id,.string p.loc,.int .i64 p.how,.slice pb p.body.length cb,.slice pk p.kids.length ck] 25):=by rw [hW1];exact blk_new _ _
 generalize p.body.length = nb at *
 generalize p.kids.length = nk at *
 generalize p.how = hw at *
 go_enter Tryz.func39,Tryz.ntmps39
 go_wp2_with fail
 rw [← hW1]
 clear hW1
 refine (CA.out _ hb1).mono ?_
 rintro e w2 ⟨hb2,hno,hok⟩
 have hbe2:Below w.heap.size w w2:=hb1.trans (hb2.mono hb1.size)
 have hk2:=blk_on hk1 hb2
 clear hb2 hk1 hb1 CA
 by_cases h0:R.1 = 0
 ·obtain ⟨q,c,rfl,hc1,hc2,hc3,hkt⟩:=hok h0
  clear hno hok
  have d0:w2.cell? ⟨w.heap.size,0,none⟩ = some (.string p.ty):=(blk_c hk2 0).trans rfl
  have d1:w2.cell? ⟨w.heap.size,1,none⟩ = some (.string p.cs):=(blk_c hk2 1).trans rfl
  have d2:w2.cell? ⟨w.heap.size,2,none⟩ = some (.string p.id):=(blk_c hk2 2).trans rfl
  have d3:w2.cell? ⟨w.heap.size,3,none⟩ = some (.string p.loc):=(blk_c hk2 3).trans rfl
  have d4:w2.cell? ⟨w.heap.size,4,none⟩ = some (.int .i64 hw):=(blk_c hk2 4).trans rfl
  have d5:w2.cell? ⟨w.heap.size,5,none⟩ = some (.slice pb nb cb):=(blk_c hk2 5).trans rfl
  have d6:w2.cell? ⟨w.heap.size,6,none⟩ = some (.slice pk nk ck):=(blk_c hk2 6).trans rfl
  go_wp2_with fail
  refine (CI.out _ hbe2).mono ?_
  rintro e w3 ⟨hb3,hno,hok⟩
  obtain ⟨qi,ci,rfl,hi1,hi2,hi3,hir⟩:=hok h0
  have hbe3:Below w.heap.size w w3:=hbe2.trans (hb3.mono hbe2.size)
  have HK3:Hid (KAt w3 1 q (R.2.map fun x=>x.1.alone)):=KAt.below hb3 _ _ _ hkt
  have HI3:Hid (IRow w3 qi (R.2.map (·.2))):=hir
  clear hno hok CI hk2 hb3 hbe2 hkt hir d0 d1 d2 d3 d4 d5 d6
  obtain ⟨n,hn⟩:∃ n,R.2.length = n:=⟨_,rfl⟩
  have HN:Hid (R.2.length = n):=hn
  rw [hn] at h12 hc1 hi1 ⊢
  have HR:Hid (R.1 = 0):=h0
  clear hn h0
  go_wp2_with fail
  go_loopw [31] (fun iv wr=>∃ k:Nat,k≤n∧iv = .int .i64 k∧Below w3.heap.size w3 wr∧Hid (ShB wr w3.heap.size q n c (whereP (R.2.take k)))) (fun iv _=>n - (intOf iv).toNat)
  case atStart=>exact ⟨0,Nat.zero_le _,rfl,(Below.refl _ _).alloc (Nat.le_refl _) _,⟨_,blk_new _ _,rfl,rfl,fun i hi=>sh0 i hi q n c⟩⟩
  case round =>
   obtain ⟨k,hk,rfl,hbr,HB⟩:=hrel
   have hsz:=hbr.size
   by_cases hlt:k < n
   ·have hlz:(k:Int) < (n:Int):=by omega
    have hkl:k < R.2.length:=by rw [HN.out];exact hlt
    obtain ⟨b,o,rfl,hparts⟩:=KAt.each (KAt.below hbr _ _ _ HK3.out) (fun e=>by have h:=congrArg List.length e;rw [List.length_map,List.length_nil] at h;omega)
    obtain ⟨xb,xcb,xk,xck,⟨c0,c1,c2,c3,c4,c5,c6⟩,-⟩:=hparts k (by rw [List.length_map];exact hkl)
    rw [alone_get R.2 k hkl] at c0 c1 c2 c3 c4 c5 c6
    obtain ⟨bi,oi,rfl,hcs⟩:=HI3.out (fun e=>by have h:=congrArg List.length e;rw [List.length_map,List.length_nil] at h;omega)
    have hin:=hcs k (by rw [List.length_map];exact hkl)
    rw [in_get R.2 k hkl] at hin
    have hbil:bi < w3.heap.size:=World.block_lt_of_cell? w3 _ hin
    have hin12:(R.2.getD k (pt0,0)).2 < 12:=HIN.out _ (by rw [List.getD_eq_getElem?_getD,List.getElem?_eq_getElem hkl];exact List.getElem_mem hkl)
    have hloc:(R.2.getD k (pt0,0)).1.loc.size≤120:=by
     have h:=HCK.out _ (show R.2.getD k (pt0,0) ∈ R.2 by rw [List.getD_eq_getElem?_getD,List.getElem?_eq_getElem hkl];exact List.getElem_mem hkl)
     have h2:=chkA_loc h
     rw [Lib.size_eq];exact h2
    have HT:Hid (whereP (R.2.take (k + 1)) = whereP (R.2.take k) ++ [stepW (whereP (R.2.take k)) (R.2.getD k (pt0,0))]):=where_take R.2 k hkl
    have HWL:Hid ((whereP (R.2.take k)).length = k):=where_len R.2 k (by omega)
    have HSH:Hid (∀ x ∈ whereP (R.2.take k),x.length≤120):=whereP_each _
    clear hparts hcs hkl
    generalize whereP (R.2.take k) = wh at *
    have HST:Hid (stepW wh (R.2.getD k (pt0,0)) = if (R.2.getD k (pt0,0)).1.loc.data.toList = [] then fromW wh (R.2.getD k (pt0,0)).2 else ledU (fromW wh (R.2.getD k (pt0,0)).2) (R.2.getD k (pt0,0)).1.loc.data.toList):=rfl
    generalize stepW wh (R.2.getD k (pt0,0)) = ST at *
    have e0:(R.2.getD k (pt0,0)).1.alone.loc = (R.2.getD k (pt0,0)).1.loc:=rfl
    rw [e0] at c3
    clear e0
    generalize (R.2.getD k (pt0,0)).2 = inn at *
    generalize (R.2.getD k (pt0,0)).1.alone.ty = xty at *
    generalize (R.2.getD k (pt0,0)).1.alone.cs = xcs at *
    generalize (R.2.getD k (pt0,0)).1.alone.id = xid at *
    generalize (R.2.getD k (pt0,0)).1.alone.how = xhow at *
    generalize (R.2.getD k (pt0,0)).1.alone.body.length = xnb at *
    generalize (R.2.getD k (pt0,0)).1.alone.kids.length = xnk at *
    generalize (R.2.getD k (pt0,0)).1.loc = LO at *
    obtain ⟨Wa,hWa⟩:∃ W,W = wr.alloc (.cells #[.string xty,.string xcs,.string xid,.string LO,.int .i64 xhow,.slice xb xnb xcb,.slice xk xnk xck] 25):=⟨_,rfl⟩
    have hba:Below wr.heap.size wr Wa:=by rw [hWa];exact (Below.refl _ _).alloc (Nat.le_refl _) _
    have hkx:Wa.heap[wr.heap.size]? = some (.cells #[.string xty,.string xcs,.string xid,.string LO,.int .i64 xhow,.slice xb xnb xcb,.slice xk xnk xck] 25):=by rw [hWa];exact blk_new _ _
    have hb3a:Below w3.heap.size w3 Wa:=hbr.trans (hba.mono hbr.size)
    have HBa:Hid (ShB Wa w3.heap.size (some ⟨b,o,none⟩) n c wh):=HB.out.below hba
    have HKa:Hid (KAt Wa 1 (some ⟨b,o,none⟩) (R.2.map fun x=>x.1.alone)):=KAt.below hb3a _ _ _ HK3.out
    have hgl:w3.heap.size < Wa.heap.size:=by have:=hba.size;have h2:=(Array.getElem?_eq_some_iff.1 hkx).1;omega
    have hgx:w3.heap.size < wr.heap.size:=by
     obtain ⟨cs,h1,-⟩:=HB.out
     exact (Array.getElem?_eq_some_iff.1 h1).1
    go_upto_region 11 with fail
    rw [← hWa]
    clear hWa hba c0 c1 c2 c3 c4 c5 c6 HB
    have hbe3a:Below w.heap.size w Wa:=hbe3.trans (hb3a.mono hbe3.size)
    have k1:∀ w',Below Wa.heap.size Wa w'→w'.cell? ⟨bi,oi + k,none⟩ = some (.int .i64 inn):=fun w' hb=>(hb.cell (p:=⟨bi,oi + k,none⟩) (by show bi < Wa.heap.size;have:=hb3a.size;omega)).trans ((hb3a.cell (p:=⟨bi,oi + k,none⟩) hbil).trans hin)
    have k2:∀ w',Below Wa.heap.size Wa w'→w'.cell? ⟨w3.heap.size,1 + k,none⟩ = some (.string (tx8 (wh.getD k []))):=fun w' hb=>((HBa.out.below hb).text k (by omega)).1
    have k3:∀ w',Below Wa.heap.size Wa w'→w'.frozen? ⟨w3.heap.size,1 + k,none⟩ = false:=fun w' hb=>((HBa.out.below hb).text k (by omega)).2
    have CF:Hid (∀ W,Below Wa.heap.size Wa W→Calls Tryz.prog 41 #[.pointer (some ⟨w3.heap.size,0,none⟩),.int .i64 inn] W fun e w'=>e = .returned (.string (tx8 (fromW wh inn)))∧w' = W):=fun W hb=>from_any inn hin12 W w3.heap.size (some ⟨b,o,none⟩) c (R.2.map fun x=>x.1.alone) wh (ShB.at (by rw [List.length_map,HN.out];exact HBa.out.below hb) (by rw [List.length_map,HN.out];exact h12) (by rw [List.length_map,HN.out];exact ⟨hc1,hc2⟩) (KAt.below hb _ _ _ HKa.out) HSH.out)
    have hk12:(k:Int) < 12:=by omega
    have hk0:(0:Int)≤(k:Int):=by omega
    have hb0:Below Wa.heap.size Wa Wa:=Below.refl _ _
    have kS:Wa.cell? ⟨bi,oi + k,none⟩ = some (.int .i64 inn):=k1 Wa hb0
    have hset:∀ (w':World) (v:Value),w'.cell? ⟨bi,oi + k,none⟩ = some (.int .i64 inn)→(w'.setCell ⟨w3.heap.size,1 + k,none⟩ v).cell? ⟨bi,oi + k,none⟩ = some (.int .i64 inn):=fun w' v h=>by
     rw [World.cell?_setCell_other _ _ _ _ (fun e=>by have h9:=congrArg Addr.block e;simp only at h9;omega)]
     exact h
    have z2:=k2 Wa hb0
    have z3:=k3 Wa hb0
    clear k1 k2 k3
    go_region_held3 (fun w'=>w'.cell? ⟨bi,oi + k,none⟩ = some (.int .i64 inn)) (first | exact kS | exact hset _ _ kS) (first
     | (go_at_call 41;refine (CF.out _ hb0.drew).mono ?_;rintro e w4 ⟨rfl,hw4⟩;have hw5:=hw4.symm;subst hw5))
    obtain ⟨Wb,hWb⟩:∃ W,W = (Wa.setCell ⟨w3.heap.size,1 + k,none⟩ (.string (tx8 (fromW wh inn)))).drew:=⟨_,rfl⟩
    have hb3b:Below w3.heap.size w3 Wb:=by rw [hWb];exact (hb3a.setCell (p:=⟨w3.heap.size,1 + k,none⟩) (Nat.le_refl _) _).drew
    have HBb:Hid (ShB Wb w3.heap.size (some ⟨b,o,none⟩) n c (wh ++ [fromW wh inn])):=by
     rw [hWb]
     exact ShB.set HBa.out k (by omega) (fromW wh inn) (fun i hi=>by rw [getD_snoc,HWL.out])
    have hkb:Wb.heap[wr.heap.size]? = some (.cells #[.string xty,.string xcs,.string xid,.string LO,.int .i64 xhow,.slice xb xnb xcb,.slice xk xnk xck] 25):=by
     rw [hWb]
     show (Wa.setCell ⟨w3.heap.size,1 + k,none⟩ (.string (tx8 (fromW wh inn)))).heap[wr.heap.size]? = _
     rw [Below.heap_setCell _ _ _ _ (by show wr.heap.size ≠ w3.heap.size;omega)]
     exact hkx
    have e3:Wb.cell? ⟨wr.heap.size,3,none⟩ = some (.string LO):=(blk_c hkb 3).trans rfl
    have hbeb:Below w.heap.size w Wb:=hbe3.trans (hb3b.mono hbe3.size)
    have hWb':(Wa.setCell ⟨w3.heap.size,1 + k,none⟩ (.string (tx8 (fromW wh inn)))).drew = Wb:=hWb.symm
    rw [hWb']
    clear hWb hWb' kS hset z2 z3 CF hkx HBa HKa hb0 hbe3a hb3a hgl hin hbil hin12
    by_cases hl:LO.data.toList = []
    ·have hE:LO.toList.isEmpty = true:=by rw [ByteArray.toList_eq,hl];rfl
     have HX:Hid (ShB Wb w3.heap.size (some ⟨b,o,none⟩) n c (whereP (R.2.take (k + 1)))):=by unfold Hid;rw [HT.out,HST.out,if_pos hl];exact HBb.out
     clear HT HST HBb hl
     go_wp2_with fail
     go_roundw
     case rel=>exact ⟨k + 1,by omega,by go_num,hb3b,HX⟩
     case measure=>simp [intOf];omega
    ·have hE:LO.toList.isEmpty = false:=by rw [ByteArray.toList_eq];simpa using hl
     have hfl:(fromW wh inn).length≤120:=fromW_len wh HSH.out inn
     have CL:Hid (∀ W,Below w.heap.size w W→Calls Tryz.prog 12 #[.string (tx8 (fromW wh inn)),.string LO] W fun e w'=>e = .returned (.string (tx8 (ledU (fromW wh inn) LO.data.toList)))∧Below W.heap.size W w'):=fun W hW=>bled_any _ _ (by rw [tx8_size];unfold maxLen;omega) (by unfold maxLen;omega) W (HM.out W hW)
     have hts:=HBb.out.text k (by omega)
     rw [getD_snoc,HWL.out,if_pos rfl] at hts
     have HX:Hid (∀ W',ShB W' w3.heap.size (some ⟨b,o,none⟩) n c (wh ++ [fromW wh inn])→ShB (W'.setCell ⟨w3.heap.size,1 + k,none⟩ (.string (tx8 (ledU (fromW wh inn) LO.data.toList)))) w3.heap.size (some ⟨b,o,none⟩) n c (whereP (R.2.take (k + 1)))):=fun W' h=>by
      rw [HT.out,HST.out,if_neg hl]
      refine ShB.set h k (by omega) _ (fun i hi=>?_)
      rw [getD_snoc,getD_snoc,HWL.out]
      by_cases e:i = k
      ·rw [if_pos e,if_pos e]
      ·rw [if_neg e,if_neg e,if_neg e]
     clear HT HST hl
     generalize ledU (fromW wh inn) LO.data.toList = LE at *
     generalize fromW wh inn = FR at *
     obtain ⟨t1,t2⟩:=hts
     have hset:∀ (w':World) (v:Value),w'.cell? ⟨wr.heap.size,3,none⟩ = some (.string LO)→(w'.setCell ⟨w3.heap.size,1 + k,none⟩ v).cell? ⟨wr.heap.size,3,none⟩ = some (.string LO):=fun w' v h=>by
      rw [World.cell?_setCell_other _ _ _ _ (fun e=>by have h9:=congrArg Addr.block e;simp only at h9;omega)]
      exact h
     have hwl:wr.heap.size < Wb.heap.size:=(Array.getElem?_eq_some_iff.1 hkb).1
     have hb0:Below Wb.heap.size Wb Wb:=Below.refl _ _
     go_wp2_with fail
     go_region_with (first
      | (go_at_call 12;refine (CL.out _ hbeb.drew).mono ?_;rintro e w6 ⟨rfl,hb6⟩;have hb6':Below Wb.heap.size Wb w6:=(hb0.drew).trans (hb6.mono (Nat.le_refl _));have HB6:Hid (ShB w6 w3.heap.size (some ⟨b,o,none⟩) n c (wh ++ [FR])):=HBb.out.below hb6';have hb36:Below w3.heap.size w3 w6:=hb3b.trans (hb6'.mono hb3b.size);have s1:=(hb6'.cell (p:=⟨w3.heap.size,1 + k,none⟩) (by show w3.heap.size < Wb.heap.size;omega)).trans t1;have s2:=(HB6.out.text k (by omega)).2;clear hb6))
     all_goals (
      obtain ⟨Wc,hWc⟩:∃ W,W = w6.setCell ⟨w3.heap.size,1 + k,none⟩ (.string (tx8 LE)):=⟨_,rfl⟩
      have hb3c:Below w3.heap.size w3 Wc:=by rw [hWc];exact hb36.setCell (p:=⟨w3.heap.size,1 + k,none⟩) (Nat.le_refl _) _
      have HC:Hid (ShB Wc w3.heap.size (some ⟨b,o,none⟩) n c (whereP (R.2.take (k + 1)))):=by unfold Hid;rw [hWc];exact HX.out w6 HB6.out
      rw [← hWc]
      clear hWc HB6 HX HBb CL e3 s1 s2 t1 t2 hset
      go_wp2_with fail
      go_roundw
      case rel=>exact ⟨k + 1,by omega,by go_num,hb3c,HC⟩
      case measure=>simp [intOf];omega)
   ·obtain rfl:k = n:=by omega
    have hlz:¬ (k:Int) < (k:Int):=by omega
    go_wp2_with fail
    go_ret2
    refine ⟨hbe3.trans (hbr.mono hbe3.size),fun h=>absurd HR.out h,fun _=>⟨w3.heap.size,q,c,rfl,hbe3.size,?_⟩⟩
    have hB:=HB.out
    rw [List.take_of_length_le (by rw [HN.out];omega)] at hB
    exact ShB.at (by rw [List.length_map,HN.out];exact hB) (by rw [List.length_map,HN.out];exact h12) (by rw [List.length_map,HN.out];exact ⟨hc1,hc2⟩) (KAt.below hbr _ _ _ HK3.out) (whereP_each _)
 ·obtain rfl:=hno h0
  clear hok CI
  have hz:((R.1:Int) == 0) = false:=by rw [beq_eq_false_iff_ne];omega
  have HR:Hid (R.1 ≠ 0):=h0
  clear h0 hno
  go_wp2_with fail
  go_ret2
  exact ⟨hbe2,fun _=>rfl,fun h=>absurd h HR.out⟩
end Go.Proofs.YtbbfcbodhmeanaaGreatDoor



namespace Go.Proofs.YtbbfcbodhmeanaaGreatDoor
open Go.RowKit
def wtv (wh:List (List UInt8)):List Value:=wh.map fun t=>.string (tx8 t)
end Go.Proofs.YtbbfcbodhmeanaaGreatDoor



namespace Go.Proofs.YtbbfcbodhmeanaaGreatDoor
open Go.RowKit
theorem cutcid_no (Y:List UInt8) (h:Lib.hasPrefix Y cidS = false) (w:World):Calls Tryz.prog 81 #[.string (tx8 Y),.string ⟨#[99,105,100,58]⟩] w fun e w'=>e = .returned (.tuple #[.string (tx8 Y),.bool false])∧w' = w:=by
 refine (Tryz.strings_CutPrefix (tx8 Y) ⟨#[99,105,100,58]⟩ w).mono ?_
 rintro e w' ⟨rfl,rfl⟩
 refine ⟨?_,rfl⟩
 have e1:Lib.hasPrefix (tx8 Y).data.toList (ByteArray.mk #[99,105,100,58]).data.toList = false:=h
 rw [show Lib.trimPrefix (tx8 Y).data.toList (ByteArray.mk #[99,105,100,58]).data.toList = Y from by unfold Lib.trimPrefix;rw [e1];rfl,e1]
 rfl
theorem cutcid_yes (Y:List UInt8) (h:Lib.hasPrefix Y cidS = true) (w:World):Calls Tryz.prog 81 #[.string (tx8 Y),.string ⟨#[99,105,100,58]⟩] w fun e w'=>e = .returned (.tuple #[.string (tx8 (Y.drop 4)),.bool true])∧w' = w:=by
 refine (Tryz.strings_CutPrefix (tx8 Y) ⟨#[99,105,100,58]⟩ w).mono ?_
 rintro e w' ⟨rfl,rfl⟩
 refine ⟨?_,rfl⟩
 have e1:Lib.hasPrefix (tx8 Y).data.toList (ByteArray.mk #[99,105,100,58]).data.toList = true:=h
 rw [show Lib.trimPrefix (tx8 Y).data.toList (ByteArray.mk #[99,105,100,58]).data.toList = Y.drop 4 from by unfold Lib.trimPrefix;rw [e1];rfl,e1]
 rfl
set_option maxHeartbeats 4000000 in
set_option maxRecDepth 100000 in
theorem bfind_any (tg:List UInt8) (htg:tg.length≤120) (w:World) (g:Nat) (q:Option Addr) (c:Nat) (L:List PT) (wh:List (List UInt8)) (h:SAt w g q c L wh) :
  Calls Tryz.prog 42 #[.pointer (some ⟨g,0,none⟩),.string (tx8 tg)] w fun e w'=>e = .returned (.int .i64 (findW L wh tg))∧Below w.heap.size w w':=by
 have HE:=tx8_empty tg
 by_cases he:tg = []
 ·have HX:Hid (findW L wh tg = -1):=by unfold Hid findW;rw [if_pos he]
  have hE:(tx8 tg).toList.isEmpty = true:=by rw [HE,he];rfl
  clear HE he
  go_enter Tryz.func42,Tryz.ntmps42
  go_wp2_with fail
  go_ret
  exact ⟨by rw [HX.out];rfl,((Below.refl _ _).alloc (Nat.le_refl _) _).alloc (by simp) _⟩
 ·have hE:(tx8 tg).toList.isEmpty = false:=by rw [HE];simpa using he
  have HX:Hid (findW L wh tg = if Lib.hasPrefix (noFr tg) cidS = true then firstP (okID ((noFr tg).drop 4)) 0 L else firstP (okLoc wh (noFr tg)) 0 L):=by unfold Hid findW;rw [if_neg he]
  have CF:Hid (∀ W,Calls Tryz.prog 80 #[.string (tx8 tg)] W fun e w'=>e = .returned (.string (tx8 (noFr tg)))∧Below W.heap.size W w'):=fun W=>bfrag_any _ (by rw [tx8_size];unfold maxLen;omega) W
  have HS:Hid (SAt w g q c L wh):=h
  clear HE he h
  generalize findW L wh tg = R at *
  generalize noFr tg = T at *
  obtain ⟨W1,hW1⟩:∃ W,W = (w.alloc (.cells #[.pointer (some ⟨g,0,none⟩)] 71)).alloc (.cells #[.string (tx8 tg)] 9):=⟨_,rfl⟩
  have hb1:Below w.heap.size w W1:=by rw [hW1];exact ((Below.refl _ _).alloc (Nat.le_refl _) _).alloc (by simp) _
  have hz1:W1.heap.size = w.heap.size + 2:=by rw [hW1];simp
  have k0:W1.heap[w.heap.size]? = some (.cells #[.pointer (some ⟨g,0,none⟩)] 71):=by rw [hW1];exact blk_on (blk_new w _) ((Below.refl _ _).alloc (Nat.le_refl _) _)
  have k1:W1.heap[w.heap.size + 1]? = some (.cells #[.string (tx8 tg)] 9):=by rw [hW1];have:=blk_new (w.alloc (.cells #[.pointer (some ⟨g,0,none⟩)] 71)) (.cells #[.string (tx8 tg)] 9);rw [World.size_alloc] at this;exact this
  go_enter Tryz.func42,Tryz.ntmps42
  go_wp2_with fail
  rw [← hW1]
  clear hW1
  refine (CF.out _).mono ?_
  rintro e W2 ⟨rfl,hb2⟩
  clear CF
  have k2:=blk_on k0 hb2
  have k3:=blk_on k1 hb2
  have hbe2:Below w.heap.size w W2:=hb1.trans (hb2.mono hb1.size)
  have hz2:=hb2.size
  rw [hz1] at hz2
  clear hb2 k0 k1 hb1 hz1
  have f3:=blk_f k3
  have c3:W2.cell? ⟨w.heap.size + 1,0,none⟩ = some (.string (tx8 tg)):=(blk_c k3 0).trans rfl
  obtain ⟨W3,hW3⟩:∃ W,W = W2.setCell ⟨w.heap.size + 1,0,none⟩ (.string (tx8 T)):=⟨_,rfl⟩
  have hbe3:Below w.heap.size w W3:=by rw [hW3];exact hbe2.setCell (p:=⟨w.heap.size + 1,0,none⟩) (by simp) _
  have k4:W3.heap[w.heap.size]? = some (.cells #[.pointer (some ⟨g,0,none⟩)] 71):=by rw [hW3,Below.heap_setCell _ _ _ _ (by simp)];exact k2
  have k5:W3.heap[w.heap.size + 1]? = some (.cells #[.string (tx8 T)] 9):=by rw [hW3];exact set_same k3 _
  have hz3:w.heap.size + 2≤W3.heap.size:=by rw [hW3];simp [World.setCell];omega
  clear hz2
  cases hp:Lib.hasPrefix T cidS with
  | true =>
   have CC:Hid (∀ W,Calls Tryz.prog 81 #[.string (tx8 T),.string ⟨#[99,105,100,58]⟩] W fun e w'=>e = .returned (.tuple #[.string (tx8 (T.drop 4)),.bool true])∧w' = W):=fun W=>cutcid_yes T hp W
   have HX2:Hid (R = firstP (okID (T.drop 4)) 0 L):=by unfold Hid;rw [HX.out,hp,if_pos rfl]
   have HF:Hid (∀ (W:World) (i0:Nat),Below w.heap.size w W→W.cell? ⟨w.heap.size,0,none⟩ = some (.pointer (some ⟨g,0,none⟩))→W.cell? ⟨i0,0,none⟩ = some (.string (tx8 (T.drop 4)))→Calls Tryz.prog 82 #[.pointer (some ⟨g,0,none⟩),.func (Fn.func 83) #[] #[.pointer (some ⟨w.heap.size,0,none⟩),.pointer (some ⟨i0,0,none⟩)]] W fun e w'=>e = .returned (.int .i64 (firstP (okID (T.drop 4)) 0 L))∧Below W.heap.size W w'):=fun W i0 hW h1 h2 =>
    first_any _ _ _ W g q c L wh (HS.out.below hW) (fun args W=>by kernel_rfl) (fun k W' hk hb=>(ok1_any k W' g q c L wh hk ((HS.out.below hW).below hb) w.heap.size i0 _ ((hb.cell (p:=⟨w.heap.size,0,none⟩) (World.block_lt_of_cell? W _ h1)).trans h1) ((hb.cell (p:=⟨i0,0,none⟩) (World.block_lt_of_cell? W _ h2)).trans h2)).mono (by rintro e w' ⟨rfl,m,rfl⟩;exact ⟨rfl,below_drewN' (Below.refl _ _) m⟩))
   clear HX HS
   go_wp2_with fail
   rw [← hW3]
   clear hW3 k2 k3 c3 f3 hbe2
   have c5:W3.cell? ⟨w.heap.size + 1,0,none⟩ = some (.string (tx8 T)):=(blk_c k5 0).trans rfl
   have c4:W3.cell? ⟨w.heap.size,0,none⟩ = some (.pointer (some ⟨g,0,none⟩)):=(blk_c k4 0).trans rfl
   refine (CC.out _).mono ?_
   rintro e w1 ⟨rfl,rfl⟩
   clear CC
   have hn4:w.heap.size < w1.heap.size:=by omega
   go_upto_region 5 with fail
   obtain ⟨W4,hW4⟩:∃ W,W = w1.alloc (.cells #[.string (tx8 (T.drop 4))] 9):=⟨_,rfl⟩
   rw [← hW4]
   have c6:W4.cell? ⟨w.heap.size,0,none⟩ = some (.pointer (some ⟨g,0,none⟩)):=by rw [hW4];exact (((Below.refl _ w1).alloc (Nat.le_refl _) _).cell (p:=⟨w.heap.size,0,none⟩) hn4).trans c4
   have c7:W4.cell? ⟨w1.heap.size,0,none⟩ = some (.string (tx8 (T.drop 4))):=by rw [hW4];simp
   have hbe4:Below w.heap.size w W4:=by rw [hW4];exact hbe3.alloc hbe3.size _
   clear hW4 hbe3 c4 c5 k4 k5
   go_wp2_with fail
   refine (HF.out _ w1.heap.size hbe4 c6 c7).mono ?_
   rintro e w9 ⟨rfl,hb9⟩
   have hbe9:Below w.heap.size w w9:=hbe4.trans (hb9.mono hbe4.size)
   clear HF hb9
   go_wp2_with fail
   go_ret
   exact ⟨by rw [HX2.out];rfl,hbe9⟩
  | false =>
   have CC:Hid (∀ W,Calls Tryz.prog 81 #[.string (tx8 T),.string ⟨#[99,105,100,58]⟩] W fun e w'=>e = .returned (.tuple #[.string (tx8 T),.bool false])∧w' = W):=fun W=>cutcid_no T hp W
   have HX2:Hid (R = firstP (okLoc wh T) 0 L):=by unfold Hid;rw [HX.out,hp,if_neg (by decide)]
   have HF:Hid (∀ (W:World),Below w.heap.size w W→W.cell? ⟨w.heap.size,0,none⟩ = some (.pointer (some ⟨g,0,none⟩))→W.cell? ⟨w.heap.size + 1,0,none⟩ = some (.string (tx8 T))→Calls Tryz.prog 82 #[.pointer (some ⟨g,0,none⟩),.func (Fn.func 84) #[] #[.pointer (some ⟨w.heap.size,0,none⟩),.pointer (some ⟨w.heap.size + 1,0,none⟩)]] W fun e w'=>e = .returned (.int .i64 (firstP (okLoc wh T) 0 L))∧Below W.heap.size W w'):=fun W hW h1 h2 =>
    first_any _ _ _ W g q c L wh (HS.out.below hW) (fun args W=>by kernel_rfl) (fun k W' hk hb=>ok2_any k W' g q c L wh hk ((HS.out.below hW).below hb) w.heap.size (w.heap.size + 1) _ ((hb.cell (p:=⟨w.heap.size,0,none⟩) (World.block_lt_of_cell? W _ h1)).trans h1) ((hb.cell (p:=⟨w.heap.size + 1,0,none⟩) (World.block_lt_of_cell? W _ h2)).trans h2))
   clear HX HS
   go_wp2_with fail
   rw [← hW3]
   clear hW3 k2 k3 c3 f3 hbe2
   have c5:W3.cell? ⟨w.heap.size + 1,0,none⟩ = some (.string (tx8 T)):=(blk_c k5 0).trans rfl
   have c4:W3.cell? ⟨w.heap.size,0,none⟩ = some (.pointer (some ⟨g,0,none⟩)):=(blk_c k4 0).trans rfl
   refine (CC.out _).mono ?_
   rintro e w1 ⟨rfl,rfl⟩
   clear CC
   have hn4:w.heap.size < w1.heap.size:=by omega
   have hn6:w.heap.size + 1 < w1.heap.size:=by omega
   go_upto_region 5 with fail
   obtain ⟨W4,hW4⟩:∃ W,W = w1.alloc (.cells #[.string (tx8 T)] 9):=⟨_,rfl⟩
   rw [← hW4]
   have c6:W4.cell? ⟨w.heap.size,0,none⟩ = some (.pointer (some ⟨g,0,none⟩)):=by rw [hW4];exact (((Below.refl _ w1).alloc (Nat.le_refl _) _).cell (p:=⟨w.heap.size,0,none⟩) hn4).trans c4
   have c7:W4.cell? ⟨w.heap.size + 1,0,none⟩ = some (.string (tx8 T)):=by rw [hW4];exact (((Below.refl _ w1).alloc (Nat.le_refl _) _).cell (p:=⟨w.heap.size + 1,0,none⟩) hn6).trans c5
   have hbe4:Below w.heap.size w W4:=by rw [hW4];exact hbe3.alloc hbe3.size _
   clear hW4 hbe3 c4 c5 k4 k5
   go_wp2_with fail
   refine (HF.out _ hbe4 c6 c7).mono ?_
   rintro e w9 ⟨rfl,hb9⟩
   have hbe9:Below w.heap.size w w9:=hbe4.trans (hb9.mono hbe4.size)
   clear HF hb9
   go_wp2_with fail
   go_ret
   exact ⟨by rw [HX2.out];rfl,hbe9⟩
end Go.Proofs.YtbbfcbodhmeanaaGreatDoor



namespace Go.Proofs.YtbbfcbodhmeanaaGreatDoor
open Go.RowKit
theorem ord_each {N:Nat}:∀ {l:List LK} {d:Nat},Ord N d l→∀ x ∈ l,x.2.length≤N
 | [],_,_,x,hx=>by simp at hx
 | y::l,d,h,x,hx=>by
  unfold Ord at h
  rcases List.mem_cons.1 hx with rfl | hx
  ·omega
  ·exact ord_each h.2.2.2 x hx
theorem find_short {b:List UInt8} {l:List LK} (h:findP lowT b = some l):∀ x ∈ l,(unamp x.2).length≤4000:=fun x hx=>by
 obtain ⟨h1,h2,h3⟩:=find_ord lowT b l h
 have h4:=ord_each h1 x hx
 have h5:=unamp_le x.2
 omega
def g1v (x:GL):List Value:=[.int .i64 x.part,.int .i64 x.fr,.int .i64 x.tt,.string (tx8 x.text),.string (tx8 x.led),.int .i64 x.find]
def glv (l:List GL):List Value:=l.flatMap g1v
theorem glv_snoc (l:List GL) (x:GL):glv (l ++ [x]) = glv l ++ g1v x:=by simp [glv]
theorem info_goal:(Tryz.prog.info? 42).map (fun i=>(i.zero,i.size,i.bytes)) = some (some (.agg #[.int .i64 0,.int .i64 0,.int .i64 0,.string ⟨#[]⟩,.string ⟨#[]⟩,.int .i64 0]),6,64):=by kernel_rfl
def GoalsPost (w:World) (r:Nat × List (PT × Int)) (e:Ending) (w':World):Prop :=
 Below w.heap.size w w'∧(r.1 ≠ 0→e = .returned (.tuple #[.slice none 0 0,.int .i64 (r.1:Int)])) ∧
 (r.1 = 0→match goalsGo lowT (r.2.map fun x=>x.1.alone) (whereP r.2) 0 (r.2.map fun x=>x.1.alone) [] with
  | none=>e = .returned (.tuple #[.slice none 0 0,.int .i64 2])
  | some l=>∃ v,e = .returned (.tuple #[v,.int .i64 0])∧w'.ownsRow w.heap.size 42 6 v l.length (glv l))
theorem goalsGo_skip (low:List UInt8→List UInt8) (l:List PT) (wh:List (List UInt8)) (L:List PT) (k:Nat) (acc:List GL) (hk:k < L.length) (h:(L.getD k pt0).ty.data.toList ≠ htmlS):goalsGo low l wh k (L.drop k) acc = goalsGo low l wh (k + 1) (L.drop (k + 1)) acc:=by
 have e:L.getD k pt0 = L[k]:=by rw [List.getD_eq_getElem?_getD,List.getElem?_eq_getElem hk];rfl
 rw [e] at h
 rw [List.drop_eq_getElem_cons hk,goalsGo,if_neg h]
theorem goalsGo_page (low:List UInt8→List UInt8) (l:List PT) (wh:List (List UInt8)) (L:List PT) (k:Nat) (acc:List GL) (hk:k < L.length) (h:(L.getD k pt0).ty.data.toList = htmlS):goalsGo low l wh k (L.drop k) acc = (findP low (L.getD k pt0).body).bind fun ls=>goalsGo low l wh (k + 1) (L.drop (k + 1)) (acc ++ ls.map (goalOf l wh k (L.getD k pt0).body.length)):=by
 have e:L.getD k pt0 = L[k]:=by rw [List.getD_eq_getElem?_getD,List.getElem?_eq_getElem hk];rfl
 rw [e] at h ⊢
 rw [List.drop_eq_getElem_cons hk,goalsGo,if_pos h]
 cases findP low L[k].body <;> rfl
end Go.Proofs.YtbbfcbodhmeanaaGreatDoor



namespace Go.Proofs.YtbbfcbodhmeanaaGreatDoor
open Go.RowKit
def gl0:GL:=⟨0,0,0,[],[],0⟩
def G6 (w:World) (p:Option Addr) (n:Nat) (l:List GL):Prop:=l.length = n∧(n ≠ 0→∃ b o,p = some ⟨b,o,none⟩∧∀ i,i < n→w.cell? ⟨b,o + i * 6,none⟩ = some (.int .i64 (l.getD i gl0).part)∧w.cell? ⟨b,o + i * 6 + 1,none⟩ = some (.int .i64 (l.getD i gl0).fr)∧w.cell? ⟨b,o + i * 6 + 2,none⟩ = some (.int .i64 (l.getD i gl0).tt)∧w.cell? ⟨b,o + i * 6 + 3,none⟩ = some (.string (tx8 (l.getD i gl0).text))∧w.cell? ⟨b,o + i * 6 + 4,none⟩ = some (.string (tx8 (l.getD i gl0).led))∧w.cell? ⟨b,o + i * 6 + 5,none⟩ = some (.int .i64 (l.getD i gl0).find))
theorem G6.below {w w':World} {p:Option Addr} {n:Nat} {l:List GL} (h:G6 w p n l) (hb:Below w.heap.size w w'):G6 w' p n l:=by
 refine ⟨h.1,fun hn=>?_⟩
 obtain ⟨b,o,e,hc⟩:=h.2 hn
 refine ⟨b,o,e,fun i hi=>?_⟩
 obtain ⟨c0,c1,c2,c3,c4,c5⟩:=hc i hi
 have hl:=World.block_lt_of_cell? w _ c0
 have k:∀ j v,w.cell? ⟨b,j,none⟩ = some v→w'.cell? ⟨b,j,none⟩ = some v:=fun j v h=>(hb.cell (p:=⟨b,j,none⟩) hl).trans h
 exact ⟨k _ _ c0,k _ _ c1,k _ _ c2,k _ _ c3,k _ _ c4,k _ _ c5⟩
theorem glv_get:∀ (l:List GL) (i:Nat),i < l.length→∀ j x,(g1v (l.getD i gl0))[j]? = some x→(glv l)[i * 6 + j]? = some x
 | [],i,h,_,_,_=>by simp at h
 | y::l,0,_,j,x,hx=>by
  have e:glv (y::l) = g1v y ++ glv l:=by simp [glv]
  have hx':(g1v y)[j]? = some x:=hx
  rw [e,Nat.zero_mul,Nat.zero_add,List.getElem?_append_left (List.getElem?_eq_some_iff.1 hx').1,hx']
 | y::l,i + 1,h,j,x,hx=>by
  have e:glv (y::l) = g1v y ++ glv l:=by simp [glv]
  have hl:(g1v y).length = 6:=rfl
  rw [e,List.getElem?_append_right (by rw [hl];omega),hl,show (i + 1) * 6 + j - 6 = i * 6 + j from by omega]
  exact glv_get l i (by simpa using h) j x hx
theorem owned_goals {w:World} {B:Nat} {v:Value} {l:List GL} (h:w.ownsRow B 42 6 v l.length (glv l)):∃ p c,v = .slice p l.length c∧l.length≤c∧c≤maxLen∧G6 w p l.length l:=by
 have hcl:=fun g hg=>h.cells (g:=g) hg
 rcases h.2 with ⟨rfl,h0⟩ | ⟨g,cap,cur,rfl,_,_,hn,hm,_,_⟩
 ·exact ⟨none,0,by rw [h0],by omega,by decide,rfl,fun hne=>absurd h0 hne⟩
 ·refine ⟨some ⟨g,0,none⟩,cap,rfl,hn,hm,rfl,fun hne=>⟨g,0,rfl,fun i hi=>?_⟩⟩
  have k:∀ j x,(g1v (l.getD i gl0))[j]? = some x→w.cell? ⟨g,0 + i * 6 + j,none⟩ = some x:=fun j x hx=>by
   have k0:=hcl g rfl (i * 6 + j) _ (glv_get l i hi j x hx)
   rw [Addr.add_lit,Nat.zero_add] at k0
   rw [Nat.zero_add]
   exact k0
  exact ⟨k 0 _ rfl,k 1 _ rfl,k 2 _ rfl,k 3 _ rfl,k 4 _ rfl,k 5 _ rfl⟩
end Go.Proofs.YtbbfcbodhmeanaaGreatDoor


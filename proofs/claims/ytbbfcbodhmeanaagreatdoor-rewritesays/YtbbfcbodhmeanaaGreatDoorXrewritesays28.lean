
import Derived.Test.YtbbfcbodhmeanaaGreatDoorXrewritesays27
namespace Go.Proofs.YtbbfcbodhmeanaaGreatDoor
open Go.RowKit
set_option maxHeartbeats 1000000 in
set_option maxRecDepth 100000 in
theorem within_any (p:PT) (pb:Option Addr) (cb:Nat) (pk:Option Addr) (ck F:Nat) (w:World) (hH:PHeld w F p pb cb pk ck) :
  Calls Tryz.prog 79 #[.agg #[.string p.ty,.string p.cs,.string p.id,.string p.loc,.int .i64 p.how,.slice pb p.body.length cb,.slice pk p.kids.length ck]] w fun e w'=>WithinPost w (placesP p) e w':=by
 have CC:Hid (∀ w',Below w.heap.size w w'→Calls Tryz.prog 73 #[.agg #[.string p.ty,.string p.cs,.string p.id,.string p.loc,.int .i64 p.how,.slice pb p.body.length cb,.slice pk p.kids.length ck]] w' fun e w''=>CheckedPost w' (placesP p) e w''):=fun w' hb=>checked_any p pb cb pk ck F w' (hH.below hb)
 have hfew:=placesP_few p
 generalize placesP p = R at *
 clear hH
 obtain ⟨i0,hi,hz0,hz1,hz2⟩:=info_parts info_int
 go_enter Tryz.func79,Tryz.ntmps79
 go_wp2_with fail
 refine (CC.out _ ((Below.refl _ _).alloc (Nat.le_refl _) _)).mono ?_
 rintro e w1 ⟨hb1,h1,h2⟩
 have hbel1:=((Below.refl _ w).alloc (Nat.le_refl _) _).trans (hb1.mono (by simp))
 by_cases hr:R.1 = 0
 ·obtain ⟨q,c,X,rfl,hown,hX⟩:=h2 hr
  have HR0:Hid (R.1 = 0):=hr
  clear h1 h2 hr CC hb1
  obtain ⟨n,hn⟩:∃ n,R.2.length = n:=⟨_,rfl⟩
  have HN:Hid (R.2.length = n):=hn
  rw [hn] at hown hfew
  simp only [hn]
  have HE:Hid (∀ k,k < n→∃ (g:Nat) (b o:Nat) (y:PT × Int),q = some ⟨g,0,none⟩∧R.2[k]? = some y∧w1.cell? ⟨g,k * 2,none⟩ = some (.pointer (some ⟨b,o,none⟩))∧w1.cell? ⟨g,k * 2 + 1,none⟩ = some (.int .i64 y.2)∧∃ f,PAt w1 f b o y.1):=fun k hk=>place_each hown hX hn.symm k hk
  clear hown hX hn
  go_wp2_with fail
  go_loopw [6,19] (fun ov iv wr=>∃ (k:Nat) (q6:Option Addr) (n6 c6:Nat),k≤n∧iv = .int .i64 k∧ov = .slice q6 n6 c6∧Below w1.heap.size w1 wr∧Hid (wr.ownsRow w1.heap.size 3 1 (.slice q6 n6 c6) k (izv ((R.2.take k).map (·.2))))) (fun _ iv _=>n - (intOf iv).toNat)
  case atStart=>exact ⟨0,none,0,0,Nat.zero_le _,rfl,rfl,Below.refl _ _,World.ownsRow_nil _ _ _ _⟩
  case round =>
   obtain ⟨k,q6,n6,c6,hk,rfl,rfl,hbr,HO⟩:=hrel
   have hsr:=hbr.size
   by_cases hlt:k < n
   ·have hlz:(k:Int) < (n:Int):=by omega
    obtain ⟨g,b,o,y,rfl,hy,hc1,hc2,_⟩:=HE.out k hlt
    have hcr1:=(hbr.cell (World.block_lt_of_cell? w1 _ hc1)).trans hc1
    have hcr2:=(hbr.cell (World.block_lt_of_cell? w1 _ hc2)).trans hc2
    have HT:Hid (izv ((R.2.take (k + 1)).map (·.2)) = izv ((R.2.take k).map (·.2)) ++ [.int .i64 y.2]):=by
     unfold Hid
     rw [List.take_add_one,hy]
     simp [izv]
    clear hc1 hc2 HE hy
    obtain ⟨z,hz⟩:∃ z,y.2 = z:=⟨_,rfl⟩
    rw [hz] at hcr2 HT
    clear hz
    go_wp2_with (at_builtin;refine wpList_append_own _ rfl (.tmp 23) (.tmp 26) 124 rfl w1.heap.size 3 i0 (.int .i64 0) 1 8 Tryz.underlying124 hi hz0 hz1 hz2 rfl (by decide) _ _ _ rfl ((HO.out.alloc _).alloc _) ⟨wr.heap.size + 1,0,none⟩ 1 1 [.int .i64 z] rfl rfl (cell_lone _ _ _ _ (by simp)) (one_int _) ?c3 ?c4 ?c5 ?_)
    case c3=>unfold maxLen;omega
    case c4=>omega
    case c5=>first | omega | (simp;omega)
    intro v9 w9 hown9 hg9 _
    have hb9:Below w1.heap.size w1 w9:=((hbr.alloc hsr _).alloc (by simp;omega) _).grown hg9 (by simp;omega) (fun j hj=>(HO.out.lt j hj).1)
    have R9:Hid (w9.ownsRow w1.heap.size 3 1 v9 (k + 1) (izv ((R.2.take (k + 1)).map (·.2)))):=by unfold Hid;rw [HT.out,List.map_take];exact hown9
    clear hown9 hg9 HO HT
    obtain ⟨q9,c9,rfl⟩:=owned_slice R9.out
    go_wp2_with fail
    go_roundw
    case rel=>exact ⟨k + 1,q9,k + 1,c9,by omega,by go_num,rfl,hb9,R9⟩
    case measure=>simp [intOf];omega
   ·have hlz:¬ ((k:Int) < (n:Int)):=by omega
    obtain rfl:k = n:=by omega
    have R9:wr.ownsRow w1.heap.size 3 1 (.slice q6 n6 c6) (R.2.map (·.2)).length (izv (R.2.map (·.2))):=by
     have:=HO.out
     rw [List.take_of_length_le (by rw [HN.out];omega)] at this
     rw [List.length_map,HN.out]
     exact this
    obtain ⟨q9,c9,e9,hle,hcm,hnil,hrow⟩:=owned_ints R9
    injection e9 with e1 e2 e3
    subst e1 e2 e3
    rw [List.length_map,HN.out] at hle hnil
    have HRow:Hid (IRow wr q6 (R.2.map (·.2))):=hrow
    simp only [List.length_map,HN.out]
    clear hrow R9 HE HO
    go_wp2_with fail
    go_ret2
    refine ⟨hbel1.trans (hbr.mono hbel1.size),fun h=>absurd HR0.out h,fun _=>⟨q6,c6,?_,?_,hcm,fun h=>(hnil h).2,HRow.out⟩⟩
    ·simp only [HN.out];rfl
    ·rw [HN.out];exact hle
 ·obtain rfl:=h1 hr
  clear h1 h2 CC
  have hrz:(((R.1:Nat):Int) == 0) = false:=by rw [beq_eq_false_iff_ne];omega
  obtain ⟨r,hrr⟩:∃ r,R.1 = r:=⟨_,rfl⟩
  have HR:Hid (R.1 = r):=hrr
  rw [hrr] at hrz hr
  simp only [hrr]
  clear hrr
  go_wp2_with fail
  go_ret2
  exact ⟨hbel1,fun _=>by rw [HR.out];rfl,fun h=>absurd (HR.out.symm.trans h) hr⟩
end Go.Proofs.YtbbfcbodhmeanaaGreatDoor



namespace Go.Proofs.YtbbfcbodhmeanaaGreatDoor
open Go.RowKit
set_option maxHeartbeats 2000000 in
set_option maxRecDepth 100000 in
theorem all_any (p:PT) (pb:Option Addr) (cb:Nat) (pk:Option Addr) (ck F:Nat) (w:World) (hH:PHeld w F p pb cb pk ck) :
  Calls Tryz.prog 33 #[.agg #[.string p.ty,.string p.cs,.string p.id,.string p.loc,.int .i64 p.how,.slice pb p.body.length cb,.slice pk p.kids.length ck]] w fun e w'=>AllPost w (placesP p) e w':=by
 have CC:Hid (∀ w',Below w.heap.size w w'→Calls Tryz.prog 73 #[.agg #[.string p.ty,.string p.cs,.string p.id,.string p.loc,.int .i64 p.how,.slice pb p.body.length cb,.slice pk p.kids.length ck]] w' fun e w''=>CheckedPost w' (placesP p) e w''):=fun w' hb=>checked_any p pb cb pk ck F w' (hH.below hb)
 have hfew:=placesP_few p
 have HCh:Hid (∀ x ∈ (placesP p).2,chkA x.1 = 0):=placesP_each p
 generalize placesP p = R at *
 clear hH
 obtain ⟨i0,hi,hz0,hz1,hz2⟩:=info_parts info_part
 go_enter Tryz.func33,Tryz.ntmps33
 go_wp2_with fail
 refine (CC.out _ ((Below.refl _ _).alloc (Nat.le_refl _) _)).mono ?_
 rintro e w1 ⟨hb1,h1,h2⟩
 have hbel1:=((Below.refl _ w).alloc (Nat.le_refl _) _).trans (hb1.mono (by simp))
 by_cases hr:R.1 = 0
 ·obtain ⟨q,c,X,rfl,hown,hX⟩:=h2 hr
  have HR0:Hid (R.1 = 0):=hr
  clear h1 h2 hr CC hb1
  obtain ⟨n,hn⟩:∃ n,R.2.length = n:=⟨_,rfl⟩
  have HN:Hid (R.2.length = n):=hn
  rw [hn] at hown hfew
  simp only [hn]
  have HE:Hid (∀ k,k < n→∃ (g:Nat) (b o:Nat) (y:PT × Int),q = some ⟨g,0,none⟩∧R.2[k]? = some y∧w1.cell? ⟨g,k * 2,none⟩ = some (.pointer (some ⟨b,o,none⟩))∧w1.cell? ⟨g,k * 2 + 1,none⟩ = some (.int .i64 y.2)∧∃ f,PAt w1 f b o y.1):=fun k hk=>place_each hown hX hn.symm k hk
  clear hown hX hn
  go_wp2_with fail
  go_loopw [6,20] (fun ov iv wr=>∃ (k:Nat) (q6:Option Addr) (n6 c6:Nat) (Y:List PY),k≤n∧iv = .int .i64 k∧ov = .slice q6 n6 c6∧Below w1.heap.size w1 wr∧Hid (wr.ownsRow w1.heap.size 25 7 (.slice q6 n6 c6) k (pav Y))∧Hid (Bodies wr w1.heap.size Y)∧Hid (Y.map (·.1) = (R.2.take k).map fun x=>x.1.alone)) (fun _ iv _=>n - (intOf iv).toNat)
  case atStart=>exact ⟨0,none,0,0,[],Nat.zero_le _,rfl,rfl,Below.refl _ _,World.ownsRow_nil _ _ _ _,(fun y hy=>by cases hy),rfl⟩
  case round =>
   obtain ⟨k,q6,n6,c6,Y,hk,rfl,rfl,hbr,HO,HB,HY⟩:=hrel
   have hsr:=hbr.size
   by_cases hlt:k < n
   ·have hlz:(k:Int) < (n:Int):=by omega
    obtain ⟨g,b,o,y,rfl,hy,hc1,hc2,f,hPy⟩:=HE.out k hlt
    have hcr1:=(hbr.cell (World.block_lt_of_cell? w1 _ hc1)).trans hc1
    have hcr2:=(hbr.cell (World.block_lt_of_cell? w1 _ hc2)).trans hc2
    have h4000:y.1.body.length≤4000:=chkA_body _ (HCh.out y (List.mem_of_getElem? hy))
    have HT:Hid ((R.2.take (k + 1)).map (fun x=>x.1.alone) = (R.2.take k).map (fun x=>x.1.alone) ++ [y.1.alone]):=by
     unfold Hid
     rw [List.take_add_one,hy]
     simp
    obtain ⟨pb2,cb2,pk2,ck2,hC,hH⟩:=hPy.below hbr
    have HLen:Hid (PLen y.1):=hH.1
    have HBody:Hid (∀ w',Below wr.heap.size wr w'→BRow w' pb2 y.1.body):=fun w' hb=>hH.2.2.1.under hb
    clear hc1 hc2 HE hy hPy hH HCh
    obtain ⟨z,hz⟩:∃ z,y.2 = z:=⟨_,rfl⟩
    rw [hz] at hcr2
    clear hz
    obtain ⟨⟨ty,cs,id,loc,how,body,kids⟩,iny⟩:=y
    obtain ⟨d0,d1,d2,d3,d4,d5,d6⟩:=hC
    simp only at d0 d1 d2 d3 d4 d5 d6 h4000 HBody
    obtain ⟨nb,hnb⟩:∃ nb,body.length = nb:=⟨_,rfl⟩
    have HNB:Hid (nb = body.length):=hnb.symm
    have CB:Hid (∀ w',Below wr.heap.size wr w'→Calls Tryz.prog 74 #[.slice pb2 nb cb2] w' fun e w''=>∃ q c,e = .returned (.slice q nb c)∧w''.ownsRow w'.heap.size 5 1 (.slice q nb c) nb (bv body)∧Below w'.heap.size w' w''):=fun w' hb=>bclone_any pb2 body nb cb2 hnb.symm w' (HBody.out w' hb) (by omega)
    rw [hnb] at d5 h4000
    obtain ⟨nk,hnk⟩:∃ nk,kids.length = nk:=⟨_,rfl⟩
    rw [hnk] at d6
    clear hnb hnk HBody
    have hbB:b < wr.heap.size:=World.block_lt_of_cell? wr _ d0
    have hbA:Below wr.heap.size wr ((wr.alloc (.cells #[Value.pointer (some ⟨b,o,none⟩),.int .i64 z] 117)).alloc (.cells #[Value.string ty,.string cs,.string id,.string loc,.int .i64 how,.slice pb2 nb cb2,.slice pk2 nk ck2] 25)):=((Below.refl _ _).alloc (Nat.le_refl _) _).alloc (by simp) _
    go_wp2_with fail
    refine (CB.out _ hbA).mono ?_
    rintro e w2 ⟨qb,cc,rfl,hob,hb2⟩
    obtain ⟨m0,m1,m2,m3,m4,m5,m6,m7,m8,m9,m10⟩:=made_seven hb2 (wr.heap.size + 1) (by simp)
    have hbW2:Below wr.heap.size wr w2:=hbA.trans (hb2.mono (by simp;omega))
    have hbW4:Below wr.heap.size wr ((w2.setCell ⟨wr.heap.size + 1,5,none⟩ (.slice qb nb cc)).setCell ⟨wr.heap.size + 1,6,none⟩ (.slice none 0 0)):=(hbW2.setCell (by simp) _).setCell (by simp) _
    have hown4:=ownsRow_below HO.out hbW4
    have hob4:((w2.setCell ⟨wr.heap.size + 1,5,none⟩ (.slice qb nb cc)).setCell ⟨wr.heap.size + 1,6,none⟩ (.slice none 0 0)).ownsRow w1.heap.size 5 1 (.slice qb nb cc) nb (bv body) :=
     owns_weaken (owns_set (owns_set hob _ _ (by simp)) _ _ (by simp)) (by simp;omega)
    have hs2:w1.heap.size≤w2.heap.size:=Nat.le_trans hsr hbW2.size
    obtain ⟨w4,hw4⟩:∃ w4,(w2.setCell ⟨wr.heap.size + 1,5,none⟩ (.slice qb nb cc)).setCell ⟨wr.heap.size + 1,6,none⟩ (.slice none 0 0) = w4:=⟨_,rfl⟩
    have hs4:w4.heap.size = w2.heap.size:=by rw [← hw4];simp
    have k0:w4.cell? ⟨wr.heap.size + 1,0,none⟩ = some (.string ty):=by rw [← hw4,set_other (i:=6) (j:=0) (by decide),set_other (i:=5) (j:=0) (by decide)];exact m0
    have k1:w4.cell? ⟨wr.heap.size + 1,1,none⟩ = some (.string cs):=by rw [← hw4,set_other (i:=6) (j:=1) (by decide),set_other (i:=5) (j:=1) (by decide)];exact m1
    have k2:w4.cell? ⟨wr.heap.size + 1,2,none⟩ = some (.string id):=by rw [← hw4,set_other (i:=6) (j:=2) (by decide),set_other (i:=5) (j:=2) (by decide)];exact m2
    have k3:w4.cell? ⟨wr.heap.size + 1,3,none⟩ = some (.string loc):=by rw [← hw4,set_other (i:=6) (j:=3) (by decide),set_other (i:=5) (j:=3) (by decide)];exact m3
    have k4:w4.cell? ⟨wr.heap.size + 1,4,none⟩ = some (.int .i64 how):=by rw [← hw4,set_other (i:=6) (j:=4) (by decide),set_other (i:=5) (j:=4) (by decide)];exact m4
    have k5:w4.cell? ⟨wr.heap.size + 1,5,none⟩ = some (.slice qb nb cc):=by rw [← hw4,set_other (i:=6) (j:=5) (by decide)];exact World.cell?_setCell_same _ _ _ m5
    have k6:w4.cell? ⟨wr.heap.size + 1,6,none⟩ = some (.slice none 0 0):=by rw [← hw4];exact World.cell?_setCell_same _ _ _ ((set_other (i:=5) (j:=6) (by decide)).trans m6)
    have HB4:Hid (Bodies w4 w1.heap.size Y):=fun y hy=>⟨(HB.out y hy).1,(HB.out y hy).2.1,by rw [← hw4];exact ownsRow_below (HB.out y hy).2.2 hbW4⟩
    have HOb4:Hid (w4.ownsRow w1.heap.size 5 1 (.slice qb nb cc) nb (bv body)):=by unfold Hid;rw [← hw4];exact hob4
    have HO4:Hid (w4.ownsRow w1.heap.size 25 7 (.slice q6 n6 c6) k (pav Y)):=by unfold Hid;rw [← hw4];exact hown4
    have HbW4:Hid (Below wr.heap.size wr w4):=by unfold Hid;rw [← hw4];exact hbW4
    clear hob hob4 hown4 hbW4 HB HO hb2 m10 hbA CB d0 d1 d2 d3 d4 d5 d6 hcr1 hcr2
    go_wp2_with (at_builtin;refine wpList_append_own _ rfl (.tmp 33) (.tmp 35) 23 rfl w1.heap.size 25 i0 (.agg #[.string ⟨#[]⟩,.string ⟨#[]⟩,.string ⟨#[]⟩,.string ⟨#[]⟩,.int .i64 0,.slice none 0 0,.slice none 0 0]) 7 120 Tryz.underlying23 hi hz0 hz1 hz2 rfl (by decide) _ _ _ rfl (HO4.out.alloc _) ⟨w2.heap.size,0,none⟩ 1 1 [.string ty,.string cs,.string id,.string loc,.int .i64 how,.slice qb nb cc,.slice none 0 0] rfl rfl ?c1 ?c2 ?c3 ?c4 ?c5 ?_)
    case c1=>exact cell_seven _ [_,_,_,_,_,_,_] _ _ hs4.symm
    case c2=>intro u hu;simp at hu;rcases hu with rfl | rfl | rfl | rfl | rfl | rfl | rfl <;> rfl
    case c3=>unfold maxLen;omega
    case c4=>omega
    case c5=>simp;omega
    intro v9 w9 hown9 hg9 _
    have hb49:Below w1.heap.size w1 w4:=hbr.trans (HbW4.out.mono hsr)
    have hb9:Below w1.heap.size w1 w9:=(hb49.alloc hb49.size _).grown hg9 (by simp;omega) (fun j hj=>(HO4.out.lt j hj).1)
    have keep:∀ {n:Nat} {v:Value} {xs:List Value},w4.ownsRow w1.heap.size 5 1 v n xs→w9.ownsRow w1.heap.size 5 1 v n xs:=fun h=>(h.alloc _).kept hg9 (owns_apart h HO4.out (by decide))
    have R9:Hid (w9.ownsRow w1.heap.size 25 7 v9 (k + 1) (pav (Y ++ [(⟨ty,cs,id,loc,how,body,[]⟩,qb,cc)]))):=by unfold Hid;rw [pav_snoc,← HNB.out];exact hown9
    have HB9:Hid (Bodies w9 w1.heap.size (Y ++ [(⟨ty,cs,id,loc,how,body,[]⟩,qb,cc)])):=fun y hy=>by
     rcases List.mem_append.1 hy with h | h
     ·exact ⟨(HB4.out y h).1,(HB4.out y h).2.1,keep (HB4.out y h).2.2⟩
     ·obtain rfl:=List.mem_singleton.1 h
      obtain ⟨l0,l1,l2,l3,l4,l5,l6,_⟩:=HLen.out
      refine ⟨rfl,⟨l0,l1,l2,l3,l4,l5,l6,Nat.zero_le _⟩,?_⟩
      simp only [← HNB.out]
      exact keep HOb4.out
    have HY9:Hid ((Y ++ [((⟨ty,cs,id,loc,how,body,[]⟩,qb,cc):PY)]).map (·.1) = (R.2.take (k + 1)).map fun x=>x.1.alone):=by unfold Hid;rw [HT.out,List.map_append,HY.out];rfl
    clear hown9 hg9 HO4 HT HB4 HOb4 keep
    obtain ⟨q9,c9,rfl⟩:=owned_slice R9.out
    go_wp2_with fail
    go_roundw
    case rel=>exact ⟨k + 1,q9,k + 1,c9,_,by omega,by go_num,rfl,hb9,R9,HB9,HY9⟩
    case measure=>simp [intOf];omega
   ·have hlz:¬ ((k:Int) < (n:Int)):=by omega
    obtain rfl:k = n:=by omega
    have hYl:Y.length = k:=by
     have:=congrArg List.length HY.out
     rw [List.length_map,List.length_map,List.length_take,HN.out] at this
     omega
    have R9:wr.ownsRow w1.heap.size 25 7 (.slice q6 n6 c6) Y.length (pav Y):=by rw [hYl];exact HO.out
    obtain ⟨q9,c9,e9,hle,hcm,hnil,hrow⟩:=owned_parts R9 HB.out
    injection e9 with e1 e2 e3
    subst e1 e2 e3
    rw [HY.out,List.take_of_length_le (by rw [HN.out];omega)] at hrow
    rw [hYl] at hle hnil ⊢
    have HRow:Hid (KAt wr 1 q6 (R.2.map fun x=>x.1.alone)):=hrow
    clear hrow R9 HE HO HB HY hYl
    go_wp2_with fail
    go_ret2
    refine ⟨hbel1.trans (hbr.mono hbel1.size),fun h=>absurd HR0.out h,fun _=>⟨q6,c6,?_,?_,hcm,fun h=>(hnil h).2,HRow.out⟩⟩
    ·simp only [HN.out];rfl
    ·rw [HN.out];exact hle
 ·obtain rfl:=h1 hr
  clear h1 h2 CC
  have hrz:(((R.1:Nat):Int) == 0) = false:=by rw [beq_eq_false_iff_ne];omega
  obtain ⟨r,hrr⟩:∃ r,R.1 = r:=⟨_,rfl⟩
  have HR:Hid (R.1 = r):=hrr
  rw [hrr] at hrz hr
  simp only [hrr]
  clear hrr
  go_wp2_with fail
  go_ret2
  exact ⟨hbel1,fun _=>by rw [HR.out];rfl,fun h=>absurd (HR.out.symm.trans h) hr⟩
end Go.Proofs.YtbbfcbodhmeanaaGreatDoor



namespace Go.Proofs.YtbbfcbodhmeanaaGreatDoor
open Go.RowKit
theorem putAll_in (f:Nat) (ih:∀ l m p depth inn,l.length≤12→(∀ x ∈ l,x.2 < 12)→inn < 12→put f l p depth inn = some m→∀ x ∈ m,x.2 < 12) (depth:Nat) (inn:Int) (hi:inn < 12):∀ (ks:List PT) (l m:List (PT × Int)),l.length≤12→(∀ x ∈ l,x.2 < 12)→putAll f depth inn l ks = some m→∀ x ∈ m,x.2 < 12
 | [],l,m,_,hl,h=>by rw [putAll_nil] at h;cases h;exact hl
 | k::ks,l,m,h12,hl,h=>by
  cases hk:put f l k depth inn with
  | none=>rw [putAll_none f depth inn l k ks hk] at h;cases h
  | some n =>
   rw [putAll_some f depth inn l n k ks hk] at h
   exact putAll_in f ih depth inn hi ks n m (put_length f l n k depth inn h12 hk).2 (ih l n k depth inn h12 hl hi hk) h
theorem put_in:∀ (f:Nat) (l m:List (PT × Int)) (p:PT) (depth:Nat) (inn:Int),l.length≤12→(∀ x ∈ l,x.2 < 12)→inn < 12→put f l p depth inn = some m→∀ x ∈ m,x.2 < 12
 | 0,_,_,_,_,_,_,_,_,h=>by rw [put] at h;cases h
 | f + 1,l,m,p,depth,inn,h12,hl,hi,h=>by
  by_cases hs:l.length = 12 ∨ 3 < depth
  ·rw [put_stop f l p depth inn hs] at h;cases h
  ·rw [put_go f l p depth inn hs] at h
   refine putAll_in f (put_in f) (depth + 1) l.length (by omega) p.kids (l ++ [(p,inn)]) m (by rw [List.length_append];simp;omega) (fun x hx=>?_) h
   rcases List.mem_append.1 hx with hx | hx
   ·exact hl x hx
   ·simp at hx;rw [hx];exact hi
theorem places_in (p:PT):∀ x ∈ (placesP p).2,x.2 < 12:=by
 unfold placesP
 cases h:put 4 [] p 1 (-1) with
 | none=>simp
 | some l =>
  simp only
  split
  ·exact put_in 4 [] l p 1 (-1) (by simp) (by simp) (by decide) h
  ·simp
def ShB (w:World) (g:Nat) (q:Option Addr) (n c:Nat) (wh:List (List UInt8)):Prop:=∃ cs,w.heap[g]? = some (.cells cs 77)∧cs.size = 13∧cs[0]? = some (.slice q n c)∧∀ i,i < 12→cs[1 + i]? = some (.string (tx8 (wh.getD i [])))
theorem ShB.below {w w':World} {g:Nat} {q:Option Addr} {n c:Nat} {wh:List (List UInt8)} (h:ShB w g q n c wh) (hb:Below w.heap.size w w'):ShB w' g q n c wh:=by
 obtain ⟨cs,h1,h2⟩:=h
 exact ⟨cs,blk_on h1 hb,h2⟩
theorem ShB.set {w:World} {g:Nat} {q:Option Addr} {n c:Nat} {wh wh':List (List UInt8)} (h:ShB w g q n c wh) (k:Nat) (hk:k < 12) (t:List UInt8) (he:∀ i,i < 12→wh'.getD i [] = if i = k then t else wh.getD i []):ShB (w.setCell ⟨g,1 + k,none⟩ (.string (tx8 t))) g q n c wh':=by
 obtain ⟨cs,h1,h2,h3,h4⟩:=h
 refine ⟨cs.setIfInBounds (1 + k) (.string (tx8 t)),set_same h1 _,by simpa using h2,?_,fun i hi=>?_⟩
 ·rw [Array.getElem?_setIfInBounds_ne (by omega)];exact h3
 ·rw [he i hi]
  by_cases e:i = k
  ·subst e
   rw [if_pos rfl,Array.getElem?_setIfInBounds_self_of_lt (by omega)]
  ·rw [if_neg e,Array.getElem?_setIfInBounds_ne (by omega)]
   exact h4 i hi
theorem ShB.text {w:World} {g:Nat} {q:Option Addr} {n c:Nat} {wh:List (List UInt8)} (h:ShB w g q n c wh) (i:Nat) (hi:i < 12):w.cell? ⟨g,1 + i,none⟩ = some (.string (tx8 (wh.getD i [])))∧w.frozen? ⟨g,1 + i,none⟩ = false:=by
 obtain ⟨cs,h1,h2,h3,h4⟩:=h
 exact ⟨by rw [blk_c h1];exact h4 i hi,blk_f h1 _⟩
theorem ShB.at {w:World} {g:Nat} {q:Option Addr} {c:Nat} {L:List PT} {wh:List (List UInt8)} (h:ShB w g q L.length c wh) (h12:L.length≤12) (hc:L.length≤c∧c≤maxLen) (hk:KAt w 1 q L) (hs:∀ x ∈ wh,x.length≤120):SAt w g q c L wh:=by
 obtain ⟨cs,h1,h2,h3,h4⟩:=h
 exact ⟨⟨cs,h1,h3,h4⟩,h12,hc,hk,hs⟩
theorem where_take (l:List (PT × Int)) (k:Nat) (hk:k < l.length):whereP (l.take (k + 1)) = whereP (l.take k) ++ [stepW (whereP (l.take k)) (l.getD k (pt0,0))]:=by
 rw [List.take_add_one,List.getElem?_eq_getElem hk,List.getD_eq_getElem?_getD,List.getElem?_eq_getElem hk]
 exact whereP_snoc _ _
theorem where_len (l:List (PT × Int)) (k:Nat) (hk:k≤l.length):(whereP (l.take k)).length = k:=by rw [whereP_length,List.length_take];omega
theorem getD_snoc (wh:List (List UInt8)) (t:List UInt8) (i:Nat):(wh ++ [t]).getD i [] = if i = wh.length then t else wh.getD i []:=by
 rw [List.getD_eq_getElem?_getD,List.getD_eq_getElem?_getD]
 by_cases e:i = wh.length
 ·subst e;simp
 ·rw [if_neg e]
  by_cases h:i < wh.length
  ·rw [List.getElem?_append_left h]
  ·rw [List.getElem?_eq_none (by simp;omega),List.getElem?_eq_none (by omega)]
end Go.Proofs.YtbbfcbodhmeanaaGreatDoor


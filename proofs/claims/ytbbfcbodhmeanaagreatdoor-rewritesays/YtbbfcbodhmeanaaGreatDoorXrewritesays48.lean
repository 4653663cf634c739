
import Derived.Test.YtbbfcbodhmeanaaGreatDoorXrewritesays47
import Derived.Lib.CountLaws
import Derived.Test.YtbbfcbodhmeanaaGreatDoorXrewritesays37
namespace Go.Proofs.YtbbfcbodhmeanaaGreatDoor
open Go.RowKit
def badF:List PT→Nat
 | []=>0
 | x::l=>if chkA x = 0 then badF l else chkA x
theorem badF_map:∀ L:List (PT × Int),badF (L.map (·.1)) = firstBad L
 | []=>rfl
 | x::L=>by rw [List.map_cons,badF,firstBad,badF_map L]
def checkP (p:PT):Nat:=if lev 3 p = true∧(tree 3 p).length≤12 then badF (flatP 3 p) else 2
theorem checkP_places (p:PT):checkP p = (placesP p).1:=by
 have hs:=places_spec p
 unfold checkP placesP
 by_cases hl:lev 3 p = true
 ·rw [tree_fuel 3 p hl 4 (by omega)] at hs
  by_cases h12:(tree 3 p).length≤12
  ·rw [if_pos ⟨hl,h12⟩,hs,if_pos ⟨hl,h12⟩]
   simp only
   have e:badF (flatP 3 p) = firstBad ((tree 3 p).map (abs 0 (-1))):=by
    rw [← badF_map,List.map_map,← tree_flat]
    rfl
   rw [e]
   split
   ·assumption
   ·rfl
  ·rw [if_neg (fun h=>h12 h.2),hs,if_neg (fun h=>h12 h.2)]
 ·rw [if_neg (fun h=>hl h.1),hs,if_neg (fun h=>hl h.1)]
theorem empty_n (s:ByteArray) (h:s.data.toList ≠ []):s.toList.isEmpty = false:=by
 rw [ByteArray.toList_eq]
 cases hs:s.data.toList with
 | nil=>exact absurd hs h
 | cons a l=>rfl
theorem empty_y (s:ByteArray) (h:s.data.toList = []):s = ⟨#[]⟩:=by
 apply ByteArray.ext;apply Array.toList_inj.1;exact h
set_option maxHeartbeats 8000000 in
set_option maxRecDepth 100000 in
theorem rcheck_any (F:Nat) (p:PT) (pb:Option Addr) (cb:Nat) (pk:Option Addr) (ck:Nat) (w:World) (hH:PHeld w F p pb cb pk ck) (hT:∀ w',Below w.heap.size w w'→Lib.Utf8Tabs 1 2 w') :
  Calls Tryz.prog 10 #[.agg #[.string p.ty,.string p.cs,.string p.id,.string p.loc,.int .i64 p.how,.slice pb p.body.length cb,.slice pk p.kids.length ck]] w fun e w'=>e = .returned (.int .i64 (checkP p:Nat))∧Below w.heap.size w w':=by
 obtain ⟨w1,hw1⟩:∃ w1,w.alloc (.cells #[.string p.ty,.string p.cs,.string p.id,.string p.loc,.int .i64 p.how,.slice pb p.body.length cb,.slice pk p.kids.length ck] 25) = w1:=⟨_,rfl⟩
 have hb1:Below w.heap.size w w1:=by rw [← hw1];exact (Below.refl _ _).alloc (Nat.le_refl _) _
 have HB:Hid (∀ w',Below w1.heap.size w1 w'→w'.cell? ⟨w.heap.size,0,none⟩ = some (.string p.ty)∧w'.cell? ⟨w.heap.size,1,none⟩ = some (.string p.cs)∧w'.cell? ⟨w.heap.size,2,none⟩ = some (.string p.id)∧w'.cell? ⟨w.heap.size,3,none⟩ = some (.string p.loc)∧w'.cell? ⟨w.heap.size,4,none⟩ = some (.int .i64 p.how)∧w'.cell? ⟨w.heap.size,5,none⟩ = some (.slice pb p.body.length cb)∧w'.cell? ⟨w.heap.size,6,none⟩ = some (.slice pk p.kids.length ck)):=fun w' hb=>by
  rw [← hw1] at hb
  obtain ⟨m0,m1,m2,m3,m4,m5,m6,_⟩:=made_seven hb w.heap.size rfl
  exact ⟨m0,m1,m2,m3,m4,m5,m6⟩
 have CS:Hid (∀ w',Below w1.heap.size w1 w'→Calls Tryz.prog 43 #[.agg #[.string p.ty,.string p.cs,.string p.id,.string p.loc,.int .i64 p.how,.slice pb p.body.length cb,.slice pk p.kids.length ck],.int .i64 3] w' fun e w''=>e = .returned (.tuple #[.int .i64 ((sizedP 3 p).1:Nat),.int .i64 ((sizedP 3 p).2:Nat)])∧Below w'.heap.size w' w''):=fun w' hb=>sized_any 3 F p pb cb pk ck 3 w' rfl (by decide) (hH.below (hb1.trans (hb.mono hb1.size)))
 have CF:Hid (lev 3 p = true∧(tree 3 p).length≤12→∀ w',Below w1.heap.size w1 w'→Calls Tryz.prog 44 #[.agg #[.string p.ty,.string p.cs,.string p.id,.string p.loc,.int .i64 p.how,.slice pb p.body.length cb,.slice pk p.kids.length ck]] w' fun e w''=>FlatPost F (flatP 3 p) w' e w''):=fun h w' hb=>flat_any 3 F p pb cb pk ck w' h.1 (by rw [← tree_flat,List.length_map];omega) (hH.below (hb1.trans (hb.mono hb1.size)))
 have HT:Hid (∀ w',Below w1.heap.size w1 w'→Lib.Utf8Tabs 1 2 w'):=fun w' hb=>hT w' (hb1.trans (hb.mono hb1.size))
 have hsz:=sizedP_le 3 p
 obtain ⟨hyes,hno⟩:=sized_says 3 (by decide) p
 have HY:Hid (lev 3 p = true∧(tree 3 p).length≤12→checkP p = badF (flatP 3 p)):=fun h=>by rw [checkP,if_pos h]
 have HNo:Hid (¬ (lev 3 p = true∧(tree 3 p).length≤12)→checkP p = 2):=fun h=>by rw [checkP,if_neg h]
 have HFl:Hid (lev 3 p = true∧(tree 3 p).length≤12→(flatP 3 p).length≤12):=fun h=>by rw [← tree_flat,List.length_map];exact h.2
 obtain ⟨u0,u1,u2,u3,u4,u5,u6⟩:=HB.out w1 (Below.refl _ _)
 by_cases hok:lev 3 p = true∧(tree 3 p).length≤12
 ·obtain ⟨e1,e2⟩:=hyes hok
  have h12:(sizedP 3 p).1≤12:=by rw [e1];exact hok.2
  have CF2:Hid (∀ w',Below w1.heap.size w1 w'→Calls Tryz.prog 44 #[.agg #[.string p.ty,.string p.cs,.string p.id,.string p.loc,.int .i64 p.how,.slice pb p.body.length cb,.slice pk p.kids.length ck]] w' fun e w''=>FlatPost F (flatP 3 p) w' e w''):=CF.out hok
  have HR:Hid (checkP p = badF (flatP 3 p)):=HY.out hok
  have hfl:=HFl.out hok
  clear hyes hno HY HNo HFl CF hok e1 hH hT hsz
  generalize (sizedP 3 p).1 = s1 at *
  generalize (sizedP 3 p).2 = s2 at *
  generalize checkP p = RES at *
  obtain ⟨L,hL⟩:∃ L,flatP 3 p = L:=⟨_,rfl⟩
  rw [hL] at CF2 HR hfl
  clear hL
  generalize p.body.length = nb at *
  generalize p.kids.length = nk at *
  have z1:decide ((12:Int) < (s1:Int)) = false:=by simp;omega
  have z2:decide ((3:Int) < (s2:Int)) = false:=by simp;omega
  go_enter Tryz.func10,Tryz.ntmps10
  go_wp2_with fail
  refine (CS.out w1 (Below.refl _ _)).mono ?_
  rintro e w2 ⟨rfl,hb2⟩
  obtain ⟨v0,v1,v2,v3,v4,v5,v6⟩:=HB.out w2 hb2
  clear CS u0 u1 u2 u3 u4 u5 u6 hw1
  go_wp2_with fail
  refine (CF2.out w2 hb2).mono ?_
  rintro e w3 ⟨q,c,rfl,hb3',hqn,hlc,hcm,hk3,-⟩
  have hb3:=hb2.trans (hb3'.mono hb2.size)
  obtain ⟨n,hn⟩:∃ n,L.length = n:=⟨_,rfl⟩
  have HN:Hid (L.length = n):=hn
  rw [hn] at hfl hlc
  simp only [hn]
  have HK:Hid (∀ k,k < n→∃ b o,q = some ⟨b,o,none⟩∧PAt w3 F b (o + k * 7) (L.getD k pt0)):=fun k hk=>by
   obtain ⟨b,o,e1,e2⟩:=hk3.each (fun e=>by rw [e] at hn;simp at hn;omega)
   exact ⟨b,o,e1,e2 k (by omega)⟩
  clear CF2 v0 v1 v2 v3 v4 v5 v6 hk3 hn hb3' hb2
  go_wp2_with fail
  go_loopw [22] (fun iv wr=>∃ k:Nat,k≤n∧iv = .int .i64 k∧Below w3.heap.size w3 wr∧Hid (RES = badF (L.drop k))) (fun iv _=>n - (intOf iv).toNat)
  case atStart=>exact ⟨0,Nat.zero_le _,rfl,Below.refl _ _,HR⟩
  case round =>
   obtain ⟨k,hk,rfl,hbr,HD⟩:=hrel
   have hsr:=hbr.size
   by_cases hlt:k < n
   ·have hlz:(k:Int) < (n:Int):=by omega
    obtain ⟨b,o,rfl,hP⟩:=HK.out k hlt
    have hkL:k < L.length:=by rw [HN.out];exact hlt
    have hdr:L.drop k = L.getD k pt0::L.drop (k + 1):=by
     rw [List.drop_eq_getElem_cons hkL]
     simp [List.getD_eq_getElem?_getD,List.getElem?_eq_getElem hkL]
    rw [hdr,badF] at HD
    obtain ⟨x,hx⟩:∃ x,L.getD k pt0 = x:=⟨_,rfl⟩
    rw [hx] at HD hP
    have HGo:Hid (chkA x = 0→RES = badF (L.drop (k + 1))):=fun h=>by rw [HD.out,if_pos h]
    have HBad:Hid (∀ a,chkA x = a→a ≠ 0→RES = a):=fun a h h0=>by rw [HD.out,if_neg (by rw [h];exact h0),h]
    obtain ⟨a1,a2,a3,a4,hC,hHx⟩:=hP.below hbr
    obtain ⟨l0,l1,l2,l3,l4,l5,l6,l7⟩:=hHx.1
    unfold maxLen at l6 l7
    obtain ⟨d0,d1,d2,d3,d4,d5,d6⟩:=hC
    have hbB:b < wr.heap.size:=World.block_lt_of_cell? wr _ d0
    have K1:Hid (textsOk x = false→chkA x = 1):=fun h=>by rw [chkA,if_pos h]
    have K3:Hid (textsOk x = true→(x.how < 0 ∨ 2 < x.how)→chkA x = 3):=fun h h2=>by rw [chkA,if_neg (by rw [h];decide),if_pos h2]
    have K2:Hid (textsOk x = true→¬ (x.how < 0 ∨ 2 < x.how)→4000 < x.body.length→chkA x = 2):=fun h h2 h3=>by rw [chkA,if_neg (by rw [h];decide),if_neg h2,if_pos h3]
    have K4:Hid (textsOk x = true→¬ (x.how < 0 ∨ 2 < x.how)→¬ 4000 < x.body.length→formedP x = false→chkA x = 4):=fun h h2 h3 h4=>by rw [chkA,if_neg (by rw [h];decide),if_neg h2,if_neg h3,if_pos h4]
    have K0:Hid (textsOk x = true→¬ (x.how < 0 ∨ 2 < x.how)→¬ 4000 < x.body.length→formedP x = true→chkA x = 0):=fun h h2 h3 h4=>by rw [chkA,if_neg (by rw [h];decide),if_neg h2,if_neg h3,if_neg (by rw [h4];decide)]
    have HX:Hid (textsOk x = (typeS x.ty.data.toList && (x.cs.data.toList.isEmpty || tokenS x.cs.data.toList) && wordS x.id.data.toList && wordS x.loc.data.toList)):=rfl
    have HFm:Hid (formedP x = if manyS x.ty.data.toList then !x.kids.isEmpty && x.body.isEmpty && decide (x.how = 0) && x.cs.data.toList.isEmpty else x.kids.isEmpty):=rfl
    have CM:Hid (∀ w',Calls Tryz.prog 45 #[.string x.ty] w' fun e w''=>e = .returned (.bool (manyS x.ty.data.toList))∧w'' = w'):=fun w'=>rmany_any x.ty w' l0
    have CT:Hid (∀ w',Below w1.heap.size w1 w'→Calls Tryz.prog 46 #[.string x.ty] w' fun e w''=>e = .returned (.bool (typeS x.ty.data.toList))∧Below w'.heap.size w' w''):=fun w' hb=>rtype_any x.ty w' l0 (fun w'' hb'=>HT.out w'' (hb.trans (hb'.mono hb.size)))
    have CC:Hid (∀ w',Calls Tryz.prog 47 #[.string x.cs] w' fun e w''=>e = .returned (.bool (tokenS x.cs.data.toList))∧w'' = w'):=fun w'=>token_any x.cs w' l1
    have CI:Hid (∀ w',Calls Tryz.prog 48 #[.string x.id] w' fun e w''=>e = .returned (.bool (wordS x.id.data.toList))∧w'' = w'):=fun w'=>rword_any x.id w' l2
    have CL:Hid (∀ w',Calls Tryz.prog 48 #[.string x.loc] w' fun e w''=>e = .returned (.bool (wordS x.loc.data.toList))∧w'' = w'):=fun w'=>rword_any x.loc w' l3
    clear hx hP hHx hdr HD HK
    obtain ⟨ty,cs,id,loc,how,body,kids⟩:=x
    simp only at d0 d1 d2 d3 d4 d5 d6 K1 K3 K2 K4 K0 HX HFm CM CT CC CI CL l4 l5 l6 l7
    have hba:=(Below.refl wr.heap.size wr).alloc (Nat.le_refl _) (.cells #[.string ty,.string cs,.string id,.string loc,.int .i64 how,.slice a1 body.length a2,.slice a3 kids.length a4] 25)
    have hbA:Below w1.heap.size w1 _:=(hb3.trans (hbr.mono hb3.size)).trans (hba.mono (by have:=hb3.size;omega))
    go_wp2_with fail
    refine (CM.out _).mono ?_
    rintro e wx ⟨rfl,hwx⟩
    have hwx':=hwx.symm
    subst hwx'
    go_wp2_with fail
    refine (CT.out _ hbA).mono ?_
    rintro e w5 ⟨rfl,hb5⟩
    obtain ⟨m0,m1,m2,m3,m4,m5,m6,-,-,-,hb5r⟩:=made_seven hb5 wr.heap.size rfl
    have hb5w:Below w3.heap.size w3 w5:=hbr.trans (hb5r.mono hsr)
    have hb5all:Below w1.heap.size w1 w5:=hb3.trans (hb5w.mono hb3.size)
    clear CM CT d0 d1 d2 d3 d4 d5 d6 hb5 hbA hba
    cases ht:typeS ty.data.toList
    ·have HN2:Hid (RES = 1):=HBad.out 1 (K1.out (by rw [HX.out,ht];rfl)) (by decide)
     clear HGo HBad K1 K2 K3 K4 K0 HX HFm CI CL CC ht
     go_wp2_with fail
     go_ret
     exact ⟨by rw [HN2.out];rfl,hb1.trans (hb5all.mono hb1.size)⟩
    ·rw [ht] at HX
     by_cases hcs:cs.data.toList = []
     ·have hce:=empty_y cs hcs
      subst hce
      have HX2:Hid (textsOk ⟨ty,⟨#[]⟩,id,loc,how,body,kids⟩ = (wordS id.data.toList && wordS loc.data.toList)):=by unfold Hid;rw [HX.out];rfl
      clear HX ht CC
      go_wp2_with fail
      refine (CI.out _).mono ?_
      rintro e wx ⟨rfl,hwx⟩
      have hwx':=hwx.symm
      subst hwx'
      cases hi:wordS id.data.toList
      ·have HN2:Hid (RES = 1):=HBad.out 1 (K1.out (by rw [HX2.out,hi];rfl)) (by decide)
       clear HGo HBad K1 K2 K3 K4 K0 HFm CI CL HX2 hi
       go_wp2_with fail
       go_ret
       exact ⟨by rw [HN2.out];rfl,hb1.trans (hb5all.mono hb1.size)⟩
      ·rw [hi] at HX2
       go_wp2_with fail
       refine (CL.out _).mono ?_
       rintro e wx ⟨rfl,hwx⟩
       have hwx':=hwx.symm
       subst hwx'
       cases hj:wordS loc.data.toList
       ·have HN2:Hid (RES = 1):=HBad.out 1 (K1.out (by rw [HX2.out,hj];rfl)) (by decide)
        clear HGo HBad K1 K2 K3 K4 K0 HFm CI CL HX2 hi hj
        go_wp2_with fail
        go_ret
        exact ⟨by rw [HN2.out];rfl,hb1.trans (hb5all.mono hb1.size)⟩
       ·have HTx:Hid (textsOk ⟨ty,⟨#[]⟩,id,loc,how,body,kids⟩ = true):=by unfold Hid;rw [HX2.out,hj];rfl
        clear HX2 hi hj
        by_cases hh:how < 0
        ·have HN2:Hid (RES = 3):=HBad.out 3 (K3.out HTx.out (.inl hh)) (by decide)
         clear HGo HBad K1 K2 K3 K4 K0 HFm CI CL HTx
         go_wp2_with fail
         go_ret
         exact ⟨by rw [HN2.out];rfl,hb1.trans (hb5all.mono hb1.size)⟩
        ·by_cases hh2:2 < how
         ·have HN2:Hid (RES = 3):=HBad.out 3 (K3.out HTx.out (.inr hh2)) (by decide)
          clear HGo HBad K1 K2 K3 K4 K0 HFm CI CL HTx
          go_wp2_with fail
          go_ret
          exact ⟨by rw [HN2.out];rfl,hb1.trans (hb5all.mono hb1.size)⟩
         ·by_cases hbl:4000 < body.length
          ·have hbz:(4000:Int) < (body.length:Int):=by omega
           have HN2:Hid (RES = 2):=HBad.out 2 (K2.out HTx.out (by omega) hbl) (by decide)
           clear HGo HBad K1 K2 K3 K4 K0 HFm CI CL HTx
           go_wp2_with fail
           go_ret
           exact ⟨by rw [HN2.out];rfl,hb1.trans (hb5all.mono hb1.size)⟩
          ·have hbz:¬ ((4000:Int) < (body.length:Int)):=by omega
           cases hM:manyS ty.data.toList
           ·rw [hM] at HFm
            by_cases hk0:kids.length = 0
            ·have hk0':kids = []:=List.length_eq_zero_iff.1 hk0
             have hkz:¬ ((0:Int) < (kids.length:Int)):=by omega
             have hkz':decide ((0:Int) < (kids.length:Int)) = false:=by simp;omega
             have HG2:Hid (RES = badF (L.drop (k + 1))):=HGo.out (K0.out HTx.out (by omega) hbl (by rw [HFm.out,hk0'];rfl))
             clear HGo
             clear HBad K1 K2 K3 K4 K0 HFm CI CL
             go_wp2_with fail
             go_roundw
             case rel=>exact ⟨k + 1,by omega,by go_num,hb5w,HG2⟩
             case measure=>simp [intOf];omega
            ·have hkz:(0:Int) < (kids.length:Int):=by omega
             have HN2:Hid (RES = 4):=HBad.out 4 (K4.out HTx.out (by omega) hbl (by rw [HFm.out];cases kids <;> simp_all)) (by decide)
             clear HGo HBad K1 K2 K3 K4 K0 HFm CI CL
             go_wp2_with fail
             go_ret
             exact ⟨by rw [HN2.out];rfl,hb1.trans (hb5all.mono hb1.size)⟩
           ·rw [hM] at HFm
            by_cases hk0:kids.length = 0
            ·have hk0':kids = []:=List.length_eq_zero_iff.1 hk0
             have hkz:((kids.length:Int) == 0) = true:=by simp [hk0]
             have HN2:Hid (RES = 4):=HBad.out 4 (K4.out HTx.out (by omega) hbl (by rw [HFm.out,hk0'];rfl)) (by decide)
             clear HGo HBad K1 K2 K3 K4 K0 HFm CI CL
             go_wp2_with fail
             go_ret
             exact ⟨by rw [HN2.out];rfl,hb1.trans (hb5all.mono hb1.size)⟩
            ·have hkz:((kids.length:Int) == 0) = false:=by rw [beq_eq_false_iff_ne];omega
             have hke:kids.isEmpty = false:=by cases kids <;> simp_all
             by_cases hb0:body.length = 0
             ·have hb0':body = []:=List.length_eq_zero_iff.1 hb0
              have hbz2:decide ((0:Int) < (body.length:Int)) = false:=by simp;omega
              by_cases hh0:how = 0
              ·subst hh0
               have HG2:Hid (RES = badF (L.drop (k + 1))):=HGo.out (K0.out HTx.out (by omega) hbl (by rw [HFm.out,hke,hb0'];rfl))
               clear HGo
               clear HBad K1 K2 K3 K4 K0 HFm CI CL
               go_wp2_with fail
               go_roundw
               case rel=>exact ⟨k + 1,by omega,by go_num,hb5w,HG2⟩
               case measure=>simp [intOf];omega
              ·have hhz:(how != 0) = true:=by simpa using hh0
               have hhz':(how == 0) = false:=by rw [beq_eq_false_iff_ne];exact hh0
               have HN2:Hid (RES = 4):=HBad.out 4 (K4.out HTx.out (by omega) hbl (by rw [HFm.out,hke,hb0'];simp [hh0])) (by decide)
               clear HGo HBad K1 K2 K3 K4 K0 HFm CI CL
               go_wp2_with fail
               go_ret
               exact ⟨by rw [HN2.out];rfl,hb1.trans (hb5all.mono hb1.size)⟩
             ·have hbz2:(0:Int) < (body.length:Int):=by omega
              have hbe:body.isEmpty = false:=by cases body <;> simp_all
              have HN2:Hid (RES = 4):=HBad.out 4 (K4.out HTx.out (by omega) hbl (by rw [HFm.out,hke,hbe];rfl)) (by decide)
              clear HGo HBad K1 K2 K3 K4 K0 HFm CI CL
              go_wp2_with fail
              go_ret
              exact ⟨by rw [HN2.out];rfl,hb1.trans (hb5all.mono hb1.size)⟩
     ·have hce:=empty_n cs hcs
      have HcsI:cs.data.toList.isEmpty = false:=by cases hq:cs.data.toList <;> simp_all
      go_wp2_with fail
      refine (CC.out _).mono ?_
      rintro e wx ⟨rfl,hwx⟩
      have hwx':=hwx.symm
      subst hwx'
      cases htk:tokenS cs.data.toList
      ·have HN2:Hid (RES = 1):=HBad.out 1 (K1.out (by rw [HX.out,htk,HcsI];rfl)) (by decide)
       clear HGo HBad K1 K2 K3 K4 K0 HX HFm CI CL CC ht htk
       go_wp2_with fail
       go_ret
       exact ⟨by rw [HN2.out];rfl,hb1.trans (hb5all.mono hb1.size)⟩
      ·have HX2:Hid (textsOk ⟨ty,cs,id,loc,how,body,kids⟩ = (wordS id.data.toList && wordS loc.data.toList)):=by unfold Hid;rw [HX.out,htk];simp
       clear HX ht CC htk
       go_wp2_with fail
       refine (CI.out _).mono ?_
       rintro e wx ⟨rfl,hwx⟩
       have hwx':=hwx.symm
       subst hwx'
       cases hi:wordS id.data.toList
       ·have HN2:Hid (RES = 1):=HBad.out 1 (K1.out (by rw [HX2.out,hi];rfl)) (by decide)
        clear HGo HBad K1 K2 K3 K4 K0 HFm CI CL HX2 hi
        go_wp2_with fail
        go_ret
        exact ⟨by rw [HN2.out];rfl,hb1.trans (hb5all.mono hb1.size)⟩
       ·rw [hi] at HX2
        go_wp2_with fail
        refine (CL.out _).mono ?_
        rintro e wx ⟨rfl,hwx⟩
        have hwx':=hwx.symm
        subst hwx'
        cases hj:wordS loc.data.toList
        ·have HN2:Hid (RES = 1):=HBad.out 1 (K1.out (by rw [HX2.out,hj];rfl)) (by decide)
         clear HGo HBad K1 K2 K3 K4 K0 HFm CI CL HX2 hi hj
         go_wp2_with fail
         go_ret
         exact ⟨by rw [HN2.out];rfl,hb1.trans (hb5all.mono hb1.size)⟩
        ·have HTx:Hid (textsOk ⟨ty,cs,id,loc,how,body,kids⟩ = true):=by unfold Hid;rw [HX2.out,hj];rfl
         clear HX2 hi hj
         by_cases hh:how < 0
         ·have HN2:Hid (RES = 3):=HBad.out 3 (K3.out HTx.out (.inl hh)) (by decide)
          clear HGo HBad K1 K2 K3 K4 K0 HFm CI CL HTx
          go_wp2_with fail
          go_ret
          exact ⟨by rw [HN2.out];rfl,hb1.trans (hb5all.mono hb1.size)⟩
         ·by_cases hh2:2 < how
          ·have HN2:Hid (RES = 3):=HBad.out 3 (K3.out HTx.out (.inr hh2)) (by decide)
           clear HGo HBad K1 K2 K3 K4 K0 HFm CI CL HTx
           go_wp2_with fail
           go_ret
           exact ⟨by rw [HN2.out];rfl,hb1.trans (hb5all.mono hb1.size)⟩
          ·by_cases hbl:4000 < body.length
           ·have hbz:(4000:Int) < (body.length:Int):=by omega
            have HN2:Hid (RES = 2):=HBad.out 2 (K2.out HTx.out (by omega) hbl) (by decide)
            clear HGo HBad K1 K2 K3 K4 K0 HFm CI CL HTx
            go_wp2_with fail
            go_ret
            exact ⟨by rw [HN2.out];rfl,hb1.trans (hb5all.mono hb1.size)⟩
           ·have hbz:¬ ((4000:Int) < (body.length:Int)):=by omega
            cases hM:manyS ty.data.toList
            ·rw [hM] at HFm
             by_cases hk0:kids.length = 0
             ·have hk0':kids = []:=List.length_eq_zero_iff.1 hk0
              have hkz:¬ ((0:Int) < (kids.length:Int)):=by omega
              have hkz':decide ((0:Int) < (kids.length:Int)) = false:=by simp;omega
              have HG2:Hid (RES = badF (L.drop (k + 1))):=HGo.out (K0.out HTx.out (by omega) hbl (by rw [HFm.out,hk0'];rfl))
              clear HGo
              clear HBad K1 K2 K3 K4 K0 HFm CI CL
              go_wp2_with fail
              go_roundw
              case rel=>exact ⟨k + 1,by omega,by go_num,hb5w,HG2⟩
              case measure=>simp [intOf];omega
             ·have hkz:(0:Int) < (kids.length:Int):=by omega
              have HN2:Hid (RES = 4):=HBad.out 4 (K4.out HTx.out (by omega) hbl (by rw [HFm.out];cases kids <;> simp_all)) (by decide)
              clear HGo HBad K1 K2 K3 K4 K0 HFm CI CL
              go_wp2_with fail
              go_ret
              exact ⟨by rw [HN2.out];rfl,hb1.trans (hb5all.mono hb1.size)⟩
            ·rw [hM] at HFm
             by_cases hk0:kids.length = 0
             ·have hk0':kids = []:=List.length_eq_zero_iff.1 hk0
              have hkz:((kids.length:Int) == 0) = true:=by simp [hk0]
              have HN2:Hid (RES = 4):=HBad.out 4 (K4.out HTx.out (by omega) hbl (by rw [HFm.out,hk0'];rfl)) (by decide)
              clear HGo HBad K1 K2 K3 K4 K0 HFm CI CL
              go_wp2_with fail
              go_ret
              exact ⟨by rw [HN2.out];rfl,hb1.trans (hb5all.mono hb1.size)⟩
             ·have hkz:((kids.length:Int) == 0) = false:=by rw [beq_eq_false_iff_ne];omega
              have hke:kids.isEmpty = false:=by cases kids <;> simp_all
              by_cases hb0:body.length = 0
              ·have hb0':body = []:=List.length_eq_zero_iff.1 hb0
               have hbz2:decide ((0:Int) < (body.length:Int)) = false:=by simp;omega
               by_cases hh0:how = 0
               ·subst hh0
                have HN2:Hid (RES = 4):=HBad.out 4 (K4.out HTx.out (by omega) hbl (by rw [HFm.out,hke,hb0',HcsI];rfl)) (by decide)
                clear HGo HBad K1 K2 K3 K4 K0 HFm CI CL
                go_wp2_with fail
                go_ret
                exact ⟨by rw [HN2.out];rfl,hb1.trans (hb5all.mono hb1.size)⟩
               ·have hhz:(how != 0) = true:=by simpa using hh0
                have hhz':(how == 0) = false:=by rw [beq_eq_false_iff_ne];exact hh0
                have HN2:Hid (RES = 4):=HBad.out 4 (K4.out HTx.out (by omega) hbl (by rw [HFm.out,hke,hb0'];simp [hh0])) (by decide)
                clear HGo HBad K1 K2 K3 K4 K0 HFm CI CL
                go_wp2_with fail
                go_ret
                exact ⟨by rw [HN2.out];rfl,hb1.trans (hb5all.mono hb1.size)⟩
              ·have hbz2:(0:Int) < (body.length:Int):=by omega
               have hbe:body.isEmpty = false:=by cases body <;> simp_all
               have HN2:Hid (RES = 4):=HBad.out 4 (K4.out HTx.out (by omega) hbl (by rw [HFm.out,hke,hbe];rfl)) (by decide)
               clear HGo HBad K1 K2 K3 K4 K0 HFm CI CL
               go_wp2_with fail
               go_ret
               exact ⟨by rw [HN2.out];rfl,hb1.trans (hb5all.mono hb1.size)⟩
   ·have hlz:¬ ((k:Int) < (n:Int)):=by omega
    have HN2:Hid (RES = 0):=by unfold Hid;rw [HD.out,List.drop_of_length_le (by rw [HN.out];omega)];rfl
    clear HD HK
    go_wp2_with fail
    go_ret
    exact ⟨by rw [HN2.out];rfl,hb1.trans ((hb3.trans (hbr.mono hb3.size)).mono hb1.size)⟩
 ·have hbad:=hno hok
  have HR:Hid (checkP p = 2):=HNo.out hok
  clear hyes hno HY HNo HFl CF hok hH hT
  generalize (sizedP 3 p).1 = s1 at *
  generalize (sizedP 3 p).2 = s2 at *
  generalize checkP p = RES at *
  go_enter Tryz.func10,Tryz.ntmps10
  go_wp2_with fail
  refine (CS.out w1 (Below.refl _ _)).mono ?_
  rintro e w2 ⟨rfl,hb2⟩
  clear CS u0 u1 u2 u3 u4 u5 u6 hw1
  by_cases h1:12 < s1
  ·have z1:(12:Int) < (s1:Int):=by omega
   go_wp2_with fail
   go_ret
   exact ⟨by rw [HR.out];rfl,hb1.trans (hb2.mono hb1.size)⟩
  ·have z1:decide ((12:Int) < (s1:Int)) = false:=by simp;omega
   have z2:(3:Int) < (s2:Int):=by omega
   go_wp2_with fail
   go_ret
   exact ⟨by rw [HR.out];rfl,hb1.trans (hb2.mono hb1.size)⟩
end Go.Proofs.YtbbfcbodhmeanaaGreatDoor



namespace Go.Proofs.YtbbfcbodhmeanaaGreatDoor
theorem noFr_none {l:List UInt8} (h:Lib.indexByte l 35 = -1):noFr l = l:=by
 have h1:=Lib.indexByte_none h
 unfold noFr
 cases hc:cutB 35 l with
 | none=>rfl
 | some x =>
  obtain ⟨a,b⟩:=x
  have e:=(cutB_some 35 l a b hc).1
  exact absurd (by rw [e];simp) (h1 a.length)
theorem noFr_some {l:List UInt8} {i:Nat} (h:Lib.indexByte l 35 = i):noFr l = l.take i:=by
 obtain ⟨h1,h2⟩:=Lib.indexByte_some h
 have hi:i < l.length:=(List.getElem?_eq_some_iff.1 h1).1
 have e:l = l.take i ++ 35::l.drop (i + 1):=by
  have:=List.drop_eq_getElem_cons hi
  have h3:l[i] = 35:=(List.getElem?_eq_some_iff.1 h1).2
  rw [h3] at this
  rw [← this,List.take_append_drop]
 have ha:∀ c ∈ l.take i,c ≠ 35:=by
  intro c hc
  obtain ⟨k,hk,rfl⟩:=List.getElem_of_mem hc
  rw [List.length_take] at hk
  have:=h2 k (by omega)
  rw [List.getElem_take]
  intro e2
  rw [List.getElem?_eq_getElem (by omega),e2] at this
  exact this rfl
 unfold noFr
 have e3:=cutB_at 35 (l.take i) (l.drop (i + 1)) ha
 rw [← e] at e3
 rw [e3]
end Go.Proofs.YtbbfcbodhmeanaaGreatDoor



namespace Go.Proofs.YtbbfcbodhmeanaaGreatDoor
open Go.RowKit
theorem split_first (s:ByteArray):∃ t,Lib.splitB ⟨#[35]⟩ 0 (Lib.countB s ⟨#[35]⟩) s = tx8 (noFr s.data.toList)::t:=by
 have e1:Lib.indexB s ⟨#[35]⟩ = Lib.indexByte s.data.toList 35:=Lib.index_one _ _
 rcases (by have:=Lib.indexByte_ge s.data.toList 35;omega:Lib.indexByte s.data.toList 35 = -1 ∨ 0≤Lib.indexByte s.data.toList 35) with h | h
 ·rw [Lib.splitB_miss _ _ _ _ (e1.trans h),noFr_none h]
  exact ⟨[],rfl⟩
 ·obtain ⟨i,hi⟩:∃ i:Nat,Lib.indexByte s.data.toList 35 = i:=⟨_,(Int.toNat_of_nonneg h).symm⟩
  rw [Lib.countB_hit s ⟨#[35]⟩ i (by decide) (e1.trans hi),Nat.add_comm,Lib.splitB_hit _ _ _ s i (e1.trans hi),noFr_some hi]
  refine ⟨_,congrArg (·::_) ?_⟩
  apply ByteArray.ext
  apply Array.ext'
  rw [tx8_data,Nat.add_zero,Lib.extract_from_zero]
set_option maxHeartbeats 2000000 in
theorem no_any (s:ByteArray) (hs:s.size≤4000) (w:World) (hm:MaxAt w) :
  Calls Tryz.prog 56 #[.string s] w fun e w'=>e = .returned (.string (tx8 (noFr s.data.toList)))∧Below w.heap.size w w':=by
 obtain ⟨mx,hmx⟩:=hm
 have C:=Tryz.strings_Split s ⟨#[35]⟩ mx w (by omega) hmx (by decide)
 obtain ⟨t,ht⟩:=split_first s
 rw [ht] at C
 obtain ⟨n,hn⟩:∃ n,Lib.countB s ⟨#[35]⟩ + 1 = n:=⟨_,rfl⟩
 have hn0:0 < n:=by omega
 rw [hn] at C
 have hc:(((tx8 (noFr s.data.toList)::t).map Value.string).toArray)[0]? = some (.string (tx8 (noFr s.data.toList))):=by simp
 generalize ((tx8 (noFr s.data.toList)::t).map Value.string).toArray = CS at *
 generalize tx8 (noFr s.data.toList) = R at *
 clear ht hn
 have C':Hid (Calls _ _ _ _ _):=C
 clear C
 have hn0':(0:Int) < (n:Int):=by omega
 go_enter Tryz.func56,Tryz.ntmps56
 go_wp2_with fail
 refine C'.out.mono ?_
 rintro e w1 ⟨rfl,rfl⟩
 have hcell:(w.alloc (.cells CS 9)).cell? ⟨w.heap.size,0,none⟩ = some (.string R):=by rw [blk_c (blk_new w _) 0];exact hc
 go_wp2_with fail
 go_ret
 exact ⟨rfl,(Below.refl _ _).alloc (Nat.le_refl _) _⟩
end Go.Proofs.YtbbfcbodhmeanaaGreatDoor



namespace Go.Proofs.YtbbfcbodhmeanaaGreatDoor
open Go.RowKit
theorem goE_bar (l:List UInt8):(tx8 l).toList.isEmpty = l.isEmpty:=by rw [ByteArray.toList_eq];rfl
theorem goE_ba (s:ByteArray):s.toList.isEmpty = s.data.toList.isEmpty:=by rw [ByteArray.toList_eq]
theorem goE_beq (a b:List UInt8):((tx8 a).toList == (tx8 b).toList) = (a == b):=by rw [ByteArray.toList_eq,ByteArray.toList_eq];rfl
set_option maxRecDepth 1000000 in
set_option maxHeartbeats 4000000 in
theorem lgR23 (w:World) (hM:∀ W,Below w.heap.size w W→MaxAt W) (wb wo n cw G Y k:Nat) (hk:k < n) (loc:ByteArray) (wk LE:List UInt8) (hwk:wk.length≤120) (hLE:LE.length≤120) (hy:w.cell? ⟨Y,3,none⟩ = some (.string loc)) (hw:w.cell? ⟨wb,wo + k,none⟩ = some (.string (tx8 wk))) (hg:w.cell? ⟨G,4,none⟩ = some (.string (tx8 LE))) (c0 c1 c2 c3 c4 c7 c8 c9 c10 c11 c12 c13 c14 c18 c19 c20 c21 c22 c23 c24 c25 c26 c27 c28 c29 c30 c31 c32 c33 c34 c35 c36 c37 c38 c39 c40 c41 c42 c43 c44 c45 c46 c47 c48 c49 c50 c51 c52 c53 c54 c55 c56 c57 c58 c59 c60 c61 c62 c63 c64 c65 c66 c67 c68 c69 c70 c71 c72 c73 c74 c75 c76 c77 c78 c79 c80 c81 c82 c83 c84 c85 c86 c87 c88 c89 c90 c91 c92 c93 c94 c95 c96 c97 c98 c99 c100 c101 c102 c103 c104 c105 c106 c107 c108 c109 c110 c111 c112 c113 c114 c115 c116 c117 c118 c119 c120 c121 c122 c123 c124 c125 c126 c127 c128 c129 c130:Value) (Q:Exit→Act→World→Prop)
  (hexit:∀ u80 u81 u82 u83 u84 u85 u86 u87 u88 u89 u90 u91 u92 u93 u94 u95 u96 u97 u98 u99 u100 u101 u102:Value,∀ w':World,Below w.heap.size w w'→Q .normal ⟨(c0::c1::c2::c3::c4::.slice (some ⟨wb,wo,none⟩) n cw::.func (Fn.func 56) #[] #[]::c7::c8::c9::c10::c11::c12::c13::c14::.pointer (some ⟨G,0,none⟩)::.int .i64 (k:Int)::.pointer (some ⟨Y,0,none⟩)::.bool (!loc.data.toList.isEmpty && !wk.isEmpty && (noFr wk == noFr LE))::c19::c20::c21::c22::c23::c24::c25::c26::c27::c28::c29::c30::c31::c32::c33::c34::c35::c36::c37::c38::c39::c40::c41::c42::c43::c44::c45::c46::c47::c48::c49::c50::c51::c52::c53::c54::c55::c56::c57::c58::c59::c60::c61::c62::c63::c64::c65::c66::c67::c68::c69::c70::c71::c72::c73::c74::c75::c76::c77::c78::c79::u80::u81::u82::u83::u84::u85::u86::u87::u88::u89::u90::u91::u92::u93::u94::u95::u96::u97::u98::u99::u100::u101::u102::c103::c104::c105::c106::c107::c108::c109::c110::c111::c112::c113::c114::c115::c116::c117::c118::c119::c120::c121::c122::c123::c124::c125::c126::c127::c128::c129::c130::[]).toArray,[]⟩ w') :
  Code.wp Tryz.prog (regAt Tryz.f14 22) Q ⟨(c0::c1::c2::c3::c4::.slice (some ⟨wb,wo,none⟩) n cw::.func (Fn.func 56) #[] #[]::c7::c8::c9::c10::c11::c12::c13::c14::.pointer (some ⟨G,0,none⟩)::.int .i64 (k:Int)::.pointer (some ⟨Y,0,none⟩)::c18::c19::c20::c21::c22::c23::c24::c25::c26::c27::c28::c29::c30::c31::c32::c33::c34::c35::c36::c37::c38::c39::c40::c41::c42::c43::c44::c45::c46::c47::c48::c49::c50::c51::c52::c53::c54::c55::c56::c57::c58::c59::c60::c61::c62::c63::c64::c65::c66::c67::c68::c69::c70::c71::c72::c73::c74::c75::c76::c77::c78::c79::c80::c81::c82::c83::c84::c85::c86::c87::c88::c89::c90::c91::c92::c93::c94::c95::c96::c97::c98::c99::c100::c101::c102::c103::c104::c105::c106::c107::c108::c109::c110::c111::c112::c113::c114::c115::c116::c117::c118::c119::c120::c121::c122::c123::c124::c125::c126::c127::c128::c129::c130::[]).toArray,[]⟩ w:=by
 have HX:Hid _:=hexit
 clear hexit
 conv=>arg 2;whnf
 have C1:Hid (∀ W,Below w.heap.size w W→Calls Tryz.prog 56 #[.string (tx8 wk)] W fun e w'=>e = .returned (.string (tx8 (noFr wk)))∧Below w.heap.size w w'):=fun W hW=>(no_any (tx8 wk) (by rw [tx8_size];omega) W (hM W hW)).mono fun e w' h=>⟨h.1,hW.trans (h.2.mono hW.size)⟩
 have C2:Hid (∀ W,Below w.heap.size w W→Calls Tryz.prog 56 #[.string (tx8 LE)] W fun e w'=>e = .returned (.string (tx8 (noFr LE)))∧Below w.heap.size w w'):=fun W hW=>(no_any (tx8 LE) (by rw [tx8_size];omega) W (hM W hW)).mono fun e w' h=>⟨h.1,hW.trans (h.2.mono hW.size)⟩
 have hki:(k:Int) < (n:Int):=by omega
 have e1:=goE_ba loc
 have e2:=goE_bar wk
 have hYl:Y < w.heap.size:=World.block_lt_of_cell? w _ hy
 have hWl:wb < w.heap.size:=World.block_lt_of_cell? w _ hw
 have hGl:G < w.heap.size:=World.block_lt_of_cell? w _ hg
 have f0:∀ W,Below w.heap.size w W→W.cell? ⟨Y,3,none⟩ = some (.string loc):=fun W h=>(h.cell (p:=⟨Y,3,none⟩) hYl).trans hy
 have f1:∀ W,Below w.heap.size w W→W.cell? ⟨wb,wo + k,none⟩ = some (.string (tx8 wk)):=fun W h=>(h.cell (p:=⟨wb,wo + k,none⟩) hWl).trans hw
 have f2:∀ W,Below w.heap.size w W→W.cell? ⟨G,4,none⟩ = some (.string (tx8 LE)):=fun W h=>(h.cell (p:=⟨G,4,none⟩) hGl).trans hg
 have hb0:Below w.heap.size w w.drew:=(Below.refl _ _).drew
 cases h1:loc.data.toList.isEmpty with
 | true =>
  rw [h1] at e1 HX
  clear C1 C2 h1 e2 f1 f2
  go_region
  exact HX.out _ _ _ _ _ _ _ _ _ _ _ _ _ _ _ _ _ _ _ _ _ _ _ _ hb0
 | false =>
  rw [h1] at e1 HX
  cases h2:wk.isEmpty with
  | true =>
   rw [h2] at e2 HX
   clear C1 C2 h1 h2 f2
   go_region
   exact HX.out _ _ _ _ _ _ _ _ _ _ _ _ _ _ _ _ _ _ _ _ _ _ _ _ hb0
  | false =>
   rw [h2] at e2 HX
   have e3:=goE_beq (noFr wk) (noFr LE)
   obtain ⟨T1,hT1⟩:∃ T,tx8 (noFr wk) = T:=⟨_,rfl⟩
   obtain ⟨T2,hT2⟩:∃ T,tx8 (noFr LE) = T:=⟨_,rfl⟩
   rw [hT1] at C1 e3
   rw [hT2] at C2 e3
   have HXX:Hid (∀ u80 u81 u82 u83 u84 u85 u86 u87 u88 u89 u90 u91 u92 u93 u94 u95 u96 u97 u98 u99 u100 u101 u102:Value,∀ w':World,Below w.heap.size w w'→Q .normal ⟨(c0::c1::c2::c3::c4::.slice (some ⟨wb,wo,none⟩) n cw::.func (Fn.func 56) #[] #[]::c7::c8::c9::c10::c11::c12::c13::c14::.pointer (some ⟨G,0,none⟩)::.int .i64 (k:Int)::.pointer (some ⟨Y,0,none⟩)::.bool (!false && !false && (noFr wk == noFr LE))::c19::c20::c21::c22::c23::c24::c25::c26::c27::c28::c29::c30::c31::c32::c33::c34::c35::c36::c37::c38::c39::c40::c41::c42::c43::c44::c45::c46::c47::c48::c49::c50::c51::c52::c53::c54::c55::c56::c57::c58::c59::c60::c61::c62::c63::c64::c65::c66::c67::c68::c69::c70::c71::c72::c73::c74::c75::c76::c77::c78::c79::u80::u81::u82::u83::u84::u85::u86::u87::u88::u89::u90::u91::u92::u93::u94::u95::u96::u97::u98::u99::u100::u101::u102::c103::c104::c105::c106::c107::c108::c109::c110::c111::c112::c113::c114::c115::c116::c117::c118::c119::c120::c121::c122::c123::c124::c125::c126::c127::c128::c129::c130::[]).toArray,[]⟩ w'):=HX.out
   generalize (noFr wk == noFr LE) = B1 at *
   clear h1 h2 hT1 hT2 HX
   go_region_held3 (fun W=>Below w.heap.size w W) (first | assumption | exact hb0) (first
    | (go_at_call 56;refine (C1.out _ ?_).mono ?_;(first | assumption | exact hb0);rintro e w1 ⟨rfl,hb1⟩)
    | (go_at_call 56;refine (C2.out _ ?_).mono ?_;(first | assumption | exact hb0);rintro e w2 ⟨rfl,hb2⟩))
   exact HXX.out _ _ _ _ _ _ _ _ _ _ _ _ _ _ _ _ _ _ _ _ _ _ _ _ (by assumption)
end Go.Proofs.YtbbfcbodhmeanaaGreatDoor


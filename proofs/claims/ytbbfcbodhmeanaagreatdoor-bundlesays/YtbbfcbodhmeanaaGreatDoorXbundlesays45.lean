
import Derived.Test.YtbbfcbodhmeanaaGreatDoorXbundlesays43
namespace Go.Proofs.YtbbfcbodhmeanaaGreatDoor
open Go.RowKit
def badF:List PT→Nat
 | []=>0
 | x::l=>if chkA x = 0 then badF l else chkA x
theorem badF_map:∀ L:List (PT × Int),badF (L.map (·.1)) = firstBad L
 | []=>rfl
 | x::L=>by rw [List.map_cons,badF,firstBad,badF_map L]
def checkP (p:PT):Nat:=if lev 3 p = true∧(tree 3 p).length≤12 then badF (flatP 3 p) else 2
theorem checkP_places (p:PT):checkP p = (placesP p).1:=by
 have hs:=places_spec p
 unfold checkP placesP
 by_cases hl:lev 3 p = true
 ·rw [tree_fuel 3 p hl 4 (by omega)] at hs
  by_cases h12:(tree 3 p).length≤12
  ·rw [if_pos ⟨hl,h12⟩,hs,if_pos ⟨hl,h12⟩]
   simp only
   have e:badF (flatP 3 p) = firstBad ((tree 3 p).map (abs 0 (-1))):=by
    rw [← badF_map,List.map_map,← tree_flat]
    rfl
   rw [e]
   split
   ·assumption
   ·rfl
  ·rw [if_neg (fun h=>h12 h.2),hs,if_neg (fun h=>h12 h.2)]
 ·rw [if_neg (fun h=>hl h.1),hs,if_neg (fun h=>hl h.1)]
theorem empty_n (s:ByteArray) (h:s.data.toList ≠ []):s.toList.isEmpty = false:=by
 rw [ByteArray.toList_eq]
 cases hs:s.data.toList with
 | nil=>exact absurd hs h
 | cons a l=>rfl
theorem empty_y (s:ByteArray) (h:s.data.toList = []):s = ⟨#[]⟩:=by
 apply ByteArray.ext;apply Array.toList_inj.1;exact h
set_option maxHeartbeats 8000000 in
set_option maxRecDepth 100000 in
theorem rcheck_any (F:Nat) (p:PT) (pb:Option Addr) (cb:Nat) (pk:Option Addr) (ck:Nat) (w:World) (hH:PHeld w F p pb cb pk ck) (hT:∀ w',Below w.heap.size w w'→Lib.Utf8Tabs 1 2 w') :
  Calls Tryz.prog 10 #[.agg #[.string p.ty,.string p.cs,.string p.id,.string p.loc,.int .i64 p.how,.slice pb p.body.length cb,.slice pk p.kids.length ck]] w fun e w'=>e = .returned (.int .i64 (checkP p:Nat))∧Below w.heap.size w w':=by
 obtain ⟨w1,hw1⟩:∃ w1,w.alloc (.cells #[.string p.ty,.string p.cs,.string p.id,.string p.loc,.int .i64 p.how,.slice pb p.body.length cb,.slice pk p.kids.length ck] 25) = w1:=⟨_,rfl⟩
 have hb1:Below w.heap.size w w1:=by rw [← hw1];exact (Below.refl _ _).alloc (Nat.le_refl _) _
 have HB:Hid (∀ w',Below w1.heap.size w1 w'→w'.cell? ⟨w.heap.size,0,none⟩ = some (.string p.ty)∧w'.cell? ⟨w.heap.size,1,none⟩ = some (.string p.cs)∧w'.cell? ⟨w.heap.size,2,none⟩ = some (.string p.id)∧w'.cell? ⟨w.heap.size,3,none⟩ = some (.string p.loc)∧w'.cell? ⟨w.heap.size,4,none⟩ = some (.int .i64 p.how)∧w'.cell? ⟨w.heap.size,5,none⟩ = some (.slice pb p.body.length cb)∧w'.cell? ⟨w.heap.size,6,none⟩ = some (.slice pk p.kids.length ck)):=fun w' hb=>by
  rw [← hw1] at hb
  obtain ⟨m0,m1,m2,m3,m4,m5,m6,_⟩:=made_seven hb w.heap.size rfl
  exact ⟨m0,m1,m2,m3,m4,m5,m6⟩
 have CS:Hid (∀ w',Below w1.heap.size w1 w'→Calls Tryz.prog 43 #[.agg #[.string p.ty,.string p.cs,.string p.id,.string p.loc,.int .i64 p.how,.slice pb p.body.length cb,.slice pk p.kids.length ck],.int .i64 3] w' fun e w''=>e = .returned (.tuple #[.int .i64 ((sizedP 3 p).1:Nat),.int .i64 ((sizedP 3 p).2:Nat)])∧Below w'.heap.size w' w''):=fun w' hb=>sized_any 3 F p pb cb pk ck 3 w' rfl (by decide) (hH.below (hb1.trans (hb.mono hb1.size)))
 have CF:Hid (lev 3 p = true∧(tree 3 p).length≤12→∀ w',Below w1.heap.size w1 w'→Calls Tryz.prog 44 #[.agg #[.string p.ty,.string p.cs,.string p.id,.string p.loc,.int .i64 p.how,.slice pb p.body.length cb,.slice pk p.kids.length ck]] w' fun e w''=>FlatPost F (flatP 3 p) w' e w''):=fun h w' hb=>flat_any 3 F p pb cb pk ck w' h.1 (by rw [← tree_flat,List.length_map];omega) (hH.below (hb1.trans (hb.mono hb1.size)))
 have HT:Hid (∀ w',Below w1.heap.size w1 w'→Lib.Utf8Tabs 1 2 w'):=fun w' hb=>hT w' (hb1.trans (hb.mono hb1.size))
 have hsz:=sizedP_le 3 p
 obtain ⟨hyes,hno⟩:=sized_says 3 (by decide) p
 have HY:Hid (lev 3 p = true∧(tree 3 p).length≤12→checkP p = badF (flatP 3 p)):=fun h=>by rw [checkP,if_pos h]
 have HNo:Hid (¬ (lev 3 p = true∧(tree 3 p).length≤12)→checkP p = 2):=fun h=>by rw [checkP,if_neg h]
 have HFl:Hid (lev 3 p = true∧(tree 3 p).length≤12→(flatP 3 p).length≤12):=fun h=>by rw [← tree_flat,List.length_map];exact h.2
 obtain ⟨u0,u1,u2,u3,u4,u5,u6⟩:=HB.out w1 (Below.refl _ _)
 by_cases hok:lev 3 p = true∧(tree 3 p).length≤12
 ·obtain ⟨e1,e2⟩:=hyes hok
  have h12:(sizedP 3 p).1≤12:=by rw [e1];exact hok.2
  have CF2:Hid (∀ w',Below w1.heap.size w1 w'→Calls Tryz.prog 44 #[.agg #[.string p.ty,.string p.cs,.string p.id,.string p.loc,.int .i64 p.how,.slice pb p.body.length cb,.slice pk p.kids.length ck]] w' fun e w''=>FlatPost F (flatP 3 p) w' e w''):=CF.out hok
  have HR:Hid (checkP p = badF (flatP 3 p)):=HY.out hok
  have hfl:=HFl.out hok
  clear hyes hno HY HNo HFl CF hok e1 hH hT hsz
  generalize (sizedP 3 p).1 = s1 at *
  generalize (sizedP 3 p).2 = s2 at *
  generalize checkP p = RES at *
  obtain ⟨L,hL⟩:∃ L,flatP 3 p = L:=⟨_,rfl⟩
  rw [hL] at CF2 HR hfl
  clear hL
  generalize p.body.length = nb at *
  generalize p.kids.length = nk at *
  have z1:decide ((12:Int) < (s1:Int)) = false:=by simp;omega
  have z2:decide ((3:Int) < (s2:Int)) = false:=by simp;omega
  go_enter Tryz.func10,Tryz.ntmps10
  go_wp2_with fail
  refine (CS.out w1 (Below.refl _ _)).mono ?_
  rintro e w2 ⟨rfl,hb2⟩
  obtain ⟨v0,v1,v2,v3,v4,v5,v6⟩:=HB.out w2 hb2
  clear CS u0 u1 u2 u3 u4 u5 u6 hw1
  go_wp2_with fail
  refine (CF2.out w2 hb2).mono ?_
  rintro e w3 ⟨q,c,rfl,hb3',hqn,hlc,hcm,hk3,-⟩
  have hb3:=hb2.trans (hb3'.mono hb2.size)
  obtain ⟨n,hn⟩:∃ n,L.length = n:=⟨_,rfl⟩
  have HN:Hid (L.length = n):=hn
  rw [hn] at hfl hlc
  simp only [hn]
  have HK:Hid (∀ k,k < n→∃ b o,q = some ⟨b,o,none⟩∧PAt w3 F b (o + k * 7) (L.getD k pt0)):=fun k hk=>by
   obtain ⟨b,o,e1,e2⟩:=hk3.each (fun e=>by rw [e] at hn;simp at hn;omega)
   exact ⟨b,o,e1,e2 k (by omega)⟩
  clear CF2 v0 v1 v2 v3 v4 v5 v6 hk3 hn hb3' hb2
  go_wp2_with fail
  go_loopw [22] (fun iv wr=>∃ k:Nat,k≤n∧iv = .int .i64 k∧Below w3.heap.size w3 wr∧Hid (RES = badF (L.drop k))) (fun iv _=>n - (intOf iv).toNat)
  case atStart=>exact ⟨0,Nat.zero_le _,rfl,Below.refl _ _,HR⟩
  case round =>
   obtain ⟨k,hk,rfl,hbr,HD⟩:=hrel
   have hsr:=hbr.size
   by_cases hlt:k < n
   ·have hlz:(k:Int) < (n:Int):=by omega
    obtain ⟨b,o,rfl,hP⟩:=HK.out k hlt
    have hkL:k < L.length:=by rw [HN.out];exact hlt
    have hdr:L.drop k = L.getD k pt0::L.drop (k + 1):=by
     rw [List.drop_eq_getElem_cons hkL]
     simp [List.getD_eq_getElem?_getD,List.getElem?_eq_getElem hkL]
    rw [hdr,badF] at HD
    obtain ⟨x,hx⟩:∃ x,L.getD k pt0 = x:=⟨_,rfl⟩
    rw [hx] at HD hP
    have HGo:Hid (chkA x = 0→RES = badF (L.drop (k + 1))):=fun h=>by rw [HD.out,if_pos h]
    have HBad:Hid (∀ a,chkA x = a→a ≠ 0→RES = a):=fun a h h0=>by rw [HD.out,if_neg (by rw [h];exact h0),h]
    obtain ⟨a1,a2,a3,a4,hC,hHx⟩:=hP.below hbr
    obtain ⟨l0,l1,l2,l3,l4,l5,l6,l7⟩:=hHx.1
    unfold maxLen at l6 l7
    obtain ⟨d0,d1,d2,d3,d4,d5,d6⟩:=hC
    have hbB:b < wr.heap.size:=World.block_lt_of_cell? wr _ d0
    have K1:Hid (textsOk x = false→chkA x = 1):=fun h=>by rw [chkA,if_pos h]
    have K3:Hid (textsOk x = true→(x.how < 0 ∨ 2 < x.how)→chkA x = 3):=fun h h2=>by rw [chkA,if_neg (by rw [h];decide),if_pos h2]
    have K2:Hid (textsOk x = true→¬ (x.how < 0 ∨ 2 < x.how)→4000 < x.body.length→chkA x = 2):=fun h h2 h3=>by rw [chkA,if_neg (by rw [h];decide),if_neg h2,if_pos h3]
    have K4:Hid (textsOk x = true→¬ (x.how < 0 ∨ 2 < x.how)→¬ 4000 < x.body.length→formedP x = false→chkA x = 4):=fun h h2 h3 h4=>by rw [chkA,if_neg (by rw [h];decide),if_neg h2,if_neg h3,if_pos h4]
    have K0:Hid (textsOk x = true→¬ (x.how < 0 ∨ 2 < x.how)→¬ 4000 < x.body.length→formedP x = true→chkA x = 0):=fun h h2 h3 h4=>by rw [chkA,if_neg (by rw [h];decide),if_neg h2,if_neg h3,if_neg (by rw [h4];decide)]
    have HX:Hid (textsOk x = (typeS x.ty.data.toList && (x.cs.data.toList.isEmpty || tokenS x.cs.data.toList) && wordS x.id.data.toList && wordS x.loc.data.toList)):=rfl
    have HFm:Hid (formedP x = if manyS x.ty.data.toList then !x.kids.isEmpty && x.body.isEmpty && decide (x.how = 0) && x.cs.data.toList.isEmpty else x.kids.isEmpty):=rfl
    have CM:Hid (∀ w',Calls Tryz.prog 45 #[.string x.ty] w' fun e w''=>e = .returned (.bool (manyS x.ty.data.toList))∧w'' = w'):=fun w'=>rmany_any x.ty w' l0
    have CT:Hid (∀ w',Below w1.heap.size w1 w'→Calls Tryz.prog 46 #[.string x.ty] w' fun e w''=>e = .returned (.bool (typeS x.ty.data.toList))∧Below w'.heap.size w' w''):=fun w' hb=>rtype_any x.ty w' l0 (fun w'' hb'=>HT.out w'' (hb.trans (hb'.mono hb.size)))
    have CC:Hid (∀ w',Calls Tryz.prog 47 #[.string x.cs] w' fun e w''=>e = .returned (.bool (tokenS x.cs.data.toList))∧w'' = w'):=fun w'=>token_any x.cs w' l1
    have CI:Hid (∀ w',Calls Tryz.prog 48 #[.string x.id] w' fun e w''=>e = .returned (.bool (wordS x.id.data.toList))∧w'' = w'):=fun w'=>rword_any x.id w' l2
    have CL:Hid (∀ w',Calls Tryz.prog 48 #[.string x.loc] w' fun e w''=>e = .returned (.bool (wordS x.loc.data.toList))∧w'' = w'):=fun w'=>rword_any x.loc w' l3
    clear hx hP hHx hdr HD HK
    obtain ⟨ty,cs,id,loc,how,body,kids⟩:=x
    simp only at d0 d1 d2 d3 d4 d5 d6 K1 K3 K2 K4 K0 HX HFm CM CT CC CI CL l4 l5 l6 l7
    have hba:=(Below.refl wr.heap.size wr).alloc (Nat.le_refl _) (.cells #[.string ty,.string cs,.string id,.string loc,.int .i64 how,.slice a1 body.length a2,.slice a3 kids.length a4] 25)
    have hbA:Below w1.heap.size w1 _:=(hb3.trans (hbr.mono hb3.size)).trans (hba.mono (by have:=hb3.size;omega))
    go_wp2_with fail
    refine (CM.out _).mono ?_
    rintro e wx ⟨rfl,hwx⟩
    have hwx':=hwx.symm
    subst hwx'
    go_wp2_with fail
    refine (CT.out _ hbA).mono ?_
    rintro e w5 ⟨rfl,hb5⟩
    obtain ⟨m0,m1,m2,m3,m4,m5,m6,-,-,-,hb5r⟩:=made_seven hb5 wr.heap.size rfl
    have hb5w:Below w3.heap.size w3 w5:=hbr.trans (hb5r.mono hsr)
    have hb5all:Below w1.heap.size w1 w5:=hb3.trans (hb5w.mono hb3.size)
    clear CM CT d0 d1 d2 d3 d4 d5 d6 hb5 hbA hba
    cases ht:typeS ty.data.toList
    ·have HN2:Hid (RES = 1):=HBad.out 1 (K1.out (by rw [HX.out,ht];rfl)) (by decide)
     clear HGo HBad K1 K2 K3 K4 K0 HX HFm CI CL CC ht
     go_wp2_with fail
     go_ret
     exact ⟨by rw [HN2.out];rfl,hb1.trans (hb5all.mono hb1.size)⟩
    ·rw [ht] at HX
     by_cases hcs:cs.data.toList = []
     ·have hce:=empty_y cs hcs
      subst hce
      have HX2:Hid (textsOk ⟨ty,⟨#[]⟩,id,loc,how,body,kids⟩ = (wordS id.data.toList && wordS loc.data.toList)):=by unfold Hid;rw [HX.out];rfl
      clear HX ht CC
      go_wp2_with fail
      refine (CI.out _).mono ?_
      rintro e wx ⟨rfl,hwx⟩
      have hwx':=hwx.symm
      subst hwx'
      cases hi:wordS id.data.toList
      ·have HN2:Hid (RES = 1):=HBad.out 1 (K1.out (by rw [HX2.out,hi];rfl)) (by decide)
       clear HGo HBad K1 K2 K3 K4 K0 HFm CI CL HX2 hi
       go_wp2_with fail
       go_ret
       exact ⟨by rw [HN2.out];rfl,hb1.trans (hb5all.mono hb1.size)⟩
      ·rw [hi] at HX2
       go_wp2_with fail
       refine (CL.out _).mono ?_
       rintro e wx ⟨rfl,hwx⟩
       have hwx':=hwx.symm
       subst hwx'
       cases hj:wordS loc.data.toList
       ·have HN2:Hid (RES = 1):=HBad.out 1 (K1.out (by rw [HX2.out,hj];rfl)) (by decide)
        clear HGo HBad K1 K2 K3 K4 K0 HFm CI CL HX2 hi hj
        go_wp2_with fail
        go_ret
        exact ⟨by rw [HN2.out];rfl,hb1.trans (hb5all.mono hb1.size)⟩
       ·have HTx:Hid (textsOk ⟨ty,⟨#[]⟩,id,loc,how,body,kids⟩ = true):=by unfold Hid;rw [HX2.out,hj];rfl
        clear HX2 hi hj
        by_cases hh:how < 0
        ·have HN2:Hid (RES = 3):=HBad.out 3 (K3.out HTx.out (.inl hh)) (by decide)
         clear HGo HBad K1 K2 K3 K4 K0 HFm CI CL HTx
         go_wp2_with fail
         go_ret
         exact ⟨by rw [HN2.out];rfl,hb1.trans (hb5all.mono hb1.size)⟩
        ·by_cases hh2:2 < how
         ·have HN2:Hid (RES = 3):=HBad.out 3 (K3.out HTx.out (.inr hh2)) (by decide)
          clear HGo HBad K1 K2 K3 K4 K0 HFm CI CL HTx
          go_wp2_with fail
          go_ret
          exact ⟨by rw [HN2.out];rfl,hb1.trans (hb5all.mono hb1.size)⟩
         ·by_cases hbl:4000 < body.length
          ·have hbz:(4000:Int) < (body.length:Int):=by omega
           have HN2:Hid (RES = 2):=HBad.out 2 (K2.out HTx.out (by omega) hbl) (by decide)
           clear HGo HBad K1 K2 K3 K4 K0 HFm CI CL HTx
           go_wp2_with fail
           go_ret
           exact ⟨by rw [HN2.out];rfl,hb1.trans (hb5all.mono hb1.size)⟩
          ·have hbz:¬ ((4000:Int) < (body.length:Int)):=by omega
           cases hM:manyS ty.data.toList
           ·rw [hM] at HFm
            by_cases hk0:kids.length = 0
            ·have hk0':kids = []:=List.length_eq_zero_iff.1 hk0
             have hkz:¬ ((0:Int) < (kids.length:Int)):=by omega
             have hkz':decide ((0:Int) < (kids.length:Int)) = false:=by simp;omega
             have HG2:Hid (RES = badF (L.drop (k + 1))):=HGo.out (K0.out HTx.out (by omega) hbl (by rw [HFm.out,hk0'];rfl))
             clear HGo
             clear HBad K1 K2 K3 K4 K0 HFm CI CL
             go_wp2_with fail
             go_roundw
             case rel=>exact ⟨k + 1,by omega,by go_num,hb5w,HG2⟩
             case measure=>simp [intOf];omega
            ·have hkz:(0:Int) < (kids.length:Int):=by omega
             have HN2:Hid (RES = 4):=HBad.out 4 (K4.out HTx.out (by omega) hbl (by rw [HFm.out];cases kids <;> simp_all)) (by decide)
             clear HGo HBad K1 K2 K3 K4 K0 HFm CI CL
             go_wp2_with fail
             go_ret
             exact ⟨by rw [HN2.out];rfl,hb1.trans (hb5all.mono hb1.size)⟩
           ·rw [hM] at HFm
            by_cases hk0:kids.length = 0
            ·have hk0':kids = []:=List.length_eq_zero_iff.1 hk0
             have hkz:((kids.length:Int) == 0) = true:=by simp [hk0]
             have HN2:Hid (RES = 4):=HBad.out 4 (K4.out HTx.out (by omega) hbl (by rw [HFm.out,hk0'];rfl)) (by decide)
             clear HGo HBad K1 K2 K3 K4 K0 HFm CI CL
             go_wp2_with fail
             go_ret
             exact ⟨by rw [HN2.out];rfl,hb1.trans (hb5all.mono hb1.size)⟩
            ·have hkz:((kids.length:Int) == 0) = false:=by rw [beq_eq_false_iff_ne];omega
             have hke:kids.isEmpty = false:=by cases kids <;> simp_all
             by_cases hb0:body.length = 0
             ·have hb0':body = []:=List.length_eq_zero_iff.1 hb0
              have hbz2:decide ((0:Int) < (body.length:Int)) = false:=by simp;omega
              by_cases hh0:how = 0
              ·subst hh0
               have HG2:Hid (RES = badF (L.drop (k + 1))):=HGo.out (K0.out HTx.out (by omega) hbl (by rw [HFm.out,hke,hb0'];rfl))
               clear HGo
               clear HBad K1 K2 K3 K4 K0 HFm CI CL
               go_wp2_with fail
               go_roundw
               case rel=>exact ⟨k + 1,by omega,by go_num,hb5w,HG2⟩
               case measure=>simp [intOf];omega
              ·have hhz:(how != 0) = true:=by simpa using hh0
               have hhz':(how == 0) = false:=by rw [beq_eq_false_iff_ne];exact hh0
               have HN2:Hid (RES = 4):=HBad.out 4 (K4.out HTx.out (by omega) hbl (by rw [HFm.out,hke,hb0'];simp [hh0])) (by decide)
               clear HGo HBad K1 K2 K3 K4 K0 HFm CI CL
               go_wp2_with fail
               go_ret
               exact ⟨by rw [HN2.out];rfl,hb1.trans (hb5all.mono hb1.size)⟩
             ·have hbz2:(0:Int) < (body.length:Int):=by omega
              have hbe:body.isEmpty = false:=by cases body <;> simp_all
              have HN2:Hid (RES = 4):=HBad.out 4 (K4.out HTx.out (by omega) hbl (by rw [HFm.out,hke,hbe];rfl)) (by decide)
              clear HGo HBad K1 K2 K3 K4 K0 HFm CI CL
              go_wp2_with fail
              go_ret
              exact ⟨by rw [HN2.out];rfl,hb1.trans (hb5all.mono hb1.size)⟩
     ·have hce:=empty_n cs hcs
      have HcsI:cs.data.toList.isEmpty = false:=by cases hq:cs.data.toList <;> simp_all
      go_wp2_with fail
      refine (CC.out _).mono ?_
      rintro e wx ⟨rfl,hwx⟩
      have hwx':=hwx.symm
      subst hwx'
      cases htk:tokenS cs.data.toList
      ·have HN2:Hid (RES = 1):=HBad.out 1 (K1.out (by rw [HX.out,htk,HcsI];rfl)) (by decide)
       clear HGo HBad K1 K2 K3 K4 K0 HX HFm CI CL CC ht htk
       go_wp2_with fail
       go_ret
       exact ⟨by rw [HN2.out];rfl,hb1.trans (hb5all.mono hb1.size)⟩
      ·have HX2:Hid (textsOk ⟨ty,cs,id,loc,how,body,kids⟩ = (wordS id.data.toList && wordS loc.data.toList)):=by unfold Hid;rw [HX.out,htk];simp
       clear HX ht CC htk
       go_wp2_with fail
       refine (CI.out _).mono ?_
       rintro e wx ⟨rfl,hwx⟩
       have hwx':=hwx.symm
       subst hwx'
       cases hi:wordS id.data.toList
       ·have HN2:Hid (RES = 1):=HBad.out 1 (K1.out (by rw [HX2.out,hi];rfl)) (by decide)
        clear HGo HBad K1 K2 K3 K4 K0 HFm CI CL HX2 hi
        go_wp2_with fail
        go_ret
        exact ⟨by rw [HN2.out];rfl,hb1.trans (hb5all.mono hb1.size)⟩
       ·rw [hi] at HX2
        go_wp2_with fail
        refine (CL.out _).mono ?_
        rintro e wx ⟨rfl,hwx⟩
        have hwx':=hwx.symm
        subst hwx'
        cases hj:wordS loc.data.toList
        ·have HN2:Hid (RES = 1):=HBad.out 1 (K1.out (by rw [HX2.out,hj];rfl)) (by decide)
         clear HGo HBad K1 K2 K3 K4 K0 HFm CI CL HX2 hi hj
         go_wp2_with fail
         go_ret
         exact ⟨by rw [HN2.out];rfl,hb1.trans (hb5all.mono hb1.size)⟩
        ·have HTx:Hid (textsOk ⟨ty,cs,id,loc,how,body,kids⟩ = true):=by unfold Hid;rw [HX2.out,hj];rfl
         clear HX2 hi hj
         by_cases hh:how < 0
         ·have HN2:Hid (RES = 3):=HBad.out 3 (K3.out HTx.out (.inl hh)) (by decide)
          clear HGo HBad K1 K2 K3 K4 K0 HFm CI CL HTx
          go_wp2_with fail
          go_ret
          exact ⟨by rw [HN2.out];rfl,hb1.trans (hb5all.mono hb1.size)⟩
         ·by_cases hh2:2 < how
          ·have HN2:Hid (RES = 3):=HBad.out 3 (K3.out HTx.out (.inr hh2)) (by decide)
           clear HGo HBad K1 K2 K3 K4 K0 HFm CI CL HTx
           go_wp2_with fail
           go_ret
           exact ⟨by rw [HN2.out];rfl,hb1.trans (hb5all.mono hb1.size)⟩
          ·by_cases hbl:4000 < body.length
           ·have hbz:(4000:Int) < (body.length:Int):=by omega
            have HN2:Hid (RES = 2):=HBad.out 2 (K2.out HTx.out (by omega) hbl) (by decide)
            clear HGo HBad K1 K2 K3 K4 K0 HFm CI CL HTx
            go_wp2_with fail
            go_ret
            exact ⟨by rw [HN2.out];rfl,hb1.trans (hb5all.mono hb1.size)⟩
           ·have hbz:¬ ((4000:Int) < (body.length:Int)):=by omega
            cases hM:manyS ty.data.toList
            ·rw [hM] at HFm
             by_cases hk0:kids.length = 0
             ·have hk0':kids = []:=List.length_eq_zero_iff.1 hk0
              have hkz:¬ ((0:Int) < (kids.length:Int)):=by omega
              have hkz':decide ((0:Int) < (kids.length:Int)) = false:=by simp;omega
              have HG2:Hid (RES = badF (L.drop (k + 1))):=HGo.out (K0.out HTx.out (by omega) hbl (by rw [HFm.out,hk0'];rfl))
              clear HGo
              clear HBad K1 K2 K3 K4 K0 HFm CI CL
              go_wp2_with fail
              go_roundw
              case rel=>exact ⟨k + 1,by omega,by go_num,hb5w,HG2⟩
              case measure=>simp [intOf];omega
             ·have hkz:(0:Int) < (kids.length:Int):=by omega
              have HN2:Hid (RES = 4):=HBad.out 4 (K4.out HTx.out (by omega) hbl (by rw [HFm.out];cases kids <;> simp_all)) (by decide)
              clear HGo HBad K1 K2 K3 K4 K0 HFm CI CL
              go_wp2_with fail
              go_ret
              exact ⟨by rw [HN2.out];rfl,hb1.trans (hb5all.mono hb1.size)⟩
            ·rw [hM] at HFm
             by_cases hk0:kids.length = 0
             ·have hk0':kids = []:=List.length_eq_zero_iff.1 hk0
              have hkz:((kids.length:Int) == 0) = true:=by simp [hk0]
              have HN2:Hid (RES = 4):=HBad.out 4 (K4.out HTx.out (by omega) hbl (by rw [HFm.out,hk0'];rfl)) (by decide)
              clear HGo HBad K1 K2 K3 K4 K0 HFm CI CL
              go_wp2_with fail
              go_ret
              exact ⟨by rw [HN2.out];rfl,hb1.trans (hb5all.mono hb1.size)⟩
             ·have hkz:((kids.length:Int) == 0) = false:=by rw [beq_eq_false_iff_ne];omega
              have hke:kids.isEmpty = false:=by cases kids <;> simp_all
              by_cases hb0:body.length = 0
              ·have hb0':body = []:=List.length_eq_zero_iff.1 hb0
               have hbz2:decide ((0:Int) < (body.length:Int)) = false:=by simp;omega
               by_cases hh0:how = 0
               ·subst hh0
                have HN2:Hid (RES = 4):=HBad.out 4 (K4.out HTx.out (by omega) hbl (by rw [HFm.out,hke,hb0',HcsI];rfl)) (by decide)
                clear HGo HBad K1 K2 K3 K4 K0 HFm CI CL
                go_wp2_with fail
                go_ret
                exact ⟨by rw [HN2.out];rfl,hb1.trans (hb5all.mono hb1.size)⟩
               ·have hhz:(how != 0) = true:=by simpa using hh0
                have hhz':(how == 0) = false:=by rw [beq_eq_false_iff_ne];exact hh0
                have HN2:Hid (RES = 4):=HBad.out 4 (K4.out HTx.out (by omega) hbl (by rw [HFm.out,hke,hb0'];simp [hh0])) (by decide)
                clear HGo HBad K1 K2 K3 K4 K0 HFm CI CL
                go_wp2_with fail
                go_ret
                exact ⟨by rw [HN2.out];rfl,hb1.trans (hb5all.mono hb1.size)⟩
              ·have hbz2:(0:Int) < (body.length:Int):=by omega
               have hbe:body.isEmpty = false:=by cases body <;> simp_all
               have HN2:Hid (RES = 4):=HBad.out 4 (K4.out HTx.out (by omega) hbl (by rw [HFm.out,hke,hbe];rfl)) (by decide)
               clear HGo HBad K1 K2 K3 K4 K0 HFm CI CL
               go_wp2_with fail
               go_ret
               exact ⟨by rw [HN2.out];rfl,hb1.trans (hb5all.mono hb1.size)⟩
   ·have hlz:¬ ((k:Int) < (n:Int)):=by omega
    have HN2:Hid (RES = 0):=by unfold Hid;rw [HD.out,List.drop_of_length_le (by rw [HN.out];omega)];rfl
    clear HD HK
    go_wp2_with fail
    go_ret
    exact ⟨by rw [HN2.out];rfl,hb1.trans ((hb3.trans (hbr.mono hb3.size)).mono hb1.size)⟩
 ·have hbad:=hno hok
  have HR:Hid (checkP p = 2):=HNo.out hok
  clear hyes hno HY HNo HFl CF hok hH hT
  generalize (sizedP 3 p).1 = s1 at *
  generalize (sizedP 3 p).2 = s2 at *
  generalize checkP p = RES at *
  go_enter Tryz.func10,Tryz.ntmps10
  go_wp2_with fail
  refine (CS.out w1 (Below.refl _ _)).mono ?_
  rintro e w2 ⟨rfl,hb2⟩
  clear CS u0 u1 u2 u3 u4 u5 u6 hw1
  by_cases h1:12 < s1
  ·have z1:(12:Int) < (s1:Int):=by omega
   go_wp2_with fail
   go_ret
   exact ⟨by rw [HR.out];rfl,hb1.trans (hb2.mono hb1.size)⟩
  ·have z1:decide ((12:Int) < (s1:Int)) = false:=by simp;omega
   have z2:(3:Int) < (s2:Int):=by omega
   go_wp2_with fail
   go_ret
   exact ⟨by rw [HR.out];rfl,hb1.trans (hb2.mono hb1.size)⟩
end Go.Proofs.YtbbfcbodhmeanaaGreatDoor



import Derived.Test.YtbbfcbodhmeanaaGreatDoorXrewritesays3
namespace Go.Proofs.YtbbfcbodhmeanaaGreatDoor
open Go.RowKit
theorem empty_no (s:ByteArray) (h:s.data.toList ≠ []):s.toList.isEmpty = false:=by
 rw [ByteArray.toList_eq]
 cases hs:s.data.toList with
 | nil=>exact absurd hs h
 | cons a l=>rfl
theorem empty_yes (s:ByteArray) (h:s.data.toList = []):s = ⟨#[]⟩:=by
 apply ByteArray.ext;apply Array.toList_inj.1;exact h
set_option maxHeartbeats 1000000 in
set_option maxRecDepth 100000 in
theorem formed_any (b o:Nat) (p:PT) (pb:Option Addr) (cb:Nat) (pk:Option Addr) (ck:Nat) (w:World) (hP:PCells w b o p pb cb pk ck) (hl:PLen p) :
  Calls Tryz.prog 168 #[.pointer (some ⟨b,o,none⟩)] w fun e w'=>e = .returned (.bool (formedP p))∧w' = w:=by
 obtain ⟨h0,h1,_,_,h4,h5,h6⟩:=hP
 obtain ⟨_,_,_,_,g1,g2,g3,g4⟩:=hl
 unfold maxLen at g3 g4
 have C:Hid (∀ w,Calls Tryz.prog 18 #[.string p.ty] w fun e w'=>e = .returned (.bool (manyS p.ty.data.toList))∧w' = w):=fun w=>pmany_any p.ty w
 obtain ⟨ty,cs,id,loc,how,body,kids⟩:=p
 simp only at h0 h1 h4 h5 h6 g1 g2 g3 g4 C
 have hbz:body.length = 0 ↔ body = []:=List.length_eq_zero_iff
 have hkz:kids.length = 0 ↔ kids = []:=List.length_eq_zero_iff
 have HF:Hid (formedP ⟨ty,cs,id,loc,how,body,kids⟩ = if manyS ty.data.toList then !kids.isEmpty && body.isEmpty && decide (how = 0) && cs.data.toList.isEmpty else kids.isEmpty):=rfl
 cases hm:manyS ty.data.toList
 ·rw [hm] at C HF
  by_cases hk:kids.length = 0
  ·have HN:Hid (formedP ⟨ty,cs,id,loc,how,body,kids⟩ = true):=by unfold Hid;rw [HF.out,hkz.1 hk];rfl
   rw [hk] at h6
   clear HF hbz hkz hm hk
   go_enter Tryz.func168,Tryz.ntmps168
   go_wp2_with fail
   refine (C.out _).mono ?_
   rintro e w' ⟨rfl,hw'⟩
   have hw'':=hw'.symm
   subst hw''
   go_wp2
   go_ret
   exact ⟨by rw [HN.out];rfl,rfl⟩
  ·have HN:Hid (formedP ⟨ty,cs,id,loc,how,body,kids⟩ = false):=by unfold Hid;rw [HF.out];cases kids <;> simp_all
   have hkn:((kids.length:Int) == 0) = false:=by rw [beq_eq_false_iff_ne];omega
   clear HF hbz hkz hm
   generalize kids.length = nk at *
   go_enter Tryz.func168,Tryz.ntmps168
   go_wp2_with fail
   refine (C.out _).mono ?_
   rintro e w' ⟨rfl,hw'⟩
   have hw'':=hw'.symm
   subst hw''
   go_wp2
   go_ret
   exact ⟨by rw [HN.out];rfl,rfl⟩
 ·rw [hm] at C HF
  by_cases hk:kids.length = 0
  ·have HN:Hid (formedP ⟨ty,cs,id,loc,how,body,kids⟩ = false):=by unfold Hid;rw [HF.out,hkz.1 hk];rfl
   rw [hk] at h6
   clear HF hbz hkz hm hk
   go_enter Tryz.func168,Tryz.ntmps168
   go_wp2_with fail
   refine (C.out _).mono ?_
   rintro e w' ⟨rfl,hw'⟩
   have hw'':=hw'.symm
   subst hw''
   go_wp2
   go_ret
   exact ⟨by rw [HN.out];rfl,rfl⟩
  ·have hkp:(0:Int) < (kids.length:Int):=by omega
   have hke:kids.isEmpty = false:=by cases kids <;> simp_all
   by_cases hb:body.length = 0
   ·have hbe:body.isEmpty = true:=by rw [hbz.1 hb];rfl
    rw [hb] at h5
    by_cases hh:how = 0
    ·subst hh
     by_cases hc:cs.data.toList = []
     ·have HN:Hid (formedP ⟨ty,cs,id,loc,0,body,kids⟩ = true):=by unfold Hid;rw [HF.out,hke,hbe,hc];rfl
      have:=empty_yes cs hc
      subst this
      clear HF hbz hkz hm hk hke hbe hb hc
      generalize kids.length = nk at *
      go_enter Tryz.func168,Tryz.ntmps168
      go_wp2_with fail
      refine (C.out _).mono ?_
      rintro e w' ⟨rfl,hw'⟩
      have hw'':=hw'.symm
      subst hw''
      go_wp2
      go_ret
      exact ⟨by rw [HN.out];rfl,rfl⟩
     ·have HN:Hid (formedP ⟨ty,cs,id,loc,0,body,kids⟩ = false):=by unfold Hid;rw [HF.out,hke,hbe];cases hq:cs.data.toList <;> simp_all
      have hce:=empty_no cs hc
      clear HF hbz hkz hm hk hke hbe hb hc
      generalize kids.length = nk at *
      go_enter Tryz.func168,Tryz.ntmps168
      go_wp2_with fail
      refine (C.out _).mono ?_
      rintro e w' ⟨rfl,hw'⟩
      have hw'':=hw'.symm
      subst hw''
      go_wp2
      go_ret
      exact ⟨by rw [HN.out];rfl,rfl⟩
    ·have HN:Hid (formedP ⟨ty,cs,id,loc,how,body,kids⟩ = false):=by unfold Hid;rw [HF.out,hke,hbe];simp [hh]
     have hhn:(how == 0) = false:=by rw [beq_eq_false_iff_ne];exact hh
     clear HF hbz hkz hm hk hke hbe hb hh
     generalize kids.length = nk at *
     go_enter Tryz.func168,Tryz.ntmps168
     go_wp2_with fail
     refine (C.out _).mono ?_
     rintro e w' ⟨rfl,hw'⟩
     have hw'':=hw'.symm
     subst hw''
     go_wp2
     go_ret
     exact ⟨by rw [HN.out];rfl,rfl⟩
   ·have HN:Hid (formedP ⟨ty,cs,id,loc,how,body,kids⟩ = false):=by unfold Hid;rw [HF.out,hke];cases body <;> simp_all
    have hbn:((body.length:Int) == 0) = false:=by rw [beq_eq_false_iff_ne];omega
    clear HF hbz hkz hm hk hke
    generalize kids.length = nk at *
    generalize body.length = nb at *
    go_enter Tryz.func168,Tryz.ntmps168
    go_wp2_with fail
    refine (C.out _).mono ?_
    rintro e w' ⟨rfl,hw'⟩
    have hw'':=hw'.symm
    subst hw''
    go_wp2
    go_ret
    exact ⟨by rw [HN.out];rfl,rfl⟩
theorem chk1 (p:PT) (h:textsOk p = false):chkA p = 1:=by rw [chkA,if_pos h]
theorem chk3 (p:PT) (h:textsOk p = true) (h2:p.how < 0 ∨ 2 < p.how):chkA p = 3:=by rw [chkA,if_neg (by rw [h];decide),if_pos h2]
theorem chk2 (p:PT) (h:textsOk p = true) (h2:¬ (p.how < 0 ∨ 2 < p.how)) (h3:4000 < p.body.length):chkA p = 2:=by rw [chkA,if_neg (by rw [h];decide),if_neg h2,if_pos h3]
theorem chk4 (p:PT) (h:textsOk p = true) (h2:¬ (p.how < 0 ∨ 2 < p.how)) (h3:¬ 4000 < p.body.length) (h4:formedP p = false):chkA p = 4:=by rw [chkA,if_neg (by rw [h];decide),if_neg h2,if_neg h3,if_pos h4]
theorem chk0 (p:PT) (h:textsOk p = true) (h2:¬ (p.how < 0 ∨ 2 < p.how)) (h3:¬ 4000 < p.body.length) (h4:formedP p = true):chkA p = 0:=by rw [chkA,if_neg (by rw [h];decide),if_neg h2,if_neg h3,if_neg (by rw [h4];decide)]
set_option maxHeartbeats 4000000 in
set_option maxRecDepth 100000 in
theorem alone_any (b o:Nat) (p:PT) (pb:Option Addr) (cb:Nat) (pk:Option Addr) (ck:Nat) (w:World) (hP:PCells w b o p pb cb pk ck) (hl:PLen p) :
  Calls Tryz.prog 129 #[.pointer (some ⟨b,o,none⟩)] w fun e w'=>e = .returned (.int .i64 (chkA p:Nat))∧Below w.heap.size w w':=by
 have HPC:Hid (∀ w',Below w.heap.size w w'→PCells w' b o p pb cb pk ck):=fun w' hb=>hP.below hb
 have CF:Hid (∀ w',Below w.heap.size w w'→Calls Tryz.prog 168 #[.pointer (some ⟨b,o,none⟩)] w' fun e w''=>e = .returned (.bool (formedP p))∧w'' = w'):=fun w' hb=>formed_any b o p pb cb pk ck w' (hP.below hb) hl
 have CT:Hid (∀ w,Calls Tryz.prog 165 #[.string p.ty] w fun e w'=>e = .returned (.bool (typeS p.ty.data.toList))∧Below w.heap.size w w'):=fun w=>ptype_any p.ty w hl.1
 have CC:Hid (∀ w,Calls Tryz.prog 166 #[.string p.cs] w fun e w'=>e = .returned (.bool (tokenS p.cs.data.toList))∧w' = w):=fun w=>htok_any p.cs w hl.2.1
 have CI:Hid (∀ w,Calls Tryz.prog 167 #[.string p.id] w fun e w'=>e = .returned (.bool (wordS p.id.data.toList))∧Below w.heap.size w w'):=fun w=>pword_any p.id w hl.2.2.1
 have CL:Hid (∀ w,Calls Tryz.prog 167 #[.string p.loc] w fun e w'=>e = .returned (.bool (wordS p.loc.data.toList))∧Below w.heap.size w w'):=fun w=>pword_any p.loc w hl.2.2.2.1
 obtain ⟨_,_,_,_,g1,g2,g3,_⟩:=hl
 unfold maxLen at g3
 have HX:Hid (textsOk p = (typeS p.ty.data.toList && (p.cs.data.toList.isEmpty || tokenS p.cs.data.toList) && wordS p.id.data.toList && wordS p.loc.data.toList)):=rfl
 have K1:Hid (textsOk p = false→chkA p = 1):=chk1 p
 have K3:Hid (textsOk p = true→(p.how < 0 ∨ 2 < p.how)→chkA p = 3):=chk3 p
 have K2:Hid (textsOk p = true→¬ (p.how < 0 ∨ 2 < p.how)→4000 < p.body.length→chkA p = 2):=chk2 p
 have K4:Hid (textsOk p = true→¬ (p.how < 0 ∨ 2 < p.how)→¬ 4000 < p.body.length→formedP p = false→chkA p = 4):=chk4 p
 have K0:Hid (textsOk p = true→¬ (p.how < 0 ∨ 2 < p.how)→¬ 4000 < p.body.length→formedP p = true→chkA p = 0):=chk0 p
 obtain ⟨c0,c1,c2,c3,c4,c5,c6⟩:=hP
 have HcsE:Hid (p.cs.data.toList = []→p.cs = ⟨#[]⟩):=empty_yes p.cs
 have HcsN:Hid (p.cs.data.toList ≠ []→p.cs.toList.isEmpty = false):=empty_no p.cs
 have HcsI:Hid (p.cs.data.toList ≠ []→p.cs.data.toList.isEmpty = false):=fun h=>by cases hq:p.cs.data.toList <;> simp_all
 generalize textsOk p = tx at *
 generalize formedP p = fm at *
 generalize (chkA p:Nat) = ans at *
 clear c1 c2 c3 c4 c5 c6
 go_enter Tryz.func129,Tryz.ntmps129
 go_wp2_with fail
 refine (CT.out _).mono ?_
 rintro e w1 ⟨rfl,hb1⟩
 obtain ⟨c0,c1,c2,c3,c4,c5,c6⟩:=HPC.out w1 hb1
 cases ht:typeS p.ty.data.toList
 ·have HN:Hid (ans = 1):=K1.out (by rw [HX.out,ht];rfl)
  clear HX K1 K2 K3 K4 K0 ht
  go_wp2
  go_ret
  exact ⟨by rw [HN.out];rfl,hb1⟩
 ·rw [ht] at HX
  clear ht
  by_cases hcs:p.cs.data.toList = []
  ·have hce:=HcsE.out hcs
   rw [hce] at c1
   have HX2:Hid (tx = (wordS p.id.data.toList && wordS p.loc.data.toList)):=by unfold Hid;rw [HX.out,hcs];simp
   clear HX hcs hce HcsE HcsN HcsI
   go_wp2_with fail
   refine (CI.out _).mono ?_
   rintro e w2 ⟨rfl,hb2⟩
   have hB2:=hb1.trans (hb2.mono hb1.size)
   clear c0 c1 c2 c3 c4 c5 c6
   obtain ⟨c0,c1,c2,c3,c4,c5,c6⟩:=HPC.out w2 hB2
   cases hi:wordS p.id.data.toList
   ·have HN:Hid (ans = 1):=K1.out (by rw [HX2.out,hi];rfl)
    clear HX2 K1 K2 K3 K4 K0 hi
    go_wp2
    go_ret
    exact ⟨by rw [HN.out];rfl,hB2⟩
   ·rw [hi] at HX2
    clear hi
    go_wp2_with fail
    refine (CL.out _).mono ?_
    rintro e w3 ⟨rfl,hb3⟩
    have hB3:=hB2.trans (hb3.mono hB2.size)
    clear c0 c1 c2 c3 c4 c5 c6
    obtain ⟨c0,c1,c2,c3,c4,c5,c6⟩:=HPC.out w3 hB3
    cases hi:wordS p.loc.data.toList
    ·have HN:Hid (ans = 1):=K1.out (by rw [HX2.out,hi];rfl)
     clear HX2 K1 K2 K3 K4 K0 hi
     go_wp2
     go_ret
     exact ⟨by rw [HN.out];rfl,hB3⟩
    ·have HTx:Hid (tx = true):=by unfold Hid;rw [HX2.out,hi];rfl
     clear hi HX2 K1
     by_cases hh:p.how < 0
     ·have HN:Hid (ans = 3):=K3.out HTx.out (.inl hh)
      clear K2 K3 K4 K0 HTx
      go_wp2
      go_ret
      exact ⟨by rw [HN.out];rfl,hB3⟩
     ·by_cases hh2:2 < p.how
      ·have HN:Hid (ans = 3):=K3.out HTx.out (.inr hh2)
       clear K2 K3 K4 K0 HTx
       go_wp2
       go_ret
       exact ⟨by rw [HN.out];rfl,hB3⟩
      ·by_cases hbl:4000 < p.body.length
       ·have HN:Hid (ans = 2):=K2.out HTx.out (by omega) hbl
        have hbz:(4000:Int) < (p.body.length:Int):=by omega
        clear K2 K3 K4 K0 HTx
        go_wp2
        go_ret
        exact ⟨by rw [HN.out];rfl,hB3⟩
       ·have hbz:¬ ((4000:Int) < (p.body.length:Int)):=by omega
        cases hf:fm
        ·have HN:Hid (ans = 4):=K4.out HTx.out (by omega) hbl hf
         rw [hf] at CF
         clear K2 K3 K4 K0 HTx
         go_wp2_with fail
         refine (CF.out _ hB3).mono ?_
         rintro e w4 ⟨rfl,hw4⟩
         have hw5:=hw4.symm
         subst hw5
         go_wp2
         go_ret
         exact ⟨by rw [HN.out];rfl,hB3⟩
        ·have HN:Hid (ans = 0):=K0.out HTx.out (by omega) hbl hf
         rw [hf] at CF
         clear K2 K3 K4 K0 HTx
         go_wp2_with fail
         refine (CF.out _ hB3).mono ?_
         rintro e w4 ⟨rfl,hw4⟩
         have hw5:=hw4.symm
         subst hw5
         go_wp2
         go_ret
         exact ⟨by rw [HN.out];rfl,hB3⟩
  ·have hce:=HcsN.out hcs
   go_wp2_with fail
   refine (CC.out _).mono ?_
   rintro e w1' ⟨rfl,hw1⟩
   have hw2:=hw1.symm
   subst hw2
   cases hk:tokenS p.cs.data.toList
   ·have HN:Hid (ans = 1):=K1.out (by rw [HX.out,hk,HcsI.out hcs];rfl)
    clear HX K1 K2 K3 K4 K0 hk
    go_wp2
    go_ret
    exact ⟨by rw [HN.out];rfl,hb1⟩
   ·have HX2:Hid (tx = (wordS p.id.data.toList && wordS p.loc.data.toList)):=by unfold Hid;rw [HX.out,hk];simp
    clear HX hk hcs hce HcsE HcsN HcsI
    go_wp2_with fail
    refine (CI.out _).mono ?_
    rintro e w2 ⟨rfl,hb2⟩
    have hB2:=hb1.trans (hb2.mono hb1.size)
    clear c0 c1 c2 c3 c4 c5 c6
    obtain ⟨c0,c1,c2,c3,c4,c5,c6⟩:=HPC.out w2 hB2
    cases hi:wordS p.id.data.toList
    ·have HN:Hid (ans = 1):=K1.out (by rw [HX2.out,hi];rfl)
     clear HX2 K1 K2 K3 K4 K0 hi
     go_wp2
     go_ret
     exact ⟨by rw [HN.out];rfl,hB2⟩
    ·rw [hi] at HX2
     clear hi
     go_wp2_with fail
     refine (CL.out _).mono ?_
     rintro e w3 ⟨rfl,hb3⟩
     have hB3:=hB2.trans (hb3.mono hB2.size)
     clear c0 c1 c2 c3 c4 c5 c6
     obtain ⟨c0,c1,c2,c3,c4,c5,c6⟩:=HPC.out w3 hB3
     cases hi:wordS p.loc.data.toList
     ·have HN:Hid (ans = 1):=K1.out (by rw [HX2.out,hi];rfl)
      clear HX2 K1 K2 K3 K4 K0 hi
      go_wp2
      go_ret
      exact ⟨by rw [HN.out];rfl,hB3⟩
     ·have HTx:Hid (tx = true):=by unfold Hid;rw [HX2.out,hi];rfl
      clear hi HX2 K1
      by_cases hh:p.how < 0
      ·have HN:Hid (ans = 3):=K3.out HTx.out (.inl hh)
       clear K2 K3 K4 K0 HTx
       go_wp2
       go_ret
       exact ⟨by rw [HN.out];rfl,hB3⟩
      ·by_cases hh2:2 < p.how
       ·have HN:Hid (ans = 3):=K3.out HTx.out (.inr hh2)
        clear K2 K3 K4 K0 HTx
        go_wp2
        go_ret
        exact ⟨by rw [HN.out];rfl,hB3⟩
       ·by_cases hbl:4000 < p.body.length
        ·have HN:Hid (ans = 2):=K2.out HTx.out (by omega) hbl
         have hbz:(4000:Int) < (p.body.length:Int):=by omega
         clear K2 K3 K4 K0 HTx
         go_wp2
         go_ret
         exact ⟨by rw [HN.out];rfl,hB3⟩
        ·have hbz:¬ ((4000:Int) < (p.body.length:Int)):=by omega
         cases hf:fm
         ·have HN:Hid (ans = 4):=K4.out HTx.out (by omega) hbl hf
          rw [hf] at CF
          clear K2 K3 K4 K0 HTx
          go_wp2_with fail
          refine (CF.out _ hB3).mono ?_
          rintro e w4 ⟨rfl,hw4⟩
          have hw5:=hw4.symm
          subst hw5
          go_wp2
          go_ret
          exact ⟨by rw [HN.out];rfl,hB3⟩
         ·have HN:Hid (ans = 0):=K0.out HTx.out (by omega) hbl hf
          rw [hf] at CF
          clear K2 K3 K4 K0 HTx
          go_wp2_with fail
          refine (CF.out _ hB3).mono ?_
          rintro e w4 ⟨rfl,hw4⟩
          have hw5:=hw4.symm
          subst hw5
          go_wp2
          go_ret
          exact ⟨by rw [HN.out];rfl,hB3⟩
end Go.Proofs.YtbbfcbodhmeanaaGreatDoor



namespace Go.Proofs.YtbbfcbodhmeanaaGreatDoor
open Go.RowKit
theorem PLs.below {w w':World} {X:List PX} {L:List (PT × Int)} (h:PLs w X L) (hb:Below w.heap.size w w'):PLs w' X L :=
 ⟨h.1,fun i x q hx hq=>by
  obtain ⟨e,f,hp⟩:=h.2 i x q hx hq
  exact ⟨e,f,hp.below hb⟩⟩
theorem owns_weaken {w:World} {B B' e s n:Nat} {v:Value} {xs:List Value} (h:w.ownsRow B e s v n xs) (hB:B'≤B):w.ownsRow B' e s v n xs:=by
 refine ⟨h.1,?_⟩
 rcases h.2 with h | ⟨g,cap,cur,e1,e2,r⟩
 ·exact .inl h
 ·exact .inr ⟨g,cap,cur,e1,by omega,r⟩
theorem boxed {w:World} {F:Nat} {p:PT} {pb:Option Addr} {cb:Nat} {pk:Option Addr} {ck:Nat} (h:PHeld w F p pb cb pk ck) (t:TypeId) (c:Array Value) (hc:c = #[.string p.ty,.string p.cs,.string p.id,.string p.loc,.int .i64 p.how,.slice pb p.body.length cb,.slice pk p.kids.length ck]) :
  PAt (w.alloc (.cells c t)) F w.heap.size 0 p:=by
 subst hc
 refine ⟨pb,cb,pk,ck,⟨?_,?_,?_,?_,?_,?_,?_⟩,h.below ((Below.refl _ _).alloc (Nat.le_refl _) _)⟩ <;> simp
def CheckedPost (w:World) (r:Nat × List (PT × Int)) (e:Ending) (w':World):Prop :=
 Below w.heap.size w w'∧(r.1 ≠ 0→e = .returned (.tuple #[.slice none 0 0,.int .i64 (r.1:Int)])) ∧
 (r.1 = 0→∃ q c X,e = .returned (.tuple #[.slice q r.2.length c,.int .i64 0])∧w'.ownsRow w.heap.size 117 2 (.slice q r.2.length c) r.2.length (plv X)∧PLs w' X r.2)
theorem placesP_none (p:PT) (h:put 4 [] p 1 (-1) = none):placesP p = (2,[]):=by unfold placesP;rw [h]
theorem placesP_bad (p:PT) (L:List (PT × Int)) (h:put 4 [] p 1 (-1) = some L) (hb:firstBad L ≠ 0):placesP p = (firstBad L,[]):=by unfold placesP;rw [h];simp only;rw [if_neg hb]
theorem placesP_ok (p:PT) (L:List (PT × Int)) (h:put 4 [] p 1 (-1) = some L) (hb:firstBad L = 0):placesP p = (0,L):=by unfold placesP;rw [h];simp only;rw [if_pos hb]
theorem pl_at (X:List PX) (k:Nat) (x:PX) (h:X[k]? = some x):(plv X)[k * 2]? = some (.pointer (some ⟨x.1.1,x.1.2,none⟩))∧(plv X)[k * 2 + 1]? = some (.int .i64 x.2):=by
 induction X generalizing k with
 | nil=>simp at h
 | cons y X ih =>
  cases k with
  | zero=>obtain rfl:=Option.some.inj h;exact ⟨rfl,rfl⟩
  | succ k =>
   have:=ih k (by simpa using h)
   rw [show (k + 1) * 2 = k * 2 + 2 from by omega]
   exact this
theorem firstBad_stop (L:List (PT × Int)) (k:Nat) (q:PT × Int) (h:L[k]? = some q) (hb:firstBad (L.drop k) = firstBad L) (hq:chkA q.1 ≠ 0):firstBad L = chkA q.1:=by
 obtain ⟨hk,e⟩:=List.getElem?_eq_some_iff.1 h
 rw [← hb,List.drop_eq_getElem_cons hk,e,firstBad,if_neg hq]
theorem firstBad_on (L:List (PT × Int)) (k:Nat) (q:PT × Int) (h:L[k]? = some q) (hb:firstBad (L.drop k) = firstBad L) (hq:chkA q.1 = 0):firstBad (L.drop (k + 1)) = firstBad L:=by
 obtain ⟨hk,e⟩:=List.getElem?_eq_some_iff.1 h
 rw [← hb,List.drop_eq_getElem_cons hk,e,firstBad,if_pos hq]
set_option maxHeartbeats 1000000 in
set_option maxRecDepth 100000 in
theorem checked_any (p:PT) (pb:Option Addr) (cb:Nat) (pk:Option Addr) (ck F:Nat) (w:World) (hH:PHeld w F p pb cb pk ck) :
  Calls Tryz.prog 73 #[.agg #[.string p.ty,.string p.cs,.string p.id,.string p.loc,.int .i64 p.how,.slice pb p.body.length cb,.slice pk p.kids.length ck]] w fun e w'=>CheckedPost w (placesP p) e w':=by
 obtain ⟨c0,hc0⟩:∃ c0,c0 = #[Value.string p.ty,.string p.cs,.string p.id,.string p.loc,.int .i64 p.how,.slice pb p.body.length cb,.slice pk p.kids.length ck]:=⟨_,rfl⟩
 have hPA:=boxed hH 25 _ hc0
 obtain ⟨w0,hw0⟩:∃ w0,w.alloc (.cells c0 25) = w0:=⟨_,rfl⟩
 have hbw:Below w.heap.size w w0:=by rw [← hw0];exact (Below.refl _ _).alloc (Nat.le_refl _) _
 rw [hw0] at hPA
 have CA:Hid (Calls Tryz.prog 128 #[.slice none 0 0,.pointer (some ⟨w.heap.size,0,none⟩),.int .i64 1,.int .i64 (-1)] w0 fun e w'=>PlacesPost w0 (put 4 [] p 1 (-1)) e w') :=
  places_any w0 3 F (.slice none 0 0) [] [] w.heap.size 0 p 1 1 (-1) w0 (by omega) (by omega) rfl (by simp) (Below.refl _ _) (World.ownsRow_nil _ _ _ _) (PLs.nil _) hPA
 have hw0':w.alloc (.cells #[Value.string p.ty,.string p.cs,.string p.id,.string p.loc,.int .i64 p.how,.slice pb p.body.length cb,.slice pk p.kids.length ck] 25) = w0:=by rw [← hc0];exact hw0
 clear hPA hH hw0 hc0
 cases hput:put 4 [] p 1 (-1) with
 | none =>
  have HR:Hid (placesP p = (2,[])):=placesP_none p hput
  rw [hput] at CA
  clear hput
  go_enter Tryz.func73,Tryz.ntmps73
  go_wp2_with fail
  refine CA.out.mono ?_
  rintro e w1 ⟨hb1,rfl⟩
  go_wp2_with fail
  go_ret2
  show CheckedPost _ _ _ _
  rw [HR.out]
  exact ⟨hbw.trans (hb1.mono hbw.size),fun _=>rfl,fun h=>by cases h⟩
 | some L =>
  have HRb:Hid (firstBad L ≠ 0→placesP p = (firstBad L,[])):=placesP_bad p L hput
  have HRo:Hid (firstBad L = 0→placesP p = (0,L)):=placesP_ok p L hput
  have hL12:=(put_length 4 [] L p 1 (-1) (by simp) hput).2
  rw [hput] at CA
  clear hput
  generalize placesP p = RES at *
  go_enter Tryz.func73,Tryz.ntmps73
  go_wp2_with fail
  refine CA.out.mono ?_
  rintro e w1 ⟨hb1,v1,X,rfl,hown,hX⟩
  obtain ⟨q,c,rfl⟩:=owned_slice hown
  have hbel1:=hbw.trans (hb1.mono hbw.size)
  have hXn:X.length = L.length:=hX.1
  have hX1:PLs w1 X L:=hX.below hb1
  obtain ⟨n,hn⟩:∃ n,L.length = n:=⟨_,rfl⟩
  rw [hn] at hown hXn hL12
  have HN:Hid (L.length = n):=hn
  simp only [hn]
  have HEach:Hid (∀ k,k < n→∃ (g:Nat) (x:PX) (y:PT × Int),q = some ⟨g,0,none⟩∧X[k]? = some x∧L[k]? = some y∧w1.cell? ⟨g,k * 2,none⟩ = some (.pointer (some ⟨x.1.1,x.1.2,none⟩))∧w1.cell? ⟨g,k * 2 + 1,none⟩ = some (.int .i64 x.2)∧x.2 = y.2∧∃ f,PAt w1 f x.1.1 x.1.2 y.1):=fun k hk=>by
   rcases hown.2 with ⟨h1,h2⟩ | ⟨g,cap,cur,h1,_⟩
   ·omega
   ·injection h1 with h1
    subst h1
    have hkX:k < X.length:=by omega
    have hkL:k < L.length:=by omega
    have e1:=pl_at X k X[k] (List.getElem?_eq_getElem hkX)
    refine ⟨g,X[k],L[k],rfl,List.getElem?_eq_getElem hkX,List.getElem?_eq_getElem hkL,?_,?_,hX1.2 k X[k] L[k] (List.getElem?_eq_getElem hkX) (List.getElem?_eq_getElem hkL)⟩
    ·rw [hown.cellAt (k * 2) (by omega),e1.1]
    ·rw [hown.cellAt (k * 2 + 1) (by omega),e1.2]
  have HOwn:Hid (w1.ownsRow w.heap.size 117 2 (.slice q n c) n (plv X)):=owns_weaken hown hbw.size
  have HX1:Hid (PLs w1 X L):=hX1
  clear hown hX hX1 CA hb1 hn hXn
  go_wp2_with fail
  go_loopw [17] (fun iv wr=>∃ k:Nat,k≤n∧iv = .int .i64 k∧Below w1.heap.size w1 wr∧Hid (firstBad (L.drop k) = firstBad L)) (fun iv _=>n - (intOf iv).toNat)
  case atStart=>exact ⟨0,Nat.zero_le _,rfl,Below.refl _ _,rfl⟩
  case round =>
   obtain ⟨k,hk,rfl,hbr,HK⟩:=hrel
   have hsr:=hbr.size
   by_cases hlt:k < n
   ·have hlz:(k:Int) < (n:Int):=by omega
    obtain ⟨g,x,y,rfl,hx,hy,hc1,hc2,hxy,f,hPy⟩:=HEach.out k hlt
    clear hxy
    have hcr1:=(hbr.cell (World.block_lt_of_cell? w1 _ hc1)).trans hc1
    have hcr2:=(hbr.cell (World.block_lt_of_cell? w1 _ hc2)).trans hc2
    obtain ⟨⟨bx,ox⟩,ix⟩:=x
    simp only at hcr1 hcr2 hPy
    clear hc1 hc2
    have HA:Hid (∀ w',Below w1.heap.size w1 w'→Calls Tryz.prog 129 #[.pointer (some ⟨bx,ox,none⟩)] w' fun e w''=>e = .returned (.int .i64 (chkA y.1:Nat))∧Below w'.heap.size w' w''):=fun w' hb=>by
     obtain ⟨pb2,cb2,pk2,ck2,h1,h2⟩:=hPy.below hb
     exact alone_any bx ox y.1 pb2 cb2 pk2 ck2 w' h1 h2.1
    have hba:=hbr.alloc hsr (.cells #[Value.pointer (some ⟨bx,ox,none⟩),.int .i64 ix] 117)
    by_cases hq:chkA y.1 = 0
    ·have HK2:Hid (firstBad (L.drop (k + 1)) = firstBad L):=firstBad_on L k y hy HK.out hq
     rw [hq] at HA
     clear hq HK hy hx hPy HEach
     go_wp2_with fail
     refine (HA.out _ hba).mono ?_
     rintro e w2 ⟨rfl,hb2⟩
     have hbel2:=hba.trans (hb2.mono (by simp;omega))
     clear HA
     go_wp2_with fail
     go_roundw
     case rel=>exact ⟨k + 1,by omega,by go_num,hbel2,HK2⟩
     case measure=>simp [intOf];omega
    ·have HK2:Hid (RES = (chkA y.1,[])):=by
      unfold Hid
      have e:=firstBad_stop L k y hy HK.out hq
      rw [HRb.out (by rw [e];exact hq),e]
     have hqz:(((chkA y.1:Nat):Int) == 0) = false:=by rw [beq_eq_false_iff_ne];omega
     clear HK hy hx hPy HEach
     generalize chkA y.1 = ans at *
     go_wp2_with fail
     refine (HA.out _ hba).mono ?_
     rintro e w2 ⟨rfl,hb2⟩
     have hbel2:=hba.trans (hb2.mono (by simp;omega))
     clear HA
     go_wp2_with fail
     go_ret2
     show CheckedPost _ _ _ _
     rw [HK2.out]
     exact ⟨hbel1.trans (hbel2.mono hbel1.size),fun _=>rfl,fun h=>absurd h hq⟩
   ·have hlz:¬ ((k:Int) < (n:Int)):=by omega
    have HK2:Hid (RES = (0,L)):=by
     unfold Hid
     refine HRo.out ?_
     rw [← HK.out,List.drop_of_length_le (by rw [HN.out];omega)];rfl
    clear HK HEach
    go_wp2_with fail
    go_ret2
    show CheckedPost _ _ _ _
    rw [HK2.out]
    refine ⟨hbel1.trans (hbr.mono hbel1.size),fun h=>absurd rfl h,fun _=>⟨q,c,X,?_,?_,HX1.out.below hbr⟩⟩
    ·simp only [HN.out];rfl
    ·simp only [HN.out];exact ownsRow_below HOwn.out hbr
end Go.Proofs.YtbbfcbodhmeanaaGreatDoor



namespace Go.Proofs.YtbbfcbodhmeanaaGreatDoor
open Go.RowKit
def izv (l:List Int):List Value:=l.map fun z=>Value.int .i64 z
def IRow (w:World) (q:Option Addr) (l:List Int):Prop:=l ≠ []→∃ b o,q = some ⟨b,o,none⟩∧∀ i,i < l.length→w.cell? ⟨b,o + i,none⟩ = some (.int .i64 (l.getD i 0))
theorem IRow.below {w w':World} {q:Option Addr} {l:List Int} (h:IRow w q l) (hb:Below w.heap.size w w'):IRow w' q l:=by
 intro hne
 obtain ⟨b,o,rfl,hc⟩:=h hne
 refine ⟨b,o,rfl,fun i hi=>?_⟩
 have:=hc i hi
 rw [hb.cell (p:=⟨b,o + i,none⟩) (World.block_lt_of_cell? w _ this)]
 exact this
theorem owned_ints {w:World} {B:Nat} {v:Value} {l:List Int} (h:w.ownsRow B 3 1 v l.length (izv l)):∃ p c,v = .slice p l.length c∧l.length≤c∧c≤maxLen∧(p = none→l.length = 0∧c = 0)∧IRow w p l:=by
 have h':=h
 rcases h.2 with ⟨rfl,h0⟩ | ⟨g,cap,cur,rfl,hg,hh,hnc,hcp,hcs,htake⟩
 ·refine ⟨none,0,by rw [h0],by omega,by decide,fun _=>⟨h0,rfl⟩,fun hne=>absurd (List.length_eq_zero_iff.1 h0) hne⟩
 ·refine ⟨some ⟨g,0,none⟩,cap,rfl,hnc,hcp,fun e=>(by cases e),fun _=>⟨g,0,rfl,fun i hi=>?_⟩⟩
  rw [Nat.zero_add,h'.cellAt i (by omega),izv,List.getElem?_map,List.getElem?_eq_getElem hi,List.getD_eq_getElem?_getD,List.getElem?_eq_getElem hi]
  rfl
theorem cell_lone (w:World) (v:Value) (t:TypeId) (b:Nat) (hb:b = w.heap.size):∀ j x,[v][j]? = some x→(w.alloc (.cells #[v] t)).cell? ((⟨b,0,none⟩:Addr).add j) = some x:=by
 subst hb
 exact cell_one w v t rfl
def WithinPost (w:World) (r:Nat × List (PT × Int)) (e:Ending) (w':World):Prop :=
 Below w.heap.size w w'∧(r.1 ≠ 0→e = .returned (.tuple #[.slice none 0 0,.int .i64 (r.1:Int)])) ∧
 (r.1 = 0→∃ q c,e = .returned (.tuple #[.slice q r.2.length c,.int .i64 0])∧r.2.length≤c∧c≤maxLen∧(q = none→c = 0)∧IRow w' q (r.2.map (·.2)))
theorem placesP_few (p:PT):(placesP p).2.length≤12:=by
 unfold placesP
 cases h:put 4 [] p 1 (-1) with
 | none=>simp
 | some L =>
  simp only
  split
  ·exact (put_length 4 [] L p 1 (-1) (by simp) h).2
  ·simp
theorem place_each {w:World} {B n:Nat} {q:Option Addr} {c:Nat} {X:List PX} {L:List (PT × Int)} (hown:w.ownsRow B 117 2 (.slice q n c) n (plv X)) (hX:PLs w X L) (hn:n = L.length) (k:Nat) (hk:k < n) :
  ∃ (g:Nat) (b o:Nat) (y:PT × Int),q = some ⟨g,0,none⟩∧L[k]? = some y∧w.cell? ⟨g,k * 2,none⟩ = some (.pointer (some ⟨b,o,none⟩))∧w.cell? ⟨g,k * 2 + 1,none⟩ = some (.int .i64 y.2)∧∃ f,PAt w f b o y.1:=by
 rcases hown.2 with ⟨h1,h2⟩ | ⟨g,cap,cur,h1,_⟩
 ·omega
 ·injection h1 with h1
  subst h1
  have hkX:k < X.length:=by rw [hX.1];omega
  have hkL:k < L.length:=by omega
  have e1:=pl_at X k X[k] (List.getElem?_eq_getElem hkX)
  obtain ⟨e2,f,hp⟩:=hX.2 k X[k] L[k] (List.getElem?_eq_getElem hkX) (List.getElem?_eq_getElem hkL)
  refine ⟨g,X[k].1.1,X[k].1.2,L[k],rfl,List.getElem?_eq_getElem hkL,?_,?_,f,hp⟩
  ·rw [hown.cellAt (k * 2) (by omega),e1.1]
  ·rw [hown.cellAt (k * 2 + 1) (by omega),e1.2,e2]
end Go.Proofs.YtbbfcbodhmeanaaGreatDoor



namespace Go.Proofs.YtbbfcbodhmeanaaGreatDoor
open Go.RowKit
theorem owns_apart {w:World} {B1 e1 s1 n1 B2 e2 s2 n2:Nat} {v1 v2:Value} {x1 x2:List Value} (h1:w.ownsRow B1 e1 s1 v1 n1 x1) (h2:w.ownsRow B2 e2 s2 v2 n2 x2) (hne:e1 ≠ e2):v1.ownBlock = none ∨ v1.ownBlock ≠ v2.ownBlock:=by
 rcases h1.2 with ⟨rfl,_⟩ | ⟨g,cap,cur,rfl,_,hg,_⟩
 ·exact .inl rfl
 ·rcases h2.2 with ⟨rfl,_⟩ | ⟨g',cap',cur',rfl,_,hg',_⟩
  ·exact .inr (by simp [Value.ownBlock])
  ·refine .inr fun e=>?_
   simp only [Value.ownBlock,Option.some.injEq] at e
   subst e
   rw [hg] at hg'
   injection hg' with hg'
   injection hg' with _ h _
   exact hne h
theorem owns_set {w:World} {B e s n:Nat} {v:Value} {xs:List Value} (h:w.ownsRow B e s v n xs) (a:Addr) (u:Value) (ha:a.block < B):(w.setCell a u).ownsRow B e s v n xs:=by
 refine ⟨h.1,?_⟩
 rcases h.2 with h | ⟨g,cap,cur,e1,e2,e3,r⟩
 ·exact .inl h
 ·exact .inr ⟨g,cap,cur,e1,e2,by rw [heap_setCell_other w a g u (by omega)];exact e3,r⟩
theorem set_other {w:World} {b i j:Nat} {v:Value} (h:i ≠ j):(w.setCell ⟨b,i,none⟩ v).cell? ⟨b,j,none⟩ = w.cell? ⟨b,j,none⟩:=World.cell?_setCell_other _ _ _ _ (fun e=>h (congrArg Addr.off e))
theorem bclone_any (pb:Option Addr) (body:List UInt8) (n cb:Nat) (en:n = body.length) (w:World) (hr:BRow w pb body) (hn:n≤140737488355328) :
  Calls Tryz.prog 74 #[.slice pb n cb] w fun e w'=>∃ q c,e = .returned (.slice q n c)∧w'.ownsRow w.heap.size 5 1 (.slice q n c) n (bv body)∧Below w.heap.size w w':=by
 subst en
 cases pb with
 | none =>
  have h0:body = []:=by
   cases hb:body with
   | nil=>rfl
   | cons a l=>obtain ⟨b,o,e,_⟩:=hr (by rw [hb];simp);cases e
  subst h0
  refine (Tryz.bytes_Clone_nil 0 cb w).mono ?_
  rintro e w' ⟨rfl,rfl⟩
  exact ⟨none,0,rfl,World.ownsRow_nil _ _ _ _,Below.refl _ _⟩
 | some a =>
  refine (Tryz.bytes_Clone_at a body.length cb (body.map fun c=>((c.toNat:Nat):Int)) w (by simp) hn (fun i hi=>?_)).mono ?_
  ·obtain ⟨b,o,e,hc⟩:=hr (fun h=>by rw [h] at hi;simp at hi)
   obtain rfl:=Option.some.inj e
   have:=hc i hi
   rw [Addr.add_lit,this]
   simp [List.getD_eq_getElem?_getD,List.getElem?_eq_getElem hi]
  ·rintro e w' ⟨v,rfl,hown,_,hb⟩
   obtain ⟨q,c,rfl⟩:=owned_slice hown
   refine ⟨q,c,rfl,?_,hb⟩
   rw [List.map_map] at hown
   exact hown
abbrev PY:=PT × Option Addr × Nat
def pav (Y:List PY):List Value:=Y.flatMap fun y=>[.string y.1.ty,.string y.1.cs,.string y.1.id,.string y.1.loc,.int .i64 y.1.how,.slice y.2.1 y.1.body.length y.2.2,.slice none 0 0]
theorem pav_snoc (Y:List PY) (y:PY):pav (Y ++ [y]) = pav Y ++ [.string y.1.ty,.string y.1.cs,.string y.1.id,.string y.1.loc,.int .i64 y.1.how,.slice y.2.1 y.1.body.length y.2.2,.slice none 0 0]:=by simp [pav]
theorem pa_at (Y:List PY) (k:Nat) (y:PY) (h:Y[k]? = some y) (j:Nat) (v:Value) (hj:[Value.string y.1.ty,.string y.1.cs,.string y.1.id,.string y.1.loc,.int .i64 y.1.how,.slice y.2.1 y.1.body.length y.2.2,.slice none 0 0][j]? = some v):(pav Y)[k * 7 + j]? = some v:=by
 induction Y generalizing k with
 | nil=>simp at h
 | cons z Y ih =>
  have hj7:j < 7:=by have:=(List.getElem?_eq_some_iff.1 hj).1;simpa using this
  show ([Value.string z.1.ty,.string z.1.cs,.string z.1.id,.string z.1.loc,.int .i64 z.1.how,.slice z.2.1 z.1.body.length z.2.2,.slice none 0 0] ++ pav Y)[k * 7 + j]? = some v
  cases k with
  | zero =>
   obtain rfl:=Option.some.inj h
   rw [List.getElem?_append_left (by simp;omega),Nat.zero_mul,Nat.zero_add]
   exact hj
  | succ k =>
   rw [List.getElem?_append_right (by simp;omega)]
   have:=ih k (by simpa using h)
   rw [← this]
   congr 1
   simp
   omega
def Bodies (w:World) (B:Nat) (Y:List PY):Prop:=∀ y ∈ Y,y.1.kids = []∧PLen y.1∧w.ownsRow B 5 1 (.slice y.2.1 y.1.body.length y.2.2) y.1.body.length (bv y.1.body)
theorem owned_parts {w:World} {B:Nat} {v:Value} {Y:List PY} (h:w.ownsRow B 25 7 v Y.length (pav Y)) (hb:Bodies w B Y):∃ p c,v = .slice p Y.length c∧Y.length≤c∧c≤maxLen∧(p = none→Y.length = 0∧c = 0)∧KAt w 1 p (Y.map (·.1)):=by
 have h':=h
 rcases h.2 with ⟨rfl,h0⟩ | ⟨g,cap,cur,rfl,hg,hh,hnc,hcp,hcs,htake⟩
 ·refine ⟨none,0,by rw [h0],by omega,by decide,fun _=>⟨h0,rfl⟩,?_⟩
  rw [List.length_eq_zero_iff.1 h0]
  exact KAt.nil _ _ _
 ·refine ⟨some ⟨g,0,none⟩,cap,rfl,hnc,hcp,fun e=>(by cases e),KAt.mk fun i hi=>?_⟩
  have hi':i < Y.length:=by simpa using hi
  have hy:Y[i]? = some Y[i]:=List.getElem?_eq_getElem hi'
  have e:(Y.map (·.1)).getD i pt0 = Y[i].1:=by simp [List.getD_eq_getElem?_getD,hi']
  obtain ⟨k0,k1,k2⟩:=hb Y[i] (List.getElem_mem hi')
  obtain ⟨q,c,e2,k3,k4,k5,k6⟩:=owned_row k2
  injection e2 with e3 e4 e5
  rw [e]
  have cell:∀ j v,[Value.string Y[i].1.ty,.string Y[i].1.cs,.string Y[i].1.id,.string Y[i].1.loc,.int .i64 Y[i].1.how,.slice Y[i].2.1 Y[i].1.body.length Y[i].2.2,.slice none 0 0][j]? = some v→j < 7→w.cell? ⟨g,0 + i * 7 + j,none⟩ = some v:=fun j v hj h7=>by
   rw [h'.cellAt (0 + i * 7 + j) (by omega),Nat.zero_add]
   exact pa_at Y i Y[i] hy j v hj
  refine ⟨Y[i].2.1,Y[i].2.2,none,0,⟨cell 0 _ rfl (by omega),cell 1 _ rfl (by omega),cell 2 _ rfl (by omega),cell 3 _ rfl (by omega),cell 4 _ rfl (by omega),cell 5 _ rfl (by omega),by rw [k0];exact cell 6 _ rfl (by omega)⟩,k1,?_,?_,?_,?_⟩
  ·rw [e5];exact ⟨k3,k4,fun h=>(k5 (e3 ▸ h)).2⟩
  ·rw [e3];exact k6
  ·rw [k0];exact ⟨Nat.le_refl _,by decide,fun _=>rfl⟩
  ·exact k0
def AllPost (w:World) (r:Nat × List (PT × Int)) (e:Ending) (w':World):Prop :=
 Below w.heap.size w w'∧(r.1 ≠ 0→e = .returned (.tuple #[.slice none 0 0,.int .i64 (r.1:Int)])) ∧
 (r.1 = 0→∃ q c,e = .returned (.tuple #[.slice q r.2.length c,.int .i64 0])∧r.2.length≤c∧c≤maxLen∧(q = none→c = 0)∧KAt w' 1 q (r.2.map fun x=>x.1.alone))
theorem info_part:(Tryz.prog.info? 25).map (fun i=>(i.zero,i.size,i.bytes)) = some (some (.agg #[.string ⟨#[]⟩,.string ⟨#[]⟩,.string ⟨#[]⟩,.string ⟨#[]⟩,.int .i64 0,.slice none 0 0,.slice none 0 0]),7,120):=by kernel_rfl
theorem cell_seven (w:World) (c:List Value) (t:TypeId) (b:Nat) (hb:b = w.heap.size):∀ j x,c[j]? = some x→(w.alloc (.cells c.toArray t)).cell? ((⟨b,0,none⟩:Addr).add j) = some x:=by
 subst hb
 intro j x hj
 rw [Addr.add_lit,Nat.zero_add]
 simp [hj]
theorem made_seven {w w1:World} {t:TypeId} {a b c d e f g:Value} (hb:Below (w.alloc (.cells #[a,b,c,d,e,f,g] t)).heap.size (w.alloc (.cells #[a,b,c,d,e,f,g] t)) w1) (k:Nat) (hk:k = w.heap.size) :
  w1.cell? ⟨k,0,none⟩ = some a∧w1.cell? ⟨k,1,none⟩ = some b∧w1.cell? ⟨k,2,none⟩ = some c∧w1.cell? ⟨k,3,none⟩ = some d∧w1.cell? ⟨k,4,none⟩ = some e∧w1.cell? ⟨k,5,none⟩ = some f∧w1.cell? ⟨k,6,none⟩ = some g ∧
   w1.frozen? ⟨k,5,none⟩ = false∧w1.frozen? ⟨k,6,none⟩ = false∧k < w1.heap.size∧Below w.heap.size w w1:=by
 subst hk
 have hs:=hb.size
 rw [World.size_alloc] at hs
 refine ⟨?_,?_,?_,?_,?_,?_,?_,?_,?_,by omega,((Below.refl _ _).alloc (Nat.le_refl _) _).trans (hb.mono (by simp))⟩
 ·rw [hb.cell (p:=⟨w.heap.size,0,none⟩) (by simp)];simp
 ·rw [hb.cell (p:=⟨w.heap.size,1,none⟩) (by simp)];simp
 ·rw [hb.cell (p:=⟨w.heap.size,2,none⟩) (by simp)];simp
 ·rw [hb.cell (p:=⟨w.heap.size,3,none⟩) (by simp)];simp
 ·rw [hb.cell (p:=⟨w.heap.size,4,none⟩) (by simp)];simp
 ·rw [hb.cell (p:=⟨w.heap.size,5,none⟩) (by simp)];simp
 ·rw [hb.cell (p:=⟨w.heap.size,6,none⟩) (by simp)];simp
 ·rw [hb.frozen (p:=⟨w.heap.size,5,none⟩) (by simp)];simp
 ·rw [hb.frozen (p:=⟨w.heap.size,6,none⟩) (by simp)];simp
theorem firstBad_each:∀ (L:List (PT × Int)),firstBad L = 0→∀ x ∈ L,chkA x.1 = 0
 | [],_,x,hx=>by cases hx
 | y::L,h,x,hx=>by
  rw [firstBad] at h
  split at h
  ·rename_i h0
   rcases List.mem_cons.1 hx with e | e
   ·subst e;exact h0
   ·exact firstBad_each L h x e
  ·rename_i h0;exact absurd h h0
theorem placesP_each (p:PT):∀ x ∈ (placesP p).2,chkA x.1 = 0:=by
 unfold placesP
 cases hp:put 4 [] p 1 (-1) with
 | none=>intro x hx;cases hx
 | some L =>
  simp only
  by_cases hb:firstBad L = 0
  ·rw [if_pos hb];exact firstBad_each L hb
  ·rw [if_neg hb];intro x hx;cases hx
theorem chkA_body (p:PT) (h:chkA p = 0):p.body.length≤4000:=by
 unfold chkA at h
 split at h
 ·cases h
 ·split at h
  ·cases h
  ·split at h
   ·cases h
   ·omega
end Go.Proofs.YtbbfcbodhmeanaaGreatDoor


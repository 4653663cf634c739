
import Derived.Test.YtbbfcbodhmeanaaGreatDoorXrewritesays35
namespace Go.Proofs.YtbbfcbodhmeanaaGreatDoor
open Go.RowKit
set_option maxHeartbeats 1000000 in
theorem right_set (p:UInt8→Bool) (g:Nat) (s:ByteArray) (w:World) (hs:s.size≤1000000000) (hg:∀ c:UInt8,w.cell? ⟨g,c.toNat,none⟩ = some (.bool (p c))) :
  Calls Tryz.prog 124 #[.string s,.pointer (some ⟨g,0,none⟩)] w fun e w'=>e = .returned (.string ⟨(dropEnd p s.data.toList).toArray⟩)∧w' = w:=by
 have HG:Hid (∀ c:UInt8,w.cell? ⟨g,c.toNat,none⟩ = some (.bool (p c))):=hg
 clear hg
 go_enter Tryz.func124,Tryz.ntmps124
 go_wp2
 go_loopw [0] (fun v wr=>∃ t:ByteArray,v = .string t∧t.size≤s.size∧wr = w∧Hid (dropEnd p t.data.toList = dropEnd p s.data.toList)) (fun v _=>strLen v)
 case atStart=>exact ⟨s,rfl,Nat.le_refl _,rfl,rfl⟩
 case round =>
  obtain ⟨t,rfl,hts,rfl,HT⟩:=hrel
  rcases Nat.eq_zero_or_pos t.size with h0 | h0
  ·go_wp2
   go_ret
   have e:t.data.toList = []:=List.length_eq_zero_iff.1 (by rw [← Lib.size_eq];exact h0)
   exact ⟨congrArg Ending.returned (strt_eq (by rw [← HT.out,e];rfl)),rfl⟩
  ·obtain ⟨n,hn⟩:∃ n,t.size = n + 1:=⟨t.size - 1,by omega⟩
   obtain ⟨c,t8,h1,h2,h3,h4⟩:=ba_tail t n hn
   have hcell:=HG.out c
   cases hb:p c
   ·have HE:Hid (dropEnd p t.data.toList = t.data.toList):=by unfold Hid;rw [h4];exact dropEnd_no p _ _ hb
    rw [hb] at hcell
    clear h4 hb
    go_wp2_with (go_at_call 161;refine (in_set g c _ rfl false _ hcell).mono ?_;rintro e w' ⟨rfl,hw'⟩;have hw'':=hw'.symm;subst hw'')
    go_ret
    exact ⟨congrArg Ending.returned (strt_eq (by rw [← HT.out,HE.out])),rfl⟩
   ·have HE:Hid (dropEnd p t8.data.toList = dropEnd p t.data.toList):=by unfold Hid;rw [h4];exact (dropEnd_yes p _ _ hb).symm
    rw [hb] at hcell
    clear h4 hb
    go_wp2_with (go_at_call 161;refine (in_set g c _ rfl true _ hcell).mono ?_;rintro e w' ⟨rfl,hw'⟩;have hw'':=hw'.symm;subst hw'')
    go_roundw
    case rel=>exact ⟨t8,rfl,by omega,trivial,HE.out.trans HT.out⟩
    case measure=>simp [strLen];omega
set_option maxHeartbeats 1000000 in
theorem left_set (p:UInt8→Bool) (g:Nat) (s:ByteArray) (w:World) (hg:∀ c:UInt8,w.cell? ⟨g,c.toNat,none⟩ = some (.bool (p c))) :
  Calls Tryz.prog 123 #[.string s,.pointer (some ⟨g,0,none⟩)] w fun e w'=>e = .returned (.string ⟨(s.data.toList.dropWhile p).toArray⟩)∧w' = w:=by
 have HG:Hid (∀ c:UInt8,w.cell? ⟨g,c.toNat,none⟩ = some (.bool (p c))):=hg
 clear hg
 go_enter Tryz.func123,Tryz.ntmps123
 go_wp2
 go_loopw [0] (fun v wr=>∃ t:ByteArray,v = .string t∧t.size≤s.size∧wr = w∧Hid (t.data.toList.dropWhile p = s.data.toList.dropWhile p)) (fun v _=>strLen v)
 case atStart=>exact ⟨s,rfl,Nat.le_refl _,rfl,rfl⟩
 case round =>
  obtain ⟨t,rfl,hts,rfl,HT⟩:=hrel
  rcases Nat.eq_zero_or_pos t.size with h0 | h0
  ·go_wp2
   go_ret
   have e:t.data.toList = []:=List.length_eq_zero_iff.1 (by rw [← Lib.size_eq];exact h0)
   exact ⟨congrArg Ending.returned (strt_eq (by rw [← HT.out,e];rfl)),rfl⟩
  ·obtain ⟨n,hn⟩:∃ n,t.size = n + 1:=⟨t.size - 1,by omega⟩
   obtain ⟨c,t8,h1,h2,h3,h4⟩:=ba_head t n hn
   have hcell:=HG.out c
   cases hb:p c
   ·have HE:Hid (t.data.toList.dropWhile p = t.data.toList):=by unfold Hid;rw [h4,List.dropWhile_cons,if_neg (by simp [hb])]
    rw [hb] at hcell
    clear h4 hb
    go_wp2_with (go_at_call 161;refine (in_set g c _ rfl false _ hcell).mono ?_;rintro e w' ⟨rfl,hw'⟩;have hw'':=hw'.symm;subst hw'')
    go_ret
    exact ⟨congrArg Ending.returned (strt_eq (by rw [← HT.out,HE.out])),rfl⟩
   ·have HE:Hid (t8.data.toList.dropWhile p = t.data.toList.dropWhile p):=by unfold Hid;rw [h4,List.dropWhile_cons,if_pos hb]
    rw [hb] at hcell
    clear h4 hb
    go_wp2_with (go_at_call 161;refine (in_set g c _ rfl true _ hcell).mono ?_;rintro e w' ⟨rfl,hw'⟩;have hw'':=hw'.symm;subst hw'')
    go_roundw
    case rel=>exact ⟨t8,rfl,by omega,trivial,HE.out.trans HT.out⟩
    case measure=>simp [strLen];omega
set_option maxHeartbeats 2000000 in
set_option maxRecDepth 100000 in
theorem trim_set (cs:ByteArray) (s:ByteArray) (w:World) (hs:s.size≤1000000000) (hc2:2≤cs.size) (hcm:cs.size≤1000) (hasc:∀ (j:Nat) (b:UInt8),cs.data.toList[j]? = some b→b.toNat < 128) :
  Calls Tryz.prog 70 #[.string s,.string cs] w fun e w'=>e = .returned (.string ⟨(trimBy cs.data.toList.contains s.data.toList).toArray⟩)∧Below w.heap.size w w':=by
 have hcne:cs.toList.isEmpty = false:=by
  rw [ByteArray.toList_eq]
  cases h:cs.data.toList with
  | nil=>have:=congrArg List.length h;rw [← Lib.size_eq] at this;rw [List.length_nil] at this;omega
  | cons a b=>rfl
 rcases Nat.eq_zero_or_pos s.size with h0 | h0
 ·have e:s.data.toList = []:=List.length_eq_zero_iff.1 (by rw [← Lib.size_eq];exact h0)
  obtain rfl:s = ⟨#[]⟩:=ByteArray.ext (Array.toList_inj.1 e)
  clear e h0 hs
  go_enter Tryz.func70,Tryz.ntmps70
  go_wp2
  go_ret
  exact ⟨rfl,Below.refl _ _⟩
 ·have hne:s.toList.isEmpty = false:=by
   rw [ByteArray.toList_eq]
   cases h:s.data.toList with
   | nil=>have:=congrArg List.length h;rw [← Lib.size_eq] at this;rw [List.length_nil] at this;omega
   | cons a b=>rfl
  have hn1:((cs.size:Int) == 1) = false:=by rw [beq_eq_false_iff_ne];omega
  have HM:=Tryz.strings_makeASCIISet zero256 cs w (by omega) hasc
  have HS1:Hid ((Lib.setCells cs.data.toList).size = 256):=Lib.setCells_size _
  have HS2:Hid (∀ c:UInt8,(Lib.setCells cs.data.toList)[c.toNat]? = some (.bool (cs.data.toList.contains c))):=fun c=>Lib.setCells_at _ c
  have HS3:Hid ((Lib.setCells cs.data.toList).all (·.oneCell') = true):=Lib.setCells_one _
  generalize Lib.setCells cs.data.toList = SA at *
  have HMM:Hid (Calls Tryz.prog 122 #[.string cs] w _):=HM
  clear HM hasc
  go_enter Tryz.func70,Tryz.ntmps70
  go_wp2_with fail
  refine HMM.out.mono ?_
  rintro e w1 ⟨rfl,rfl⟩
  clear HMM
  have hA1:=HS1.out
  have hsc:(storeCells ⟨w.heap.size + 1,0,none⟩ SA.toList 0).run Tryz.prog ((w.alloc (.cells SA 152)).alloc (.cells Tryz.zeroCells152 152)) = .ok () ((w.alloc (.cells SA 152)).alloc (.cells SA 152)):=by
   have:=run_storeCells_new (P:=Tryz.prog) (w.alloc (.cells SA 152)) 152 Tryz.zeroCells152 SA (by rw [hA1];kernel_rfl) (by rw [hA1];kernel_rfl) HS3.out
   simpa using this
  have HC:Hid (∀ c:UInt8,((w.alloc (.cells SA 152)).alloc (.cells SA 152)).cell? ⟨w.heap.size + 1,c.toNat,none⟩ = some (.bool (cs.data.toList.contains c))):=fun c=>by
   rw [World.cell?_alloc_at _ _ _ _ (by simp)];exact HS2.out c
  have hb2:Below w.heap.size w ((w.alloc (.cells SA 152)).alloc (.cells SA 152)):=((Below.refl _ _).alloc (Nat.le_refl _) _).alloc (by simp) _
  go_wp2_with fail
  clear hsc
  generalize ((w.alloc (.cells SA 152)).alloc (.cells SA 152)) = w2 at *
  refine (right_set cs.data.toList.contains (w.heap.size + 1) s w2 hs HC.out).mono ?_
  rintro e w3 ⟨rfl,hw3⟩
  have hw3':=hw3.symm
  subst hw3'
  go_wp2_with fail
  refine (left_set cs.data.toList.contains (w.heap.size + 1) ⟨(dropEnd cs.data.toList.contains s.data.toList).toArray⟩ w2 HC.out).mono ?_
  rintro e w3 ⟨rfl,hw3⟩
  have hw3':=hw3.symm
  subst hw3'
  clear HC
  go_wp2
  go_ret
  exact ⟨rfl,hb2⟩
end Go.Proofs.YtbbfcbodhmeanaaGreatDoor



namespace Go.Proofs.YtbbfcbodhmeanaaGreatDoor
open Go.RowKit
set_option maxHeartbeats 1000000 in
theorem between_any (s but:ByteArray) (bl:List UInt8) (hbut:but.data.toList = bl) (lo hi:Nat) (loi hii:Int) (e1:loi = (lo:Int)) (e2:hii = (hi:Int)) (w:World) (hs:s.size≤1000000) :
  Calls Tryz.prog 88 #[.string s,.int .u8 loi,.int .u8 hii,.string but] w fun e w'=>e = .returned (.bool (betw lo hi bl s.data.toList))∧w' = w:=by
 subst e1 e2
 go_enter Tryz.func88,Tryz.ntmps88
 go_wp2
 go_loop [12] (fun iv=>∃ k:Nat,k≤s.size∧iv = .int .i64 k∧Hid (betw lo hi bl (s.data.toList.drop k) = betw lo hi bl s.data.toList)) (fun iv=>s.size - (intOf iv).toNat)
 case atStart=>exact ⟨0,Nat.zero_le _,rfl,rfl⟩
 case round =>
  obtain ⟨k,hk,rfl,HK⟩:=hrel
  by_cases hlt:k < s.size
  ·have hdr:Hid (betw lo hi bl (s.data.toList.drop k) = (inB lo hi bl s[k] && betw lo hi bl (s.data.toList.drop (k + 1)))):=by unfold Hid;rw [dropB s k hlt,betw_cons]
   by_cases h1:s[k].toNat < lo
   ·have HN:Hid (betw lo hi bl s.data.toList = false):=by
     unfold Hid
     rw [← HK.out,hdr.out,show inB lo hi bl s[k] = false from by simp [inB];omega];rfl
    have h1':(s[k].toNat:Int) < (lo:Int):=by omega
    clear hdr HK
    go_wp2
    go_ret
    exact ⟨by rw [HN.out];rfl,rfl⟩
   ·have h1':decide ((s[k].toNat:Int) < (lo:Int)) = false:=by simp;omega
    by_cases h2:hi < s[k].toNat
    ·have HN:Hid (betw lo hi bl s.data.toList = false):=by
      unfold Hid
      rw [← HK.out,hdr.out,show inB lo hi bl s[k] = false from by simp [inB];omega];rfl
     have h2':(hi:Int) < (s[k].toNat:Int):=by omega
     clear hdr HK
     go_wp2
     go_ret
     exact ⟨by rw [HN.out];rfl,rfl⟩
    ·have h2':decide ((hi:Int) < (s[k].toNat:Int)) = false:=by simp;omega
     cases h3:bl.contains s[k]
     ·have HN:Hid (betw lo hi bl (s.data.toList.drop (k + 1)) = betw lo hi bl s.data.toList):=by
       unfold Hid
       rw [← HK.out,hdr.out,show inB lo hi bl s[k] = true from by simp only [inB,h3];simp;omega];rfl
      clear hdr HK
      go_wp2_with (go_at_call 93;refine (ix_any but bl hbut s[k] _ rfl _).mono ?_;rintro e w' ⟨i,rfl,hi9,hw'⟩;rw [h3] at hi9;have hw'':=hw'.symm;subst hw'')
      go_round
      case rel=>exact ⟨k + 1,by omega,by go_num,HN⟩
      case measure=>simp [intOf];omega
     ·have HN:Hid (betw lo hi bl s.data.toList = false):=by
       unfold Hid
       rw [← HK.out,hdr.out,show inB lo hi bl s[k] = false from by simp only [inB,h3];simp];rfl
      clear hdr HK
      go_wp2_with (go_at_call 93;refine (ix_any but bl hbut s[k] _ rfl _).mono ?_;rintro e w' ⟨i,rfl,hi9,hw'⟩;rw [h3] at hi9;have hw'':=hw'.symm;subst hw'')
      go_ret
      exact ⟨by rw [HN.out];rfl,rfl⟩
  ·obtain rfl:k = s.size:=by omega
   have HN:Hid (betw lo hi bl s.data.toList = true):=by
    unfold Hid
    rw [← HK.out,List.drop_of_length_le (by rw [← Lib.size_eq];exact Nat.le_refl _)];rfl
   clear HK
   go_wp2
   go_ret
   exact ⟨by rw [HN.out];rfl,rfl⟩
end Go.Proofs.YtbbfcbodhmeanaaGreatDoor



namespace Go.Proofs.YtbbfcbodhmeanaaGreatDoor
open Go.RowKit
def schSet:List UInt8:=[97,98,99,100,101,102,103,104,105,106,107,108,109,110,111,112,113,114,115,116,117,118,119,120,121,122,48,49,50,51,52,53,54,55,56,57,43,45,46]
theorem schSet_is (c:UInt8):schSet.contains c = schB c:=by
 have:∀ n:Fin 256,schSet.contains (UInt8.ofNat n.val) = schB (UInt8.ofNat n.val):=by decide +kernel
 have h:=this ⟨c.toNat,c.toNat_lt⟩
 simp only [UInt8.ofNat_toNat] at h
 exact h
theorem trim_all (p:UInt8→Bool) (l:List UInt8):(trimBy p l).isEmpty = l.all p:=by
 unfold trimBy dropEnd
 rw [Bool.eq_iff_iff,List.isEmpty_iff,List.all_eq_true]
 constructor
 ·intro h c hc
  have h1:∀ (m:List UInt8),m.dropWhile p = []→∀ c ∈ m,p c = true:=fun m hm c hc=>by
   induction m with
   | nil=>cases hc
   | cons a m ih =>
    rw [List.dropWhile_cons] at hm
    split at hm
    ·rename_i ha
     rcases List.mem_cons.1 hc with rfl | hc
     ·exact ha
     ·exact ih hm hc
    ·cases hm
  have h2:=h1 _ h
  rcases hd:l.reverse.dropWhile p with _ | ⟨a,m⟩
  ·exact h1 _ hd c (by simpa using hc)
  ·have h3:p a = false:=by
    have:∀ (m:List UInt8) (a:UInt8) (t:List UInt8),m.dropWhile p = a::t→p a = false:=fun m=>by
     induction m with
     | nil=>intro a t h;cases h
     | cons b m ih =>
      intro a t h
      rw [List.dropWhile_cons] at h
      split at h
      ·exact ih a t h
      ·rename_i hb;cases h;simpa using hb
    exact this _ _ _ hd
   have:=h2 a (by rw [hd];simp)
   rw [h3] at this
   cases this
 ·intro h
  have h1:∀ (m:List UInt8),(∀ c ∈ m,p c = true)→m.dropWhile p = []:=fun m hm=>by
   induction m with
   | nil=>rfl
   | cons a m ih=>rw [List.dropWhile_cons,if_pos (hm a (by simp)),ih (fun c hc=>hm c (by simp [hc]))]
  rw [h1 l.reverse (fun c hc=>h c (by simpa using hc))]
  rfl
set_option maxHeartbeats 1000000 in
theorem rscheme_any (s:ByteArray) (w:World) (hs:s.size≤1000000) :
  Calls Tryz.prog 101 #[.string s] w fun e w'=>e = .returned (.bool (s.data.toList.isEmpty || schemeS s.data.toList))∧Below w.heap.size w w':=by
 by_cases hne:s.data.toList = []
 ·obtain rfl:=bempty_yes s hne
  go_enter Tryz.func101,Tryz.ntmps101
  go_wp2
  go_ret
  exact ⟨rfl,Below.refl _ _⟩
 ·have he:=bempty_no s hne
  have h0:=pos_no s hne
  have h0i:(0:Int) < (s.size:Int):=by omega
  have HS:Hid ((s.data.toList.isEmpty || schemeS s.data.toList) = ((decide (97≤s[0].toNat) && decide (s[0].toNat≤122)) && s.data.toList.all schB)):=by
   unfold Hid
   rw [isE_no s hne,Bool.false_or]
   have e:=dropB s 0 h0
   rw [List.drop_zero] at e
   unfold schemeS
   cases hl:s.data.toList with
   | nil=>rw [hl] at e;cases e
   | cons a l=>rw [hl] at e;cases e;rfl
  have CT:=trim_set ⟨schSet.toArray⟩ s w (by omega) (by decide) (by decide) (fun j b hb=>by
   have:∀ b ∈ schSet,b.toNat < 128:=by decide
   exact this b (List.mem_of_getElem? hb))
  obtain ⟨TT,hTT⟩:∃ T:ByteArray,T = ⟨(trimBy (ByteArray.mk schSet.toArray).data.toList.contains s.data.toList).toArray⟩:=⟨_,rfl⟩
  rw [← hTT] at CT
  have hTe:TT.data.toList.isEmpty = s.data.toList.all schB:=by
   rw [hTT]
   show (trimBy schSet.contains s.data.toList).isEmpty = _
   rw [show schSet.contains = schB from funext schSet_is,trim_all]
  have HC:Hid (Calls Tryz.prog 70 #[.string s,.string ⟨#[97,98,99,100,101,102,103,104,105,106,107,108,109,110,111,112,113,114,115,116,117,118,119,120,121,122,48,49,50,51,52,53,54,55,56,57,43,45,46]⟩] w fun e w'=>e = .returned (.string TT)∧Below w.heap.size w w'):=CT
  clear CT hTT
  cases ha:s.data.toList.all schB with
  | false =>
   have HN:Hid ((s.data.toList.isEmpty || schemeS s.data.toList) = false):=by unfold Hid;rw [HS.out,ha,Bool.and_false]
   rw [ha] at hTe
   have hT0:TT.toList.isEmpty = false:=by rw [ByteArray.toList_eq];exact hTe
   clear HS ha hTe hne
   go_enter Tryz.func101,Tryz.ntmps101
   go_wp2_with fail
   refine HC.out.mono ?_
   rintro e w1 ⟨rfl,hb1⟩
   clear HC
   go_wp2
   go_ret
   exact ⟨by rw [HN.out];rfl,hb1⟩
  | true =>
   rw [ha] at hTe
   have hT0:=bempty_yes TT (by simpa using hTe)
   subst hT0
   have h1d:decide ((97:Int)≤(s[0].toNat:Int)) = decide (97≤s[0].toNat):=decide_eq_decide.2 (by omega)
   have h2d:decide ((s[0].toNat:Int)≤122) = decide (s[0].toNat≤122):=decide_eq_decide.2 (by omega)
   have HN:Hid ((s.data.toList.isEmpty || schemeS s.data.toList) = (decide ((97:Int)≤(s[0].toNat:Int)) && decide ((s[0].toNat:Int)≤122))):=by unfold Hid;rw [HS.out,ha,Bool.and_true,h1d,h2d]
   clear HS ha hTe hne h1d h2d
   by_cases h1:(97:Int)≤(s[0].toNat:Int)
   ·by_cases h2:(s[0].toNat:Int)≤122
    ·go_enter Tryz.func101,Tryz.ntmps101
     go_wp2_with fail
     refine HC.out.mono ?_
     rintro e w1 ⟨rfl,hb1⟩
     clear HC
     go_wp2
     go_ret
     exact ⟨by rw [HN.out];simp [h1,h2],hb1⟩
    ·have h2':decide ((s[0].toNat:Int)≤122) = false:=decide_eq_false h2
     go_enter Tryz.func101,Tryz.ntmps101
     go_wp2_with fail
     refine HC.out.mono ?_
     rintro e w1 ⟨rfl,hb1⟩
     clear HC
     go_wp2
     go_ret
     exact ⟨by rw [HN.out];simp [h2],hb1⟩
   ·have h1':decide ((97:Int)≤(s[0].toNat:Int)) = false:=decide_eq_false h1
    go_enter Tryz.func101,Tryz.ntmps101
    go_wp2_with fail
    refine HC.out.mono ?_
    rintro e w1 ⟨rfl,hb1⟩
    clear HC
    go_wp2
    go_ret
    exact ⟨by rw [HN.out,h1'];rfl,hb1⟩
end Go.Proofs.YtbbfcbodhmeanaaGreatDoor



namespace Go.Proofs.YtbbfcbodhmeanaaGreatDoor
open Go.RowKit
def setN:List UInt8:=[97,98,99,100,101,102,103,104,105,106,107,108,109,110,111,112,113,114,115,116,117,118,119,120,121,122,48,49,50,51,52,53,54,55,56,57,46]
theorem setN_is (c:UInt8):setN.contains c = nameC c:=by
 have:∀ n:Fin 256,setN.contains (UInt8.ofNat n.val) = nameC (UInt8.ofNat n.val):=by decide +kernel
 have h:=this ⟨c.toNat,c.toNat_lt⟩
 simp only [UInt8.ofNat_toNat] at h
 exact h
theorem mayN_ref (c:UInt8) (t:List UInt8):mayN (c::t) = (decide ((c::t).length≤30) && (c::t).all nameC && !decide (c.toNat < 97)):=by
 rw [mayN_cons,List.length_cons]
 have h:((c::t).all nameC && smallC c) = ((c::t).all nameC && !decide (c.toNat < 97)):=by
  rw [List.all_cons]
  have:∀ n:Fin 256,(nameC (UInt8.ofNat n.val) && smallC (UInt8.ofNat n.val)) = (nameC (UInt8.ofNat n.val) && !decide ((UInt8.ofNat n.val).toNat < 97)):=by decide +kernel
  have h:=this ⟨c.toNat,c.toNat_lt⟩
  simp only [UInt8.ofNat_toNat] at h
  cases hc:nameC c
  ·rfl
  ·rw [hc] at h
   simp only [Bool.true_and] at h ⊢
   rw [h]
 cases hd:decide (t.length + 1≤30)
 ·rfl
 ·rw [Bool.true_and,Bool.true_and,Bool.and_comm,h]
def aheadN (l:List NM) (x:NM):Bool:=l.any fun m=>(m.2.data.toList == x.2.data.toList) || decide (x.1≤m.1)
structure AhN (pre:List NM) (last:Int) (seen:List (List UInt8)):Prop where
 names:∀ s,seen.contains s = pre.any (fun m=>m.2.data.toList == s)
 high:∀ v:Int,0≤v→(v≤last ↔ ∃ m ∈ pre,v≤m.1)
theorem AhN.nil:AhN [] (-1) []:=⟨fun _=>rfl,fun v hv=>⟨fun h=>by omega,fun ⟨_,h,_⟩=>by cases h⟩⟩
theorem AhN.ahead {pre:List NM} {last:Int} {seen:List (List UInt8)} (h:AhN pre last seen) (x:NM) (hx:0≤x.1):aheadN pre x = true ↔ (seen.contains x.2.data.toList = true ∨ x.1≤last):=by
 unfold aheadN
 rw [h.names,h.high x.1 hx,List.any_eq_true,List.any_eq_true]
 constructor
 ·rintro ⟨m,hm,h1⟩
  rw [Bool.or_eq_true,decide_eq_true_eq] at h1
  rcases h1 with h1 | h1
  ·exact .inl ⟨m,hm,h1⟩
  ·exact .inr ⟨m,hm,h1⟩
 ·rintro (⟨m,hm,h1⟩ | ⟨m,hm,h1⟩)
  ·exact ⟨m,hm,by rw [h1];rfl⟩
  ·exact ⟨m,hm,by rw [decide_eq_true h1,Bool.or_true]⟩
theorem AhN.next {pre:List NM} {last:Int} {seen:List (List UInt8)} (h:AhN pre last seen) (x:NM) (hl:¬ x.1≤last):AhN (pre ++ [x]) x.1 (x.2.data.toList::seen):=by
 refine ⟨fun s=>?_,fun v hv=>?_⟩
 ·rw [List.any_append,List.contains_cons,h.names,List.any_cons,List.any_nil,Bool.or_false,Bool.or_comm]
  congr 1
  exact Bool.beq_comm
 ·constructor
  ·exact fun hv'=>⟨x,by simp,hv'⟩
  ·rintro ⟨m,hm,h1⟩
   rcases List.mem_append.1 hm with hm | hm
   ·have:=(h.high v hv).2 ⟨m,hm,h1⟩
    omega
   ·simp at hm
    rw [hm] at h1
    exact h1
theorem ahead_drop (l:List NM) (x:NM) (j:Nat) (h:j < l.length):aheadN (l.drop j) x = (((l.getD j nm0).2.data.toList == x.2.data.toList) || decide (x.1≤(l.getD j nm0).1) || aheadN (l.drop (j + 1)) x):=by
 unfold aheadN
 rw [List.drop_eq_getElem_cons h,List.any_cons,List.getD_eq_getElem?_getD,List.getElem?_eq_getElem h]
 rfl
abbrev setB:ByteArray:=⟨#[97,98,99,100,101,102,103,104,105,106,107,108,109,110,111,112,113,114,115,116,117,118,119,120,121,122,48,49,50,51,52,53,54,55,56,57,46]⟩
set_option maxHeartbeats 8000000 in
set_option maxRecDepth 100000 in
theorem rncheck_any (a:Option Addr) (n c:Nat) (l:List NM) (en:n = l.length) (parts:Int) (hl:NLen l) (w:World) (hr:NmRow w a l) :
  Calls Tryz.prog 25 #[.slice a n c,.int .i64 parts] w fun e w'=>e = .returned (.int .i64 (checkN parts (-1) [] l:Nat))∧Below w.heap.size w w':=by
 have hn63:n≤9223372036854775807:=by have:=hl.1;unfold maxLen at this;omega
 have HN:Hid (n = l.length):=en
 have HL:Hid (NLen l):=hl
 have HR:Hid (NmRow w a l):=hr
 have CT:Hid (∀ (s:ByteArray) W,s.size≤30→Calls Tryz.prog 70 #[.string s,.string setB] W fun e w'=>e = .returned (.string ⟨(trimBy setN.contains s.data.toList).toArray⟩)∧Below W.heap.size W w'):=fun s W hs=>trim_set setB s W (by omega) (by decide) (by decide) (fun j b hb=>by
   have:∀ b ∈ setN,b.toNat < 128:=by decide
   exact this b (List.mem_of_getElem? hb))
 obtain ⟨RES,hRES⟩:∃ r,checkN parts (-1) [] l = r:=⟨_,rfl⟩
 have HRES:Hid (checkN parts (-1) [] (l.drop 0) = RES):=hRES
 rw [hRES]
 clear hRES hr hl en
 have h00:Below w.heap.size w w:=Below.refl _ _
 go_enter Tryz.func25,Tryz.ntmps25
 go_wp2_with fail
 go_loopw [4,10] (fun ev iv wr=>∃ (k:Nat) (last:Int) (seen:List (List UInt8)),k≤n∧iv = .int .i64 k∧ev = .int .i64 0∧Hid (AhN (l.take k) last seen)∧Hid (Below w.heap.size w wr)∧Hid (checkN parts last seen (l.drop k) = RES)) (fun _ iv _=>n - (intOf iv).toNat)
 case atStart=>exact ⟨0,-1,[],Nat.zero_le _,rfl,rfl,AhN.nil,h00,HRES⟩
 case round =>
  obtain ⟨k,last,seen,hk,rfl,rfl,HA,HB,HC⟩:=hrel
  clear HRES h00
  by_cases hlt:k < n
  ·have hlz:(k:Int) < (n:Int):=by omega
   have hkl:k < l.length:=by rw [← HN.out];exact hlt
   obtain ⟨b,o,hab,hc⟩:=(HR.out.below HB.out) (fun e=>by rw [e] at hkl;simp at hkl)
   subst hab
   obtain ⟨d0,d1⟩:=hc k hkl
   obtain ⟨hi1,hi2,hsz⟩:=HL.out.at k hkl
   have HAT:Hid (RES = if (l.getD k nm0).1 < 0 ∨ parts≤(l.getD k nm0).1 then 5 else if mayN (l.getD k nm0).2.data.toList = false then 1 else if seen.contains (l.getD k nm0).2.data.toList = true ∨ (l.getD k nm0).1≤last then 6 else checkN parts (l.getD k nm0).1 ((l.getD k nm0).2.data.toList::seen) (l.drop (k + 1))):=HC.out.symm.trans (check_at parts last seen l k hkl)
   have HTK:Hid (l.take (k + 1) = l.take k ++ [l.getD k nm0]):=by unfold Hid;rw [List.take_add_one,List.getD_eq_getElem?_getD,List.getElem?_eq_getElem hkl];rfl
   have HTL:Hid ((l.take k).length = k):=by unfold Hid;rw [List.length_take];omega
   have HCK:Hid (∀ V,Below w.heap.size w V→∀ j,j < k→V.cell? ⟨b,o + j * 2,none⟩ = some (.int .i64 ((l.take k).getD j nm0).1)∧V.cell? ⟨b,o + j * 2 + 1,none⟩ = some (.string ((l.take k).getD j nm0).2)):=fun V hV j hj=>by
    obtain ⟨b',o',hbo,hc'⟩:=(HR.out.below hV) (fun e=>by rw [e] at hkl;simp at hkl)
    injection hbo with hbo
    injection hbo with h1 h2
    subst h1
    subst h2
    have h:=hc' j (by omega)
    have e:(l.take k).getD j nm0 = l.getD j nm0:=by rw [List.getD_eq_getElem?_getD,List.getElem?_take_of_lt hj,← List.getD_eq_getElem?_getD]
    rw [e]
    exact h
   clear hc HC hkl
   generalize l.take k = pre at *
   generalize l.getD k nm0 = x at *
   obtain ⟨m,s⟩:=x
   simp only at d0 d1 hi1 hi2 hsz HAT
   obtain ⟨Wx,hWx⟩:∃ W,W = wr.alloc (.cells #[.int .i64 m,.string s] 56):=⟨_,rfl⟩
   have hbx:Below wr.heap.size wr Wx:=by rw [hWx];exact (Below.refl _ _).alloc (Nat.le_refl _) _
   have kx:Wx.heap[wr.heap.size]? = some (.cells #[.int .i64 m,.string s] 56):=by rw [hWx];exact blk_new _ _
   have hbwx:Below w.heap.size w Wx:=HB.out.trans (hbx.mono HB.out.size)
   have HWX:Hid (Wx = wr.alloc (.cells #[.int .i64 m,.string s] 56)):=hWx
   have HKX:Hid (Wx.heap[wr.heap.size]? = some (.cells #[.int .i64 m,.string s] 56)):=kx
   have HBX:Hid (Below w.heap.size w Wx):=hbwx
   clear hWx hbx kx hbwx HB
   obtain ⟨Y,hY⟩:∃ Y,wr.heap.size = Y:=⟨_,rfl⟩
   go_upto_region 4 with fail
   rw [← HWX.out]
   rw [hY] at HKX
   have z0:Wx.cell? ⟨Y,0,none⟩ = some (.int .i64 m):=(blk_c HKX.out 0).trans rfl
   have z1:Wx.cell? ⟨Y,1,none⟩ = some (.string s):=(blk_c HKX.out 1).trans rfl
   clear d0 d1 HWX hY
   by_cases h1:m < 0
   ·have h1':decide (m < 0) = true:=by simpa using h1
    have HF:Hid (RES = 5):=by unfold Hid;rw [HAT.out,if_pos (Or.inl h1)]
    clear HAT
    go_wp2_with fail
    go_ret
    refine ⟨?_,HBX.out⟩
    rw [HF.out]
    rfl
   ·have h1':decide (m < 0) = false:=by simpa using h1
    by_cases h2:parts≤m
    ·have h2':decide (parts≤m) = true:=by simpa using h2
     have HF:Hid (RES = 5):=by unfold Hid;rw [HAT.out,if_pos (Or.inr h2)]
     clear HAT
     go_wp2_with fail
     go_ret
     refine ⟨?_,HBX.out⟩
     rw [HF.out]
     rfl
    ·have h2':decide (parts≤m) = false:=by simpa using h2
     rw [if_neg (by omega)] at HAT
     by_cases h3:s.data.toList = []
     ·obtain rfl:=bempty_yes s h3
      have HF:Hid (RES = 1):=by unfold Hid;rw [HAT.out];exact if_pos rfl
      clear HAT
      go_wp2_with fail
      go_ret
      refine ⟨?_,HBX.out⟩
      rw [HF.out]
      rfl
     ·have hpos:=pos_no s h3
      have h3':¬ (s.size:Int) < 1:=by omega
      obtain ⟨ch,tl,hct⟩:∃ ch tl,s.data.toList = ch::tl:=by
       cases h:s.data.toList with
       | nil=>exact absurd h h3
       | cons a t=>exact ⟨a,t,rfl⟩
      have hlen:(s.data.toList).length = s.size:=(Lib.size_eq s).symm
      have HMY:Hid (mayN s.data.toList = (decide (s.size≤30) && s.data.toList.all nameC && !decide (s[0].toNat < 97))):=by
       unfold Hid
       have e0:s[0] = ch:=by
        have e:=dropB s 0 hpos
        rw [List.drop_zero,hct] at e
        exact (List.cons.inj e).1.symm
       rw [e0,← hlen,hct]
       exact mayN_ref ch tl
      clear hct hlen h3
      by_cases h4:30 < s.size
      ·have h4':(30:Int) < (s.size:Int):=by omega
       have HF:Hid (RES = 1):=by unfold Hid;rw [HAT.out,if_pos (by rw [HMY.out,decide_eq_false (by omega)];rfl)]
       clear HAT HMY
       go_wp2_with fail
       go_ret
       refine ⟨?_,HBX.out⟩
       rw [HF.out]
       rfl
      ·have h4':¬ (30:Int) < (s.size:Int):=by omega
       rw [decide_eq_true (show s.size≤30 by omega),Bool.true_and] at HMY
       have CT1:=CT.out s Wx (by omega)
       obtain ⟨TT,hTT⟩:∃ T:ByteArray,T = ⟨(trimBy setN.contains s.data.toList).toArray⟩:=⟨_,rfl⟩
       rw [← hTT] at CT1
       have hTe:TT.data.toList.isEmpty = s.data.toList.all nameC:=by
        rw [hTT]
        show (trimBy setN.contains s.data.toList).isEmpty = _
        rw [show setN.contains = nameC from funext setN_is,trim_all]
       have HC1:Hid (Calls Tryz.prog 70 #[.string s,.string ⟨#[97,98,99,100,101,102,103,104,105,106,107,108,109,110,111,112,113,114,115,116,117,118,119,120,121,122,48,49,50,51,52,53,54,55,56,57,46]⟩] Wx fun e w'=>e = .returned (.string TT)∧Below Wx.heap.size Wx w'):=CT1
       clear CT1 hTT
       cases ha:s.data.toList.all nameC with
       | false =>
        have HF:Hid (RES = 1):=by unfold Hid;rw [HAT.out,if_pos (by rw [HMY.out,ha];rfl)]
        rw [ha] at hTe
        have hT0:TT.toList.isEmpty = false:=by rw [ByteArray.toList_eq];exact hTe
        clear HAT HMY ha hTe
        go_wp2_with fail
        refine HC1.out.mono ?_
        rintro e w2 ⟨rfl,hb2⟩
        have HB2:Hid (Below w.heap.size w w2):=HBX.out.trans (hb2.mono HBX.out.size)
        clear hb2 HC1 z0 z1
        go_wp2_with fail
        go_ret
        refine ⟨?_,HB2.out⟩
        rw [HF.out]
        rfl
       | true =>
        rw [ha] at hTe
        have hT0:=bempty_yes TT (by simpa using hTe)
        subst hT0
        rw [ha,Bool.true_and] at HMY
        clear ha hTe
        by_cases h5:s[0].toNat < 97
        ·have h5':(s[0].toNat:Int) < 97:=by omega
         have HF:Hid (RES = 1):=by unfold Hid;rw [HAT.out,if_pos (by rw [HMY.out,decide_eq_true h5];rfl)]
         clear HAT HMY h5
         go_wp2_with fail
         refine HC1.out.mono ?_
         rintro e w2 ⟨rfl,hb2⟩
         have HB2:Hid (Below w.heap.size w w2):=HBX.out.trans (hb2.mono HBX.out.size)
         have z1:w2.cell? ⟨Y,1,none⟩ = some (.string s):=(blk_c (blk_on HKX.out hb2) 1).trans rfl
         clear hb2 HC1
         go_wp2_with fail
         go_ret
         refine ⟨?_,HB2.out⟩
         rw [HF.out]
         rfl
        ·have h5':¬ (s[0].toNat:Int) < 97:=by omega
         rw [if_neg (by rw [HMY.out,decide_eq_false h5];simp)] at HAT
         clear HMY h5
         go_wp2_with fail
         refine HC1.out.mono ?_
         rintro e w2 ⟨rfl,hb2⟩
         have HB2:Hid (Below w.heap.size w w2):=HBX.out.trans (hb2.mono HBX.out.size)
         have HK2:Hid (w2.heap[Y]? = some (.cells #[.int .i64 m,.string s] 56)):=blk_on HKX.out hb2
         clear hb2 HC1 z0 z1 HKX HBX
         have z1:w2.cell? ⟨Y,1,none⟩ = some (.string s):=(blk_c HK2.out 1).trans rfl
         have HAA:Hid (aheadN pre (m,s) = true ↔ (seen.contains s.data.toList = true ∨ m≤last)):=HA.out.ahead (m,s) (by simp only;omega)
         go_wp2_with fail
         clear z1 h5'
         have h20:Below w2.heap.size w2 w2:=Below.refl _ _
         go_loopw [4,47] (fun ev jv wv=>∃ j:Nat,j≤k∧jv = .int .i64 j∧ev = .int .i64 0∧Hid (Below w2.heap.size w2 wv)∧Hid (aheadN pre (m,s) = aheadN (pre.drop j) (m,s))) (fun _ jv _=>k - (intOf jv).toNat)
         case atStart=>exact ⟨0,Nat.zero_le _,rfl,rfl,h20,rfl⟩
         case round =>
          obtain ⟨j,hj,rfl,rfl,HBV,HAJ⟩:=hrel
          clear h20
          by_cases hjk:j < k
          ·have hjz:(j:Int) < (k:Int):=by omega
           have hjn:(j:Int) < (n:Int):=by omega
           obtain ⟨p0,p1⟩:=HCK.out wr (HB2.out.trans (HBV.out.mono HB2.out.size)) j hjk
           have z0:wr.cell? ⟨Y,0,none⟩ = some (.int .i64 m):=(blk_c (blk_on HK2.out HBV.out) 0).trans rfl
           have z1:wr.cell? ⟨Y,1,none⟩ = some (.string s):=(blk_c (blk_on HK2.out HBV.out) 1).trans rfl
           have HST:Hid (aheadN pre (m,s) = (((pre.getD j nm0).2.data.toList == s.data.toList) || decide (m≤(pre.getD j nm0).1) || aheadN (pre.drop (j + 1)) (m,s))):=HAJ.out.trans (ahead_drop pre (m,s) j (by rw [HTL.out];exact hjk))
           clear HAJ
           generalize pre.getD j nm0 = y at *
           obtain ⟨m2,s2⟩:=y
           simp only at p0 p1 HST
           cases he:(s2.data.toList == s.data.toList) with
           | true =>
            have he':(s2.toList == s.toList) = true:=by rw [ByteArray.toList_eq,ByteArray.toList_eq];exact he
            have HF:Hid (RES = 6):=by unfold Hid;rw [HAT.out,if_pos (HAA.out.1 (by rw [HST.out,he];rfl))]
            have HBF:Hid (Below w.heap.size w wr):=HB2.out.trans (HBV.out.mono HB2.out.size)
            clear HST HAT he
            go_wp2_with fail
            go_quiet (fail)
            go_wp2_with fail
            go_ret
            refine ⟨?_,below_drewN' HBF.out _⟩
            rw [HF.out]
            rfl
           | false =>
            have he':(s2.toList == s.toList) = false:=by rw [ByteArray.toList_eq,ByteArray.toList_eq];exact he
            rw [he,Bool.false_or] at HST
            clear he
            by_cases h6:m≤m2
            ·have h6':decide (m≤m2) = true:=by simpa using h6
             have HF:Hid (RES = 6):=by unfold Hid;rw [HAT.out,if_pos (HAA.out.1 (by rw [HST.out,h6'];rfl))]
             have HBF:Hid (Below w.heap.size w wr):=HB2.out.trans (HBV.out.mono HB2.out.size)
             clear HST HAT
             go_wp2_with fail
             go_quiet (fail)
             go_wp2_with fail
             go_ret
             refine ⟨?_,below_drewN' HBF.out _⟩
             rw [HF.out]
             rfl
            ·have h6':decide (m≤m2) = false:=by simpa using h6
             rw [h6',Bool.false_or] at HST
             go_wp2_with fail
             go_quiet (fail)
             go_wp2_with fail
             go_roundw
             case rel=>exact ⟨j + 1,by omega,by go_num,rfl,below_drewN' HBV.out _,HST⟩
             case measure=>simp [intOf];omega
          ·have hjz:¬ (j:Int) < (k:Int):=by omega
           have hno:aheadN pre (m,s) = false:=by
            rw [HAJ.out,List.drop_of_length_le (by rw [HTL.out];omega)]
            rfl
           have hnn:¬ (seen.contains s.data.toList = true ∨ m≤last):=fun h=>by
            have:=HAA.out.2 h
            rw [hno] at this
            cases this
           have HNX:Hid (checkN parts m (s.data.toList::seen) (l.drop (k + 1)) = RES):=by unfold Hid;rw [HAT.out,if_neg hnn]
           have HA2:Hid (AhN (l.take (k + 1)) m (s.data.toList::seen)):=by
            unfold Hid
            rw [HTK.out]
            exact HA.out.next (m,s) (fun h=>hnn (.inr h))
           have HB9:Hid (Below w.heap.size w wr):=HB2.out.trans (HBV.out.mono HB2.out.size)
           clear hno hnn HAT HAJ HAA HA HTK
           go_wp2_with fail
           go_roundw
           case rel=>exact ⟨k + 1,m,s.data.toList::seen,by omega,by go_num,rfl,HA2,HB9,HNX⟩
           case measure=>simp [intOf];omega
  ·have hlz:¬ (k:Int) < (n:Int):=by omega
   have HF:Hid (RES = 0):=by
    have h:=HC.out
    rw [List.drop_of_length_le (by rw [← HN.out];omega),checkN] at h
    exact h.symm
   clear HC
   go_wp2_with fail
   go_ret
   refine ⟨?_,HB.out⟩
   rw [HF.out]
   rfl
end Go.Proofs.YtbbfcbodhmeanaaGreatDoor



namespace Go.Proofs.YtbbfcbodhmeanaaGreatDoor
def ba (l:List UInt8):ByteArray:=⟨l.toArray⟩
theorem ba_data (l:List UInt8):(ba l).data.toList = l:=rfl
theorem ba_size (l:List UInt8):(ba l).size = l.length:=by rw [Lib.size_eq,ba_data]
end Go.Proofs.YtbbfcbodhmeanaaGreatDoor



import Derived.Test.YtbbfcbodhmeanaaGreatDoorXrewritesays46
namespace Go.Proofs.YtbbfcbodhmeanaaGreatDoor
open Go.RowKit
def rsmJ (x:Int):Int:=if 65≤x∧x≤90 then x + 32 else x
theorem rsmJ_any (x:Nat) (hx:x≤1114111) (w:World):Calls Tryz.prog 137 #[.int .i32 (x:Int)] w fun e w'=>e = .returned (.int .i32 (rsmJ x))∧w' = w:=by
 by_cases h1:65≤x
 ·have h1':(65:Int)≤(x:Int):=by omega
  by_cases h2:x≤90
  ·have h2':(x:Int)≤90:=by omega
   have HN:Hid (rsmJ x = (x:Int) + 32):=by unfold Hid rsmJ;rw [if_pos ⟨h1',h2'⟩]
   have hw:IntKind.i32.wrap ((x:Int) + 32) = (x:Int) + 32:=by rw [IntKind.wrap_i32];omega
   go_enter Tryz.func137,Tryz.ntmps137
   go_wp2
   go_ret
   exact ⟨by rw [HN.out];rfl,rfl⟩
  ·have h2':decide ((x:Int)≤90) = false:=by simp;omega
   have HN:Hid (rsmJ x = (x:Int)):=by unfold Hid rsmJ;rw [if_neg (by omega)]
   go_enter Tryz.func137,Tryz.ntmps137
   go_wp2
   go_ret
   exact ⟨by rw [HN.out];rfl,rfl⟩
 ·have h1':decide ((65:Int)≤(x:Int)) = false:=by simp;omega
  have HN:Hid (rsmJ x = (x:Int)):=by unfold Hid rsmJ;rw [if_neg (by omega)]
  go_enter Tryz.func137,Tryz.ntmps137
  go_wp2
  go_ret
  exact ⟨by rw [HN.out];rfl,rfl⟩
theorem decode_one (c:UInt8) (l:List UInt8) (h:c.toNat < 128):Lib.decodeL (c::l) = (c.toNat,1):=by
 have e:(ByteArray.mk (c::l).toArray).get! 0 = c:=rfl
 unfold Lib.decodeL Utf8.decode
 simp only [Nat.add_zero,e]
 rw [if_pos h]
theorem rsmJ_byte (c:UInt8) (h:c.toNat < 128):0≤rsmJ (c.toNat:Int)∧Lib.encodeRune (rsmJ (c.toNat:Int)) = [Lib.lowerB c]:=by
 have hl:=lower_num8 c
 have e:rsmJ (c.toNat:Int) = ((Lib.lowerB c).toNat:Int):=by
  unfold rsmJ
  by_cases hu:65≤c.toNat∧c.toNat≤90
  ·rw [if_pos hu] at hl;rw [if_pos (by omega),hl];omega
  ·rw [if_neg hu] at hl;rw [if_neg (by omega),hl]
 have h2:=ascii_low c h
 refine ⟨by rw [e];omega,?_⟩
 rw [e,Lib.encodeRune,Lib.encodeRuneZ_one (by omega) (by omega)]
 simp
theorem map_small:∀ (n:Nat) (l:List UInt8),l.length≤n→(∀ c ∈ l,c.toNat < 128)→Lib.mapGoD rsmJ n l = small8 l
 | 0,l,hn,_=>by
  have:l = []:=List.length_eq_zero_iff.1 (by omega)
  subst this;rfl
 | n + 1,[],_,_=>by rw [Lib.mapGoD,if_pos rfl];rfl
 | n + 1,c::l,hn,ha=>by
  have hc:=ha c (by simp)
  rw [Lib.mapGoD,if_neg (by simp),decode_one c l hc,if_pos (rsmJ_byte c hc).1,(rsmJ_byte c hc).2]
  simp only [List.drop_succ_cons,List.drop_zero]
  rw [map_small n l (by simpa using hn) (fun x hx=>ha x (by simp [hx]))]
  rfl
theorem rsmall_any (l:List UInt8) (w:World) (hs:l.length≤1000000) (ha:∀ c ∈ l,c.toNat < 128) (hT:Lib.Utf8Tabs 1 2 w) :
  Calls Tryz.prog 87 #[.string (ba l)] w fun e w'=>e = .returned (.string (ba (small8 l)))∧Below w.heap.size w w':=by
 have C:=Tryz.strings_Map_runes 137 #[] (fun args w=>by kernel_rfl) rsmJ (ba l) w (by rw [ba_size];omega) (fun W x hx _=>(rsmJ_any x hx W).mono (fun e w' h=>⟨h.1,0,h.2⟩)) (fun x hx=>by unfold rsmJ;split <;> omega) hT
 have e:Lib.mapD rsmJ (ba l).data.toList = small8 l:=map_small _ _ (Nat.le_refl _) ha
 rw [e] at C
 have HC:Hid (Calls Tryz.prog 136 #[.func (.func 137) #[] #[],.string (ba l)] w fun e w'=>e = .returned (.string (ba (small8 l)))∧Below w.heap.size w w'):=C
 clear C e ha hT
 go_enter Tryz.func87,Tryz.ntmps87
 go_wp2_with fail
 refine HC.out.mono ?_
 rintro e w1 ⟨rfl,hb⟩
 clear HC
 go_wp2
 go_ret
 exact ⟨rfl,hb⟩
end Go.Proofs.YtbbfcbodhmeanaaGreatDoor



namespace Go.Proofs.YtbbfcbodhmeanaaGreatDoor
open Go.RowKit
theorem token_any (s:ByteArray) (w:World) (hs:s.size≤maxLen) :
  Calls Tryz.prog 47 #[.string s] w fun e w'=>e = .returned (.bool (tokenS s.data.toList))∧w' = w:=by
 unfold maxLen at hs
 have hle:=Lib.size_eq s
 by_cases h1:1≤s.size
 ·have h1':(1:Int)≤(s.size:Int):=by omega
  by_cases h2:s.size≤30
  ·have h2':(s.size:Int)≤30:=by omega
   have HN:Hid (tokenS s.data.toList = betw 33 126 specials s.data.toList):=by unfold Hid tokenS;rw [← hle];simp [h1,h2]
   clear hle
   go_enter Tryz.func47,Tryz.ntmps47
   go_wp2_with (go_at_call 88;refine (between_any s _ specials rfl 33 126 _ _ rfl rfl _ (by omega)).mono ?_;rintro e w' ⟨rfl,hw'⟩;have hw'':=hw'.symm;subst hw'')
   go_ret
   exact ⟨by rw [HN.out];rfl,rfl⟩
  ·have h2':decide ((s.size:Int)≤30) = false:=by simp;omega
   have HN:Hid (tokenS s.data.toList = false):=by unfold Hid tokenS;rw [← hle];simp;omega
   clear hle
   go_enter Tryz.func47,Tryz.ntmps47
   go_wp2
   go_ret
   exact ⟨by rw [HN.out];rfl,rfl⟩
 ·have h1':decide ((1:Int)≤(s.size:Int)) = false:=by simp;omega
  have HN:Hid (tokenS s.data.toList = false):=by unfold Hid tokenS;rw [← hle];simp;omega
  clear hle
  go_enter Tryz.func47,Tryz.ntmps47
  go_wp2
  go_ret
  exact ⟨by rw [HN.out];rfl,rfl⟩
end Go.Proofs.YtbbfcbodhmeanaaGreatDoor



namespace Go.Proofs.YtbbfcbodhmeanaaGreatDoor
open Go.RowKit
theorem take_ten (l:List UInt8):manyS l = decide (l.take 10 = multi):=by
 unfold manyS Lib.hasPrefix
 rw [Bool.eq_iff_iff,List.isPrefixOf_iff_prefix,List.prefix_iff_eq_take]
 simp only [decide_eq_true_eq]
 exact ⟨fun h=>h.symm,fun h=>h.symm⟩
theorem rmany_any (s:ByteArray) (w:World) (hs:s.size≤maxLen) :
  Calls Tryz.prog 45 #[.string s] w fun e w'=>e = .returned (.bool (manyS s.data.toList))∧w' = w:=by
 unfold maxLen at hs
 have hle:=Lib.size_eq s
 by_cases h10:10≤s.size
 ·have h10':(10:Int)≤(s.size:Int):=by omega
  obtain ⟨X,hX⟩:∃ X,s.extract 0 10 = X:=⟨_,rfl⟩
  have hXl:X.data.toList = s.data.toList.take 10:=by rw [← hX,Lib.extract_data];simp
  have HN:Hid (manyS s.data.toList = decide (X.data.toList = multi)):=by unfold Hid;rw [hXl];exact take_ten _
  have e1:(X.toList == (⟨#[109,117,108,116,105,112,97,114,116,47]⟩:ByteArray).toList) = decide (X.data.toList = multi):=by
   rw [ByteArray.toList_eq,ByteArray.toList_eq,Bool.eq_iff_iff,beq_iff_eq,decide_eq_true_eq];exact Iff.rfl
  have e2:(X.toList == [109,117,108,116,105,112,97,114,116,47]) = decide (X.data.toList = multi):=by
   rw [ByteArray.toList_eq,Bool.eq_iff_iff,beq_iff_eq,decide_eq_true_eq];exact Iff.rfl
  generalize decide (X.data.toList = multi) = T at *
  clear hXl hle
  go_enter Tryz.func45,Tryz.ntmps45
  go_wp2_with fail
  go_ret
  exact ⟨by rw [HN.out];first | rfl | (rw [e1];rfl) | (rw [e2];rfl) | (simp [e1,e2]),rfl⟩
 ·have h10':decide ((10:Int)≤(s.size:Int)) = false:=by simp;omega
  have HN:Hid (manyS s.data.toList = false):=by
   unfold Hid
   rw [take_ten]
   apply decide_eq_false
   intro h
   have:=congrArg List.length h
   rw [List.length_take,← hle] at this
   simp [multi] at this
   omega
  clear hle
  go_enter Tryz.func45,Tryz.ntmps45
  go_wp2_with fail
  go_ret
  exact ⟨by rw [HN.out];rfl,rfl⟩
theorem rword_any (s:ByteArray) (w:World) (hs:s.size≤maxLen) :
  Calls Tryz.prog 48 #[.string s] w fun e w'=>e = .returned (.bool (wordS s.data.toList))∧w' = w:=by
 unfold maxLen at hs
 have hle:=Lib.size_eq s
 by_cases h2:s.size≤120
 ·have h2':(s.size:Int)≤120:=by omega
  have HN:Hid (wordS s.data.toList = betw 33 126 [34,60,62] s.data.toList):=by unfold Hid wordS betw;rw [← hle];simp [h2];rfl
  have C:Hid (∀ w,Calls Tryz.prog 88 #[.string s,.int .u8 33,.int .u8 126,.string ⟨#[34,60,62]⟩] w fun e w'=>e = .returned (.bool (betw 33 126 [34,60,62] s.data.toList))∧w' = w):=fun w=>between_any s ⟨#[34,60,62]⟩ [34,60,62] rfl 33 126 33 126 rfl rfl w (by omega)
  generalize betw 33 126 [34,60,62] s.data.toList = V at *
  clear hle
  go_enter Tryz.func48,Tryz.ntmps48
  go_wp2_with fail
  refine (C.out _).mono ?_
  rintro e w' ⟨rfl,hw'⟩
  have hw'':=hw'.symm
  subst hw''
  go_wp2_with fail
  go_ret
  exact ⟨by rw [HN.out];rfl,rfl⟩
 ·have h2':decide ((s.size:Int)≤120) = false:=by simp;omega
  have HN:Hid (wordS s.data.toList = false):=by unfold Hid wordS;rw [← hle];simp;omega
  clear hle
  go_enter Tryz.func48,Tryz.ntmps48
  go_wp2_with fail
  go_ret
  exact ⟨by rw [HN.out];rfl,rfl⟩
theorem low_every:((List.range 256).all fun n=>decide (Lib.lowerB (UInt8.ofNat n) = UInt8.ofNat n) == !upR n) = true:=by decide +kernel
theorem low_sameT (c:UInt8):Lib.lowerB c = c ↔ upR c.toNat = false:=by
 have h:=List.all_eq_true.1 low_every c.toNat (by rw [List.mem_range];exact UInt8.toNat_lt c)
 rw [UInt8.ofNat_toNat,beq_iff_eq] at h
 constructor
 ·intro e
  rw [decide_eq_true e] at h
  simpa using h.symm
 ·intro e
  rw [e] at h
  simpa using h
theorem small_same:∀ l:List UInt8,decide (small8 l = l) = !(l.any fun c=>upR c.toNat)
 | []=>rfl
 | c::l=>by
  have ih:=small_same l
  have hc:=low_sameT c
  rw [List.any_cons,Bool.eq_iff_iff]
  rw [Bool.eq_iff_iff] at ih
  have e:small8 (c::l) = Lib.lowerB c::small8 l:=rfl
  rw [e]
  simp only [decide_eq_true_eq,List.cons.injEq,Bool.not_or,Bool.and_eq_true,Bool.not_eq_true'] at ih ⊢
  rw [ih,hc]
set_option maxHeartbeats 1000000 in
set_option maxRecDepth 100000 in
theorem rtype_any (s:ByteArray) (w:World) (hs:s.size≤maxLen) (hT:∀ w',Below w.heap.size w w'→Lib.Utf8Tabs 1 2 w') :
  Calls Tryz.prog 46 #[.string s] w fun e w'=>e = .returned (.bool (typeS s.data.toList))∧Below w.heap.size w w':=by
 unfold maxLen at hs
 have C0:=fun w=>Tryz.strings_Index_one s 47 w
 cases hc:cutB 47 s.data.toList with
 | none =>
  have HN:Hid (typeS s.data.toList = false):=by unfold Hid typeS;rw [hc]
  have C:Hid (∀ w,Calls Tryz.prog 86 #[.string s,.string ⟨#[47]⟩] w fun e w'=>e = .returned (.int .i64 (-1))∧w' = w):=fun w=>by
   have:=C0 w
   rwa [indexByte_where,whereB_none hc] at this
  clear hc C0 hT
  go_enter Tryz.func46,Tryz.ntmps46
  go_wp2_with fail
  refine (C.out _).mono ?_
  rintro e w' ⟨rfl,hw'⟩
  have hw'':=hw'.symm
  subst hw''
  go_wp2_with fail
  go_ret
  exact ⟨by rw [HN.out];rfl,Below.refl _ _⟩
 | some x =>
  obtain ⟨a,r,hx,hsz⟩:=cut_parts hc
  subst hx
  obtain ⟨A,R,h1,h2,h3,h4,h5⟩:=ba_cut 47 s _ _ (cutB_some 47 _ _ _ hc).1
  have hA:=ba_inj h3
  have hR:=ba_inj h4
  subst hA hR
  obtain ⟨I,hI⟩:∃ I,I = A.data.toList.length:=⟨_,rfl⟩
  rw [← hI] at h1 h2 h5
  have C:Hid (∀ w,Calls Tryz.prog 86 #[.string s,.string ⟨#[47]⟩] w fun e w'=>e = .returned (.int .i64 (I:Int))∧w' = w):=fun w=>by
   have:=C0 w
   rw [indexByte_where,whereB_some hc] at this
   rw [hI]
   exact this
  have hI1:(I:Int)≤(s.size:Int):=by omega
  have hI2:(I:Int) + 1≤(s.size:Int):=by omega
  have HT:Hid (typeS s.data.toList = (tokenS A.data.toList && tokenS R.data.toList && !s.data.toList.any (fun c=>decide (65≤c.toNat) && decide (c.toNat≤90)))):=by unfold Hid typeS;rw [hc]
  have CA:Hid (∀ w,Calls Tryz.prog 47 #[.string A] w fun e w'=>e = .returned (.bool (tokenS A.data.toList))∧w' = w):=fun w=>token_any A w (by unfold maxLen;omega)
  have CR:Hid (∀ w,Calls Tryz.prog 47 #[.string R] w fun e w'=>e = .returned (.bool (tokenS R.data.toList))∧w' = w):=fun w=>token_any R w (by unfold maxLen;omega)
  have HA:Hid (tokenS A.data.toList = true→tokenS R.data.toList = true→s.data.toList.length≤1000000∧∀ c ∈ s.data.toList,c.toNat < 128):=fun h1 h2=>by
   have l1:A.data.toList.length≤30:=by unfold tokenS at h1;simp at h1;simpa using h1.1.2
   have l2:R.data.toList.length≤30:=by unfold tokenS at h2;simp at h2;simpa using h2.1.2
   refine ⟨?_,fun c hm=>?_⟩
   ·rw [(cutB_some 47 _ _ _ hc).1];simp only [List.length_append,List.length_cons];omega
   ·rw [(cutB_some 47 _ _ _ hc).1] at hm
    rcases List.mem_append.1 hm with h | h
    ·exact tok_ascii _ h1 c h
    ·rcases List.mem_cons.1 h with h | h
     ·subst h;decide
     ·exact tok_ascii _ h2 c h
  clear hc hsz C0 h3 h4 h5 hI
  cases ha:tokenS A.data.toList
  ·have HN:Hid (typeS s.data.toList = false):=by unfold Hid;rw [HT.out,ha];rfl
   rw [ha] at CA
   clear HT HA CR ha hT
   go_enter Tryz.func46,Tryz.ntmps46
   go_wp2_with fail
   refine (C.out _).mono ?_
   rintro e w' ⟨rfl,hw'⟩
   have hw'':=hw'.symm
   subst hw''
   go_wp2_with fail
   refine (CA.out _).mono ?_
   rintro e w2 ⟨rfl,hw2⟩
   have hw2':=hw2.symm
   subst hw2'
   go_wp2_with fail
   go_ret
   exact ⟨by rw [HN.out];rfl,Below.refl _ _⟩
  ·cases hr:tokenS R.data.toList
   ·have HN:Hid (typeS s.data.toList = false):=by unfold Hid;rw [HT.out,ha,hr];rfl
    rw [ha] at CA
    rw [hr] at CR
    clear HT HA ha hr hT
    go_enter Tryz.func46,Tryz.ntmps46
    go_wp2_with fail
    refine (C.out _).mono ?_
    rintro e w' ⟨rfl,hw'⟩
    have hw'':=hw'.symm
    subst hw''
    go_wp2_with fail
    refine (CA.out _).mono ?_
    rintro e w2 ⟨rfl,hw2⟩
    have hw2':=hw2.symm
    subst hw2'
    go_wp2_with fail
    refine (CR.out _).mono ?_
    rintro e w3 ⟨rfl,hw3⟩
    have hw3':=hw3.symm
    subst hw3'
    go_wp2_with fail
    go_ret
    exact ⟨by rw [HN.out];rfl,Below.refl _ _⟩
   ·obtain ⟨hl,hasc⟩:=HA.out ha hr
    have HN:Hid (typeS s.data.toList = decide (small8 s.data.toList = s.data.toList)):=by unfold Hid;rw [HT.out,ha,hr,small_same];rfl
    have CS:Hid (Calls Tryz.prog 87 #[.string s] w fun e w'=>e = .returned (.string (ba (small8 s.data.toList)))∧Below w.heap.size w w'):=rsmall_any s.data.toList w hl hasc (hT w (Below.refl _ _))
    have e1:((ba (small8 s.data.toList)).toList == s.toList) = decide (small8 s.data.toList = s.data.toList):=by
     rw [ByteArray.toList_eq,ByteArray.toList_eq,Bool.eq_iff_iff];simp [ba]
    rw [ha] at CA
    rw [hr] at CR
    clear HT HA ha hr hT hl hasc
    generalize decide (small8 s.data.toList = s.data.toList) = T at *
    generalize ba (small8 s.data.toList) = SM at *
    go_enter Tryz.func46,Tryz.ntmps46
    go_wp2_with fail
    refine (C.out _).mono ?_
    rintro e w' ⟨rfl,hw'⟩
    have hw'':=hw'.symm
    subst hw''
    go_wp2_with fail
    refine (CA.out _).mono ?_
    rintro e w2 ⟨rfl,hw2⟩
    have hw2':=hw2.symm
    subst hw2'
    go_wp2_with fail
    refine (CR.out _).mono ?_
    rintro e w3 ⟨rfl,hw3⟩
    have hw3':=hw3.symm
    subst hw3'
    go_wp2_with fail
    refine CS.out.mono ?_
    rintro e w4 ⟨rfl,hb4⟩
    go_wp2_with fail
    go_ret
    exact ⟨by rw [HN.out];first | rfl | (rw [e1];rfl) | simp [e1],hb4⟩
end Go.Proofs.YtbbfcbodhmeanaaGreatDoor


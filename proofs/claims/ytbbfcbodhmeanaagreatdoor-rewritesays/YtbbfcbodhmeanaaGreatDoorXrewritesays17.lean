
import Derived.Test.YtbbfcbodhmeanaaGreatDoorXrewritesays12
namespace Go.Proofs.YtbbfcbodhmeanaaGreatDoor
open Go.RowKit
def allU (p:UInt8→Bool) (l:List UInt8):Bool:=l.all p
theorem all_drop (p:UInt8→Bool) (s:ByteArray) (k:Nat) (h:k < s.size):allU p (s.data.toList.drop k) = (p s[k] && allU p (s.data.toList.drop (k + 1))):=by
 unfold allU
 rw [dropB s k h,List.all_cons]
theorem all_end (p:UInt8→Bool) (s:ByteArray):allU p (s.data.toList.drop s.size) = true:=by
 rw [List.drop_of_length_le (by rw [← Lib.size_eq];exact Nat.le_refl _)];rfl
theorem usmall_any (c:UInt8) (w:World):Calls Tryz.prog 141 #[.int .u8 (c.toNat:Int)] w fun e w'=>e = .returned (.bool (isLowB c))∧w' = w:=by
 by_cases h1:97≤c.toNat
 ·have h1':(97:Int)≤(c.toNat:Int):=by omega
  by_cases h2:c.toNat≤122
  ·have h2':(c.toNat:Int)≤122:=by omega
   have HN:Hid (isLowB c = true):=by unfold Hid isLowB;simp only [h1,h2];simp
   go_enter Tryz.func141,Tryz.ntmps141
   go_wp2
   go_ret
   exact ⟨by rw [HN.out];rfl,rfl⟩
  ·have h2':decide ((c.toNat:Int)≤122) = false:=by simp;omega
   have HN:Hid (isLowB c = false):=by unfold Hid isLowB;simp only [h2];simp
   go_enter Tryz.func141,Tryz.ntmps141
   go_wp2
   go_ret
   exact ⟨by rw [HN.out];rfl,rfl⟩
 ·have h1':decide ((97:Int)≤(c.toNat:Int)) = false:=by simp;omega
  have HN:Hid (isLowB c = false):=by unfold Hid isLowB;simp only [h1];simp
  go_enter Tryz.func141,Tryz.ntmps141
  go_wp2
  go_ret
  exact ⟨by rw [HN.out];rfl,rfl⟩
theorem ularge_any (c:UInt8) (w:World):Calls Tryz.prog 140 #[.int .u8 (c.toNat:Int)] w fun e w'=>e = .returned (.bool (isUpB c))∧w' = w:=by
 by_cases h1:65≤c.toNat
 ·have h1':(65:Int)≤(c.toNat:Int):=by omega
  by_cases h2:c.toNat≤90
  ·have h2':(c.toNat:Int)≤90:=by omega
   have HN:Hid (isUpB c = true):=by unfold Hid isUpB;simp only [h1,h2];simp
   go_enter Tryz.func140,Tryz.ntmps140
   go_wp2
   go_ret
   exact ⟨by rw [HN.out];rfl,rfl⟩
  ·have h2':decide ((c.toNat:Int)≤90) = false:=by simp;omega
   have HN:Hid (isUpB c = false):=by unfold Hid isUpB;simp only [h2];simp
   go_enter Tryz.func140,Tryz.ntmps140
   go_wp2
   go_ret
   exact ⟨by rw [HN.out];rfl,rfl⟩
 ·have h1':decide ((65:Int)≤(c.toNat:Int)) = false:=by simp;omega
  have HN:Hid (isUpB c = false):=by unfold Hid isUpB;simp only [h1];simp
  go_enter Tryz.func140,Tryz.ntmps140
  go_wp2
  go_ret
  exact ⟨by rw [HN.out];rfl,rfl⟩
theorem unotup_any (c:UInt8) (w:World):Calls Tryz.prog 187 #[.int .u8 (c.toNat:Int)] w fun e w'=>e = .returned (.bool (!isUpB c))∧w' = w:=by
 have C:=ularge_any c w
 generalize isUpB c = V at *
 have HC:Hid (Calls Tryz.prog 140 #[.int .u8 (c.toNat:Int)] w fun e w'=>e = .returned (.bool V)∧w' = w):=C
 clear C
 go_enter Tryz.func187,Tryz.ntmps187
 go_wp2_with fail
 refine HC.out.mono ?_
 rintro e w' ⟨rfl,hw'⟩
 have hw'':=hw'.symm
 subst hw''
 clear HC
 go_wp2
 go_ret
 exact ⟨rfl,rfl⟩
def digB (c:UInt8):Bool:=decide (48≤c.toNat) && decide (c.toNat≤57)
theorem schB_num (c:UInt8):schB c = (isLowB c || digB c || decide ((c.toNat:Int) = 43) || decide ((c.toNat:Int) = 45) || decide ((c.toNat:Int) = 46)):=by
 have e1:∀ d:UInt8,decide (c = d) = decide ((c.toNat:Int) = (d.toNat:Int)):=fun d=>by
  rw [decide_eq_decide,← UInt8.toNat_inj];omega
 unfold schB digB
 rw [e1 43,e1 45,e1 46]
 rfl
set_option maxHeartbeats 1000000 in
theorem uschc_any (c:UInt8) (w:World):Calls Tryz.prog 143 #[.int .u8 (c.toNat:Int)] w fun e w'=>e = .returned (.bool (schB c))∧w' = w:=by
 have C:=usmall_any c w
 have HS:Hid (schB c = (isLowB c || digB c || decide ((c.toNat:Int) = 43) || decide ((c.toNat:Int) = 45) || decide ((c.toNat:Int) = 46))):=schB_num c
 have HD:Hid (digB c = (decide ((48:Int)≤(c.toNat:Int)) && decide ((c.toNat:Int)≤57))):=by
  unfold Hid digB
  rw [show decide ((48:Int)≤(c.toNat:Int)) = decide (48≤c.toNat) from decide_eq_decide.2 (by omega),show decide ((c.toNat:Int)≤57) = decide (c.toNat≤57) from decide_eq_decide.2 (by omega)]
 generalize isLowB c = V at *
 have HC:Hid (Calls Tryz.prog 141 #[.int .u8 (c.toNat:Int)] w fun e w'=>e = .returned (.bool V)∧w' = w):=C
 clear C
 cases V with
 | true =>
  go_enter Tryz.func143,Tryz.ntmps143
  go_wp2_with fail
  refine HC.out.mono ?_
  rintro e w' ⟨rfl,hw'⟩
  have hw'':=hw'.symm
  subst hw''
  clear HC
  go_wp2
  go_ret
  exact ⟨by rw [HS.out];rfl,rfl⟩
 | false =>
  go_enter Tryz.func143,Tryz.ntmps143
  go_wp2_with fail
  refine HC.out.mono ?_
  rintro e w' ⟨rfl,hw'⟩
  have hw'':=hw'.symm
  subst hw''
  clear HC
  go_wp2
  all_goals (
   go_ret
   refine ⟨ret_bool ?_,rfl⟩
   rw [HS.out,HD.out,Bool.eq_iff_iff]
   simp
   try omega)
theorem ucap_any (g:Nat) (S but:ByteArray) (bl:List UInt8) (hbut:but.data.toList = bl) (c:UInt8) (w:World) (_h0:w.cell? ⟨g,0,none⟩ = some (.string S)) (h1:w.cell? ⟨g,1,none⟩ = some (.string but)) :
  Calls Tryz.prog 186 #[.int .u8 (c.toNat:Int),.pointer (some ⟨g,0,none⟩)] w fun e w'=>e = .returned (.bool (inB 33 126 bl c))∧w' = w:=by
 by_cases h1:33≤c.toNat
 ·have h1':(33:Int)≤(c.toNat:Int):=by omega
  by_cases h2:c.toNat≤126
  ·have h2':(c.toNat:Int)≤126:=by omega
   have HN:Hid (inB 33 126 bl c = !bl.contains c):=by unfold Hid inB;simp only [h1,h2];simp
   have hi9:∀ i:Int,decide (0≤i) = bl.contains c→decide (i < 0) = !bl.contains c:=by
    intro i h;rw [← h];by_cases hi:0≤i <;> simp [hi] <;> omega
   go_enter Tryz.func186,Tryz.ntmps186
   go_wp2_with fail
   refine (ix_any _ bl hbut c _ rfl _).mono ?_
   rintro e w' ⟨i,rfl,hi,hw'⟩
   have hw'':=hw'.symm
   subst hw''
   have h3:=hi9 i hi
   clear hi hi9
   go_wp2
   go_ret
   exact ⟨by rw [HN.out];simp,rfl⟩
  ·have h2':decide ((c.toNat:Int)≤126) = false:=by simp;omega
   have HN:Hid (inB 33 126 bl c = false):=by unfold Hid inB;simp only [h2];simp
   go_enter Tryz.func186,Tryz.ntmps186
   go_wp2
   go_ret
   exact ⟨by rw [HN.out];rfl,rfl⟩
 ·have h1':decide ((33:Int)≤(c.toNat:Int)) = false:=by simp;omega
  have HN:Hid (inB 33 126 bl c = false):=by unfold Hid inB;simp only [h1];simp
  go_enter Tryz.func186,Tryz.ntmps186
  go_wp2
  go_ret
  exact ⟨by rw [HN.out];rfl,rfl⟩
def lowOnly (c:UInt8):Bool:=!isUpB c
set_option maxHeartbeats 1000000 in
theorem every_sch (s:ByteArray) (w:World) (hs:s.size≤1000000) :
  Calls Tryz.prog 142 #[.string s,.func (Fn.func 143) #[] #[]] w fun e w'=>e = .returned (.bool (allU schB s.data.toList))∧w' = w:=by
 go_enter Tryz.func142,Tryz.ntmps142
 go_wp2
 go_loop [8] (fun iv=>∃ k:Nat,k≤s.size∧iv = .int .i64 k∧Hid (allU schB (s.data.toList.drop k) = allU schB s.data.toList)) (fun iv=>s.size - (intOf iv).toNat)
 case atStart=>exact ⟨0,Nat.zero_le _,rfl,rfl⟩
 case round =>
  obtain ⟨k,hk,rfl,HK⟩:=hrel
  by_cases hlt:k < s.size
  ·have hdr:Hid (allU schB (s.data.toList.drop k) = (schB s[k] && allU schB (s.data.toList.drop (k + 1)))):=all_drop _ s k hlt
   cases hp:schB s[k]
   ·have HN:Hid (allU schB s.data.toList = false):=by unfold Hid;rw [← HK.out,hdr.out,hp];rfl
    have C:Hid (Calls Tryz.prog 143 #[.int .u8 (s[k].toNat:Int)] w fun e w'=>e = .returned (.bool false)∧w' = w):=by unfold Hid;rw [← hp];exact uschc_any _ w
    clear hdr HK hp
    go_wp2_with fail
    refine C.out.mono ?_
    rintro e w' ⟨rfl,hw'⟩
    have hw'':=hw'.symm
    subst hw''
    go_wp2
    go_ret
    exact ⟨by rw [HN.out];rfl,rfl⟩
   ·have HN:Hid (allU schB (s.data.toList.drop (k + 1)) = allU schB s.data.toList):=by unfold Hid;rw [← HK.out,hdr.out,hp];rfl
    have C:Hid (Calls Tryz.prog 143 #[.int .u8 (s[k].toNat:Int)] w fun e w'=>e = .returned (.bool true)∧w' = w):=by unfold Hid;rw [← hp];exact uschc_any _ w
    clear hdr HK hp
    go_wp2_with fail
    refine C.out.mono ?_
    rintro e w' ⟨rfl,hw'⟩
    have hw'':=hw'.symm
    subst hw''
    go_wp2
    go_round
    case rel=>exact ⟨k + 1,by omega,by go_num,HN⟩
    case measure=>simp [intOf];omega
  ·obtain rfl:k = s.size:=by omega
   have HN:Hid (allU schB s.data.toList = true):=by unfold Hid;rw [← HK.out];exact all_end _ s
   clear HK
   go_wp2
   go_ret
   exact ⟨by rw [HN.out];rfl,rfl⟩
set_option maxHeartbeats 1000000 in
theorem every_low (s:ByteArray) (w:World) (hs:s.size≤1000000) :
  Calls Tryz.prog 142 #[.string s,.func (Fn.func 187) #[] #[]] w fun e w'=>e = .returned (.bool (allU lowOnly s.data.toList))∧w' = w:=by
 go_enter Tryz.func142,Tryz.ntmps142
 go_wp2
 go_loop [8] (fun iv=>∃ k:Nat,k≤s.size∧iv = .int .i64 k∧Hid (allU lowOnly (s.data.toList.drop k) = allU lowOnly s.data.toList)) (fun iv=>s.size - (intOf iv).toNat)
 case atStart=>exact ⟨0,Nat.zero_le _,rfl,rfl⟩
 case round =>
  obtain ⟨k,hk,rfl,HK⟩:=hrel
  by_cases hlt:k < s.size
  ·have hdr:Hid (allU lowOnly (s.data.toList.drop k) = (lowOnly s[k] && allU lowOnly (s.data.toList.drop (k + 1)))):=all_drop _ s k hlt
   cases hp:lowOnly s[k]
   ·have HN:Hid (allU lowOnly s.data.toList = false):=by unfold Hid;rw [← HK.out,hdr.out,hp];rfl
    have C:Hid (Calls Tryz.prog 187 #[.int .u8 (s[k].toNat:Int)] w fun e w'=>e = .returned (.bool false)∧w' = w):=by unfold Hid;rw [← hp];exact unotup_any _ w
    clear hdr HK hp
    go_wp2_with fail
    refine C.out.mono ?_
    rintro e w' ⟨rfl,hw'⟩
    have hw'':=hw'.symm
    subst hw''
    go_wp2
    go_ret
    exact ⟨by rw [HN.out];rfl,rfl⟩
   ·have HN:Hid (allU lowOnly (s.data.toList.drop (k + 1)) = allU lowOnly s.data.toList):=by unfold Hid;rw [← HK.out,hdr.out,hp];rfl
    have C:Hid (Calls Tryz.prog 187 #[.int .u8 (s[k].toNat:Int)] w fun e w'=>e = .returned (.bool true)∧w' = w):=by unfold Hid;rw [← hp];exact unotup_any _ w
    clear hdr HK hp
    go_wp2_with fail
    refine C.out.mono ?_
    rintro e w' ⟨rfl,hw'⟩
    have hw'':=hw'.symm
    subst hw''
    go_wp2
    go_round
    case rel=>exact ⟨k + 1,by omega,by go_num,HN⟩
    case measure=>simp [intOf];omega
  ·obtain rfl:k = s.size:=by omega
   have HN:Hid (allU lowOnly s.data.toList = true):=by unfold Hid;rw [← HK.out];exact all_end _ s
   clear HK
   go_wp2
   go_ret
   exact ⟨by rw [HN.out];rfl,rfl⟩
set_option maxHeartbeats 1000000 in
theorem every_cap (g:Nat) (S but:ByteArray) (bl:List UInt8) (hbut:but.data.toList = bl) (s:ByteArray) (w:World) (hs:s.size≤1000000) (h0:w.cell? ⟨g,0,none⟩ = some (.string S)) (h1:w.cell? ⟨g,1,none⟩ = some (.string but)) :
  Calls Tryz.prog 142 #[.string s,.func (Fn.func 186) #[] #[.pointer (some ⟨g,0,none⟩)]] w fun e w'=>e = .returned (.bool (allU (inB 33 126 bl) s.data.toList))∧w' = w:=by
 go_enter Tryz.func142,Tryz.ntmps142
 go_wp2
 go_loop [8] (fun iv=>∃ k:Nat,k≤s.size∧iv = .int .i64 k∧Hid (allU (inB 33 126 bl) (s.data.toList.drop k) = allU (inB 33 126 bl) s.data.toList)) (fun iv=>s.size - (intOf iv).toNat)
 case atStart=>exact ⟨0,Nat.zero_le _,rfl,rfl⟩
 case round =>
  obtain ⟨k,hk,rfl,HK⟩:=hrel
  by_cases hlt:k < s.size
  ·have hdr:Hid (allU (inB 33 126 bl) (s.data.toList.drop k) = ((inB 33 126 bl) s[k] && allU (inB 33 126 bl) (s.data.toList.drop (k + 1)))):=all_drop _ s k hlt
   cases hp:(inB 33 126 bl) s[k]
   ·have HN:Hid (allU (inB 33 126 bl) s.data.toList = false):=by unfold Hid;rw [← HK.out,hdr.out,hp];rfl
    have C:Hid (Calls Tryz.prog 186 #[.int .u8 (s[k].toNat:Int),.pointer (some ⟨g,0,none⟩)] w fun e w'=>e = .returned (.bool false)∧w' = w):=by unfold Hid;rw [← hp];exact ucap_any g S but bl hbut _ w h0 h1
    clear hdr HK hp
    go_wp2_with fail
    refine C.out.mono ?_
    rintro e w' ⟨rfl,hw'⟩
    have hw'':=hw'.symm
    subst hw''
    go_wp2
    go_ret
    exact ⟨by rw [HN.out];rfl,rfl⟩
   ·have HN:Hid (allU (inB 33 126 bl) (s.data.toList.drop (k + 1)) = allU (inB 33 126 bl) s.data.toList):=by unfold Hid;rw [← HK.out,hdr.out,hp];rfl
    have C:Hid (Calls Tryz.prog 186 #[.int .u8 (s[k].toNat:Int),.pointer (some ⟨g,0,none⟩)] w fun e w'=>e = .returned (.bool true)∧w' = w):=by unfold Hid;rw [← hp];exact ucap_any g S but bl hbut _ w h0 h1
    clear hdr HK hp
    go_wp2_with fail
    refine C.out.mono ?_
    rintro e w' ⟨rfl,hw'⟩
    have hw'':=hw'.symm
    subst hw''
    go_wp2
    go_round
    case rel=>exact ⟨k + 1,by omega,by go_num,HN⟩
    case measure=>simp [intOf];omega
  ·obtain rfl:k = s.size:=by omega
   have HN:Hid (allU (inB 33 126 bl) s.data.toList = true):=by unfold Hid;rw [← HK.out];exact all_end _ s
   clear HK
   go_wp2
   go_ret
   exact ⟨by rw [HN.out];rfl,rfl⟩
set_option maxHeartbeats 1000000 in
theorem uscheme_any (s:ByteArray) (w:World) (hs:s.size≤1000000) :
  Calls Tryz.prog 92 #[.string s] w fun e w'=>e = .returned (.bool (schemeS s.data.toList))∧w' = w:=by
 have hle:=Lib.size_eq s
 by_cases h1:1≤s.size
 ·have h1e:s.toList.isEmpty = false:=by
   rw [ByteArray.toList_eq]
   cases h:s.data.toList with
   | nil=>rw [h,List.length_nil] at hle;omega
   | cons a b=>rfl
  have h1':0 < s.size:=by omega
  have h1i:(0:Int) < (s.size:Int):=by omega
  have HS:Hid (schemeS s.data.toList = (isLowB s[0] && allU schB s.data.toList)):=by
   unfold Hid schemeS
   have e:=dropB s 0 h1'
   rw [List.drop_zero] at e
   cases hl:s.data.toList with
   | nil=>rw [hl] at e;cases e
   | cons a l=>rw [hl] at e;cases e;rfl
  have C1:=usmall_any s[0] w
  cases hb:isLowB s[0]
  ·have HN:Hid (schemeS s.data.toList = false):=by unfold Hid;rw [HS.out,hb];rfl
   rw [hb] at C1
   have HC:Hid (Calls Tryz.prog 141 #[.int .u8 (s[0].toNat:Int)] w fun e w'=>e = .returned (.bool false)∧w' = w):=C1
   clear C1 HS hb hle
   go_enter Tryz.func92,Tryz.ntmps92
   go_wp2_with fail
   refine HC.out.mono ?_
   rintro e w' ⟨rfl,hw'⟩
   have hw'':=hw'.symm
   subst hw''
   clear HC
   go_wp2
   go_ret
   exact ⟨by rw [HN.out];rfl,rfl⟩
  ·have HN:Hid (schemeS s.data.toList = allU schB s.data.toList):=by unfold Hid;rw [HS.out,hb];rfl
   rw [hb] at C1
   have HC:Hid (Calls Tryz.prog 141 #[.int .u8 (s[0].toNat:Int)] w fun e w'=>e = .returned (.bool true)∧w' = w):=C1
   clear C1 HS hb hle
   go_enter Tryz.func92,Tryz.ntmps92
   go_wp2_with fail
   refine HC.out.mono ?_
   rintro e w' ⟨rfl,hw'⟩
   have hw'':=hw'.symm
   subst hw''
   clear HC
   go_wp2_with fail
   refine (every_sch s _ (by omega)).mono ?_
   rintro e w' ⟨rfl,hw'⟩
   have hw'':=hw'.symm
   subst hw''
   go_wp2
   go_ret
   exact ⟨by rw [HN.out];rfl,rfl⟩
 ·obtain rfl:s = ⟨#[]⟩:=by
   apply ByteArray.ext;apply Array.toList_inj.1;exact List.length_eq_zero_iff.1 (by rw [← hle];omega)
  clear hle h1 hs
  go_enter Tryz.func92,Tryz.ntmps92
  go_wp2
  go_ret
  exact ⟨rfl,rfl⟩
end Go.Proofs.YtbbfcbodhmeanaaGreatDoor


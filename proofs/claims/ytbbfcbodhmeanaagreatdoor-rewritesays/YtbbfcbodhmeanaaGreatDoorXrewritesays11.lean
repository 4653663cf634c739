
import Derived.Test.YtbbfcbodhmeanaaGreatDoorXrewritesays10
namespace Go.Proofs.YtbbfcbodhmeanaaGreatDoor
open Go.RowKit
set_option maxHeartbeats 4000000 in
theorem begins_any (s:List UInt8) (M:ByteArray) (b:Bool) (hb:tagB M.data.toList s = b) (w:World) :
  Calls Tryz.prog 131 #[.string (lba s),.string M] w fun e w'=>e = .returned (.bool b)∧w' = w:=by
 have HC:Hid (∀ W,Calls Tryz.prog 81 #[.string (lba s),.string M] W fun e w'=>e = .returned (.tuple #[.string (lba (Lib.trimPrefix s M.data.toList)),.bool (M.data.toList.isPrefixOf s)])∧w' = W):=fun W=>Tryz.strings_CutPrefix (lba s) M W
 subst hb
 by_cases hp:M.data.toList.isPrefixOf s = true
 ·have ht:Lib.trimPrefix s M.data.toList = s.drop M.data.toList.length:=by
   unfold Lib.trimPrefix Lib.hasPrefix
   rw [if_pos hp]
  have HV:Hid (tagB M.data.toList s = headL (s.drop M.data.toList.length)):=by unfold Hid tagB;rw [hp];rfl
  rw [ht,hp] at HC
  clear ht hp
  generalize s.drop M.data.toList.length = R at *
  cases R with
  | nil =>
   have he:lba [] = ⟨#[]⟩:=rfl
   rw [he] at HC
   go_enter Tryz.func131,Tryz.ntmps131
   go_wp2_with fail
   refine (HC.out _).mono ?_
   rintro e w1 ⟨rfl,hw1⟩
   subst hw1
   go_wp2_with fail
   go_ret
   exact ⟨ret_bool (by rw [HV.out];rfl),rfl⟩
  | cons c R =>
   have HL:Hid (∀ W,Calls Tryz.prog 169 #[.int .u8 (c.toNat:Int)] W fun e w'=>e = .returned (.bool (letB c))∧w' = W):=fun W=>letter_any c _ rfl W
   have hz:(lba (c::R)).size = R.length + 1:=by rw [lba_size];rfl
   obtain ⟨T,hT⟩:∃ T,T = lba (c::R):=⟨_,rfl⟩
   rw [← hT] at HC hz
   have hx:∀ h:0 < T.size,T[0]'h = c:=by subst hT;intro h;rfl
   have hpos:0 < T.size:=by omega
   have hx0:=hx hpos
   have hpi:(0:Int) < (T.size:Int):=by omega
   have hne3:T.toList.isEmpty = false:=by subst hT;rw [ByteArray.toList_eq];rfl
   clear hT hx
   go_enter Tryz.func131,Tryz.ntmps131
   go_wp2_with fail
   refine (HC.out _).mono ?_
   rintro e w1 ⟨rfl,hw1⟩
   subst hw1
   go_wp2_with fail
   refine (HL.out _).mono ?_
   rintro e w1 ⟨rfl,hw1⟩
   subst hw1
   go_wp2_with fail
   go_ret
   exact ⟨ret_bool (by rw [HV.out];rfl),rfl⟩
 ·have hp':M.data.toList.isPrefixOf s = false:=Bool.eq_false_iff.2 hp
  have HV:Hid (tagB M.data.toList s = false):=by unfold Hid tagB;rw [hp'];rfl
  rw [hp'] at HC
  go_enter Tryz.func131,Tryz.ntmps131
  go_wp2_with fail
  refine (HC.out _).mono ?_
  rintro e w1 ⟨rfl,hw1⟩
  subst hw1
  go_wp2_with fail
  go_ret
  exact ⟨ret_bool (by rw [HV.out]),rfl⟩
theorem pre_any (s:List UInt8) (M:ByteArray) (b:Bool) (hb:M.data.toList.isPrefixOf s = b) (w:World) :
  Calls Tryz.prog 59 #[.string (lba s),.string M] w fun e w'=>e = .returned (.bool b)∧w' = w:=by
 subst hb
 exact Tryz.strings_HasPrefix (lba s) M w
theorem pre_drop {p:ByteArray} {s:List UInt8} (hS:Suf p s) (n:Nat) (h:n≤s.length):pos p (s.drop n) = pos p s + n:=by
 have h1:=pos_plus hS (List.take_append_drop n s)
 rw [h1,List.length_take,Nat.min_eq_left h]
theorem pre_len {m s:List UInt8} (h:m.isPrefixOf s = true):m.length≤s.length:=(List.isPrefixOf_iff_prefix.1 h).length_le
theorem tagB_len {m s:List UInt8} (h:tagB m s = true):m.length≤s.length:=by
 unfold tagB at h
 rw [Bool.and_eq_true] at h
 exact pre_len h.1
theorem tagPost_no {w w':World} {g:Nat} {p:ByteArray} {r:List UInt8} (h:Moves w g (pos p r) w'):TagPost w g p (some [],r) (.returned (.slice none 0 0)) w':=⟨_,rfl,World.ownsRow_nil _ _ _ _,h⟩
set_option maxHeartbeats 4000000 in
set_option maxRecDepth 100000 in
theorem piece_com_any (w0:World) (HE:LEnv w0) (g:Nat) (hg:w0.heap.size≤g) (p:ByteArray) (s:List UInt8) (hS:Suf p s) (w:World) (hr:RdAt w g p (pos p s)) (hb:Below w0.heap.size w0 w) (hp:p.size≤4000) (c1:comL.isPrefixOf s = true) :
  Calls Tryz.prog 76 #[.pointer (some ⟨g,0,none⟩)] w fun e w'=>TagPost w g p (some [],behindL comE (s.drop 4)) e w':=by
 have HR:Hid (RdAt w g p (pos p s)):=hr
 have HB:Hid (Below w0.heap.size w0 w):=hb
 have h0:=hr.page
 have h1:=hr.at_
 have hf:=hr.frozen 1
 have hx:=ext_end hS
 have hkl:=pos_le p s
 have hki:((pos p s:Nat):Int)≤(p.size:Int):=by omega
 have hk4:pos p (s.drop 4) = pos p s + 4:=pre_drop hS 4 (pre_len c1)
 have hwr:IntKind.i64.wrap (((pos p s:Nat):Int) + 4) = (((pos p s + 4:Nat)):Int):=by rw [IntKind.wrap_i64];omega
 have C1:Hid (∀ W,Calls Tryz.prog 59 #[.string (lba s),.string ⟨#[60,33,45,45]⟩] W fun e w'=>e = .returned (.bool true)∧w' = W):=fun W=>pre_any s ⟨#[60,33,45,45]⟩ true c1 W
 have CE:Hid (∀ W,RdAt W g p (pos p (s.drop 4))→Below w0.heap.size w0 W→Calls Tryz.prog 130 #[.pointer (some ⟨g,0,none⟩),.string ⟨#[45,45,62]⟩] W fun e w'=>e = .returned (.tuple #[])∧Moves W g (pos p (behindL comE (s.drop 4))) w'):=fun W h1 h2=>passEnd_any w0 HE ⟨#[45,45,62]⟩ (by decide) g p _ (hS.dr 4) W h1 h2 hp
 rw [hk4] at CE
 generalize pos p s = k at *
 clear hr hb HE hk4 c1 hS
 go_enter Tryz.func76,Tryz.ntmps76
 go_wp2_with fail
 go_region
 go_wp2_with fail
 refine (C1.out _).mono ?_
 rintro e wx ⟨rfl,hwx⟩
 have hwy:=hwx.symm
 subst hwy
 clear C1 hwx
 go_wp2_with fail
 obtain ⟨W2,hW2⟩:∃ W,W = (w.setCell ⟨g,1,none⟩ (.int .i64 ((k:Int) + 4))).drew:=⟨_,rfl⟩
 have M2:Moves w g ((k + 4:Nat):Int) W2:=by rw [hW2];exact Moves.of_set.drewN 1
 have hr2:=M2.rd HR.out
 have hB2:=M2.base HB.out hg
 rw [← hW2]
 refine (CE.out _ hr2 hB2).mono ?_
 rintro e w3 ⟨rfl,hm3⟩
 have M3:Hid (Moves w g _ w3):=M2.trans hm3 HR.out
 clear hW2 M2 hr2 hB2 CE hm3
 go_wp2_with fail
 go_ret
 exact tagPost_no M3.out
set_option maxHeartbeats 4000000 in
set_option maxRecDepth 100000 in
theorem piece_ex_any (w0:World) (HE:LEnv w0) (g:Nat) (_hg:w0.heap.size≤g) (p:ByteArray) (s:List UInt8) (hS:Suf p s) (w:World) (hr:RdAt w g p (pos p s)) (hb:Below w0.heap.size w0 w) (hp:p.size≤4000) (c1:comL.isPrefixOf s = false) (c2:([60,33]:List UInt8).isPrefixOf s = true) :
  Calls Tryz.prog 76 #[.pointer (some ⟨g,0,none⟩)] w fun e w'=>TagPost w g p (some [],behindL [62] s) e w':=by
 have HR:Hid (RdAt w g p (pos p s)):=hr
 have HB:Hid (Below w0.heap.size w0 w):=hb
 have h0:=hr.page
 have h1:=hr.at_
 have hf:=hr.frozen 1
 have hx:=ext_end hS
 have hkl:=pos_le p s
 have hki:((pos p s:Nat):Int)≤(p.size:Int):=by omega
 have C1:Hid (∀ W,Calls Tryz.prog 59 #[.string (lba s),.string ⟨#[60,33,45,45]⟩] W fun e w'=>e = .returned (.bool false)∧w' = W):=fun W=>pre_any s ⟨#[60,33,45,45]⟩ false c1 W
 have C2:Hid (∀ W,Calls Tryz.prog 59 #[.string (lba s),.string ⟨#[60,33]⟩] W fun e w'=>e = .returned (.bool true)∧w' = W):=fun W=>pre_any s ⟨#[60,33]⟩ true c2 W
 have CE:Hid (∀ W,RdAt W g p (pos p s)→Below w0.heap.size w0 W→Calls Tryz.prog 130 #[.pointer (some ⟨g,0,none⟩),.string ⟨#[62]⟩] W fun e w'=>e = .returned (.tuple #[])∧Moves W g (pos p (behindL [62] s)) w'):=fun W h1 h2=>passEnd_any w0 HE ⟨#[62]⟩ (by decide) g p _ hS W h1 h2 hp
 generalize pos p s = k at *
 clear hr hb HE c1 c2 hS
 go_enter Tryz.func76,Tryz.ntmps76
 go_wp2_with fail
 go_region
 go_wp2_with fail
 refine (C1.out _).mono ?_
 rintro e wx ⟨rfl,hwx⟩
 have hwy:=hwx.symm
 subst hwy
 clear C1 hwx
 go_wp2_with fail
 refine (C2.out _).mono ?_
 rintro e wx ⟨rfl,hwx⟩
 have hwy:=hwx.symm
 subst hwy
 clear C2 hwx
 go_wp2_with fail
 refine (CE.out _ HR.out.drew (HB.out.drew)).mono ?_
 rintro e w3 ⟨rfl,hm3⟩
 have M3:Hid (Moves w g _ w3):=((Moves.still HR.out).drewN 1).trans hm3 HR.out
 clear CE hm3
 go_wp2_with fail
 go_ret
 exact tagPost_no M3.out
set_option maxHeartbeats 4000000 in
set_option maxRecDepth 100000 in
theorem piece_q_any (w0:World) (HE:LEnv w0) (g:Nat) (_hg:w0.heap.size≤g) (p:ByteArray) (s:List UInt8) (hS:Suf p s) (w:World) (hr:RdAt w g p (pos p s)) (hb:Below w0.heap.size w0 w) (hp:p.size≤4000) (c1:comL.isPrefixOf s = false) (c2:([60,33]:List UInt8).isPrefixOf s = false) (c3:([60,63]:List UInt8).isPrefixOf s = true) :
  Calls Tryz.prog 76 #[.pointer (some ⟨g,0,none⟩)] w fun e w'=>TagPost w g p (some [],behindL [62] s) e w':=by
 have HR:Hid (RdAt w g p (pos p s)):=hr
 have HB:Hid (Below w0.heap.size w0 w):=hb
 have h0:=hr.page
 have h1:=hr.at_
 have hf:=hr.frozen 1
 have hx:=ext_end hS
 have hkl:=pos_le p s
 have hki:((pos p s:Nat):Int)≤(p.size:Int):=by omega
 have C1:Hid (∀ W,Calls Tryz.prog 59 #[.string (lba s),.string ⟨#[60,33,45,45]⟩] W fun e w'=>e = .returned (.bool false)∧w' = W):=fun W=>pre_any s ⟨#[60,33,45,45]⟩ false c1 W
 have C2:Hid (∀ W,Calls Tryz.prog 59 #[.string (lba s),.string ⟨#[60,33]⟩] W fun e w'=>e = .returned (.bool false)∧w' = W):=fun W=>pre_any s ⟨#[60,33]⟩ false c2 W
 have C3:Hid (∀ W,Calls Tryz.prog 59 #[.string (lba s),.string ⟨#[60,63]⟩] W fun e w'=>e = .returned (.bool true)∧w' = W):=fun W=>pre_any s ⟨#[60,63]⟩ true c3 W
 have CE:Hid (∀ W,RdAt W g p (pos p s)→Below w0.heap.size w0 W→Calls Tryz.prog 130 #[.pointer (some ⟨g,0,none⟩),.string ⟨#[62]⟩] W fun e w'=>e = .returned (.tuple #[])∧Moves W g (pos p (behindL [62] s)) w'):=fun W h1 h2=>passEnd_any w0 HE ⟨#[62]⟩ (by decide) g p _ hS W h1 h2 hp
 generalize pos p s = k at *
 clear hr hb HE c1 c2 hS c3
 go_enter Tryz.func76,Tryz.ntmps76
 go_wp2_with fail
 go_region
 go_wp2_with fail
 refine (C1.out _).mono ?_
 rintro e wx ⟨rfl,hwx⟩
 have hwy:=hwx.symm
 subst hwy
 clear C1 hwx
 go_wp2_with fail
 refine (C2.out _).mono ?_
 rintro e wx ⟨rfl,hwx⟩
 have hwy:=hwx.symm
 subst hwy
 clear C2 hwx
 go_wp2_with fail
 refine (C3.out _).mono ?_
 rintro e wx ⟨rfl,hwx⟩
 have hwy:=hwx.symm
 subst hwy
 clear C3 hwx
 go_wp2_with fail
 refine (CE.out _ HR.out.drew (HB.out.drew)).mono ?_
 rintro e w3 ⟨rfl,hm3⟩
 have M3:Hid (Moves w g _ w3):=((Moves.still HR.out).drewN 1).trans hm3 HR.out
 clear CE hm3
 go_wp2_with fail
 go_ret
 exact tagPost_no M3.out
set_option maxHeartbeats 4000000 in
set_option maxRecDepth 100000 in
theorem piece_tag_any (w0:World) (HE:LEnv w0) (g:Nat) (hg:w0.heap.size≤g) (p:ByteArray) (s:List UInt8) (hS:Suf p s) (w:World) (hr:RdAt w g p (pos p s)) (hb:Below w0.heap.size w0 w) (hp:p.size≤4000) (c1:comL.isPrefixOf s = false) (c2:([60,33]:List UInt8).isPrefixOf s = false) (c3:([60,63]:List UInt8).isPrefixOf s = false) (c4:tagB [60] s = true) :
  Calls Tryz.prog 76 #[.pointer (some ⟨g,0,none⟩)] w fun e w'=>TagPost w g p (some ((tagP lowT (s.drop 1)).1.getD []),(tagP lowT (s.drop 1)).2) e w':=by
 have HR:Hid (RdAt w g p (pos p s)):=hr
 have HB:Hid (Below w0.heap.size w0 w):=hb
 have h0:=hr.page
 have h1:=hr.at_
 have hf:=hr.frozen 1
 have hx:=ext_end hS
 have hkl:=pos_le p s
 have hki:((pos p s:Nat):Int)≤(p.size:Int):=by omega
 have hkn:pos p (s.drop 1) = pos p s + 1:=pre_drop hS 1 (tagB_len c4)
 have hwr:IntKind.i64.wrap (((pos p s:Nat):Int) + 1) = (((pos p s + 1:Nat)):Int):=by rw [IntKind.wrap_i64];omega
 have C1:Hid (∀ W,Calls Tryz.prog 59 #[.string (lba s),.string ⟨#[60,33,45,45]⟩] W fun e w'=>e = .returned (.bool false)∧w' = W):=fun W=>pre_any s ⟨#[60,33,45,45]⟩ false c1 W
 have C2:Hid (∀ W,Calls Tryz.prog 59 #[.string (lba s),.string ⟨#[60,33]⟩] W fun e w'=>e = .returned (.bool false)∧w' = W):=fun W=>pre_any s ⟨#[60,33]⟩ false c2 W
 have C3:Hid (∀ W,Calls Tryz.prog 59 #[.string (lba s),.string ⟨#[60,63]⟩] W fun e w'=>e = .returned (.bool false)∧w' = W):=fun W=>pre_any s ⟨#[60,63]⟩ false c3 W
 have C4:Hid (∀ W,Calls Tryz.prog 131 #[.string (lba s),.string ⟨#[60]⟩] W fun e w'=>e = .returned (.bool true)∧w' = W):=fun W=>begins_any s ⟨#[60]⟩ true c4 W
 have CT:Hid (∀ W,RdAt W g p (pos p (s.drop 1))→Below w0.heap.size w0 W→Calls Tryz.prog 132 #[.pointer (some ⟨g,0,none⟩)] W fun e w'=>TagPost W g p (tagP lowT (s.drop 1)) e w'):=fun W h1 h2=>tag_any w0 HE g hg p _ (hS.dr 1) W h1 h2 hp
 rw [hkn] at CT
 generalize tagP lowT (s.drop 1) = TR at *
 generalize pos p s = k at *
 clear hr hb HE hkn c1 c2 c3 c4 hS
 go_enter Tryz.func76,Tryz.ntmps76
 go_wp2_with fail
 go_region
 go_wp2_with fail
 refine (C1.out _).mono ?_
 rintro e wx ⟨rfl,hwx⟩
 have hwy:=hwx.symm
 subst hwy
 clear C1 hwx
 go_wp2_with fail
 refine (C2.out _).mono ?_
 rintro e wx ⟨rfl,hwx⟩
 have hwy:=hwx.symm
 subst hwy
 clear C2 hwx
 go_wp2_with fail
 refine (C3.out _).mono ?_
 rintro e wx ⟨rfl,hwx⟩
 have hwy:=hwx.symm
 subst hwy
 clear C3 hwx
 go_wp2_with fail
 refine (C4.out _).mono ?_
 rintro e wx ⟨rfl,hwx⟩
 have hwy:=hwx.symm
 subst hwy
 clear C4 hwx
 go_wp2_with fail
 obtain ⟨W2,hW2⟩:∃ W,W = (w.setCell ⟨g,1,none⟩ (.int .i64 ((k:Int) + 1))).drew:=⟨_,rfl⟩
 have M2:Moves w g ((k + 1:Nat):Int) W2:=by rw [hW2];exact Moves.of_set.drewN 1
 have hr2:=M2.rd HR.out
 have hB2:=M2.base HB.out hg
 rw [← hW2]
 refine (CT.out _ hr2 hB2).mono ?_
 rintro e w3 ⟨v3,rfl,hown3,hm3⟩
 have M3:Hid (Moves w g _ w3):=M2.trans hm3 HR.out
 have HO3:Hid (w3.ownsRow w.heap.size 40 3 v3 _ _):=ownsRow_base hown3 M2.size
 clear hW2 M2 hr2 hB2 CT hm3 hown3
 go_wp2_with fail
 go_ret
 exact ⟨v3,rfl,HO3.out,M3.out⟩
set_option maxHeartbeats 4000000 in
set_option maxRecDepth 100000 in
theorem piece_shut_any (w0:World) (HE:LEnv w0) (g:Nat) (hg:w0.heap.size≤g) (p:ByteArray) (s:List UInt8) (hS:Suf p s) (w:World) (hr:RdAt w g p (pos p s)) (hb:Below w0.heap.size w0 w) (hp:p.size≤4000) (c1:comL.isPrefixOf s = false) (c2:([60,33]:List UInt8).isPrefixOf s = false) (c3:([60,63]:List UInt8).isPrefixOf s = false) (c4:tagB [60] s = false) (c5:tagB [60,47] s = true) :
  Calls Tryz.prog 76 #[.pointer (some ⟨g,0,none⟩)] w fun e w'=>TagPost w g p (some [],(tagP lowT (s.drop 2)).2) e w':=by
 have HR:Hid (RdAt w g p (pos p s)):=hr
 have HB:Hid (Below w0.heap.size w0 w):=hb
 have h0:=hr.page
 have h1:=hr.at_
 have hf:=hr.frozen 1
 have hx:=ext_end hS
 have hkl:=pos_le p s
 have hki:((pos p s:Nat):Int)≤(p.size:Int):=by omega
 have hkn:pos p (s.drop 2) = pos p s + 2:=pre_drop hS 2 (tagB_len c5)
 have hwr:IntKind.i64.wrap (((pos p s:Nat):Int) + 2) = (((pos p s + 2:Nat)):Int):=by rw [IntKind.wrap_i64];omega
 have C1:Hid (∀ W,Calls Tryz.prog 59 #[.string (lba s),.string ⟨#[60,33,45,45]⟩] W fun e w'=>e = .returned (.bool false)∧w' = W):=fun W=>pre_any s ⟨#[60,33,45,45]⟩ false c1 W
 have C2:Hid (∀ W,Calls Tryz.prog 59 #[.string (lba s),.string ⟨#[60,33]⟩] W fun e w'=>e = .returned (.bool false)∧w' = W):=fun W=>pre_any s ⟨#[60,33]⟩ false c2 W
 have C3:Hid (∀ W,Calls Tryz.prog 59 #[.string (lba s),.string ⟨#[60,63]⟩] W fun e w'=>e = .returned (.bool false)∧w' = W):=fun W=>pre_any s ⟨#[60,63]⟩ false c3 W
 have C4:Hid (∀ W,Calls Tryz.prog 131 #[.string (lba s),.string ⟨#[60]⟩] W fun e w'=>e = .returned (.bool false)∧w' = W):=fun W=>begins_any s ⟨#[60]⟩ false c4 W
 have C5:Hid (∀ W,Calls Tryz.prog 131 #[.string (lba s),.string ⟨#[60,47]⟩] W fun e w'=>e = .returned (.bool true)∧w' = W):=fun W=>begins_any s ⟨#[60,47]⟩ true c5 W
 have CT:Hid (∀ W,RdAt W g p (pos p (s.drop 2))→Below w0.heap.size w0 W→Calls Tryz.prog 132 #[.pointer (some ⟨g,0,none⟩)] W fun e w'=>TagPost W g p (tagP lowT (s.drop 2)) e w'):=fun W h1 h2=>tag_any w0 HE g hg p _ (hS.dr 2) W h1 h2 hp
 rw [hkn] at CT
 generalize tagP lowT (s.drop 2) = TR at *
 generalize pos p s = k at *
 clear hr hb HE hkn c1 c2 c3 c4 c5 hS
 go_enter Tryz.func76,Tryz.ntmps76
 go_wp2_with fail
 go_region
 go_wp2_with fail
 refine (C1.out _).mono ?_
 rintro e wx ⟨rfl,hwx⟩
 have hwy:=hwx.symm
 subst hwy
 clear C1 hwx
 go_wp2_with fail
 refine (C2.out _).mono ?_
 rintro e wx ⟨rfl,hwx⟩
 have hwy:=hwx.symm
 subst hwy
 clear C2 hwx
 go_wp2_with fail
 refine (C3.out _).mono ?_
 rintro e wx ⟨rfl,hwx⟩
 have hwy:=hwx.symm
 subst hwy
 clear C3 hwx
 go_wp2_with fail
 refine (C4.out _).mono ?_
 rintro e wx ⟨rfl,hwx⟩
 have hwy:=hwx.symm
 subst hwy
 clear C4 hwx
 go_wp2_with fail
 refine (C5.out _).mono ?_
 rintro e wx ⟨rfl,hwx⟩
 have hwy:=hwx.symm
 subst hwy
 clear C5 hwx
 go_wp2_with fail
 obtain ⟨W2,hW2⟩:∃ W,W = (w.setCell ⟨g,1,none⟩ (.int .i64 ((k:Int) + 2))).drew:=⟨_,rfl⟩
 have M2:Moves w g ((k + 2:Nat):Int) W2:=by rw [hW2];exact Moves.of_set.drewN 1
 have hr2:=M2.rd HR.out
 have hB2:=M2.base HB.out hg
 rw [← hW2]
 refine (CT.out _ hr2 hB2).mono ?_
 rintro e w3 ⟨v3,rfl,_,hm3⟩
 have M3:Hid (Moves w g _ w3):=M2.trans hm3 HR.out
 clear hW2 M2 hr2 hB2 CT hm3
 go_wp2_with fail
 go_ret
 exact tagPost_no M3.out
set_option maxHeartbeats 4000000 in
set_option maxRecDepth 100000 in
theorem piece_else_any (w0:World) (_HE:LEnv w0) (g:Nat) (_hg:w0.heap.size≤g) (p:ByteArray) (s:List UInt8) (hS:Suf p s) (w:World) (hr:RdAt w g p (pos p s)) (hb:Below w0.heap.size w0 w) (hp:p.size≤4000) (c1:comL.isPrefixOf s = false) (c2:([60,33]:List UInt8).isPrefixOf s = false) (c3:([60,63]:List UInt8).isPrefixOf s = false) (c4:tagB [60] s = false) (c5:tagB [60,47] s = false) (hne:1≤s.length) :
  Calls Tryz.prog 76 #[.pointer (some ⟨g,0,none⟩)] w fun e w'=>TagPost w g p (some [],s.drop 1) e w':=by
 have HR:Hid (RdAt w g p (pos p s)):=hr
 have HB:Hid (Below w0.heap.size w0 w):=hb
 have h0:=hr.page
 have h1:=hr.at_
 have hf:=hr.frozen 1
 have hx:=ext_end hS
 have hkl:=pos_le p s
 have hki:((pos p s:Nat):Int)≤(p.size:Int):=by omega
 have hkn:pos p (s.drop 1) = pos p s + 1:=pre_drop hS 1 hne
 have hwr:IntKind.i64.wrap (((pos p s:Nat):Int) + 1) = (((pos p s + 1:Nat)):Int):=by rw [IntKind.wrap_i64];omega
 have HKN:Hid (pos p (s.drop 1) = pos p s + 1):=hkn
 have C1:Hid (∀ W,Calls Tryz.prog 59 #[.string (lba s),.string ⟨#[60,33,45,45]⟩] W fun e w'=>e = .returned (.bool false)∧w' = W):=fun W=>pre_any s ⟨#[60,33,45,45]⟩ false c1 W
 have C2:Hid (∀ W,Calls Tryz.prog 59 #[.string (lba s),.string ⟨#[60,33]⟩] W fun e w'=>e = .returned (.bool false)∧w' = W):=fun W=>pre_any s ⟨#[60,33]⟩ false c2 W
 have C3:Hid (∀ W,Calls Tryz.prog 59 #[.string (lba s),.string ⟨#[60,63]⟩] W fun e w'=>e = .returned (.bool false)∧w' = W):=fun W=>pre_any s ⟨#[60,63]⟩ false c3 W
 have C4:Hid (∀ W,Calls Tryz.prog 131 #[.string (lba s),.string ⟨#[60]⟩] W fun e w'=>e = .returned (.bool false)∧w' = W):=fun W=>begins_any s ⟨#[60]⟩ false c4 W
 have C5:Hid (∀ W,Calls Tryz.prog 131 #[.string (lba s),.string ⟨#[60,47]⟩] W fun e w'=>e = .returned (.bool false)∧w' = W):=fun W=>begins_any s ⟨#[60,47]⟩ false c5 W
 generalize pos p s = k at *
 clear hr hb hkn c1 c2 c3 c4 c5 hS
 go_enter Tryz.func76,Tryz.ntmps76
 go_wp2_with fail
 go_region
 go_wp2_with fail
 refine (C1.out _).mono ?_
 rintro e wx ⟨rfl,hwx⟩
 have hwy:=hwx.symm
 subst hwy
 clear C1 hwx
 go_wp2_with fail
 refine (C2.out _).mono ?_
 rintro e wx ⟨rfl,hwx⟩
 have hwy:=hwx.symm
 subst hwy
 clear C2 hwx
 go_wp2_with fail
 refine (C3.out _).mono ?_
 rintro e wx ⟨rfl,hwx⟩
 have hwy:=hwx.symm
 subst hwy
 clear C3 hwx
 go_wp2_with fail
 refine (C4.out _).mono ?_
 rintro e wx ⟨rfl,hwx⟩
 have hwy:=hwx.symm
 subst hwy
 clear C4 hwx
 go_wp2_with fail
 refine (C5.out _).mono ?_
 rintro e wx ⟨rfl,hwx⟩
 have hwy:=hwx.symm
 subst hwy
 clear C5 hwx
 go_wp2_with fail
 go_ret
 refine tagPost_no ?_
 rw [HKN.out]
 exact Moves.of_set.drewN 1
theorem piece_any (w0:World) (HE:LEnv w0) (g:Nat) (hg:w0.heap.size≤g) (p:ByteArray) (s:List UInt8) (hne:s ≠ []) (hS:Suf p s) (w:World) (hr:RdAt w g p (pos p s)) (hb:Below w0.heap.size w0 w) (hp:p.size≤4000) :
  Calls Tryz.prog 76 #[.pointer (some ⟨g,0,none⟩)] w fun e w'=>TagPost w g p (some (pieceP lowT s).1,(pieceP lowT s).2) e w':=by
 unfold pieceP
 cases c1:comL.isPrefixOf s with
 | true=>rw [if_pos rfl];exact piece_com_any w0 HE g hg p s hS w hr hb hp c1
 | false =>
  rw [if_neg (by decide)]
  cases c2:([60,33]:List UInt8).isPrefixOf s with
  | true=>rw [if_pos (.inl rfl)];exact piece_ex_any w0 HE g hg p s hS w hr hb hp c1 c2
  | false =>
   cases c3:([60,63]:List UInt8).isPrefixOf s with
   | true=>rw [if_pos (.inr rfl)];exact piece_q_any w0 HE g hg p s hS w hr hb hp c1 c2 c3
   | false =>
    rw [if_neg (by decide)]
    cases c4:tagB [60] s with
    | true=>rw [if_pos rfl];exact piece_tag_any w0 HE g hg p s hS w hr hb hp c1 c2 c3 c4
    | false =>
     rw [if_neg (by decide)]
     cases c5:tagB [60,47] s with
     | true=>rw [if_pos rfl];exact piece_shut_any w0 HE g hg p s hS w hr hb hp c1 c2 c3 c4 c5
     | false=>rw [if_neg (by decide)];exact piece_else_any w0 HE g hg p s hS w hr hb hp c1 c2 c3 c4 c5 (List.length_pos_iff.2 hne)
theorem tag_suf (low:List UInt8→List UInt8):∀ (n:Nat) (seen:List (List UInt8)) (s:List UInt8),(tagF low n seen s).2 <:+ s
 | 0,_,_=>List.nil_suffix
 | n + 1,seen,s=>by
  unfold tagF
  cases h:s.dropWhile inGap with
  | nil=>exact List.nil_suffix
  | cons c t =>
   have h1:c::t <:+ s:=h ▸ List.dropWhile_suffix inGap
   simp only
   split
   ·exact (List.suffix_cons c t).trans h1
   ·exact ((tag_suf low n _ _).trans (attr_suf (c::t))).trans h1
theorem tagP_suf (low:List UInt8→List UInt8) (s:List UInt8):(tagP low s).2 <:+ s:=(tag_suf low _ _ _).trans (List.dropWhile_suffix _)
theorem piece_suf (low:List UInt8→List UInt8) (s:List UInt8):(pieceP low s).2 <:+ s:=by
 unfold pieceP
 split
 ·exact (behind_suf _ _).trans (List.drop_suffix _ _)
 ·split
  ·exact behind_suf _ _
  ·split
   ·exact (tagP_suf low _).trans (List.drop_suffix _ _)
   ·split
    ·exact (tagP_suf low _).trans (List.drop_suffix _ _)
    ·exact List.drop_suffix _ _
end Go.Proofs.YtbbfcbodhmeanaaGreatDoor



namespace Go.Proofs.YtbbfcbodhmeanaaGreatDoor
open Go.RowKit
theorem conv_bytes (w:World) (p:Option Addr) (n c:Nat) (L:List UInt8) (en:n = L.length) (hr:BRow w p L) (hp:p = none→n = 0∧c = 0):(convert 22 9 (.slice p n c)).run Tryz.prog w = .ok (.string ⟨L.toArray⟩) w:=by
 cases p with
 | none =>
  obtain ⟨h0,rfl⟩:=hp rfl
  subst h0
  obtain rfl:L = []:=List.length_eq_zero_iff.1 en.symm
  exact convert_nil w
 | some a =>
  subst en
  refine run_convert_bytes_back (P:=Tryz.prog) w 22 9 5 a c L Tryz.underlying22 Tryz.underlying5 Tryz.underlying9 (fun j hj=>?_)
  obtain ⟨b,o,e,hc⟩:=hr (fun e=>by rw [e] at hj;exact absurd hj (by simp))
  obtain rfl:=Option.some.inj e
  rw [Addr.add_lit,hc j hj]
  simp [List.getD_eq_getElem?_getD,List.getElem?_eq_getElem hj]
end Go.Proofs.YtbbfcbodhmeanaaGreatDoor



namespace Go.Proofs.YtbbfcbodhmeanaaGreatDoor
open Go.RowKit
theorem lv_one (n:Nat) (l:List LK):∀ u ∈ lv n l,u.oneCell' = true:=by
 intro u hu
 simp only [lv,List.mem_flatMap,lkv] at hu
 obtain ⟨x,_,hx⟩:=hu
 simp at hx
 rcases hx with rfl | rfl | rfl <;> rfl
theorem append_links {w:World} {ops:Array Oper} {rest:List Oper} {o:Oper} {a:Act} {Q:Exit→Act→World→Prop} (hgd:o.guard = none) (s x:Operand)
  (ho:o.op = .call { callee:=.builtin .append,args:=#[s,x],argTypes:=#[65,65] })
  (base:Nat) (v:Value) (n:Nat) (xs:List Value) (hs:a.eval s = v) (hown:w.ownsRow base 40 3 v n xs)
  (B2:Nat) (v2:Value) (N:Nat) (l:List LK) (hx:a.eval x = v2) (hr:w.ownsRow B2 40 3 v2 l.length (lv N l))
  (h63:n + l.length≤100000000) (hbase:base≤w.heap.size)
  (h:∀ v' w',w'.ownsRow base 40 3 v' (n + l.length) (xs ++ lv N l)→w.grownBy w' v.ownBlock→wpList Tryz.prog ops Q rest (a.put o.dst v') w'):wpList Tryz.prog ops Q (o::rest) a w:=by
 obtain ⟨i0,hi,hz0,hz1,hz2⟩:=info_parts info_link
 have hcl:=fun g hg=>hr.cells (g:=g) hg
 rcases hr.2 with ⟨hv,h0⟩ | ⟨g,cap,cur,hv,_⟩
 ·subst hv
  have hl:l = []:=List.length_eq_zero_iff.1 h0
  subst hl
  refine wpList_append_own_none hgd s x 65 ho base 40 i0 3 Tryz.underlying65 hi v n xs hs hown hx ?_
  refine h v w (by simpa [lv] using hown) (World.grownBy.refl _ _)
 ·subst hv
  refine wpList_append_own _ hgd s x 65 ho base 40 i0 (.agg #[.int .i64 0,.int .i64 0,.string ⟨#[]⟩]) 3 32 Tryz.underlying65 hi hz0 hz1 hz2 rfl (by decide) v n xs hs hown ⟨g,0,none⟩ l.length cap (lv N l) hx (lv_length N l) (hcl g rfl) (lv_one N l) (by unfold maxLen;omega) (by omega) hbase (fun v' w' h1 h2 _=>h v' w' h1 h2)
def FindPost (w:World) (N:Nat) (r:Option (List LK)) (e:Ending) (w':World):Prop:=Below w.heap.size w w'∧match r with
 | none=>e = .returned (.tuple #[.slice none 0 0,.int .i64 2])
 | some l=>∃ v,e = .returned (.tuple #[v,.int .i64 0])∧w'.ownsRow w.heap.size 40 3 v l.length (lv N l)
structure FindAt (w:World) (G:Nat) (p:ByteArray) (b:List UInt8) (gk:Nat) (v:Value) (wr:World) (sj:List UInt8) (acc:List LK):Prop where
 few:sj.length < gk
 la:acc.length≤60
 suf:Suf p sj
 rd:RdAt wr G p (pos p sj)
 bel:Below w.heap.size w wr
 own:wr.ownsRow (w.heap.size + 1) 40 3 v acc.length (lv p.size acc)
 eq:findP lowT b = findF lowT sj.length acc sj
theorem tag_few (low:List UInt8→List UInt8):∀ (n:Nat) (seen:List (List UInt8)) (s:List UInt8) (l:List LK),(tagF low n seen s).1 = some l→l.length≤s.length
 | 0,_,_,_,h=>by cases h
 | n + 1,seen,s,l,h=>by
  unfold tagF at h
  cases hd:s.dropWhile inGap with
  | nil=>rw [hd] at h;cases h
  | cons c t =>
   rw [hd] at h
   simp only at h
   have h3:=dropWhile_le_cons hd
   have h4:=attr_len c t
   split at h
   ·cases h;exact Nat.zero_le _
   ·simp only [Option.map_eq_some_iff] at h
    obtain ⟨l1,h1,rfl⟩:=h
    have h5:=tag_few low n _ _ l1 h1
    have h6:(mineP seen (low (nameP (c::t))) (attrP (c::t)).1).length≤1:=by
     unfold mineP
     split
     ·exact Nat.zero_le _
     ·split <;> simp
    rw [List.length_append]
    omega
theorem piece_few (low:List UInt8→List UInt8) (s:List UInt8):(pieceP low s).1.length≤s.length:=by
 unfold pieceP
 split
 ·exact Nat.zero_le _
 ·split
  ·exact Nat.zero_le _
  ·split
   ·simp only [tagP]
    cases h:(tagF low ((List.dropWhile inName (List.drop 1 s)).length + 1) [] (List.dropWhile inName (List.drop 1 s))).1 with
    | none=>exact Nat.zero_le _
    | some l =>
     have h1:=tag_few low _ _ _ l h
     have h2:=drop_dropWhile inName (List.drop 1 s)
     rw [List.length_drop] at h2
     simp only [Option.getD_some]
     omega
   ·split <;> exact Nat.zero_le _
set_option maxHeartbeats 8000000 in
set_option maxRecDepth 100000 in
theorem find_any (w0:World) (HE:LEnv w0) (q:Option Addr) (n c:Nat) (b:List UInt8) (en:n = b.length) (w:World) (hb:Below w0.heap.size w0 w) (hr:BRow w q b) (hq:q = none→n = 0∧c = 0) :
  Calls Tryz.prog 35 #[.slice q n c] w fun e w'=>FindPost w b.length (findP lowT b) e w':=by
 by_cases h4:4000 < n
 ·have h4':(4000:Int) < (n:Int):=by omega
  have HN:Hid (findP lowT b = none):=by unfold Hid findP;rw [if_pos (by omega)]
  clear en
  go_enter Tryz.func35,Tryz.ntmps35
  go_wp2_with fail
  go_ret2
  show FindPost _ _ _ _ _
  rw [HN.out]
  exact ⟨Below.refl _ _,rfl⟩
 ·have h4':¬ (4000:Int) < (n:Int):=by omega
  have hcv:=conv_bytes w q n c b en hr hq
  obtain ⟨p,hp⟩:∃ p,p = lba b:=⟨_,rfl⟩
  have hps:p.size = b.length:=by rw [hp,lba_size]
  have hpd:p.data.toList = b:=by rw [hp];rfl
  have hcv':(convert 22 9 (.slice q n c)).run Tryz.prog w = .ok (.string p) w:=by rw [hp];exact hcv
  have hb4:p.size≤4000:=by omega
  have HG:Hid (w0.heap.size≤w.heap.size):=hb.size
  have HEV:Hid (LEnv w0):=HE
  have HB:Hid (Below w0.heap.size w0 w):=hb
  have hba:Below w.heap.size w (w.alloc (.cells #[.string p,.int .i64 0] 121)):=(Below.refl _ _).alloc (Nat.le_refl _) _
  have hr0:RdAt (w.alloc (.cells #[.string p,.int .i64 0] 121)) w.heap.size p (pos p b):=by
   have:=rd_new w p 0
   have e:((pos p b:Nat):Int) = 0:=by unfold pos;omega
   rw [e]
   exact this
  have HA0:Hid (FindAt w w.heap.size p b (b.length + 1) (.slice none 0 0) (w.alloc (.cells #[.string p,.int .i64 0] 121)) b []):=⟨Nat.lt_succ_self _,by simp,by unfold Suf;rw [hpd];exact List.suffix_refl _,hr0,hba,World.ownsRow_nil _ _ _ _,by unfold findP;rw [if_neg (by omega)]⟩
  have HPS:Hid (p.size = b.length):=hps
  have HPO:Hid (∀ e w',FindPost w p.size (findP lowT b) e w'→FindPost w b.length (findP lowT b) e w'):=fun e w' h=>hps ▸ h
  clear hcv hp hpd en hr hq HE hb hba hr0 hps
  go_enter Tryz.func35,Tryz.ntmps35
  go_wp2_with fail
  go_loopg [5] (b.length + 1) (fun gk v wr=>∃ (sj:List UInt8) (acc:List LK),Hid (FindAt w w.heap.size p b gk v wr sj acc))
  case atStart=>exact ⟨b,[],HA0⟩
  case round =>
   obtain ⟨sj,acc,HJ⟩:=hrel
   clear HA0 hcv'
   obtain ⟨a3,c3,rfl,hac,hcm,hnn⟩:=slice_of HJ.out.own
   have hla:=HJ.out.la
   have hSj:=HJ.out.suf
   have CD:Hid (∀ W,RdAt W w.heap.size p (pos p sj)→Calls Tryz.prog 75 #[.pointer (some ⟨w.heap.size,0,none⟩)] W fun e w'=>e = .returned (.bool (decide (sj = [])))∧∃ m,w' = W.drewN m):=fun W hW=>done_suf _ p _ hSj _ rfl W hW
   go_wp2_with fail
   refine (CD.out _ HJ.out.rd).mono ?_
   rintro e w2 ⟨rfl,n2,rfl⟩
   clear CD
   by_cases hs:sj = []
   ·rw [decide_eq_true hs]
    have HN:Hid (findP lowT b = some acc):=by unfold Hid;rw [HJ.out.eq,hs];rfl
    have HF:Hid (Below w.heap.size w (wr.drewN n2)):=below_many HJ.out.bel _
    have HO:Hid ((wr.drewN n2).ownsRow w.heap.size 40 3 (.slice a3 acc.length c3) acc.length (lv p.size acc)):=ownsRow_base HJ.out.own (by omega)
    clear HJ hs hSj
    go_wp2_with fail
    go_ret2
    refine HPO.out _ _ ?_
    show FindPost _ _ _ _ _
    rw [HN.out]
    exact ⟨HF.out,_,rfl,HO.out⟩
   ·rw [decide_eq_false hs]
    have HR2:=HJ.out.rd.drewN n2
    have HB2:Below w.heap.size w (wr.drewN n2):=below_many HJ.out.bel _
    have HO2:(wr.drewN n2).ownsRow (w.heap.size + 1) 40 3 (.slice a3 acc.length c3) acc.length (lv p.size acc):=HJ.out.own
    generalize wr.drewN n2 = w2 at *
    have CP:Hid (Calls Tryz.prog 76 #[.pointer (some ⟨w.heap.size,0,none⟩)] w2 fun e w'=>TagPost w2 w.heap.size p (some (pieceP lowT sj).1,(pieceP lowT sj).2) e w'):=piece_any w0 HEV.out w.heap.size HG.out p sj hs hSj w2 HR2 (HB.out.trans (HB2.mono HG.out)) hb4
    have HEQ:Hid (findP lowT b = if 60 < (acc ++ (pieceP lowT sj).1).length then none else findF lowT (pieceP lowT sj).2.length (acc ++ (pieceP lowT sj).1) (pieceP lowT sj).2):=by
     unfold Hid
     rw [HJ.out.eq]
     cases sj with
     | nil=>exact absurd rfl hs
     | cons c t =>
      have hl:=piece_len lowT c t
      rw [List.length_cons,findF,if_neg (by simp)]
      rw [findF_fuel lowT t.length (pieceP lowT (c::t)).2.length _ _ (by simp only [List.length_cons] at hl;omega) (Nat.le_refl _)]
    have hpl:(pieceP lowT sj).2.length < gk - 1:=by
     have h1:=HJ.out.few
     cases sj with
     | nil=>exact absurd rfl hs
     | cons c t=>have:=piece_len lowT c t;omega
    have hpf:(pieceP lowT sj).1.length≤4000:=by have:=piece_few lowT sj;have:=hSj.len;omega
    have HSF:Hid (Suf p (pieceP lowT sj).2):=(piece_suf lowT sj).trans hSj
    have hfew:=HJ.out.few
    clear HJ hs hSj
    generalize (pieceP lowT sj).1 = l2 at *
    generalize (pieceP lowT sj).2 = R2 at *
    go_wp2_with fail
    refine CP.out.mono ?_
    rintro e w3 ⟨v3,rfl,hown3,hm3⟩
    simp only [Option.getD_some] at hown3
    have hr3:=hm3.rd HR2
    have hb3:Below w.heap.size w w3:=hm3.base HB2 (Nat.le_refl _)
    have hown2:=hm3.owns HO2 (by omega)
    have hlt3:=hr3.lt
    have HOB:Hid (∀ k,(Value.slice a3 acc.length c3).ownBlock = some k→w.heap.size + 1≤k∧k < w3.heap.size):=hown2.lt
    obtain ⟨a4,c4,rfl,_,_,_⟩:=slice_of hown3
    clear CP HR2 HB2 HO2 hm3
    go_wp2_with (at_builtin;refine append_links rfl (.tmp 16) (.tmp 18) rfl (w.heap.size + 1) _ acc.length (lv p.size acc) rfl hown2 _ _ p.size l2 rfl hown3 (by omega) (by omega) ?_)
    intro v5 w5 hown5 hg5
    have hr5:RdAt w5 w.heap.size p (pos p R2):=hr3.grown hg5 (by intro e;have:=HOB.out _ e.symm;omega)
    have hb5:Below w.heap.size w w5:=hb3.grown hg5 hb3.size (fun k hk=>by have:=HOB.out k hk;omega)
    have hown5':w5.ownsRow (w.heap.size + 1) 40 3 v5 (acc ++ l2).length (lv p.size (acc ++ l2)):=by rw [lv_app,List.length_append];exact hown5
    clear hown5 hg5 hr3 hb3 hown2 hown3 HOB
    obtain ⟨a5,c5,rfl,hac5,hcm5,_⟩:=slice_of hown5'
    have e5:(acc ++ l2).length = acc.length + l2.length:=List.length_append
    have HO5:Hid (w5.ownsRow (w.heap.size + 1) 40 3 (.slice a5 (acc ++ l2).length c5) (acc ++ l2).length (lv p.size (acc ++ l2))):=hown5'
    clear hown5'
    by_cases h60:60 < (acc ++ l2).length
    ·have h60':(60:Int) < (((acc ++ l2).length:Nat):Int):=by omega
     have HN:Hid (findP lowT b = none):=by unfold Hid;rw [HEQ.out,if_pos h60]
     have HF:Hid (Below w.heap.size w w5):=hb5
     clear HEQ hr5 hb5 HO5 HSF e5
     generalize (acc ++ l2).length = nn at *
     go_wp2_with fail
     go_ret2
     refine HPO.out _ _ ?_
     show FindPost _ _ _ _ _
     rw [HN.out]
     exact ⟨HF.out,rfl⟩
    ·have h60':¬ (60:Int) < (((acc ++ l2).length:Nat):Int):=by omega
     have HRL:Hid (FindAt w w.heap.size p b (gk - 1) (.slice a5 (acc ++ l2).length c5) w5 R2 (acc ++ l2)):=⟨hpl,by omega,HSF.out,hr5,hb5,HO5.out,by rw [HEQ.out,if_neg h60]⟩
     clear HEQ hr5 hb5 HO5 HSF e5
     generalize (acc ++ l2).length = nn at *
     go_wp2_with fail
     go_roundg (gk - 1)
     case measure=>omega
     case rel=>exact ⟨R2,acc ++ l2,HRL⟩
end Go.Proofs.YtbbfcbodhmeanaaGreatDoor



import Derived.Test.YtbbfcbodhmeanaaGreatDoorXrewriteonly8
import Derived.Deep.RegionHeld3
import Derived.Maps.Own
import Derived.Maps.Views
import Derived.Maps.OwnOps
namespace Go.Proofs.YtbbfcbodhmeanaaGreatDoor
open Go.RowKit
def lowT (l:List UInt8):List UInt8:=Lib.toLowerD l
def lkO (n:Nat) (v:Option LK):Array Value:=match v with
 | none=>#[.int .i64 0,.int .i64 0,.string ⟨#[]⟩]
 | some x=>lkv n x
theorem name_ext {p:ByteArray} {c:UInt8} {t:List UInt8} (hS:Suf p (c::t)):p.extract (pos p (c::t)) (pos p (t.dropWhile inAttr)) = lba (nameP (c::t)):=by
 rw [name_cons]
 exact ext_of hS (by rw [List.cons_append,tw_dw])
set_option maxHeartbeats 8000000 in
set_option maxRecDepth 100000 in
theorem attr_no (w0:World) (HE:LEnv w0) (g:Nat) (hg:w0.heap.size≤g) (p:ByteArray) (c:UInt8) (t:List UInt8) (hS:Suf p (c::t)) (w:World) (hr:RdAt w g p (pos p (c::t))) (hb:Below w0.heap.size w0 w) (hp:p.size≤4000)
  (h61:((((t.dropWhile inAttr).dropWhile spB)).head? == some 61) = false) :
  Calls Tryz.prog 175 #[.pointer (some ⟨g,0,none⟩)] w fun e w'=>e = .returned (.tuple #[.string (lba (lowT (nameP (c::t)))),.agg (lkO p.size none),.bool false])∧Moves w g (pos p ((t.dropWhile inAttr).dropWhile spB)) w':=by
 have HR:Hid (RdAt w g p (pos p (c::t))):=hr
 have hlt:=hr.lt
 have hne:g ≠ w.heap.size:=by omega
 have S1:=hS.tl
 have S2:=S1.dw inAttr
 have S3:=S2.dw spB
 have CP1:Hid (∀ W,RdAt W g p (pos p t)→Calls Tryz.prog 170 #[.pointer (some ⟨g,0,none⟩),.func (Fn.func 201) #[] #[]] W fun e w'=>e = .returned (.string (lba (t.takeWhile inAttr)))∧Moves W g (pos p (t.dropWhile inAttr)) w'):=fun W h1=>pass_suf _ #[] inAttr (fun _=>True) g p t S1 W h1 trivial (ask_attr1 g) hp
 have CP2:Hid (∀ W,RdAt W g p (pos p (t.dropWhile inAttr))→Calls Tryz.prog 170 #[.pointer (some ⟨g,0,none⟩),.func (Fn.func 172) #[] #[]] W fun e w'=>e = .returned (.string (lba ((t.dropWhile inAttr).takeWhile spB)))∧Moves W g (pos p ((t.dropWhile inAttr).dropWhile spB)) w'):=fun W h1=>pass_suf _ #[] spB (fun _=>True) g p _ S2 W h1 trivial (ask_space g) hp
 have CS:Hid (∀ W,RdAt W g p (pos p ((t.dropWhile inAttr).dropWhile spB))→Calls Tryz.prog 174 #[.pointer (some ⟨g,0,none⟩),.int .u8 61] W fun e w'=>e = .returned (.bool false)∧∃ m,w' = W.drewN m):=fun W hW=>sees_suf g p _ S3 61 61 rfl false h61 W hW
 have hnl:(nameP (c::t)).length≤4000:=by
  rw [name_cons,List.length_cons]
  have:=(List.takeWhile_prefix (l:=t) inAttr).length_le
  have:=hS.len
  simp only [List.length_cons] at this
  omega
 have CT:Hid (∀ W,Below w0.heap.size w0 W→Calls Tryz.prog 202 #[.string (lba (nameP (c::t)))] W fun e w'=>e = .returned (.string (lba (lowT (nameP (c::t)))))∧Below W.heap.size W w'):=fun W hW=>Tryz.strings_ToLower_any (lba (nameP (c::t))) W (by rw [lba_size];omega) (HE W hW).cv (HE W hW).u8
 have HB:Hid (Below w0.heap.size w0 w):=hb
 have hx:=name_ext hS
 have hk1:pos p t = pos p (c::t) + 1:=pos_plus hS (a:=[c]) rfl
 have hk2:pos p (c::t)≤pos p (t.dropWhile inAttr):=by
  have h1:=pos_plus S1 (tw_dw inAttr t)
  omega
 have hk3:=pos_le p (t.dropWhile inAttr)
 have hba:Below w.heap.size w (w.alloc linkZ):=(Below.refl _ _).alloc (Nat.le_refl _) _
 have hnew:=lnew w linkZ
 rw [hk1] at CP1
 unfold lkO
 generalize lba (lowT (nameP (c::t))) = NL at *
 generalize lba (nameP (c::t)) = NM at *
 generalize pos p ((t.dropWhile inAttr).dropWhile spB) = m3 at *
 generalize pos p (t.dropWhile inAttr) = m2 at *
 generalize pos p (c::t) = k at *
 have hki:(k:Int)≤(m2:Int):=by omega
 have hkj:(m2:Int)≤(p.size:Int):=by omega
 have hwr:IntKind.i64.wrap ((k:Int) + 1) = ((k + 1:Nat):Int):=by rw [IntKind.wrap_i64];omega
 clear hr HE hb hS S1 S2 S3 h61 hnl hk1
 have h1:=HR.out.at_
 have hf:=HR.out.frozen 1
 go_enter Tryz.func175,Tryz.ntmps175
 go_wp2_with fail
 obtain ⟨W1,hW1⟩:∃ W,W = (w.setCell ⟨g,1,none⟩ (.int .i64 ((k:Int) + 1))).alloc linkZ:=⟨_,rfl⟩
 have M1:Moves w g ((k + 1:Nat):Int) W1:=by rw [hW1];exact Moves.of_set.alloc _
 have hr1:=M1.rd HR.out
 have hz1:W1.heap[w.heap.size]? = some linkZ:=by
  have h:=lnew (w.setCell ⟨g,1,none⟩ (.int .i64 ((k:Int) + 1))) linkZ
  rw [← hW1,set1_size] at h
  exact h
 rw [← hW1]
 clear hW1 h1 hf hba hnew
 refine (CP1.out _ hr1).mono ?_
 rintro e w2 ⟨rfl,hm2⟩
 have M2:Hid (Moves w g m2 w2):=M1.trans hm2 HR.out
 have hr2:=hm2.rd hr1
 have hz2:=hm2.kept hz1 (Ne.symm hne)
 have hB2:Below w0.heap.size w0 w2:=M2.out.base HB.out hg
 clear CP1 hm2 M1 hr1 hz1
 have hS0:∀ w',Below w2.heap.size w2 w'→w'.cell? ⟨g,0,none⟩ = some (.string p):=fun w' h=>(hr2.below h).page
 have hS1:∀ w',Below w2.heap.size w2 w'→w'.cell? ⟨g,1,none⟩ = some (.int .i64 (m2:Int)):=fun w' h=>(hr2.below h).at_
 have h22:Below w2.heap.size w2 w2:=Below.refl _ _
 have hc0:=hr2.page
 have hc1:=hr2.at_
 go_wp2_with fail
 go_region_held3 (fun w'=>Below w2.heap.size w2 w') (first | assumption | exact h22.drew) (first
  | (go_at_call 202;refine (CT.out _ (hB2.trans ((h22.drew).mono hB2.size))).mono ?_;rintro e w3 ⟨rfl,hb3⟩;have hbL:Below w2.heap.size w2 w3:=(h22.drew).trans hb3))
 have M3:Hid (Moves w g m2 w3):=M2.out.then hbL
 have hr3:=hr2.below hbL
 have hz3:=lkept hz2 hbL
 clear M2 hr2 hz2 hB2 hS0 hS1 h22 hc0 hc1 hb3 hbL CT
 go_wp2_with fail
 refine (CP2.out _ hr3).mono ?_
 rintro e w4 ⟨rfl,hm4⟩
 have M4:Hid (Moves w g m3 w4):=M3.out.trans hm4 HR.out
 have hr4:=hm4.rd hr3
 have hz4:=hm4.kept hz3 (Ne.symm hne)
 clear CP2 hm4 M3 hr3 hz3
 go_wp2_with fail
 refine (CS.out _ hr4).mono ?_
 rintro e w5 ⟨rfl,n5,rfl⟩
 obtain ⟨d0,d1,d2,df⟩:=lcells3 hz4
 clear CS
 go_wp2_with fail
 refine bodyPost_ret (v:=.tuple #[.string NL,.agg #[.int .i64 0,.int .i64 0,.string ⟨#[]⟩],.bool false]) ?_ rfl ⟨rfl,?_⟩
 ·rw [results_tct rfl]
  go_simp
 ·exact (((M4.out.drewN _).new _ _ (Nat.le_refl _) _).new _ _ (Nat.le_refl _) _).new _ _ (Nat.le_refl _) _
set_option maxHeartbeats 8000000 in
set_option maxRecDepth 100000 in
theorem attr_yes (w0:World) (HE:LEnv w0) (g:Nat) (hg:w0.heap.size≤g) (p:ByteArray) (c:UInt8) (t:List UInt8) (hS:Suf p (c::t)) (w:World) (hr:RdAt w g p (pos p (c::t))) (hb:Below w0.heap.size w0 w) (hp:p.size≤4000)
  (u:List UInt8) (hu:(t.dropWhile inAttr).dropWhile spB = 61::u) :
  Calls Tryz.prog 175 #[.pointer (some ⟨g,0,none⟩)] w fun e w'=>e = .returned (.tuple #[.string (lba (lowT (nameP (c::t)))),.agg (lkv p.size ((valP (u.dropWhile spB)).1.length,(valP (u.dropWhile spB)).2.1)),.bool true])∧Moves w g (pos p (valP (u.dropWhile spB)).2.2) w':=by
 have HR:Hid (RdAt w g p (pos p (c::t))):=hr
 have hlt:=hr.lt
 have hne:g ≠ w.heap.size:=by omega
 have S1:=hS.tl
 have S2:=S1.dw inAttr
 have S3:=S2.dw spB
 rw [hu] at S3
 have S4:=S3.tl
 have S5:=S4.dw spB
 have CP1:Hid (∀ W,RdAt W g p (pos p t)→Calls Tryz.prog 170 #[.pointer (some ⟨g,0,none⟩),.func (Fn.func 201) #[] #[]] W fun e w'=>e = .returned (.string (lba (t.takeWhile inAttr)))∧Moves W g (pos p (t.dropWhile inAttr)) w'):=fun W h1=>pass_suf _ #[] inAttr (fun _=>True) g p t S1 W h1 trivial (ask_attr1 g) hp
 have CP2:Hid (∀ W,RdAt W g p (pos p (t.dropWhile inAttr))→Calls Tryz.prog 170 #[.pointer (some ⟨g,0,none⟩),.func (Fn.func 172) #[] #[]] W fun e w'=>e = .returned (.string (lba ((t.dropWhile inAttr).takeWhile spB)))∧Moves W g (pos p (61::u)) w'):=fun W h1=>by
  have:=pass_suf _ #[] spB (fun _=>True) g p _ S2 W h1 trivial (ask_space g) hp
  rw [hu] at this
  exact this
 have CS:Hid (∀ W,RdAt W g p (pos p (61::u))→Calls Tryz.prog 174 #[.pointer (some ⟨g,0,none⟩),.int .u8 61] W fun e w'=>e = .returned (.bool true)∧∃ m,w' = W.drewN m):=fun W hW=>sees_suf g p _ S3 61 61 rfl true rfl W hW
 have CP3:Hid (∀ W,RdAt W g p (pos p u)→Calls Tryz.prog 170 #[.pointer (some ⟨g,0,none⟩),.func (Fn.func 172) #[] #[]] W fun e w'=>e = .returned (.string (lba (u.takeWhile spB)))∧Moves W g (pos p (u.dropWhile spB)) w'):=fun W h1=>pass_suf _ #[] spB (fun _=>True) g p _ S4 W h1 trivial (ask_space g) hp
 have CV:Hid (∀ W,RdAt W g p (pos p (u.dropWhile spB))→Below w0.heap.size w0 W→Calls Tryz.prog 203 #[.pointer (some ⟨g,0,none⟩)] W fun e w'=>e = .returned (.agg (lkv p.size ((valP (u.dropWhile spB)).1.length,(valP (u.dropWhile spB)).2.1)))∧Moves W g (pos p (valP (u.dropWhile spB)).2.2) w'):=fun W h1 h2=>value_any w0 HE g hg p _ S5 W h1 h2 hp
 have hnl:(nameP (c::t)).length≤4000:=by
  rw [name_cons,List.length_cons]
  have:=(List.takeWhile_prefix (l:=t) inAttr).length_le
  have:=hS.len
  simp only [List.length_cons] at this
  omega
 have CT:Hid (∀ W,Below w0.heap.size w0 W→Calls Tryz.prog 202 #[.string (lba (nameP (c::t)))] W fun e w'=>e = .returned (.string (lba (lowT (nameP (c::t)))))∧Below W.heap.size W w'):=fun W hW=>Tryz.strings_ToLower_any (lba (nameP (c::t))) W (by rw [lba_size];omega) (HE W hW).cv (HE W hW).u8
 have HB:Hid (Below w0.heap.size w0 w):=hb
 have hx:=name_ext hS
 have hk1:pos p t = pos p (c::t) + 1:=pos_plus hS (a:=[c]) rfl
 have hk2:pos p (c::t)≤pos p (t.dropWhile inAttr):=by
  have h1:=pos_plus S1 (tw_dw inAttr t)
  omega
 have hk3:=pos_le p (t.dropWhile inAttr)
 have hba:Below w.heap.size w (w.alloc linkZ):=(Below.refl _ _).alloc (Nat.le_refl _) _
 have hnew:=lnew w linkZ
 rw [hk1] at CP1
 have hk5:pos p u = pos p (61::u) + 1:=pos_plus S3 (a:=[61]) rfl
 have hk6:=pos_le p (61::u)
 rw [hk5] at CP3
 obtain ⟨V0,V1,V2,hV⟩:∃ (V0 V1:Nat) (V2:ByteArray),lkv p.size ((valP (u.dropWhile spB)).1.length,(valP (u.dropWhile spB)).2.1) = #[.int .i64 (V0:Int),.int .i64 (V1:Int),.string V2]:=⟨_,_,_,rfl⟩
 rw [hV] at CV
 rw [hV]
 generalize pos p (valP (u.dropWhile spB)).2.2 = m6 at *
 generalize pos p (u.dropWhile spB) = m5 at *
 generalize pos p (61::u) = m3 at *
 generalize lba (lowT (nameP (c::t))) = NL at *
 generalize lba (nameP (c::t)) = NM at *
 generalize pos p (t.dropWhile inAttr) = m2 at *
 generalize pos p (c::t) = k at *
 have hki:(k:Int)≤(m2:Int):=by omega
 have hkj:(m2:Int)≤(p.size:Int):=by omega
 have hwr:IntKind.i64.wrap ((k:Int) + 1) = ((k + 1:Nat):Int):=by rw [IntKind.wrap_i64];omega
 have hwr3:IntKind.i64.wrap ((m3:Int) + 1) = ((m3 + 1:Nat):Int):=by rw [IntKind.wrap_i64];omega
 clear hr HE hb hS S1 S2 S3 S4 S5 hu hnl hk1 hk5 hV
 have h1:=HR.out.at_
 have hf:=HR.out.frozen 1
 go_enter Tryz.func175,Tryz.ntmps175
 go_wp2_with fail
 obtain ⟨W1,hW1⟩:∃ W,W = (w.setCell ⟨g,1,none⟩ (.int .i64 ((k:Int) + 1))).alloc linkZ:=⟨_,rfl⟩
 have M1:Moves w g ((k + 1:Nat):Int) W1:=by rw [hW1];exact Moves.of_set.alloc _
 have hr1:=M1.rd HR.out
 have hz1:W1.heap[w.heap.size]? = some linkZ:=by
  have h:=lnew (w.setCell ⟨g,1,none⟩ (.int .i64 ((k:Int) + 1))) linkZ
  rw [← hW1,set1_size] at h
  exact h
 rw [← hW1]
 clear hW1 h1 hf hba hnew
 refine (CP1.out _ hr1).mono ?_
 rintro e w2 ⟨rfl,hm2⟩
 have M2:Hid (Moves w g m2 w2):=M1.trans hm2 HR.out
 have hr2:=hm2.rd hr1
 have hz2:=hm2.kept hz1 (Ne.symm hne)
 have hB2:Below w0.heap.size w0 w2:=M2.out.base HB.out hg
 clear CP1 hm2 M1 hr1 hz1
 have hS0:∀ w',Below w2.heap.size w2 w'→w'.cell? ⟨g,0,none⟩ = some (.string p):=fun w' h=>(hr2.below h).page
 have hS1:∀ w',Below w2.heap.size w2 w'→w'.cell? ⟨g,1,none⟩ = some (.int .i64 (m2:Int)):=fun w' h=>(hr2.below h).at_
 have h22:Below w2.heap.size w2 w2:=Below.refl _ _
 have hc0:=hr2.page
 have hc1:=hr2.at_
 go_wp2_with fail
 go_region_held3 (fun w'=>Below w2.heap.size w2 w') (first | assumption | exact h22.drew) (first
  | (go_at_call 202;refine (CT.out _ (hB2.trans ((h22.drew).mono hB2.size))).mono ?_;rintro e w3 ⟨rfl,hb3⟩;have hbL:Below w2.heap.size w2 w3:=(h22.drew).trans hb3))
 have M3:Hid (Moves w g m2 w3):=M2.out.then hbL
 have hr3:=hr2.below hbL
 have hz3:=lkept hz2 hbL
 clear M2 hr2 hz2 hB2 hS0 hS1 h22 hc0 hc1 hb3 hbL CT
 go_wp2_with fail
 refine (CP2.out _ hr3).mono ?_
 rintro e w4 ⟨rfl,hm4⟩
 have M4:Hid (Moves w g m3 w4):=M3.out.trans hm4 HR.out
 have hr4:=hm4.rd hr3
 have hz4:=hm4.kept hz3 (Ne.symm hne)
 clear CP2 hm4 M3 hr3 hz3
 go_wp2_with fail
 refine (CS.out _ hr4).mono ?_
 rintro e w5 ⟨rfl,n5,rfl⟩
 have h1:=hr4.at_
 have hf:=hr4.frozen 1
 clear CS
 go_wp2_with fail
 obtain ⟨W5,hW5⟩:∃ W,W = (w4.drewN n5).setCell ⟨g,1,none⟩ (.int .i64 ((m3:Int) + 1)):=⟨_,rfl⟩
 have M45:Moves w4 g ((m3 + 1:Nat):Int) W5:=by rw [hW5];exact ((Moves.still hr4).drewN _).trans Moves.of_set hr4
 have hr5:=M45.rd hr4
 have hz5:=M45.kept hz4 (Ne.symm hne)
 have M5:Hid (Moves w g ((m3 + 1:Nat):Int) W5):=M4.out.trans M45 HR.out
 rw [← hW5]
 clear hW5 M45 M4 h1 hf hr4 hz4
 refine (CP3.out _ hr5).mono ?_
 rintro e w6 ⟨rfl,hm6⟩
 have M6:Hid (Moves w g m5 w6):=M5.out.trans hm6 HR.out
 have hr6:=hm6.rd hr5
 have hz6:=hm6.kept hz5 (Ne.symm hne)
 have hB6:Below w0.heap.size w0 w6:=M6.out.base HB.out hg
 clear CP3 hm6 M5 hr5 hz5
 go_wp2_with fail
 refine (CV.out _ hr6 hB6).mono ?_
 rintro e w7 ⟨rfl,hm7⟩
 have M7:Hid (Moves w g m6 w7):=M6.out.trans hm7 HR.out
 have hz7:=hm7.kept hz6 (Ne.symm hne)
 obtain ⟨d0,d1,d2,df⟩:=lcells3 hz7
 clear CV hm7 M6 hr6 hz6 hB6 hz7
 go_wp2_with fail
 refine bodyPost_ret (v:=.tuple #[.string NL,.agg #[.int .i64 (V0:Int),.int .i64 (V1:Int),.string V2],.bool true]) ?_ rfl ⟨rfl,?_⟩
 ·rw [results_tct rfl]
  go_simp
 ·exact ((M7.out.new _ _ (Nat.le_refl _) _).new _ _ (Nat.le_refl _) _).new _ _ (Nat.le_refl _) _
theorem attr_any (w0:World) (HE:LEnv w0) (g:Nat) (hg:w0.heap.size≤g) (p:ByteArray) (c:UInt8) (t:List UInt8) (hS:Suf p (c::t)) (w:World) (hr:RdAt w g p (pos p (c::t))) (hb:Below w0.heap.size w0 w) (hp:p.size≤4000) :
  Calls Tryz.prog 175 #[.pointer (some ⟨g,0,none⟩)] w fun e w'=>e = .returned (.tuple #[.string (lba (lowT (nameP (c::t)))),.agg (lkO p.size (attrP (c::t)).1),.bool (attrP (c::t)).1.isSome])∧Moves w g (pos p (attrP (c::t)).2) w':=by
 rw [attr_cons]
 cases hd:(t.dropWhile inAttr).dropWhile spB with
 | nil =>
  have:=attr_no w0 HE g hg p c t hS w hr hb hp (by rw [hd];rfl)
  rw [hd] at this
  exact this
 | cons d u =>
  by_cases h61:d = 61
  ·subst h61
   have:=attr_yes w0 HE g hg p c t hS w hr hb hp u hd
   exact this
  ·have:=attr_no w0 HE g hg p c t hS w hr hb hp (by rw [hd];simp [h61])
   rw [hd] at this
   have e:behP (d::u) = (none,d::u):=by simp only [behP];rw [if_neg h61]
   rw [e]
   exact this
theorem beh_suf (s:List UInt8):(behP s).2 <:+ s:=by
 cases s with
 | nil=>exact List.nil_suffix
 | cons c t =>
  simp only [behP]
  split
  ·exact ((val_suf _).trans (List.dropWhile_suffix _)).trans (List.suffix_cons c t)
  ·exact List.suffix_refl _
theorem attr_suf (s:List UInt8):(attrP s).2 <:+ s:=(((beh_suf _).trans (List.dropWhile_suffix _)).trans (List.dropWhile_suffix _)).trans (List.drop_suffix 1 s)
end Go.Proofs.YtbbfcbodhmeanaaGreatDoor



namespace Go.Proofs.YtbbfcbodhmeanaaGreatDoor
open Go.RowKit Go.WideMaps Go.Maps
def lv (n:Nat) (l:List LK):List Value:=l.flatMap fun x=>(lkv n x).toList
theorem lv_snoc (n:Nat) (l:List LK) (x:LK):lv n (l ++ [x]) = lv n l ++ (lkv n x).toList:=by simp [lv]
theorem lv_app (n:Nat) (l m:List LK):lv n (l ++ m) = lv n l ++ lv n m:=by simp [lv]
theorem lv_length (n:Nat) (l:List LK):(lv n l).length = l.length * 3:=by
 induction l with
 | nil=>rfl
 | cons x l ih=>rw [show lv n (x::l) = (lkv n x).toList ++ lv n l from by simp [lv],List.length_append,ih];simp [lkv];omega
theorem info_link:(Tryz.prog.info? 40).map (fun i=>(i.zero,i.size,i.bytes)) = some (some (.agg #[.int .i64 0,.int .i64 0,.string ⟨#[]⟩]),3,32):=by kernel_rfl
theorem ownsRow_base {w:World} {B B' e s n:Nat} {v:Value} {xs:List Value} (h:w.ownsRow B e s v n xs) (hB:B'≤B):w.ownsRow B' e s v n xs:=by
 refine ⟨h.1,?_⟩
 rcases h.2 with h1 | ⟨g,cap,cur,h1,h2,h3⟩
 ·exact .inl h1
 ·exact .inr ⟨g,cap,cur,h1,Nat.le_trans hB h2,h3⟩
theorem klaw:Keyed Tryz.prog 9:=string_keyed Tryz.underlying9
theorem zero_int (w:World):(zeroValue 3).run Tryz.prog w = .ok (.int .i64 0) w:=by kernel_rfl
def Seen (w:World) (b n:Nat) (seen:List (List UInt8)):Prop:=∃ D:DataW Unit,w.ownsMap Tryz.prog 9 (plainElem Tryz.prog 3) b n D∧IsMap D∧∀ nm:List UInt8,D.atKey (.string nm) (.lit (.int .i64 0)) = .lit (.int .i64 ((seen.count nm:Nat):Int))
theorem seen_made (w:World):Seen (w.alloc (.map #[] 0)) w.heap.size 0 []:=⟨.map [],World.ownsMap_made _ _ _ _,isMap_empty,fun nm=>by simp [DataW.atKey]⟩
theorem Seen.move {w w':World} {b n:Nat} {seen:List (List UInt8)} (h:Seen w b n seen) (e:w'.heap[b]? = w.heap[b]?):Seen w' b n seen:=by
 obtain ⟨D,⟨es,clock,hb,F,hs,hD⟩,h2,h3⟩:=h
 exact ⟨D,⟨es,clock,e.trans hb,F,hs,hD⟩,h2,h3⟩
theorem Seen.lt {w:World} {b n:Nat} {seen:List (List UInt8)} (h:Seen w b n seen):b < w.heap.size:=by
 obtain ⟨D,h1,_,_⟩:=h
 exact h1.lt
theorem Seen.look {w:World} {b n:Nat} {seen:List (List UInt8)} (h:Seen w b n seen) (s:ByteArray) (hs:s.size≤maxLen) :
  (Instr.lookup 107 (.map (some b)) (.string s) false).run Tryz.prog w = .ok (.int .i64 ((seen.count s.data.toList:Nat):Int)) w:=by
 obtain ⟨D,h1,_,h3⟩:=h
 obtain ⟨c,hrun,hat,_⟩:=h1.lookup_int klaw Tryz.underlying107 Tryz.underlying3 (zero_int _) (keyOf_string_mk Tryz.underlying9 hs)
 have e:c = ((seen.count s.data.toList:Nat):Int):=by
  have h4:=(h3 s.data.toList).symm.trans hat
  exact (Lit.int.inj (DataW.lit.inj h4)).2.symm
 rw [e] at hrun
 exact hrun
theorem Seen.put {w:World} {b n:Nat} {seen:List (List UInt8)} (h:Seen w b n seen) (s:ByteArray) (hs:s.size≤maxLen) (hn:n < maxLen) (c:Int) (hc:c = ((seen.count s.data.toList + 1:Nat):Int)) (hcm:seen.count s.data.toList < 1000000) :
  ∃ w',(Instr.mapUpdate 107 (.map (some b)) (.string s) (.int .i64 c)).run Tryz.prog w = .ok () w'∧Seen w' b (n + 1) (s.data.toList::seen)∧w.grownBy w' (some b):=by
 obtain ⟨D,h1,h2,h3⟩:=h
 have hk:=keyOf_string_mk (P:=Tryz.prog) Tryz.underlying9 hs
 obtain ⟨w',hrun,h4,h5⟩:=h1.update klaw Tryz.underlying107 hn hk (plainElem_int Tryz.underlying3 (a:=c) (WalkArith.wf_i64 (by omega)))
 refine ⟨w',hrun,⟨_,h4,?_,fun nm=>?_⟩,h5⟩
 ·exact h2.put _ _
 ·by_cases e:nm = s.data.toList
  ·subst e
   rw [atKey_put_same h2 (show WideAt.IsKeyLit (.string s.data.toList) from trivial),hc,List.count_cons_self]
  ·rw [atKey_put_other (by intro h;injection h with h;exact e h),h3,List.count_cons_of_ne (Ne.symm e)]
def tagS (low:List UInt8→List UInt8) (seen:List (List UInt8)) (s:List UInt8):Option (List LK) × List UInt8:=tagF low (s.length + 1) seen s
theorem tagS_nil (low:List UInt8→List UInt8) (seen:List (List UInt8)) (s:List UInt8) (h:s.dropWhile inGap = []):tagS low seen s = (none,[]):=by
 unfold tagS tagF
 rw [h]
theorem tagS_end (low:List UInt8→List UInt8) (seen:List (List UInt8)) (s t:List UInt8) (h:s.dropWhile inGap = 62::t):tagS low seen s = (some [],t):=by
 unfold tagS tagF
 rw [h]
 rfl
theorem tagS_next (low:List UInt8→List UInt8) (seen:List (List UInt8)) (s:List UInt8) (c:UInt8) (t:List UInt8) (h:s.dropWhile inGap = c::t) (hc:c ≠ 62) :
  tagS low seen s = ((tagS low (low (nameP (c::t))::seen) (attrP (c::t)).2).1.map (mineP seen (low (nameP (c::t))) (attrP (c::t)).1 ++ ·),(tagS low (low (nameP (c::t))::seen) (attrP (c::t)).2).2):=by
 have h3:=dropWhile_le_cons h
 have h4:=attr_len c t
 unfold tagS
 rw [tagF_fuel low ((attrP (c::t)).2.length + 1) s.length _ _ (Nat.lt_succ_self _) (by omega)]
 conv=>lhs;unfold tagF
 rw [h]
 simp only
 rw [if_neg hc]
end Go.Proofs.YtbbfcbodhmeanaaGreatDoor


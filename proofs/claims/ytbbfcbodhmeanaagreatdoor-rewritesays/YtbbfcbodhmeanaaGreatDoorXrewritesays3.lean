
import Derived.Test.YtbbfcbodhmeanaaGreatDoorXrewritesays1
import Derived.Test.YtbbfcbodhmeanaaGreatDoorXrewritesays2
import Derived.Laws.RangeString
import Derived.Lib.TrimU
namespace Go.Proofs.YtbbfcbodhmeanaaGreatDoor
open Go.RowKit
theorem dropB (s:ByteArray) (k:Nat) (h:k < s.size):s.data.toList.drop k = s[k]::s.data.toList.drop (k + 1):=by
 rw [List.drop_eq_getElem_cons (by simpa using h)];rfl
theorem ix_any (s:ByteArray) (l:List UInt8) (hs:s.data.toList = l) (c:UInt8) (cc:Int) (e:cc = (c.toNat:Int)) (w:World) :
  Calls Tryz.prog 93 #[.string s,.int .u8 cc] w fun e w'=>∃ i:Int,e = .returned (.int .i64 i)∧decide (0≤i) = l.contains c∧w' = w:=by
 subst e hs
 refine (Tryz.strings_IndexByte s (c.toNat:Int) w).mono ?_
 rintro e w' ⟨rfl,rfl⟩
 refine ⟨_,rfl,?_,rfl⟩
 rw [indexByte_mem]
 simp
end Go.Proofs.YtbbfcbodhmeanaaGreatDoor



namespace Go.Proofs.YtbbfcbodhmeanaaGreatDoor
open Go.RowKit
theorem tokc_any (c:UInt8) (w:World):Calls Tryz.prog 199 #[.int .u8 (c.toNat:Int)] w fun e w'=>e = .returned (.bool (inB 33 126 specials c))∧w' = w:=by
 by_cases h1:33≤c.toNat
 ·have h1':(33:Int)≤(c.toNat:Int):=by omega
  by_cases h2:c.toNat≤126
  ·have h2':(c.toNat:Int)≤126:=by omega
   have HN:Hid (inB 33 126 specials c = !specials.contains c):=by unfold Hid inB;simp only [h1,h2];simp
   have hi9:∀ i:Int,decide (0≤i) = specials.contains c→decide (i < 0) = !specials.contains c:=by
    intro i h;rw [← h];by_cases hi:0≤i <;> simp [hi] <;> omega
   go_enter Tryz.func199,Tryz.ntmps199
   go_wp2_with fail
   refine (ix_any _ specials rfl c _ rfl _).mono ?_
   rintro e w' ⟨i,rfl,hi,hw'⟩
   have hw'':=hw'.symm
   subst hw''
   have h3:=hi9 i hi
   clear hi hi9
   go_wp2
   go_ret
   exact ⟨by rw [HN.out];simp,rfl⟩
  ·have h2':decide ((c.toNat:Int)≤126) = false:=by simp;omega
   have HN:Hid (inB 33 126 specials c = false):=by unfold Hid inB;simp only [h2];simp
   go_enter Tryz.func199,Tryz.ntmps199
   go_wp2
   go_ret
   exact ⟨by rw [HN.out];rfl,rfl⟩
 ·have h1':decide ((33:Int)≤(c.toNat:Int)) = false:=by simp;omega
  have HN:Hid (inB 33 126 specials c = false):=by unfold Hid inB;simp only [h1];simp
  go_enter Tryz.func199,Tryz.ntmps199
  go_wp2
  go_ret
  exact ⟨by rw [HN.out];rfl,rfl⟩
def allB (p:UInt8→Bool) (l:List UInt8):Bool:=l.all p
theorem allB_cons (p:UInt8→Bool) (c:UInt8) (l:List UInt8):allB p (c::l) = (p c && allB p l):=rfl
def tokB:UInt8→Bool:=inB 33 126 specials
set_option maxHeartbeats 1000000 in
theorem every_tok (s:ByteArray) (w:World) (hs:s.size≤1000000) :
  Calls Tryz.prog 198 #[.string s,.func (Fn.func 199) #[] #[]] w fun e w'=>e = .returned (.bool (allB tokB s.data.toList))∧w' = w:=by
 go_enter Tryz.func198,Tryz.ntmps198
 go_wp2
 go_loop [8] (fun iv=>∃ k:Nat,k≤s.size∧iv = .int .i64 k∧Hid (allB tokB (s.data.toList.drop k) = allB tokB s.data.toList)) (fun iv=>s.size - (intOf iv).toNat)
 case atStart=>exact ⟨0,Nat.zero_le _,rfl,rfl⟩
 case round =>
  obtain ⟨k,hk,rfl,HK⟩:=hrel
  by_cases hlt:k < s.size
  ·have hdr:Hid (allB tokB (s.data.toList.drop k) = (tokB s[k] && allB tokB (s.data.toList.drop (k + 1)))):=by unfold Hid;rw [dropB s k hlt,allB_cons]
   cases hp:tokB s[k]
   ·have HN:Hid (allB tokB s.data.toList = false):=by unfold Hid;rw [← HK.out,hdr.out,hp];rfl
    have C:Hid (∀ w,Calls Tryz.prog 199 #[.int .u8 (s[k].toNat:Int)] w fun e w'=>e = .returned (.bool false)∧w' = w):=by intro w;rw [← hp];exact tokc_any _ w
    clear hdr HK hp
    go_wp2_with fail
    refine (C.out _).mono ?_
    rintro e w' ⟨rfl,hw'⟩
    have hw'':=hw'.symm
    subst hw''
    go_wp2
    go_ret
    exact ⟨by rw [HN.out];rfl,rfl⟩
   ·have HN:Hid (allB tokB (s.data.toList.drop (k + 1)) = allB tokB s.data.toList):=by unfold Hid;rw [← HK.out,hdr.out,hp];rfl
    have C:Hid (∀ w,Calls Tryz.prog 199 #[.int .u8 (s[k].toNat:Int)] w fun e w'=>e = .returned (.bool true)∧w' = w):=by intro w;rw [← hp];exact tokc_any _ w
    clear hdr HK hp
    go_wp2_with fail
    refine (C.out _).mono ?_
    rintro e w' ⟨rfl,hw'⟩
    have hw'':=hw'.symm
    subst hw''
    go_wp2
    go_round
    case rel=>exact ⟨k + 1,by omega,by go_num,HN⟩
    case measure=>simp [intOf];omega
  ·obtain rfl:k = s.size:=by omega
   have HN:Hid (allB tokB s.data.toList = true):=by
    unfold Hid
    rw [← HK.out,List.drop_of_length_le (by rw [← Lib.size_eq];exact Nat.le_refl _)];rfl
   clear HK
   go_wp2
   go_ret
   exact ⟨by rw [HN.out];rfl,rfl⟩
theorem htok_any (s:ByteArray) (w:World) (hs:s.size≤maxLen) :
  Calls Tryz.prog 166 #[.string s] w fun e w'=>e = .returned (.bool (tokenS s.data.toList))∧w' = w:=by
 unfold maxLen at hs
 have hle:=Lib.size_eq s
 by_cases h1:1≤s.size
 ·have hne:s.toList.isEmpty = false:=by
   rw [ByteArray.toList_eq]
   cases h:s.data.toList with
   | nil=>rw [h,List.length_nil] at hle;omega
   | cons a b=>rfl
  by_cases h2:s.size≤30
  ·have h2':(s.size:Int)≤30:=by omega
   have HN:Hid (tokenS s.data.toList = allB tokB s.data.toList):=by unfold Hid tokenS betw allB tokB;rw [← hle];simp [h1,h2]
   clear hle
   go_enter Tryz.func166,Tryz.ntmps166
   go_wp2_with fail
   refine (every_tok s _ (by omega)).mono ?_
   rintro e w' ⟨rfl,hw'⟩
   have hw'':=hw'.symm
   subst hw''
   go_wp2
   go_ret
   exact ⟨by rw [HN.out];rfl,rfl⟩
  ·have h2':decide ((s.size:Int)≤30) = false:=by simp;omega
   have HN:Hid (tokenS s.data.toList = false):=by unfold Hid tokenS;rw [← hle];simp;omega
   clear hle
   go_enter Tryz.func166,Tryz.ntmps166
   go_wp2
   go_ret
   exact ⟨by rw [HN.out];rfl,rfl⟩
 ·obtain rfl:s = ⟨#[]⟩:=by
   apply ByteArray.ext;apply Array.toList_inj.1;exact List.length_eq_zero_iff.1 (by rw [← hle];omega)
  clear hle h1 hs
  go_enter Tryz.func166,Tryz.ntmps166
  go_wp2
  go_ret
  exact ⟨rfl,rfl⟩
end Go.Proofs.YtbbfcbodhmeanaaGreatDoor



namespace Go.Proofs.YtbbfcbodhmeanaaGreatDoor
open Go.RowKit
def whereB (d:UInt8) (l:List UInt8):Int:=match cutB d l with | none=>-1 | some x=>(x.1.length:Int)
theorem whereB_none {d:UInt8} {l:List UInt8} (h:cutB d l = none):whereB d l = -1:=by rw [whereB,h]
theorem whereB_some {d:UInt8} {l:List UInt8} {x:List UInt8 × List UInt8} (h:cutB d l = some x):whereB d l = (x.1.length:Int):=by rw [whereB,h]
theorem indexByte_where (d:UInt8):∀ l:List UInt8,Lib.indexByte l d = whereB d l
 | []=>rfl
 | b::l=>by
  rw [Lib.indexByte,indexByte_where d l]
  by_cases h:b = d
  ·subst h;simp [whereB,cutB]
  ·rw [if_neg (by simpa using h)]
   cases hc:cutB d l with
   | none=>simp [whereB,cutB,h,hc]
   | some x =>
    have h1:¬ ((x.1.length:Int) == -1) = true:=by rw [beq_iff_eq];omega
    simp only [whereB,cutB,hc,h,if_false,Option.map_some,List.length_cons]
    rw [if_neg h1]
    omega
theorem ba_cut (d:UInt8) (X:ByteArray) (n v:List UInt8) (h:X.data.toList = n ++ d::v):∃ NM VL:ByteArray,X.extract 0 n.length = NM∧X.extract (n.length + 1) X.size = VL∧NM.data.toList = n∧VL.data.toList = v∧X.size = n.length + 1 + v.length:=by
 have hl:X.size = n.length + 1 + v.length:=by rw [Lib.size_eq,h];simp;omega
 have e1:(X.extract 0 n.length).data.toList = n:=by rw [Lib.extract_data,h];simp
 have e2:(X.extract (n.length + 1) X.size).data.toList = v:=by
  rw [Lib.extract_data,h,hl,show n.length + 1 + v.length - (n.length + 1) = v.length from by omega,← List.drop_drop]
  simp
 exact ⟨_,_,rfl,rfl,e1,e2,hl⟩
theorem ba_inj {a b:ByteArray} (h:a.data.toList = b.data.toList):a = b:=ByteArray.ext (Array.toList_inj.1 h)
theorem lite_none (d:UInt8) (s:ByteArray) (w:World) (h:cutB d s.data.toList = none) :
  Calls Tryz.prog 138 #[.string s,.string ⟨#[d]⟩] w fun e w'=>e = .returned (.tuple #[.string s,.string ⟨#[]⟩,.bool false])∧w' = w:=by
 have C:=Tryz.stringslite_Index_one s d w
 rw [indexByte_where,whereB_none h] at C
 clear h
 have HC:Hid (Calls Tryz.prog 135 #[.string s,.string ⟨#[d]⟩] w fun e w'=>e = .returned (.int .i64 (-1))∧w' = w):=C
 clear C
 go_enter Tryz.func138,Tryz.ntmps138
 go_wp2_with fail
 refine HC.out.mono ?_
 rintro e w' ⟨rfl,hw'⟩
 have hw'':=hw'.symm
 subst hw''
 clear HC
 go_wp2
 go_ret3
 exact ⟨rfl,rfl⟩
set_option maxHeartbeats 1000000 in
theorem lite_someW (d:UInt8) (s a r:ByteArray) (w:World) (hs:s.size≤9223372036854775807) (h:cutB d s.data.toList = some (a.data.toList,r.data.toList)) :
  Calls Tryz.prog 138 #[.string s,.string ⟨#[d]⟩] w fun e w'=>e = .returned (.tuple #[.string a,.string r,.bool true])∧Below w.heap.size w w':=by
 have C:=Tryz.stringslite_Index_one s d w
 rw [indexByte_where,whereB_some h] at C
 simp only at C
 obtain ⟨A,R,h1,h2,h3,h4,h5⟩:=ba_cut d s _ _ (cutB_some d _ _ _ h).1
 have hA:=ba_inj h3
 have hR:=ba_inj h4
 subst hA hR
 obtain ⟨I,hI⟩:∃ I,I = A.data.toList.length:=⟨_,rfl⟩
 rw [← hI] at C h1 h2 h5
 have hI1:(I:Int) < (s.size:Int):=by omega
 have hI2:(I:Int) + 1≤(s.size:Int):=by omega
 have HC:Hid (Calls Tryz.prog 135 #[.string s,.string ⟨#[d]⟩] w fun e w'=>e = .returned (.int .i64 (I:Int))∧w' = w):=C
 clear C h h3 h4 h5 hI
 go_enter Tryz.func138,Tryz.ntmps138
 go_wp2_with fail
 refine HC.out.mono ?_
 rintro e w' ⟨rfl,hw'⟩
 have hw'':=hw'.symm
 subst hw''
 clear HC
 go_wp2
 go_region
 go_wp2
 go_ret3
 exact ⟨rfl,(Below.refl _ _).drew⟩
theorem cut_none (d:UInt8) (s:ByteArray) (w:World) (h:cutB d s.data.toList = none) :
  Calls Tryz.prog 89 #[.string s,.string ⟨#[d]⟩] w fun e w'=>e = .returned (.tuple #[.string s,.string ⟨#[]⟩,.bool false])∧Below w.heap.size w w':=by
 have HC:Hid (Calls Tryz.prog 138 #[.string s,.string ⟨#[d]⟩] w fun e w'=>e = .returned (.tuple #[.string s,.string ⟨#[]⟩,.bool false])∧w' = w):=lite_none d s w h
 clear h
 go_enter Tryz.func89,Tryz.ntmps89
 go_wp2_with fail
 refine HC.out.mono ?_
 rintro e w' ⟨rfl,hw'⟩
 have hw'':=hw'.symm
 subst hw''
 clear HC
 go_wp2
 go_ret3
 exact ⟨rfl,Below.refl _ _⟩
theorem cut_someW (d:UInt8) (s a r:ByteArray) (w:World) (hs:s.size≤9223372036854775807) (h:cutB d s.data.toList = some (a.data.toList,r.data.toList)) :
  Calls Tryz.prog 89 #[.string s,.string ⟨#[d]⟩] w fun e w'=>e = .returned (.tuple #[.string a,.string r,.bool true])∧Below w.heap.size w w':=by
 have HC:Hid (Calls Tryz.prog 138 #[.string s,.string ⟨#[d]⟩] w fun e w'=>e = .returned (.tuple #[.string a,.string r,.bool true])∧Below w.heap.size w w'):=lite_someW d s a r w hs h
 clear h
 go_enter Tryz.func89,Tryz.ntmps89
 go_wp2_with fail
 refine HC.out.mono ?_
 rintro e w' ⟨rfl,hb⟩
 clear HC
 go_wp2
 go_ret3
 exact ⟨rfl,hb⟩
theorem cut_some (d:UInt8) (s a r:ByteArray) (w:World) (hs:s.size≤1000000000) (h:cutB d s.data.toList = some (a.data.toList,r.data.toList)) :
  Calls Tryz.prog 89 #[.string s,.string ⟨#[d]⟩] w fun e w'=>e = .returned (.tuple #[.string a,.string r,.bool true])∧Below w.heap.size w w' :=
 cut_someW d s a r w (by omega) h
theorem cut_parts {d:UInt8} {s:ByteArray} {x:List UInt8 × List UInt8} (h:cutB d s.data.toList = some x):∃ a r:ByteArray,x = (a.data.toList,r.data.toList)∧s.size = a.size + 1 + r.size:=by
 refine ⟨⟨x.1.toArray⟩,⟨x.2.toArray⟩,rfl,?_⟩
 have e:=(cutB_some d s.data.toList x.1 x.2 h).1
 rw [Lib.size_eq,e,Lib.size_eq,Lib.size_eq]
 simp only [List.length_append,List.length_cons]
 omega
end Go.Proofs.YtbbfcbodhmeanaaGreatDoor



namespace Go.Proofs.YtbbfcbodhmeanaaGreatDoor
open Go.RowKit
def upR (x:Nat):Bool:=decide (65≤x) && decide (x≤90)
def badR (x:Nat):Bool:=decide (x < 33) || decide (126 < x) || decide (x = 34) || decide (x = 60) || decide (x = 62)
theorem upR_any (x:Nat) (hx:x≤1114111) (w:World) :
  Calls Tryz.prog 197 #[.int .i32 (x:Int)] w fun e w'=>e = .returned (.bool (upR x))∧∃ q,w' = w.drewN q:=by
 by_cases h1:65≤x
 ·have e1:(65:Int)≤(x:Int):=by omega
  by_cases h2:x≤90
  ·have e2:(x:Int)≤90:=by omega
   have HO:Hid (upR x = true):=by unfold Hid upR;simp [h1,h2]
   go_enter Tryz.func197,Tryz.ntmps197
   go_wp2
   go_ret
   exact ⟨by rw [HO.out];rfl,0,rfl⟩
  ·have e2:decide ((x:Int)≤90) = false:=by simp;omega
   have HO:Hid (upR x = false):=by unfold Hid upR;simp;omega
   go_enter Tryz.func197,Tryz.ntmps197
   go_wp2
   go_ret
   exact ⟨by rw [HO.out];rfl,0,rfl⟩
 ·have e1:decide ((65:Int)≤(x:Int)) = false:=by simp;omega
  have HO:Hid (upR x = false):=by unfold Hid upR;simp;omega
  go_enter Tryz.func197,Tryz.ntmps197
  go_wp2
  go_ret
  exact ⟨by rw [HO.out];rfl,0,rfl⟩
theorem badR_any (x:Nat) (hx:x≤1114111) (w:World) :
  Calls Tryz.prog 200 #[.int .i32 (x:Int)] w fun e w'=>e = .returned (.bool (badR x))∧∃ q,w' = w.drewN q:=by
 have HO:Hid (badR x = (decide ((x:Int) < 33) || decide (126 < (x:Int)) || decide ((x:Int) = 34) || decide ((x:Int) = 60) || decide ((x:Int) = 62))):=by
  unfold Hid badR
  have a1:decide ((x:Int) < 33) = decide (x < 33):=decide_eq_decide.2 (by omega)
  have a2:decide (126 < (x:Int)) = decide (126 < x):=decide_eq_decide.2 (by omega)
  have a3:decide ((x:Int) = 34) = decide (x = 34):=decide_eq_decide.2 (by omega)
  have a4:decide ((x:Int) = 60) = decide (x = 60):=decide_eq_decide.2 (by omega)
  have a5:decide ((x:Int) = 62) = decide (x = 62):=decide_eq_decide.2 (by omega)
  rw [a1,a2,a3,a4,a5]
 go_enter Tryz.func200,Tryz.ntmps200
 go_wp2
 all_goals (
  go_ret
  refine ⟨ret_bool ?_,0,rfl⟩
  rw [HO.out,Bool.eq_iff_iff]
  simp
  try omega)
theorem decode_high (s:ByteArray) (pos:Nat) (h:128≤(s.get! pos).toNat):128≤(Utf8.decode s pos).1:=by
 rw [Lib.decode_at]
 have hb:=UInt8.toNat_lt (s.get! pos)
 generalize (s.get! pos).toNat = b0 at *
 unfold Lib.decodeN
 repeat' split
 all_goals (simp only;omega)
theorem idx_bytes (p:Nat→Bool) (s:ByteArray) (hp:(∀ x,128≤x→p x = true) ∨ ∀ c ∈ s.data.toList,c.toNat < 128):∀ (f pos:Nat),s.size≤pos + f→decide (0≤Lib.idxFuncFrom p true s f pos) = (s.data.toList.drop pos).any (fun c=>p c.toNat)
 | 0,pos,h=>by
  rw [List.drop_eq_nil_of_le (by rw [← Lib.size_eq];omega)];rfl
 | f + 1,pos,h=>by
  rw [Lib.idxFuncFrom]
  by_cases hlt:pos < s.size
  ·rw [if_pos hlt]
   have hl:pos < s.data.toList.length:=by rw [← Lib.size_eq];exact hlt
   rw [List.drop_eq_getElem_cons hl,List.any_cons]
   have e:s.data.toList[pos] = s[pos]'hlt:=rfl
   have eg:s.get! pos = s[pos]'hlt:=by simp [ByteArray.get!,getElem!_pos,hlt];rfl
   rw [e]
   by_cases ha:(s[pos]'hlt).toNat < 128
   ·rw [decode_ascii s pos hlt ha]
    cases hq:p (s[pos]'hlt).toNat with
    | true=>simp
    | false =>
     simp only [Bool.false_eq_true,if_false,Bool.false_or]
     exact idx_bytes p s hp f (pos + 1) (by omega)
   ·rcases hp with hp | hp
    ·rw [if_pos (hp _ (decode_high s pos (by rw [eg];omega))),hp _ (by omega)]
     simp
    ·exact absurd (hp _ (e ▸ List.getElem_mem hl)) ha
  ·rw [if_neg hlt,List.drop_eq_nil_of_le (by rw [← Lib.size_eq];omega)];rfl
theorem up_func (s:ByteArray) (ha:∀ c ∈ s.data.toList,c.toNat < 128) (w:World) :
  Calls Tryz.prog 118 #[.string s,.func (Fn.func 197) #[] #[]] w fun e w'=>e = .returned (.bool (s.data.toList.any fun c=>upR c.toNat))∧Below w.heap.size w w':=by
 refine (Tryz.strings_ContainsFunc_runes 197 #[] (enters_of Tryz.func197 (by kernel_rfl) rfl) upR s w (fun W x hx _=>upR_any x hx W)).mono ?_
 rintro e w' ⟨rfl,hb⟩
 refine ⟨?_,hb⟩
 rw [show Lib.idxFunc upR true s = Lib.idxFuncFrom upR true s s.size 0 from rfl,idx_bytes upR s (.inr ha) s.size 0 (by omega)]
 rfl
theorem bad_func (s:ByteArray) (w:World) :
  Calls Tryz.prog 118 #[.string s,.func (Fn.func 200) #[] #[]] w fun e w'=>e = .returned (.bool (s.data.toList.any fun c=>badR c.toNat))∧Below w.heap.size w w':=by
 refine (Tryz.strings_ContainsFunc_runes 200 #[] (enters_of Tryz.func200 (by kernel_rfl) rfl) badR s w (fun W x hx _=>badR_any x hx W)).mono ?_
 rintro e w' ⟨rfl,hb⟩
 refine ⟨?_,hb⟩
 rw [show Lib.idxFunc badR true s = Lib.idxFuncFrom badR true s s.size 0 from rfl,idx_bytes badR s (.inl fun x hx=>by unfold badR;simp;omega) s.size 0 (by omega)]
 rfl
theorem any_not (l:List UInt8):(!(l.any fun c=>badR c.toNat)) = l.all wordC:=by
 rw [List.not_any_eq_all_not]
 congr 1
 funext c
 have h34:(c == 34) = decide (c.toNat = 34):=by rw [Bool.eq_iff_iff];simp [← UInt8.toNat_inj]
 have h60:(c == 60) = decide (c.toNat = 60):=by rw [Bool.eq_iff_iff];simp [← UInt8.toNat_inj]
 have h62:(c == 62) = decide (c.toNat = 62):=by rw [Bool.eq_iff_iff];simp [← UInt8.toNat_inj]
 unfold badR wordC inB
 simp only [List.contains_cons,List.contains_nil,Bool.or_false,h34,h60,h62]
 rw [Bool.eq_iff_iff]
 simp
 omega
theorem pmany_any (s:ByteArray) (w:World) :
  Calls Tryz.prog 18 #[.string s] w fun e w'=>e = .returned (.bool (manyS s.data.toList))∧w' = w:=by
 have C:Hid (∀ w,Calls Tryz.prog 59 #[.string s,.string ⟨#[109,117,108,116,105,112,97,114,116,47]⟩] w fun e w'=>e = .returned (.bool (manyS s.data.toList))∧w' = w):=fun w=>by
  refine (Tryz.strings_HasPrefix s ⟨#[109,117,108,116,105,112,97,114,116,47]⟩ w).mono ?_
  rintro e w' ⟨rfl,rfl⟩
  exact ⟨rfl,rfl⟩
 generalize manyS s.data.toList = V at *
 go_enter Tryz.func18,Tryz.ntmps18
 go_wp2_with fail
 refine (C.out _).mono ?_
 rintro e w' ⟨rfl,hw'⟩
 have hw'':=hw'.symm
 subst hw''
 go_wp2
 go_ret
 exact ⟨rfl,rfl⟩
theorem pword_any (s:ByteArray) (w:World) (hs:s.size≤maxLen) :
  Calls Tryz.prog 167 #[.string s] w fun e w'=>e = .returned (.bool (wordS s.data.toList))∧Below w.heap.size w w':=by
 unfold maxLen at hs
 have hle:=Lib.size_eq s
 by_cases h2:s.size≤120
 ·have h2':(s.size:Int)≤120:=by omega
  have HN:Hid (wordS s.data.toList = !(s.data.toList.any fun c=>badR c.toNat)):=by unfold Hid wordS;rw [any_not,← hle];simp [h2]
  have C:Hid (∀ w,Calls Tryz.prog 118 #[.string s,.func (Fn.func 200) #[] #[]] w fun e w'=>e = .returned (.bool (s.data.toList.any fun c=>badR c.toNat))∧Below w.heap.size w w'):=fun w=>bad_func s w
  generalize (s.data.toList.any fun c=>badR c.toNat) = V at *
  clear hle
  go_enter Tryz.func167,Tryz.ntmps167
  go_wp2_with fail
  refine (C.out _).mono ?_
  rintro e w' ⟨rfl,hb⟩
  go_wp2
  go_ret
  exact ⟨by rw [HN.out];cases V <;> rfl,hb⟩
 ·have h2':decide ((s.size:Int)≤120) = false:=by simp;omega
  have HN:Hid (wordS s.data.toList = false):=by unfold Hid wordS;rw [← hle];simp;omega
  clear hle
  go_enter Tryz.func167,Tryz.ntmps167
  go_wp2
  go_ret
  exact ⟨by rw [HN.out];rfl,Below.refl _ _⟩
theorem tok_ascii (l:List UInt8) (h:tokenS l = true):∀ c ∈ l,c.toNat < 128:=by
 intro c hc
 unfold tokenS betw at h
 simp only [Bool.and_eq_true,List.all_eq_true] at h
 have:=h.2 c hc
 unfold inB at this
 simp at this
 omega
set_option maxHeartbeats 1000000 in
theorem ptype_any (s:ByteArray) (w:World) (hs:s.size≤maxLen) :
  Calls Tryz.prog 165 #[.string s] w fun e w'=>e = .returned (.bool (typeS s.data.toList))∧Below w.heap.size w w':=by
 unfold maxLen at hs
 cases hc:cutB 47 s.data.toList with
 | none =>
  have HN:Hid (typeS s.data.toList = false):=by unfold Hid typeS;rw [hc]
  have C:Hid (∀ w,Calls Tryz.prog 89 #[.string s,.string ⟨#[47]⟩] w fun e w'=>e = .returned (.tuple #[.string s,.string ⟨#[]⟩,.bool false])∧Below w.heap.size w w'):=fun w=>cut_none 47 s w hc
  clear hc
  go_enter Tryz.func165,Tryz.ntmps165
  go_wp2_with fail
  refine (C.out _).mono ?_
  rintro e w' ⟨rfl,hb⟩
  go_wp2
  go_ret
  exact ⟨by rw [HN.out];rfl,hb⟩
 | some x =>
  obtain ⟨a,r,hx,hsz⟩:=cut_parts hc
  subst hx
  have C:Hid (∀ w,Calls Tryz.prog 89 #[.string s,.string ⟨#[47]⟩] w fun e w'=>e = .returned (.tuple #[.string a,.string r,.bool true])∧Below w.heap.size w w'):=fun w=>cut_someW 47 s a r w (by omega) hc
  have HT:Hid (typeS s.data.toList = (tokenS a.data.toList && tokenS r.data.toList && !s.data.toList.any (fun c=>decide (65≤c.toNat) && decide (c.toNat≤90)))):=by unfold Hid typeS;rw [hc]
  have CA:Hid (∀ w,Calls Tryz.prog 166 #[.string a] w fun e w'=>e = .returned (.bool (tokenS a.data.toList))∧w' = w):=fun w=>htok_any a w (by unfold maxLen;omega)
  have CR:Hid (∀ w,Calls Tryz.prog 166 #[.string r] w fun e w'=>e = .returned (.bool (tokenS r.data.toList))∧w' = w):=fun w=>htok_any r w (by unfold maxLen;omega)
  have HA:Hid (tokenS a.data.toList = true→tokenS r.data.toList = true→∀ c ∈ s.data.toList,c.toNat < 128):=fun h1 h2 c hm=>by
   rw [(cutB_some 47 _ _ _ hc).1] at hm
   rcases List.mem_append.1 hm with h | h
   ·exact tok_ascii _ h1 c h
   ·rcases List.mem_cons.1 h with h | h
    ·subst h;decide
    ·exact tok_ascii _ h2 c h
  clear hc hsz
  cases ha:tokenS a.data.toList
  ·have HN:Hid (typeS s.data.toList = false):=by unfold Hid;rw [HT.out,ha];rfl
   rw [ha] at CA
   clear HT HA CR ha
   go_enter Tryz.func165,Tryz.ntmps165
   go_wp2_with fail
   refine (C.out _).mono ?_
   rintro e w' ⟨rfl,hb⟩
   go_wp2_with fail
   refine (CA.out _).mono ?_
   rintro e w2 ⟨rfl,hw'⟩
   have hw'':=hw'.symm
   subst hw''
   go_wp2
   go_ret
   exact ⟨by rw [HN.out];rfl,hb⟩
  ·cases hr:tokenS r.data.toList
   ·have HN:Hid (typeS s.data.toList = false):=by unfold Hid;rw [HT.out,ha,hr];rfl
    rw [ha] at CA
    rw [hr] at CR
    clear HT HA ha hr
    go_enter Tryz.func165,Tryz.ntmps165
    go_wp2_with fail
    refine (C.out _).mono ?_
    rintro e w' ⟨rfl,hb⟩
    go_wp2_with fail
    refine (CA.out _).mono ?_
    rintro e w2 ⟨rfl,hw'⟩
    have hw'':=hw'.symm
    subst hw''
    go_wp2_with fail
    refine (CR.out _).mono ?_
    rintro e w3 ⟨rfl,hw3⟩
    have hw4:=hw3.symm
    subst hw4
    go_wp2
    go_ret
    exact ⟨by rw [HN.out];rfl,hb⟩
   ·have HN:Hid (typeS s.data.toList = !(s.data.toList.any fun c=>upR c.toNat)):=by unfold Hid;rw [HT.out,ha,hr];rfl
    have CU:Hid (∀ w,Calls Tryz.prog 118 #[.string s,.func (Fn.func 197) #[] #[]] w fun e w'=>e = .returned (.bool (s.data.toList.any fun c=>upR c.toNat))∧Below w.heap.size w w'):=fun w=>up_func s (HA.out ha hr) w
    rw [ha] at CA
    rw [hr] at CR
    clear HT HA ha hr
    generalize (s.data.toList.any fun c=>upR c.toNat) = V at *
    go_enter Tryz.func165,Tryz.ntmps165
    go_wp2_with fail
    refine (C.out _).mono ?_
    rintro e w' ⟨rfl,hb⟩
    go_wp2_with fail
    refine (CA.out _).mono ?_
    rintro e w2 ⟨rfl,hw'⟩
    have hw'':=hw'.symm
    subst hw''
    go_wp2_with fail
    refine (CR.out _).mono ?_
    rintro e w3 ⟨rfl,hw3⟩
    have hw4:=hw3.symm
    subst hw4
    go_wp2_with fail
    refine (CU.out _).mono ?_
    rintro e w5 ⟨rfl,hb5⟩
    go_wp2
    go_ret
    exact ⟨by rw [HN.out];cases V <;> rfl,hb.trans (hb5.mono hb.size)⟩
end Go.Proofs.YtbbfcbodhmeanaaGreatDoor


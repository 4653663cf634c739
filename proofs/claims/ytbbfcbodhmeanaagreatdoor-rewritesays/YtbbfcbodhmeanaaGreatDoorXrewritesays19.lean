
import Derived.Test.YtbbfcbodhmeanaaGreatDoorXrewritesays18
import Derived.Laws.RangeAny
import Derived.Laws.Runes
import Derived.Lib.MapLaws
import Derived.Lib.OthersKept
namespace Go.Proofs.YtbbfcbodhmeanaaGreatDoor
open Go.RowKit
theorem valid_any (r:Nat) (h:r≤1114111) (hv:r < 55296 ∨ 57344≤r):Utf8.valid (r:Int) = true:=by
 unfold Utf8.valid
 simp
 omega
set_option maxHeartbeats 1000000 in
set_option maxRecDepth 100000 in
theorem irune_bad (w:World) :
  Calls Tryz.prog 183 #[.string ⟨#[58,47]⟩,.int .i32 65533] w fun e w'=>e = .returned (.int .i64 (-1))∧Below w.heap.size w w':=by
 go_enter Tryz.func183,Tryz.ntmps183
 go_wp2
 go_loopg [5,6] 2 (fun g _ _ wx=>∃ i:Nat,i + g = 2∧wx = w.iter ⟨#[58,47]⟩ i)
 case atStart=>exact ⟨0,by omega,rfl⟩
 case round =>
  obtain ⟨i,hig,rfl⟩:=hrel
  cases gk with
  | zero =>
   obtain rfl:i = 2:=by omega
   have hnx:=run_next_end (P:=Tryz.prog) w ⟨#[58,47]⟩ 2
   go_wp2
   go_ret
   exact ⟨rfl,(Below.refl _ _).alloc (Nat.le_refl _) _⟩
  | succ g =>
   rcases (show i = 0 ∨ i = 1 by omega) with rfl | rfl
   ·have hnx:=fun ty=>run_next_ascii (P:=Tryz.prog) w ⟨#[58,47]⟩ 0 ty (by decide) (by decide)
    go_wp2
    go_roundg g
    case measure=>omega
    case rel=>exact ⟨1,by omega,rfl⟩
   ·have hnx:=fun ty=>run_next_ascii (P:=Tryz.prog) w ⟨#[58,47]⟩ 1 ty (by decide) (by decide)
    go_wp2
    go_roundg g
    case measure=>omega
    case rel=>exact ⟨2,by omega,rfl⟩
theorem idx_nil (Y:ByteArray) (hY:Y.data.toList = []) (z:Int) (w:World) :
  Calls Tryz.prog 93 #[.string Y,.int .u8 z] w fun e w'=>e = .returned (.int .i64 (-1))∧w' = w:=by
 refine (Tryz.strings_IndexByte Y z w).mono ?_
 rintro e w' ⟨rfl,rfl⟩
 rw [hY]
 exact ⟨rfl,rfl⟩
theorem enc_forms (r:Int) (hv:Utf8.valid r = true) (h128:128≤r) :
  (∃ a b:UInt8,Utf8.encode r = ⟨#[a,b]⟩∧128≤b.toNat) ∨ (∃ a b c:UInt8,Utf8.encode r = ⟨#[a,b,c]⟩) ∨ (∃ a b c d:UInt8,Utf8.encode r = ⟨#[a,b,c,d]⟩):=by
 have hc:¬ r.toNat < 128:=by omega
 unfold Utf8.encode
 simp only [hv,if_true,hc,if_false]
 split
 ·refine .inl ⟨_,_,rfl,?_⟩
  simp;omega
 ·split
  ·exact .inr (.inl ⟨_,_,_,rfl⟩)
  ·exact .inr (.inr ⟨_,_,_,_,rfl⟩)
set_option maxHeartbeats 1000000 in
set_option maxRecDepth 100000 in
theorem irune_three (ri:Int) (a b c:UInt8) (hX:Utf8.encode ri = ⟨#[a,b,c]⟩) (hnb:(ri == 65533) = false) (hlt:decide (ri < 128) = false) (h0:0≤ri) (w:World)
  (CV:Hid (∀ w,Calls Tryz.prog 206 #[.int .i32 ri] w fun e w'=>e = .returned (.bool true)∧w' = w)) :
  Calls Tryz.prog 183 #[.string ⟨#[58,47]⟩,.int .i32 ri] w fun e w'=>e = .returned (.int .i64 (-1))∧Below w.heap.size w w':=by
 go_enter Tryz.func183,Tryz.ntmps183
 go_wp2_with fail
 refine (CV.out _).mono ?_
 rintro e w' ⟨rfl,hw'⟩
 have hw'':=hw'.symm
 subst hw''
 clear CV
 go_wp2_with fail
 refine wp_scope_straight ?_
 go_wp2
 go_loop [9] (fun iv=>iv = .int .i64 2) (fun _=>0)
 case atStart=>rfl
 case round =>
  subst hrel
  go_wp2
  go_ret
  exact ⟨rfl,Below.refl _ _⟩
set_option maxHeartbeats 1000000 in
set_option maxRecDepth 100000 in
theorem irune_four (ri:Int) (a b c d:UInt8) (hX:Utf8.encode ri = ⟨#[a,b,c,d]⟩) (hnb:(ri == 65533) = false) (hlt:decide (ri < 128) = false) (h0:0≤ri) (w:World)
  (CV:Hid (∀ w,Calls Tryz.prog 206 #[.int .i32 ri] w fun e w'=>e = .returned (.bool true)∧w' = w)) :
  Calls Tryz.prog 183 #[.string ⟨#[58,47]⟩,.int .i32 ri] w fun e w'=>e = .returned (.int .i64 (-1))∧Below w.heap.size w w':=by
 go_enter Tryz.func183,Tryz.ntmps183
 go_wp2_with fail
 refine (CV.out _).mono ?_
 rintro e w' ⟨rfl,hw'⟩
 have hw'':=hw'.symm
 subst hw''
 clear CV
 go_wp2_with fail
 refine wp_scope_straight ?_
 go_wp2
 go_loop [9] (fun iv=>iv = .int .i64 3) (fun _=>0)
 case atStart=>rfl
 case round =>
  subst hrel
  go_wp2
  go_ret
  exact ⟨rfl,Below.refl _ _⟩
set_option maxHeartbeats 1000000 in
set_option maxRecDepth 100000 in
theorem irune_two (ri:Int) (a b:UInt8) (hX:Utf8.encode ri = ⟨#[a,b]⟩) (hb:((47:Int) == (b.toNat:Int)) = false) (hnb:(ri == 65533) = false) (hlt:decide (ri < 128) = false) (h0:0≤ri) (w:World)
  (CV:Hid (∀ w,Calls Tryz.prog 206 #[.int .i32 ri] w fun e w'=>e = .returned (.bool true)∧w' = w)) :
  Calls Tryz.prog 183 #[.string ⟨#[58,47]⟩,.int .i32 ri] w fun e w'=>e = .returned (.int .i64 (-1))∧Below w.heap.size w w':=by
 go_enter Tryz.func183,Tryz.ntmps183
 go_wp2_with fail
 refine (CV.out _).mono ?_
 rintro e w' ⟨rfl,hw'⟩
 have hw'':=hw'.symm
 subst hw''
 clear CV
 go_wp2_with fail
 refine wp_scope_straight ?_
 go_wp2
 go_loop [9] (fun iv=>iv = .int .i64 1) (fun _=>0)
 case atStart=>rfl
 case round =>
  subst hrel
  go_wp2
  refine wp_scope_straight ?_
  have hbx:((((⟨#[58,47]⟩:ByteArray)[1]'(by decide)).toNat:Int) != (((⟨#[a,b]⟩:ByteArray)[1]'(by show 1 < 2;omega)).toNat:Int)) = true:=by
   show (!((47:Int) == (b.toNat:Int))) = true
   rw [hb];rfl
  go_wp2
  go_region
  go_wp2
  go_region_with (go_at_call 93;refine (idx_nil _ rfl _ _).mono ?_;rintro e w3 ⟨rfl,hw3⟩;have hw4:=hw3.symm;subst hw4)
  all_goals (
   go_wp2
   simp only [Exit.noGoto,Exit.inBlock]
   simp (config:={ zetaDelta:=true }) only [Exit.noGoto,Exit.inBlock,Exit.then]
   go_ret
   refine ⟨rfl,?_⟩
   repeat (first | exact Below.refl _ _ | refine Below.drew ?_))
theorem irune_any (r:Nat) (h:128≤r) (h2:r≤1114111) (hv:r < 55296 ∨ 57344≤r) (w:World) :
  Calls Tryz.prog 183 #[.string ⟨#[58,47]⟩,.int .i32 (r:Int)] w fun e w'=>e = .returned (.int .i64 (-1))∧Below w.heap.size w w':=by
 by_cases hn:r = 65533
 ·subst hn
  exact irune_bad w
 ·have hvv:=valid_any r h2 hv
  have hnb:((r:Int) == 65533) = false:=by rw [beq_eq_false_iff_ne];omega
  have hlt:decide ((r:Int) < 128) = false:=by simp;omega
  have h0:(0:Int)≤(r:Int):=by omega
  have CV:Hid (∀ w,Calls Tryz.prog 206 #[.int .i32 (r:Int)] w fun e w'=>e = .returned (.bool true)∧w' = w):=fun w=>by
   refine (Tryz.utf8_ValidRune (r:Int) w).mono ?_
   rintro e w' ⟨rfl,rfl⟩
   refine ⟨?_,rfl⟩
   rw [show Lib.validRune (r:Int) = true from by unfold Lib.validRune;simp;omega]
  rcases enc_forms (r:Int) hvv (by omega) with ⟨a,b,e,hb⟩ | ⟨a,b,c,e⟩ | ⟨a,b,c,d,e⟩
  ·exact irune_two _ a b e (by rw [beq_eq_false_iff_ne];omega) hnb hlt h0 w CV
  ·exact irune_three _ a b c e hnb hlt h0 w CV
  ·exact irune_four _ a b c d e hnb hlt h0 w CV
def sgn (c:UInt8):Bool:=(c == 58) || (c == 47)
def idxS (l:List UInt8):Int:=match l.findIdx? sgn with | none=>-1 | some k=>(k:Int)
theorem idxS_none {l:List UInt8} (h:∀ c ∈ l,sgn c = false):idxS l = -1:=by
 unfold idxS
 rw [List.findIdx?_eq_none_iff.2 (fun x hx=>by simp [h x hx])]
theorem idxS_at {l:List UInt8} (k:Nat) (hk:k < l.length) (h1:sgn l[k] = true) (h2:∀ j,(hj:j < k)→sgn (l[j]'(by omega)) = false):idxS l = (k:Int):=by
 unfold idxS
 rw [List.findIdx?_eq_some_iff_getElem.2 ⟨hk,h1,fun j hj=>by rw [h2 j hj];simp⟩]
def NoS (l:List UInt8) (k:Nat):Prop:=∀ j,j < k→(hj:j < l.length)→sgn l[j] = false
theorem NoS.all {l:List UInt8} (h:NoS l l.length):idxS l = -1:=idxS_none (fun c hc=>by
 obtain ⟨j,hj,rfl⟩:=List.getElem_of_mem hc
 exact h j hj hj)
theorem NoS.hit {l:List UInt8} {k:Nat} (h:NoS l k) (hk:k < l.length) (h1:sgn l[k] = true):idxS l = (k:Int):=idxS_at k hk h1 (fun j hj=>h j hj (by omega))
theorem get_bang (s:ByteArray) (i:Nat) (h:i < s.size):s.get! i = s.data.toList[i]'(by rw [← Lib.size_eq];exact h):=by
 simp [ByteArray.get!,getElem!_pos,h]
theorem sgn_high {c:UInt8} (h:128≤c.toNat):sgn c = false:=by
 unfold sgn
 rw [Bool.or_eq_false_iff,beq_eq_false_iff_ne,beq_eq_false_iff_ne]
 exact ⟨fun e=>by subst e;exact absurd h (by decide),fun e=>by subst e;exact absurd h (by decide)⟩
theorem decode_run (s:ByteArray) (i:Nat) (hi:i < s.size) (h:128≤(s.get! i).toNat):128≤(Utf8.decode s i).1∧(Utf8.decode s i).1≤1114111∧((Utf8.decode s i).1 < 55296 ∨ 57344≤(Utf8.decode s i).1)∧1≤(Utf8.decode s i).2∧i + (Utf8.decode s i).2≤s.size ∧
  ∀ j,i≤j→j < i + (Utf8.decode s i).2→128≤(s.get! j).toNat:=by
 rw [Lib.decode_at]
 have b0:=(s.get! i).toNat_lt
 have b1:=(s.get! (i + 1)).toNat_lt
 have b2:=(s.get! (i + 2)).toNat_lt
 have b3:=(s.get! (i + 3)).toNat_lt
 rcases Lib.decodeN_shape (s.size - i) (s.get! i).toNat (s.get! (i + 1)).toNat (s.get! (i + 2)).toNat (s.get! (i + 3)).toNat with ⟨h0,_⟩ | ⟨h0,h1,h2,h3,e⟩ | ⟨h0,h1,h2,h3,h4,h5,e⟩ | ⟨h0,h1,h2,h3,h4,h5,h6,e⟩ | e
 ·omega
 ·rw [e]
  simp only
  refine ⟨by omega,by omega,by omega,by omega,by omega,fun j hj1 hj2=>?_⟩
  rcases (show j = i ∨ j = i + 1 by omega) with rfl | rfl
  ·exact h
  ·omega
 ·rw [e]
  simp only
  refine ⟨by omega,by omega,by omega,by omega,by omega,fun j hj1 hj2=>?_⟩
  rcases (show j = i ∨ j = i + 1 ∨ j = i + 2 by omega) with rfl | rfl | rfl
  ·exact h
  ·omega
  ·omega
 ·rw [e]
  simp only
  refine ⟨by omega,by omega,by omega,by omega,by omega,fun j hj1 hj2=>?_⟩
  rcases (show j = i ∨ j = i + 1 ∨ j = i + 2 ∨ j = i + 3 by omega) with rfl | rfl | rfl | rfl
  ·exact h
  ·omega
  ·omega
  ·omega
 ·rw [e]
  simp only
  refine ⟨by omega,by omega,by omega,by omega,by omega,fun j hj1 hj2=>?_⟩
  obtain rfl:j = i:=by omega
  exact h
theorem NoS.run {s:ByteArray} {i:Nat} (h:NoS s.data.toList i) (hi:i < s.size) (h8:128≤(s.get! i).toNat):NoS s.data.toList (i + (Utf8.decode s i).2):=by
 obtain ⟨_,_,_,_,_,hr⟩:=decode_run s i hi h8
 intro j hj hl
 by_cases hji:j < i
 ·exact h j hji hl
 ·have:=hr j (by omega) hj
  rw [get_bang s j (by rw [Lib.size_eq];exact hl)] at this
  exact sgn_high this
theorem NoS.one {l:List UInt8} {k:Nat} (h:NoS l k) (hk:k < l.length) (h1:sgn l[k] = false):NoS l (k + 1):=by
 intro j hj hl
 by_cases hjk:j < k
 ·exact h j hjk hl
 ·obtain rfl:j = k:=by omega
  exact h1
theorem sgn_index (x:UInt8):decide (0≤Lib.indexByte [58,47] x) = sgn x:=by
 rw [indexByte_mem]
 unfold sgn
 rw [List.contains_cons,List.contains_cons,List.contains_nil,Bool.or_false]
set_option maxHeartbeats 4000000 in
set_option maxRecDepth 100000 in
theorem iany_short (s:ByteArray) (w:World) (h8:s.size≤8) :
  Calls Tryz.prog 139 #[.string s,.string ⟨#[58,47]⟩] w fun e w'=>e = .returned (.int .i64 (idxS s.data.toList))∧Below w.heap.size w w':=by
 have h8z:decide ((8:Int) < (s.size:Int)) = false:=decide_eq_false (by omega)
 go_enter Tryz.func139,Tryz.ntmps139
 go_wp2_with (go_at_call 184;refine (Tryz.strings_shouldUseASCIISet _ _).mono ?_;rintro e w' ⟨rfl,hw⟩;rw [hw,h8z])
 go_loopg [9,10] s.size (fun g _ _ wx=>∃ i:Nat,i≤s.size∧s.size≤i + g∧wx.heap[w.heap.size]? = some (.stringIter s i)∧Below w.heap.size w wx∧Hid (NoS s.data.toList i))
 case atStart=>exact ⟨0,Nat.zero_le _,by omega,World.iter_heap _ _ _,(Below.refl _ _).alloc (Nat.le_refl _) _,fun j hj=>absurd hj (Nat.not_lt_zero _)⟩
 case round =>
  obtain ⟨i,hi1,hi2,hk,hbel,HN⟩:=hrel
  by_cases hi:i < s.size
  ·have hil:i < s.data.toList.length:=by rw [← Lib.size_eq];exact hi
   have hgb:=get_bang s i hi
   by_cases ha:(s.get! i).toNat < 128
   ·have hse:s[i]'hi = s.data.toList[i]'hil:=rfl
    obtain ⟨x,hx⟩:∃ x:UInt8,s[i]'hi = x:=⟨_,rfl⟩
    have hxl:s.data.toList[i]'hil = x:=by rw [← hse,hx]
    have hx128:x.toNat < 128:=by rw [← hxl,← hgb];exact ha
    have hnx:=fun ty=>Lib.run_next_ascii_at (P:=Tryz.prog) wr w.heap.size s i ty hk hi (by rw [hx];exact hx128)
    rw [hx] at hnx
    have hk2:=Lib.iterAt_heap wr w.heap.size s i (i + 1) hk
    have hb2:=Lib.below_iterAt hbel (Nat.le_refl _) s (i + 1)
    have hcon:=sgn_index x
    have hback:((x.toNat:Int)).toNat.toUInt8 = x:=by simp
    have CR:Hid (∀ W,Calls Tryz.prog 183 #[.string ⟨#[58,47]⟩,.int .i32 (x.toNat:Int)] W fun e w'=>e = .returned (.int .i64 (Lib.indexByte [58,47] x))∧w' = W):=fun W=>by
     refine (Tryz.strings_IndexRune_ascii ⟨#[58,47]⟩ (x.toNat:Int) W (by omega) (by omega)).mono ?_
     rintro e w' ⟨rfl,rfl⟩
     rw [hback]
     exact ⟨rfl,rfl⟩
    cases hin:sgn x
    ·rw [hin] at hcon
     have hlt:¬ ((0:Int)≤Lib.indexByte [58,47] x):=of_decide_eq_false hcon
     have HN2:Hid (NoS s.data.toList (i + 1)):=HN.out.one hil (by rw [hxl];exact hin)
     clear hcon hgb hse hxl ha hback hin HN
     generalize Lib.indexByte [58,47] x = ix at *
     go_wp2_with (go_at_call 183;refine (CR.out _).mono ?_;rintro e w' ⟨rfl,hw'⟩;have hw'':=hw'.symm;subst hw'')
     go_roundg (gk - 1)
     case measure=>omega
     case rel=>exact ⟨i + 1,by omega,by omega,hk2,hb2,HN2⟩
    ·rw [hin] at hcon
     have hge:(0:Int)≤Lib.indexByte [58,47] x:=of_decide_eq_true hcon
     have HE:Hid (idxS s.data.toList = (i:Int)):=HN.out.hit hil (by rw [hxl];exact hin)
     clear hcon hgb hse hxl ha hback hin HN
     generalize Lib.indexByte [58,47] x = ix at *
     go_wp2_with (go_at_call 183;refine (CR.out _).mono ?_;rintro e w' ⟨rfl,hw'⟩;have hw'':=hw'.symm;subst hw'')
     go_ret
     exact ⟨by rw [HE.out];rfl,hb2⟩
   ·obtain ⟨d1,d2,d3,d4,d5,_⟩:=decode_run s i hi (by omega)
    have HN2:Hid (NoS s.data.toList (i + (Utf8.decode s i).2)):=HN.out.run hi (by omega)
    have CR:Hid (∀ W,Calls Tryz.prog 183 #[.string ⟨#[58,47]⟩,.int .i32 ((Utf8.decode s i).1:Int)] W fun e w'=>e = .returned (.int .i64 (-1))∧Below W.heap.size W w'):=fun W=>irune_any _ d1 d2 d3 W
    have hnx:=fun ty=>Lib.run_next_any_at (P:=Tryz.prog) wr w.heap.size s i ty hk hi
    have hk2:=Lib.iterAt_heap wr w.heap.size s i (i + (Utf8.decode s i).2) hk
    have hb2:=Lib.below_iterAt hbel (Nat.le_refl _) s (i + (Utf8.decode s i).2)
    clear hgb ha HN d1 d2 d3
    generalize (Utf8.decode s i).1 = rr at *
    generalize (Utf8.decode s i).2 = nn at *
    generalize wr.iterAt w.heap.size s (i + nn) = wy at *
    go_wp2_with (go_at_call 183;refine (CR.out _).mono ?_;rintro e w3 ⟨rfl,hb3⟩)
    have hlt9:w.heap.size < wy.heap.size:=(Array.getElem?_eq_some_iff.1 hk2).1
    have hk3:w3.heap[w.heap.size]? = some (.stringIter s (i + nn)):=by rw [hb3.block _ hlt9];exact hk2
    have hb4:Below w.heap.size w w3:=hb2.trans (hb3.mono (by omega))
    go_roundg (gk - 1)
    case measure=>omega
    case rel=>exact ⟨i + nn,by omega,by omega,hk3,hb4,HN2⟩
  ·obtain rfl:i = s.size:=by omega
   have HE:Hid (idxS s.data.toList = -1):=by
    have:=HN.out
    rw [Lib.size_eq] at this
    exact this.all
   have hnx:=fun ty=>Lib.run_next_end_at (P:=Tryz.prog) wr w.heap.size s s.size ty hk hi
   clear HN
   go_wp2
   go_ret
   exact ⟨by rw [HE.out];rfl,hbel⟩
set_option maxHeartbeats 4000000 in
set_option maxRecDepth 100000 in
theorem iany_long (s:ByteArray) (w:World) (h8:8 < s.size) (hs:s.size≤1000000) :
  Calls Tryz.prog 139 #[.string s,.string ⟨#[58,47]⟩] w fun e w'=>e = .returned (.int .i64 (idxS s.data.toList))∧Below w.heap.size w w':=by
 have h8z:decide ((8:Int) < (s.size:Int)) = true:=decide_eq_true (by omega)
 have HM:=Tryz.strings_makeASCIISet zero256 ⟨#[58,47]⟩ w (by decide) (fun j b hb=>by
  have:b ∈ [(58:UInt8),47]:=List.mem_of_getElem? hb
  simp at this
  rcases this with rfl | rfl <;> decide)
 have HS1:Hid ((Lib.setCells (ByteArray.mk #[58,47]).data.toList).size = 256):=Lib.setCells_size _
 have HS2:Hid (∀ c:UInt8,(Lib.setCells (ByteArray.mk #[58,47]).data.toList)[c.toNat]? = some (.bool ((ByteArray.mk #[58,47]).data.toList.contains c))):=fun c=>Lib.setCells_at _ c
 have HS3:Hid ((Lib.setCells (ByteArray.mk #[58,47]).data.toList).all (·.oneCell') = true):=Lib.setCells_one _
 generalize Lib.setCells (ByteArray.mk #[58,47]).data.toList = SA at *
 have HMM:Hid (Calls Tryz.prog 122 #[.string ⟨#[58,47]⟩] w _):=HM
 clear HM
 have hA1:=HS1.out
 have hsc:(storeCells ⟨w.heap.size + 1,0,none⟩ SA.toList 0).run Tryz.prog ((w.alloc (.cells SA 152)).alloc (.cells Tryz.zeroCells152 152)) = .ok () ((w.alloc (.cells SA 152)).alloc (.cells SA 152)):=by
  have:=run_storeCells_new (P:=Tryz.prog) (w.alloc (.cells SA 152)) 152 Tryz.zeroCells152 SA (by rw [hA1];kernel_rfl) (by rw [hA1];kernel_rfl) HS3.out
  simpa using this
 have HC:Hid (∀ c:UInt8,((w.alloc (.cells SA 152)).alloc (.cells SA 152)).cell? ⟨w.heap.size + 1,c.toNat,none⟩ = some (.bool (sgn c))):=fun c=>by
  rw [World.cell?_alloc_at _ _ _ _ (by simp),HS2.out c]
  unfold sgn
  rw [List.contains_cons,List.contains_cons,List.contains_nil,Bool.or_false]
 have hb2:Below w.heap.size w ((w.alloc (.cells SA 152)).alloc (.cells SA 152)):=((Below.refl _ _).alloc (Nat.le_refl _) _).alloc (by simp) _
 go_enter Tryz.func139,Tryz.ntmps139
 go_wp2_with (go_at_call 184;refine (Tryz.strings_shouldUseASCIISet _ _).mono ?_;rintro e w' ⟨rfl,hw⟩;rw [hw,h8z])
 refine HMM.out.mono ?_
 rintro e w1 ⟨rfl,rfl⟩
 clear HMM
 go_wp2_with fail
 clear hsc hA1
 generalize ((w.alloc (.cells SA 152)).alloc (.cells SA 152)) = w2 at *
 go_loopw [8] (fun v wr=>∃ i:Nat,v = .int .i64 i∧i≤s.size∧wr = w2∧Hid (NoS s.data.toList i)) (fun v _=>s.size - (intOf v).toNat)
 case atStart=>exact ⟨0,rfl,Nat.zero_le _,rfl,fun j hj=>absurd hj (Nat.not_lt_zero _)⟩
 case round =>
  obtain ⟨i,rfl,hi1,rfl,HN⟩:=hrel
  by_cases hi:i < s.size
  ·have hil:i < s.data.toList.length:=by rw [← Lib.size_eq];exact hi
   have hse:s[i]'hi = s.data.toList[i]'hil:=rfl
   have hcell:=HC.out (s[i]'hi)
   cases hin:sgn (s[i]'hi)
   ·have HN2:Hid (NoS s.data.toList (i + 1)):=HN.out.one hil (by rw [← hse];exact hin)
    rw [hin] at hcell
    clear hse hin HN
    go_wp2_with (go_at_call 161;refine (in_set (w.heap.size + 1) (s[i]'hi) _ rfl false _ hcell).mono ?_;rintro e w' ⟨rfl,hw'⟩;have hw'':=hw'.symm;subst hw'')
    go_roundw
    case rel=>exact ⟨i + 1,by go_num,by omega,trivial,HN2⟩
    case measure=>simp [intOf];omega
   ·have HE:Hid (idxS s.data.toList = (i:Int)):=HN.out.hit hil (by rw [← hse];exact hin)
    rw [hin] at hcell
    clear hse hin HN
    go_wp2_with (go_at_call 161;refine (in_set (w.heap.size + 1) (s[i]'hi) _ rfl true _ hcell).mono ?_;rintro e w' ⟨rfl,hw'⟩;have hw'':=hw'.symm;subst hw'')
    go_ret
    exact ⟨by rw [HE.out];rfl,hb2⟩
  ·obtain rfl:i = s.size:=by omega
   have HE:Hid (idxS s.data.toList = -1):=by
    have:=HN.out
    rw [Lib.size_eq] at this
    exact this.all
   clear HN
   go_wp2
   go_ret
   exact ⟨by rw [HE.out];rfl,hb2⟩
theorem iany_any (s:ByteArray) (w:World) (hs:s.size≤1000000) :
  Calls Tryz.prog 139 #[.string s,.string ⟨#[58,47]⟩] w fun e w'=>e = .returned (.int .i64 (idxS s.data.toList))∧Below w.heap.size w w':=by
 by_cases h:s.size≤8
 ·exact iany_short s w h
 ·exact iany_long s w (by omega) hs
end Go.Proofs.YtbbfcbodhmeanaaGreatDoor


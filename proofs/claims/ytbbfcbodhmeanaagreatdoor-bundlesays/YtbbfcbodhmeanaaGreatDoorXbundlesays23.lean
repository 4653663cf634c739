
import Derived.Test.YtbbfcbodhmeanaaGreatDoorXbundlesays22
namespace Go.Proofs.YtbbfcbodhmeanaaGreatDoor
open Go.RowKit
theorem take_ten (l:List UInt8):manyS l = decide (l.take 10 = multi):=by
 unfold manyS Lib.hasPrefix
 rw [Bool.eq_iff_iff,List.isPrefixOf_iff_prefix,List.prefix_iff_eq_take]
 simp only [decide_eq_true_eq]
 exact ⟨fun h=>h.symm,fun h=>h.symm⟩
theorem rmany_any (s:ByteArray) (w:World) (hs:s.size≤maxLen) :
  Calls Tryz.prog 45 #[.string s] w fun e w'=>e = .returned (.bool (manyS s.data.toList))∧w' = w:=by
 unfold maxLen at hs
 have hle:=Lib.size_eq s
 by_cases h10:10≤s.size
 ·have h10':(10:Int)≤(s.size:Int):=by omega
  obtain ⟨X,hX⟩:∃ X,s.extract 0 10 = X:=⟨_,rfl⟩
  have hXl:X.data.toList = s.data.toList.take 10:=by rw [← hX,Lib.extract_data];simp
  have HN:Hid (manyS s.data.toList = decide (X.data.toList = multi)):=by unfold Hid;rw [hXl];exact take_ten _
  have e1:(X.toList == (⟨#[109,117,108,116,105,112,97,114,116,47]⟩:ByteArray).toList) = decide (X.data.toList = multi):=by
   rw [ByteArray.toList_eq,ByteArray.toList_eq,Bool.eq_iff_iff,beq_iff_eq,decide_eq_true_eq];exact Iff.rfl
  have e2:(X.toList == [109,117,108,116,105,112,97,114,116,47]) = decide (X.data.toList = multi):=by
   rw [ByteArray.toList_eq,Bool.eq_iff_iff,beq_iff_eq,decide_eq_true_eq];exact Iff.rfl
  generalize decide (X.data.toList = multi) = T at *
  clear hXl hle
  go_enter Tryz.func45,Tryz.ntmps45
  go_wp2_with fail
  go_ret
  exact ⟨by rw [HN.out];first | rfl | (rw [e1];rfl) | (rw [e2];rfl) | (simp [e1,e2]),rfl⟩
 ·have h10':decide ((10:Int)≤(s.size:Int)) = false:=by simp;omega
  have HN:Hid (manyS s.data.toList = false):=by
   unfold Hid
   rw [take_ten]
   apply decide_eq_false
   intro h
   have:=congrArg List.length h
   rw [List.length_take,← hle] at this
   simp [multi] at this
   omega
  clear hle
  go_enter Tryz.func45,Tryz.ntmps45
  go_wp2_with fail
  go_ret
  exact ⟨by rw [HN.out];rfl,rfl⟩
theorem rword_any (s:ByteArray) (w:World) (hs:s.size≤maxLen) :
  Calls Tryz.prog 48 #[.string s] w fun e w'=>e = .returned (.bool (wordS s.data.toList))∧w' = w:=by
 unfold maxLen at hs
 have hle:=Lib.size_eq s
 by_cases h2:s.size≤120
 ·have h2':(s.size:Int)≤120:=by omega
  have HN:Hid (wordS s.data.toList = betw 33 126 [34,60,62] s.data.toList):=by unfold Hid wordS betw;rw [← hle];simp [h2];rfl
  have C:Hid (∀ w,Calls Tryz.prog 88 #[.string s,.int .u8 33,.int .u8 126,.string ⟨#[34,60,62]⟩] w fun e w'=>e = .returned (.bool (betw 33 126 [34,60,62] s.data.toList))∧w' = w):=fun w=>between_any s ⟨#[34,60,62]⟩ [34,60,62] rfl 33 126 33 126 rfl rfl w (by omega)
  generalize betw 33 126 [34,60,62] s.data.toList = V at *
  clear hle
  go_enter Tryz.func48,Tryz.ntmps48
  go_wp2_with fail
  refine (C.out _).mono ?_
  rintro e w' ⟨rfl,hw'⟩
  have hw'':=hw'.symm
  subst hw''
  go_wp2_with fail
  go_ret
  exact ⟨by rw [HN.out];rfl,rfl⟩
 ·have h2':decide ((s.size:Int)≤120) = false:=by simp;omega
  have HN:Hid (wordS s.data.toList = false):=by unfold Hid wordS;rw [← hle];simp;omega
  clear hle
  go_enter Tryz.func48,Tryz.ntmps48
  go_wp2_with fail
  go_ret
  exact ⟨by rw [HN.out];rfl,rfl⟩
theorem low_every:((List.range 256).all fun n=>decide (Lib.lowerB (UInt8.ofNat n) = UInt8.ofNat n) == !upR n) = true:=by decide +kernel
theorem low_sameT (c:UInt8):Lib.lowerB c = c ↔ upR c.toNat = false:=by
 have h:=List.all_eq_true.1 low_every c.toNat (by rw [List.mem_range];exact UInt8.toNat_lt c)
 rw [UInt8.ofNat_toNat,beq_iff_eq] at h
 constructor
 ·intro e
  rw [decide_eq_true e] at h
  simpa using h.symm
 ·intro e
  rw [e] at h
  simpa using h
theorem small_same:∀ l:List UInt8,decide (small8 l = l) = !(l.any fun c=>upR c.toNat)
 | []=>rfl
 | c::l=>by
  have ih:=small_same l
  have hc:=low_sameT c
  rw [List.any_cons,Bool.eq_iff_iff]
  rw [Bool.eq_iff_iff] at ih
  have e:small8 (c::l) = Lib.lowerB c::small8 l:=rfl
  rw [e]
  simp only [decide_eq_true_eq,List.cons.injEq,Bool.not_or,Bool.and_eq_true,Bool.not_eq_true'] at ih ⊢
  rw [ih,hc]
set_option maxHeartbeats 1000000 in
set_option maxRecDepth 100000 in
theorem rtype_any (s:ByteArray) (w:World) (hs:s.size≤maxLen) (hT:∀ w',Below w.heap.size w w'→Lib.Utf8Tabs 1 2 w') :
  Calls Tryz.prog 46 #[.string s] w fun e w'=>e = .returned (.bool (typeS s.data.toList))∧Below w.heap.size w w':=by
 unfold maxLen at hs
 have C0:=fun w=>Tryz.strings_Index_one s 47 w
 cases hc:cutB 47 s.data.toList with
 | none =>
  have HN:Hid (typeS s.data.toList = false):=by unfold Hid typeS;rw [hc]
  have C:Hid (∀ w,Calls Tryz.prog 86 #[.string s,.string ⟨#[47]⟩] w fun e w'=>e = .returned (.int .i64 (-1))∧w' = w):=fun w=>by
   have:=C0 w
   rwa [indexByte_where,whereB_none hc] at this
  clear hc C0 hT
  go_enter Tryz.func46,Tryz.ntmps46
  go_wp2_with fail
  refine (C.out _).mono ?_
  rintro e w' ⟨rfl,hw'⟩
  have hw'':=hw'.symm
  subst hw''
  go_wp2_with fail
  go_ret
  exact ⟨by rw [HN.out];rfl,Below.refl _ _⟩
 | some x =>
  obtain ⟨a,r,hx,hsz⟩:=cut_parts hc
  subst hx
  obtain ⟨A,R,h1,h2,h3,h4,h5⟩:=ba_cut 47 s _ _ (cutB_some 47 _ _ _ hc).1
  have hA:=ba_inj h3
  have hR:=ba_inj h4
  subst hA hR
  obtain ⟨I,hI⟩:∃ I,I = A.data.toList.length:=⟨_,rfl⟩
  rw [← hI] at h1 h2 h5
  have C:Hid (∀ w,Calls Tryz.prog 86 #[.string s,.string ⟨#[47]⟩] w fun e w'=>e = .returned (.int .i64 (I:Int))∧w' = w):=fun w=>by
   have:=C0 w
   rw [indexByte_where,whereB_some hc] at this
   rw [hI]
   exact this
  have hI1:(I:Int)≤(s.size:Int):=by omega
  have hI2:(I:Int) + 1≤(s.size:Int):=by omega
  have HT:Hid (typeS s.data.toList = (tokenS A.data.toList && tokenS R.data.toList && !s.data.toList.any (fun c=>decide (65≤c.toNat) && decide (c.toNat≤90)))):=by unfold Hid typeS;rw [hc]
  have CA:Hid (∀ w,Calls Tryz.prog 47 #[.string A] w fun e w'=>e = .returned (.bool (tokenS A.data.toList))∧w' = w):=fun w=>token_any A w (by unfold maxLen;omega)
  have CR:Hid (∀ w,Calls Tryz.prog 47 #[.string R] w fun e w'=>e = .returned (.bool (tokenS R.data.toList))∧w' = w):=fun w=>token_any R w (by unfold maxLen;omega)
  have HA:Hid (tokenS A.data.toList = true→tokenS R.data.toList = true→s.data.toList.length≤1000000∧∀ c ∈ s.data.toList,c.toNat < 128):=fun h1 h2=>by
   have l1:A.data.toList.length≤30:=by unfold tokenS at h1;simp at h1;simpa using h1.1.2
   have l2:R.data.toList.length≤30:=by unfold tokenS at h2;simp at h2;simpa using h2.1.2
   refine ⟨?_,fun c hm=>?_⟩
   ·rw [(cutB_some 47 _ _ _ hc).1];simp only [List.length_append,List.length_cons];omega
   ·rw [(cutB_some 47 _ _ _ hc).1] at hm
    rcases List.mem_append.1 hm with h | h
    ·exact tok_ascii _ h1 c h
    ·rcases List.mem_cons.1 h with h | h
     ·subst h;decide
     ·exact tok_ascii _ h2 c h
  clear hc hsz C0 h3 h4 h5 hI
  cases ha:tokenS A.data.toList
  ·have HN:Hid (typeS s.data.toList = false):=by unfold Hid;rw [HT.out,ha];rfl
   rw [ha] at CA
   clear HT HA CR ha hT
   go_enter Tryz.func46,Tryz.ntmps46
   go_wp2_with fail
   refine (C.out _).mono ?_
   rintro e w' ⟨rfl,hw'⟩
   have hw'':=hw'.symm
   subst hw''
   go_wp2_with fail
   refine (CA.out _).mono ?_
   rintro e w2 ⟨rfl,hw2⟩
   have hw2':=hw2.symm
   subst hw2'
   go_wp2_with fail
   go_ret
   exact ⟨by rw [HN.out];rfl,Below.refl _ _⟩
  ·cases hr:tokenS R.data.toList
   ·have HN:Hid (typeS s.data.toList = false):=by unfold Hid;rw [HT.out,ha,hr];rfl
    rw [ha] at CA
    rw [hr] at CR
    clear HT HA ha hr hT
    go_enter Tryz.func46,Tryz.ntmps46
    go_wp2_with fail
    refine (C.out _).mono ?_
    rintro e w' ⟨rfl,hw'⟩
    have hw'':=hw'.symm
    subst hw''
    go_wp2_with fail
    refine (CA.out _).mono ?_
    rintro e w2 ⟨rfl,hw2⟩
    have hw2':=hw2.symm
    subst hw2'
    go_wp2_with fail
    refine (CR.out _).mono ?_
    rintro e w3 ⟨rfl,hw3⟩
    have hw3':=hw3.symm
    subst hw3'
    go_wp2_with fail
    go_ret
    exact ⟨by rw [HN.out];rfl,Below.refl _ _⟩
   ·obtain ⟨hl,hasc⟩:=HA.out ha hr
    have HN:Hid (typeS s.data.toList = decide (small8 s.data.toList = s.data.toList)):=by unfold Hid;rw [HT.out,ha,hr,small_same];rfl
    have CS:Hid (Calls Tryz.prog 87 #[.string s] w fun e w'=>e = .returned (.string (ba (small8 s.data.toList)))∧Below w.heap.size w w'):=rsmall_any s.data.toList w hl hasc (hT w (Below.refl _ _))
    have e1:((ba (small8 s.data.toList)).toList == s.toList) = decide (small8 s.data.toList = s.data.toList):=by
     rw [ByteArray.toList_eq,ByteArray.toList_eq,Bool.eq_iff_iff];simp [ba]
    rw [ha] at CA
    rw [hr] at CR
    clear HT HA ha hr hT hl hasc
    generalize decide (small8 s.data.toList = s.data.toList) = T at *
    generalize ba (small8 s.data.toList) = SM at *
    go_enter Tryz.func46,Tryz.ntmps46
    go_wp2_with fail
    refine (C.out _).mono ?_
    rintro e w' ⟨rfl,hw'⟩
    have hw'':=hw'.symm
    subst hw''
    go_wp2_with fail
    refine (CA.out _).mono ?_
    rintro e w2 ⟨rfl,hw2⟩
    have hw2':=hw2.symm
    subst hw2'
    go_wp2_with fail
    refine (CR.out _).mono ?_
    rintro e w3 ⟨rfl,hw3⟩
    have hw3':=hw3.symm
    subst hw3'
    go_wp2_with fail
    refine CS.out.mono ?_
    rintro e w4 ⟨rfl,hb4⟩
    go_wp2_with fail
    go_ret
    exact ⟨by rw [HN.out];first | rfl | (rw [e1];rfl) | simp [e1],hb4⟩
end Go.Proofs.YtbbfcbodhmeanaaGreatDoor



namespace Go.Proofs.YtbbfcbodhmeanaaGreatDoor
open Go.RowKit
structure GoIn (w:World) (G ab ao wb wo:Nat) (L:List PT) (wh:List (List UInt8)):Prop where
 all:∀ W,Below G w W→∀ i,i < L.length→∃ pb cb pk ck,PCells W ab (ao + i * 7) (L.getD i pt0) pb cb pk ck
 tel:∀ W,Below G w W→∀ i,i < L.length→W.cell? ⟨wb,wo + i,none⟩ = some (.string (tx8 (wh.getD i [])))
 mx:∀ W,Below G w W→MaxAt W
 len:∀ i,i < L.length→(L.getD i pt0).ty.size≤maxLen∧(L.getD i pt0).id.size≤100000
 wl:∀ i,(wh.getD i []).length≤120
 few:L.length≤1000
theorem goal_set {W:World} {G t:Nat} {a b c d e f:Value} (h:W.heap[G]? = some (.cells #[a,b,c,d,e,f] t)) (x:Value):(W.setCell ⟨G,5,none⟩ x).heap[G]? = some (.cells #[a,b,c,d,e,x] t):=by
 show (W.heap.modify G _)[G]? = _
 rw [Array.getElem?_modify,if_pos rfl,h]
 rfl
set_option maxRecDepth 1000000 in
set_option maxHeartbeats 8000000 in
theorem lg3 (w:World) (G ab ao wb wo n ca cw:Nat) (L:List PT) (wh:List (List UInt8)) (en:n = L.length) (hI:GoIn w G ab ao wb wo L wh) (LE:List UInt8) (hLE:LE.length≤120) (hne:LE ≠ []→noFr LE ≠ []) (g0 g1 g2:Int) (g3:ByteArray) (hG:w.heap[G]? = some (.cells #[.int .i64 g0,.int .i64 g1,.int .i64 g2,.string g3,.string (tx8 LE),.int .i64 (-1)] 42)) (c0 c1 c2 c3 c7 c8 c9 c10 c11 c12 c13 c14 c17 c18 c19 c20 c21 c22 c23 c24 c25 c26 c27 c28 c29 c30 c31 c32 c33 c34 c35 c36 c37 c38 c39 c40 c41 c42 c43 c44 c45 c46 c47 c48 c49 c50 c51 c52 c53 c54 c55 c56 c57 c58 c59 c60 c61 c62 c63 c64 c65 c66 c67 c68 c69 c70 c71 c72 c73 c74 c75 c76 c77 c78 c79 c80 c81 c82 c83 c84 c85 c86 c87 c88 c89 c90 c91 c92 c93 c94 c95 c96 c97 c98 c99 c100 c101 c102 c103 c104 c105 c106 c107 c108 c109 c110 c111 c112 c113 c114 c115 c116 c117 c118 c119 c120 c121 c122 c123 c124 c125 c126 c127 c128 c129 c130:Value) (Q:Exit→Act→World→Prop)
  (hexit:∀ u16 u17 u18 u64 u65 u66 u67 u68 u69 u70 u71 u72 u73 u74 u75 u76 u77 u78 u79 u80 u81 u82 u83 u84 u85 u86 u87 u88 u89 u90 u91 u92 u93 u94 u95 u96 u97 u98 u99 u100 u101 u102 u103 u104 u105 u106 u107 u108 u109 u110 u111 u112 u113 u114 u115 u116 u117 u118 u119 u120 u121 u122 u123:Value,∀ w':World,Below G w w'→w'.heap[G]? = some (.cells #[.int .i64 g0,.int .i64 g1,.int .i64 g2,.string g3,.string (tx8 LE),.int .i64 (findW L wh LE)] 42)→Q (.exit 4) ⟨(c0::c1::c2::c3::.slice (some ⟨ab,ao,none⟩) n ca::.slice (some ⟨wb,wo,none⟩) n cw::.func (Fn.func 56) #[] #[]::c7::c8::c9::c10::c11::c12::c13::c14::.pointer (some ⟨G,0,none⟩)::u16::u17::u18::c19::c20::c21::c22::c23::c24::c25::c26::c27::c28::c29::c30::c31::c32::c33::c34::c35::c36::c37::c38::c39::c40::c41::c42::c43::c44::c45::c46::c47::c48::c49::c50::c51::c52::c53::c54::c55::c56::c57::c58::c59::c60::c61::c62::c63::u64::u65::u66::u67::u68::u69::u70::u71::u72::u73::u74::u75::u76::u77::u78::u79::u80::u81::u82::u83::u84::u85::u86::u87::u88::u89::u90::u91::u92::u93::u94::u95::u96::u97::u98::u99::u100::u101::u102::u103::u104::u105::u106::u107::u108::u109::u110::u111::u112::u113::u114::u115::u116::u117::u118::u119::u120::u121::u122::u123::c124::c125::c126::c127::c128::c129::c130::[]).toArray,[]⟩ w') :
  Code.wp Tryz.prog (Code.loop (loopAt Tryz.f14 2)) Q ⟨(c0::c1::c2::c3::.slice (some ⟨ab,ao,none⟩) n ca::.slice (some ⟨wb,wo,none⟩) n cw::.func (Fn.func 56) #[] #[]::c7::c8::c9::c10::c11::c12::c13::c14::.pointer (some ⟨G,0,none⟩)::.int .i64 ((n:Int) - 1)::c17::c18::c19::c20::c21::c22::c23::c24::c25::c26::c27::c28::c29::c30::c31::c32::c33::c34::c35::c36::c37::c38::c39::c40::c41::c42::c43::c44::c45::c46::c47::c48::c49::c50::c51::c52::c53::c54::c55::c56::c57::c58::c59::c60::c61::c62::c63::c64::c65::c66::c67::c68::c69::c70::c71::c72::c73::c74::c75::c76::c77::c78::c79::c80::c81::c82::c83::c84::c85::c86::c87::c88::c89::c90::c91::c92::c93::c94::c95::c96::c97::c98::c99::c100::c101::c102::c103::c104::c105::c106::c107::c108::c109::c110::c111::c112::c113::c114::c115::c116::c117::c118::c119::c120::c121::c122::c123::c124::c125::c126::c127::c128::c129::c130::[]).toArray,[]⟩ w:=by
 have HX:Hid _:=hexit
 clear hexit
 have HI:Hid (GoIn w G ab ao wb wo L wh):=hI
 have HN:Hid (n = L.length):=en
 have hn1000:n≤1000:=by rw [en];exact hI.few
 have hGl:G < w.heap.size:=(Array.getElem?_eq_some_iff.1 hG).1
 have hbe:=goE_bar LE
 conv=>arg 2;arg 1;whnf
 by_cases h0:LE = []
 ·have HF:Hid (findW L wh LE = -1):=by unfold Hid findW;rw [if_pos h0]
  have hemp:(tx8 LE).toList.isEmpty = true:=by rw [hbe,h0];rfl
  have HH:Hid (w.heap[G]? = some (.cells #[.int .i64 g0,.int .i64 g1,.int .i64 g2,.string g3,.string (tx8 LE),.int .i64 (findW L wh LE)] 42)):=by unfold Hid;rw [HF.out];exact hG
  have c4:w.cell? ⟨G,4,none⟩ = some (.string (tx8 LE)):=(blk_c hG 4).trans rfl
  clear hbe h0 hI hne en HF hG
  go_loopw [16] (fun iv wr=>iv = .int .i64 ((n:Int) - 1)∧wr = w) (fun _ _=>0)
  case atStart=>exact ⟨rfl,rfl⟩
  case round =>
   obtain ⟨rfl,hwr⟩:=hrel
   have hwr':=hwr.symm
   subst hwr'
   by_cases hz:0 < n
   ·have hzi:(0:Int)≤(n:Int) - 1:=by omega
    go_wp2_with fail
    exact HX.out _ _ _ _ _ _ _ _ _ _ _ _ _ _ _ _ _ _ _ _ _ _ _ _ _ _ _ _ _ _ _ _ _ _ _ _ _ _ _ _ _ _ _ _ _ _ _ _ _ _ _ _ _ _ _ _ _ _ _ _ _ _ _ _ (Below.refl _ _) HH.out
   ·obtain rfl:n = 0:=by omega
    go_wp2_with fail
    exact HX.out _ _ _ _ _ _ _ _ _ _ _ _ _ _ _ _ _ _ _ _ _ _ _ _ _ _ _ _ _ _ _ _ _ _ _ _ _ _ _ _ _ _ _ _ _ _ _ _ _ _ _ _ _ _ _ _ _ _ _ _ _ _ _ _ (Below.refl _ _) HH.out
 ·have hemp:(tx8 LE).toList.isEmpty = false:=by
   rw [hbe]
   cases hl:LE with
   | nil=>exact absurd hl h0
   | cons _ _=>rfl
  have HF:Hid (findW L wh LE = firstP (okGo wh LE) 0 (L.drop 0)):=find_is L wh LE h0 (hne h0)
  clear hbe h0 hI hne en
  go_loopw [16] (fun iv wr=>∃ k:Nat,iv = .int .i64 ((k:Int) - 1)∧k≤n∧Below G w wr∧Hid (wr.heap[G]? = some (.cells #[.int .i64 g0,.int .i64 g1,.int .i64 g2,.string g3,.string (tx8 LE),.int .i64 (firstP (okGo wh LE) k (L.drop k))] 42))) (fun iv _=>(intOf iv + 1).toNat)
  case atStart=>exact ⟨n,rfl,Nat.le_refl _,Below.refl _ _,by unfold Hid;rw [first_end _ L n (by rw [HN.out];exact Nat.le_refl _)];exact hG⟩
  case round =>
   obtain ⟨k,rfl,hkn,hbr,HK⟩:=hrel
   have c4:wr.cell? ⟨G,4,none⟩ = some (.string (tx8 LE)):=(blk_c HK.out 4).trans rfl
   clear hG
   cases k with
   | zero =>
    have hneg:((0:Nat):Int) - 1 = -1:=rfl
    rw [hneg]
    have HH:Hid (wr.heap[G]? = some (.cells #[.int .i64 g0,.int .i64 g1,.int .i64 g2,.string g3,.string (tx8 LE),.int .i64 (findW L wh LE)] 42)):=by unfold Hid;rw [HF.out];exact HK.out
    clear HK HF
    go_wp2_with fail
    exact HX.out _ _ _ _ _ _ _ _ _ _ _ _ _ _ _ _ _ _ _ _ _ _ _ _ _ _ _ _ _ _ _ _ _ _ _ _ _ _ _ _ _ _ _ _ _ _ _ _ _ _ _ _ _ _ _ _ _ _ _ _ _ _ _ _ hbr HH.out
   | succ k =>
    have hjj:((k + 1:Nat):Int) - 1 = (k:Int):=by omega
    rw [hjj]
    have hkL:k < L.length:=by rw [← HN.out];omega
    have hki:(k:Int) < (n:Int):=by omega
    have hk0:(0:Int)≤(k:Int):=by omega
    have hwk:IntKind.i64.wrap ((k:Int) - 1) = (k:Int) - 1:=by rw [IntKind.wrap_i64];omega
    obtain ⟨pb,cb,pk,ck,d0,d1,d2,d3,d4,d5,d6⟩:=HI.out.all wr hbr k hkL
    have HSTEP:Hid (firstP (okGo wh LE) k (L.drop k) = if manyS (L.getD k pt0).ty.data.toList = false∧okGo wh LE k (L.getD k pt0) = true then (k:Int) else firstP (okGo wh LE) (k + 1) (L.drop (k + 1))):=first_at (okGo wh LE) L k hkL
    have HOK:Hid (okGo wh LE k (L.getD k pt0) = if Lib.hasPrefix (noFr LE) cidS = true then (!(L.getD k pt0).id.data.toList.isEmpty && (cidS ++ (L.getD k pt0).id.data.toList == noFr LE)) else (!(L.getD k pt0).loc.data.toList.isEmpty && !(wh.getD k []).isEmpty && (noFr (wh.getD k []) == noFr LE))):=rfl
    obtain ⟨hl1,hl2⟩:=HI.out.len k hkL
    have hGr:G < wr.heap.size:=Nat.lt_of_lt_of_le hGl hbr.size
    obtain ⟨x,hx⟩:∃ x,L.getD k pt0 = x:=⟨_,rfl⟩
    rw [hx] at d0 d1 d2 d3 d4 d5 d6 HSTEP HOK hl1 hl2
    have CM:Hid (∀ W,Calls Tryz.prog 45 #[.string x.ty] W fun e w'=>e = .returned (.bool (manyS x.ty.data.toList))∧w' = W):=fun W=>rmany_any x.ty W hl1
    obtain ⟨pt1,pc1,pi1,pl1,ph1,pb1,pk1⟩:=x
    simp only at d0 d1 d2 d3 d4 d5 d6 HSTEP HOK hl1 hl2 CM
    generalize pb1.length = m1 at *
    generalize pk1.length = m2 at *
    go_upto_region 22 with fail
    obtain ⟨V,hV⟩:∃ W,W = wr.alloc (.cells #[.string pt1,.string pc1,.string pi1,.string pl1,.int .i64 ph1,.slice pb m1 cb,.slice pk m2 ck] 25):=⟨_,rfl⟩
    have kV:V.heap[wr.heap.size]? = some (.cells #[.string pt1,.string pc1,.string pi1,.string pl1,.int .i64 ph1,.slice pb m1 cb,.slice pk m2 ck] 25):=by rw [hV];exact blk_new wr _
    have hbV:Below G w V:=by rw [hV];exact hbr.alloc (Nat.le_of_lt hGr) _
    have HKV:Hid (V.heap[G]? = some (.cells #[.int .i64 g0,.int .i64 g1,.int .i64 g2,.string g3,.string (tx8 LE),.int .i64 (firstP (okGo wh LE) (k + 1) (L.drop (k + 1)))] 42)):=by unfold Hid;rw [hV,Below.heap_alloc _ _ _ hGr];exact HK.out
    rw [← hV]
    have hYG:wr.heap.size ≠ G:=by omega
    obtain ⟨Y,hY⟩:∃ k,wr.heap.size = k:=⟨_,rfl⟩
    rw [hY] at kV hYG ⊢
    have z0:V.cell? ⟨Y,0,none⟩ = some (.string pt1):=(blk_c kV 0).trans rfl
    clear hV hY d0 d1 d2 d3 d4 d5 d6 HK c4 hbr hGr
    have hGV:G≤V.heap.size:=Nat.le_of_lt (Array.getElem?_eq_some_iff.1 HKV.out).1
    have HVB:Hid (∀ W,Below V.heap.size V W→Below G w W):=fun W h=>hbV.trans (h.mono hGV)
    have HMX:Hid (∀ W,Below V.heap.size V W→MaxAt W):=fun W h=>HI.out.mx W (HVB.out W h)
    have HY:Hid (V.heap[Y]? = some (.cells #[.string pt1,.string pc1,.string pi1,.string pl1,.int .i64 ph1,.slice pb m1 cb,.slice pk m2 ck] 25)):=kV
    have HTE:Hid (∀ W,Below V.heap.size V W→W.cell? ⟨wb,wo + k,none⟩ = some (.string (tx8 (wh.getD k [])))):=fun W h=>HI.out.tel W (HVB.out W h) k hkL
    have hwl:=HI.out.wl k
    clear kV
    cases hm:manyS pt1.data.toList with
    | true =>
     rw [hm] at CM HSTEP
     have HKN:Hid (V.heap[G]? = some (.cells #[.int .i64 g0,.int .i64 g1,.int .i64 g2,.string g3,.string (tx8 LE),.int .i64 (firstP (okGo wh LE) k (L.drop k))] 42)):=by unfold Hid;rw [HSTEP.out,if_neg (by simp)];exact HKV.out
     clear hm HSTEP HOK HY HTE HMX HVB
     go_wp2_with fail
     refine (CM.out _).mono ?_
     rintro e w' ⟨rfl,hw'⟩
     have hw'':=hw'.symm
     subst hw''
     clear CM
     go_wp2_with fail
     go_roundw
     case rel=>exact ⟨k,rfl,by omega,hbV,HKN⟩
     case measure=>simp [intOf]
    | false =>
     rw [hm] at CM HSTEP
     clear hm
     go_wp2_with fail
     refine (CM.out _).mono ?_
     rintro e w' ⟨rfl,hw'⟩
     have hw'':=hw'.symm
     subst hw''
     clear CM z0
     go_upto_region 23 with fail
     refine lgR23 V HMX.out wb wo n cw G Y k (by omega) pl1 (wh.getD k []) LE hwl hLE ((blk_c HY.out 3).trans rfl) (HTE.out _ (Below.refl _ _)) ((blk_c HKV.out 4).trans rfl) _ _ _ _ _ _ _ _ _ _ _ _ _ _ _ _ _ _ _ _ _ _ _ _ _ _ _ _ _ _ _ _ _ _ _ _ _ _ _ _ _ _ _ _ _ _ _ _ _ _ _ _ _ _ _ _ _ _ _ _ _ _ _ _ _ _ _ _ _ _ _ _ _ _ _ _ _ _ _ _ _ _ _ _ _ _ _ _ _ _ _ _ _ _ _ _ _ _ _ _ _ _ _ _ _ _ _ _ _ _ _ _ _ _ _ _ _ _ _ _ _ _ _ _ _ _ _ ?_
     intro q80 q81 q82 q83 q84 q85 q86 q87 q88 q89 q90 q91 q92 q93 q94 q95 q96 q97 q98 q99 q100 q101 q102 w1 hb1
     go_upto_region 24 with fail
     refine lgR24 w1 (fun W h=>HMX.out W (hb1.trans (h.mono hb1.size))) G LE hLE ((blk_c (blk_on HKV.out hb1) 4).trans rfl) _ _ _ _ _ _ _ _ _ _ _ _ _ _ _ _ _ _ _ _ _ _ _ _ _ _ _ _ _ _ _ _ _ _ _ _ _ _ _ _ _ _ _ _ _ _ _ _ _ _ _ _ _ _ _ _ _ _ _ _ _ _ _ _ _ _ _ _ _ _ _ _ _ _ _ _ _ _ _ _ _ _ _ _ _ _ _ _ _ _ _ _ _ _ _ _ _ _ _ _ _ _ _ _ _ _ _ _ _ _ _ _ _ _ _ _ _ _ _ _ _ _ _ _ _ _ _ _ _ _ ?_
     intro q103 q104 q105 q106 w2 hb2
     have hb12:Below V.heap.size V w2:=hb1.trans (hb2.mono hb1.size)
     clear hb1 hb2
     cases hp:Lib.hasPrefix (noFr LE) cidS with
     | true =>
      rw [hp,if_pos rfl] at HOK
      go_upto_region 25 with fail
      refine lgR25 w2 (fun W h=>HMX.out W (hb12.trans (h.mono hb12.size))) G Y pi1 hl2 LE hLE ((blk_c (blk_on HY.out hb12) 2).trans rfl) ((blk_c (blk_on HKV.out hb12) 4).trans rfl) _ _ _ _ _ _ _ _ _ _ _ _ _ _ _ _ _ _ _ _ _ _ _ _ _ _ _ _ _ _ _ _ _ _ _ _ _ _ _ _ _ _ _ _ _ _ _ _ _ _ _ _ _ _ _ _ _ _ _ _ _ _ _ _ _ _ _ _ _ _ _ _ _ _ _ _ _ _ _ _ _ _ _ _ _ _ _ _ _ _ _ _ _ _ _ _ _ _ _ _ _ _ _ _ _ _ _ _ _ _ _ _ _ _ _ _ _ _ _ _ _ _ _ _ _ _ _ _ _ ?_
      intro q108 q109 q110 q111 q112 q113 q114 q115 q116 q117 q118 q119 q120 w3 hb3
      have hb13:Below V.heap.size V w3:=hb12.trans (hb3.mono hb12.size)
      clear hb12 hb3 hp
      rw [← HOK.out]
      have hk3:=blk_on HKV.out hb13
      have hbG:=HVB.out w3 hb13
      clear HKV HY HTE HMX HVB HOK hb13
      generalize hB:okGo wh LE k ⟨pt1,pc1,pi1,pl1,ph1,pb1,pk1⟩ = B at *
      cases B with
      | true =>
       have HKN:Hid ((w3.setCell ⟨G,5,none⟩ (.int .i64 (k:Int))).heap[G]? = some (.cells #[.int .i64 g0,.int .i64 g1,.int .i64 g2,.string g3,.string (tx8 LE),.int .i64 (firstP (okGo wh LE) k (L.drop k))] 42)):=by unfold Hid;rw [HSTEP.out,if_pos (by simp)];exact goal_set hk3 _
       have hbS:Below G w (w3.setCell ⟨G,5,none⟩ (.int .i64 (k:Int))):=hbG.setCell (p:=⟨G,5,none⟩) (Nat.le_refl _) _
       have c5:w3.cell? ⟨G,5,none⟩ = some (.int .i64 (firstP (okGo wh LE) (k + 1) (L.drop (k + 1)))):=(blk_c hk3 5).trans rfl
       have q5:w3.frozen? ⟨G,5,none⟩ = false:=blk_f hk3 5
       clear hk3 hbG HSTEP hB
       go_wp2_with fail
       go_roundw
       case rel=>exact ⟨k,rfl,by omega,hbS,HKN⟩
       case measure=>simp [intOf]
      | false =>
       have HKN:Hid (w3.heap[G]? = some (.cells #[.int .i64 g0,.int .i64 g1,.int .i64 g2,.string g3,.string (tx8 LE),.int .i64 (firstP (okGo wh LE) k (L.drop k))] 42)):=by unfold Hid;rw [HSTEP.out,if_neg (by simp)];exact hk3
       clear hk3 HSTEP hB
       go_wp2_with fail
       go_roundw
       case rel=>exact ⟨k,rfl,by omega,hbG,HKN⟩
       case measure=>simp [intOf]
     | false =>
      rw [hp,if_neg (by simp)] at HOK
      have hb13:Below V.heap.size V w2:=hb12
      clear hb12 hp
      rw [← HOK.out]
      obtain ⟨w3,hw3⟩:∃ W,W = w2:=⟨_,rfl⟩
      rw [← hw3] at hb13 ⊢
      clear hw3
      have hk3:=blk_on HKV.out hb13
      have hbG:=HVB.out w3 hb13
      clear HKV HY HTE HMX HVB HOK hb13
      generalize hB:okGo wh LE k ⟨pt1,pc1,pi1,pl1,ph1,pb1,pk1⟩ = B at *
      cases B with
      | true =>
       have HKN:Hid ((w3.setCell ⟨G,5,none⟩ (.int .i64 (k:Int))).heap[G]? = some (.cells #[.int .i64 g0,.int .i64 g1,.int .i64 g2,.string g3,.string (tx8 LE),.int .i64 (firstP (okGo wh LE) k (L.drop k))] 42)):=by unfold Hid;rw [HSTEP.out,if_pos (by simp)];exact goal_set hk3 _
       have hbS:Below G w (w3.setCell ⟨G,5,none⟩ (.int .i64 (k:Int))):=hbG.setCell (p:=⟨G,5,none⟩) (Nat.le_refl _) _
       have c5:w3.cell? ⟨G,5,none⟩ = some (.int .i64 (firstP (okGo wh LE) (k + 1) (L.drop (k + 1)))):=(blk_c hk3 5).trans rfl
       have q5:w3.frozen? ⟨G,5,none⟩ = false:=blk_f hk3 5
       clear hk3 hbG HSTEP hB
       go_wp2_with fail
       go_roundw
       case rel=>exact ⟨k,rfl,by omega,hbS,HKN⟩
       case measure=>simp [intOf]
      | false =>
       have HKN:Hid (w3.heap[G]? = some (.cells #[.int .i64 g0,.int .i64 g1,.int .i64 g2,.string g3,.string (tx8 LE),.int .i64 (firstP (okGo wh LE) k (L.drop k))] 42)):=by unfold Hid;rw [HSTEP.out,if_neg (by simp)];exact hk3
       clear hk3 HSTEP hB
       go_wp2_with fail
       go_roundw
       case rel=>exact ⟨k,rfl,by omega,hbG,HKN⟩
       case measure=>simp [intOf]
end Go.Proofs.YtbbfcbodhmeanaaGreatDoor



import Derived.Test.YtbbfcbodhmeanaaGreatDoorXrewritesays34
import Derived.Test.YtbbfcbodhmeanaaGreatDoorXrewritesays33
namespace Go.Proofs.YtbbfcbodhmeanaaGreatDoor
open Go.RowKit
set_option maxHeartbeats 4000000 in
set_option maxRecDepth 100000 in
theorem rep_same (w:World) (base g cap:Nat) (X:List UInt8) (cur:List Value) (vb vc:Nat) (T:List UInt8) (h:RepIn w base g cap X cur vb vc T) (i j n m d:Nat) (en:n = X.length) (em:m = T.length) (hd:n - j = d) (hij:i < j) (hj:j < n) (hm:i + m = j) :
  Calls Tryz.prog 116 #[.slice (some ⟨g,0,none⟩) n cap,.int .i64 i,.int .i64 j,.slice (some ⟨vb,0,none⟩) m vc] w fun e w'=>RepPost w base (X.take i ++ T ++ X.drop j) e w':=by
 have hcm:cap≤9223372036854775807:=h.hcm
 have hbig:=h.big
 have hXc:=h.hXc
 have hlc:=h.hcl
 have hm0:0 < m:=by rw [em];exact h.hT
 have hnc:n≤cap:=by omega
 have hTl:(bv T).length = m:=by rw [bv_length,em]
 have hDl:((bv X).drop j).length = d:=by rw [List.length_drop,bv_length];omega
 have hD1:∀ v ∈ (bv X).drop j,v.oneCell' = true:=fun v hv=>bv_one X v (List.mem_of_mem_drop hv)
 have hlen:(X.take i ++ T ++ X.drop j).length = i + m + d:=rep_len en em hd (by omega) (by omega)
 have e0:cur.take i = bv (X.take i):=by
  have h2:cur.take i = (cur.take X.length).take i:=by rw [List.take_take,Nat.min_eq_left (by omega)]
  rw [h2,h.hX,bv_takes]
 have hcell:∀ q v,((bv X).drop j)[q]? = some v→w.cell? ⟨g,j + q,none⟩ = some v:=fun q v hq=>by
  rw [List.getElem?_drop] at hq
  have:=h.cell (j + q) v hq
  rwa [Nat.zero_add] at this
 obtain ⟨w2,hc2,hg2,ho2⟩:=copyK w.drew g i (i + m + d - i) ⟨vb,0,none⟩ m cur (bv T) h.hg (by rw [hTl];simp only [Nat.min_def];split <;> omega) (fun q v hq=>by rw [Addr.add_lit];exact h.hvs q v hq) (by omega) (bv_one T)
 have hs2:(splice cur i (bv T)).length = cap:=by rw [length_splice _ _ _ (by omega)];exact hlc
 obtain ⟨w3,hc3,hg3,ho3⟩:=copyK w2.drew g (i + m) (i + m + d - (i + m)) ⟨g,j,none⟩ d (splice cur i (bv T)) ((bv X).drop j) hg2 (by rw [hDl];simp only [Nat.min_def];split <;> omega) (fun q v hq=>by
  rw [Addr.add_lit]
  have h1:=hcell q v hq
  show w2.cell? _ = _
  rw [World.cell?,h.hg] at h1
  rw [World.cell?,hg2]
  have h1':cur[j + q]? = some v:=by simpa using h1
  have h2:(splice cur i (bv T))[j + q]? = cur[j + q]?:=by
   unfold splice
   have hl1:(cur.take i).length = i:=by rw [List.length_take];omega
   rw [List.getElem?_append_right (by omega),List.getElem?_append_right (by omega),List.getElem?_drop]
   congr 1
   omega
  have h3:(splice cur i (bv T))[j + q]? = some v:=h2.trans h1'
  simpa using h3) (by omega) hD1
 have hs3:(splice (splice cur i (bv T)) (i + m) ((bv X).drop j)).length = cap:=by rw [length_splice _ _ _ (by omega)];exact hs2
 have e3:(splice (splice cur i (bv T)) (i + m) ((bv X).drop j)).take (i + m + d) = bv (X.take i ++ T ++ X.drop j):=by
  rw [take_splice _ _ _ _ (by omega) (by omega),hDl,Nat.sub_self,List.take_zero,List.append_nil,take_splice _ _ _ _ (by omega) (by omega),hTl,Nat.sub_self,List.take_zero,List.append_nil,e0,bv_append,bv_append,bv_drops]
 have HP:Hid (RepPost w base (X.take i ++ T ++ X.drop j) (.returned (.slice (some ⟨g,0,none⟩) (i + m + d) cap)) w3):=by
  refine ⟨g,cap,by rw [hlen],((Only.drew g w).trans (ho2.trans ((Only.drew g w2).trans ho3))).below h.hb,⟨by rw [bv_length];omega,.inr ⟨g,cap,_,by rw [hlen],h.hb,hg3,by omega,h.hcm,by rw [List.size_toArray,hs3];omega,?_⟩⟩⟩
  show List.take _ _ = _
  rw [hlen,Nat.mul_one,e3]
 have hk0:n - (i + m + d) = 0:=by omega
 have HC2:Hid (∀ ty dc,(Builtin.copy_ #[22,22] ty #[.slice (some ⟨g,i,none⟩) (i + m + d - i) dc,.slice (some ⟨vb,0,none⟩) m vc]).run Tryz.prog w.drew = .ok (goInt (m:Int)) w2):=fun ty dc=>by have:=hc2 ty dc vc;rw [hTl] at this;exact this
 have HC3:Hid (∀ ty dc sc,(Builtin.copy_ #[22,22] ty #[.slice (some ⟨g,i + m,none⟩) (i + m + d - (i + m)) dc,.slice (some ⟨g,j,none⟩) d sc]).run Tryz.prog w2.drew = .ok (goInt (d:Int)) w3):=fun ty dc sc=>by have:=hc3 ty dc sc;rw [hDl] at this;exact this
 have hjn:(j:Int)≤(n:Int):=by omega
 have hjc:(j:Int)≤(cap:Int):=by omega
 have hijI:(i:Int)≤(j:Int):=by omega
 have hiN:i≤n:=by omega
 have hic:i≤cap:=by omega
 have hjN:j≤n:=by omega
 have hne1:((i:Int) == (j:Int)) = false:=by rw [beq_eq_false_iff_ne];omega
 have hne2:((j:Int) == (n:Int)) = false:=by rw [beq_eq_false_iff_ne];omega
 have hw1:IntKind.i64.wrap ((i:Int) + (m:Int)) = (i:Int) + (m:Int):=by rw [IntKind.wrap_i64];omega
 have hw2:IntKind.i64.wrap ((i:Int) + (m:Int) + (d:Int)) = (i:Int) + (m:Int) + (d:Int):=by rw [IntKind.wrap_i64];omega
 have htn:((i:Int) + (m:Int)).toNat = i + m:=by omega
 have htn2:((i:Int) + (m:Int) + (d:Int)).toNat = i + m + d:=by omega
 have hp1:(0:Int)≤(i:Int) + (m:Int):=by omega
 have hp2:(0:Int)≤(i:Int) + (m:Int) + (d:Int):=by omega
 have hci:¬ (cap = i):=by omega
 have hcj:¬ (cap = j):=by omega
 have hle:(i:Int) + (m:Int)≤(j:Int):=by omega
 have hroom2:¬ ((cap:Int) < (i:Int) + (m:Int) + (d:Int)):=by omega
 have htc:(i:Int) + (m:Int) + (d:Int)≤(cap:Int):=by omega
 have htN:(i:Int) + (m:Int) + (d:Int)≤(n:Int):=by omega
 have hit:(i:Int)≤(i:Int) + (m:Int) + (d:Int):=by omega
 have himt:(i:Int) + (m:Int)≤(i:Int) + (m:Int) + (d:Int):=by omega
 have hcim:¬ (cap = i + m):=by omega
 clear hc2 hc3 hg2 hg3 ho2 ho3 hs2 hs3 e3 e0 hlen hcell hD1 hTl hDl h en em hbig hXc hlc hm
 have hcn:=clear_none
 generalize X.take i ++ T ++ X.drop j = R at *
 go_enter Tryz.func116,Tryz.ntmps116
 go_upto_region 9 with fail
 go_region
 go_wp2_with (refine wpList_copy_runI _ rfl _ _ 22 22 rfl _ _ rfl rfl (HC2.out _ _) ?_)
 go_region_law (refine step_copy_runI rfl _ _ 22 22 rfl _ _ (by simp [Act.eval,Act.put]) (by simp [Act.eval,Act.put]) (HC3.out _ (cap - (i + m)) (cap - j)) ?_)
 go_wp2_with fail
 all_goals (go_ret;first | exact HP.out | (have h:=HP.out;rw [show cap = i + m + d by omega] at h;exact h))
end Go.Proofs.YtbbfcbodhmeanaaGreatDoor



namespace Go.Proofs.YtbbfcbodhmeanaaGreatDoor
open Go.RowKit
set_option maxHeartbeats 4000000 in
set_option maxRecDepth 100000 in
theorem rep_more (w:World) (base g cap:Nat) (X:List UInt8) (cur:List Value) (vb vc:Nat) (T:List UInt8) (h:RepIn w base g cap X cur vb vc T) (i j n m d:Nat) (en:n = X.length) (em:m = T.length) (hd:n - j = d) (hij:i < j) (hj:j < n) (hm:j < i + m) (hroom:i + m + d≤cap) :
  Calls Tryz.prog 116 #[.slice (some ⟨g,0,none⟩) n cap,.int .i64 i,.int .i64 j,.slice (some ⟨vb,0,none⟩) m vc] w fun e w'=>RepPost w base (X.take i ++ T ++ X.drop j) e w':=by
 have hcm:cap≤9223372036854775807:=h.hcm
 have hbig:=h.big
 have hXc:=h.hXc
 have hlc:=h.hcl
 have hm0:0 < m:=by rw [em];exact h.hT
 have hnc:n≤cap:=by omega
 have hTl:(bv T).length = m:=by rw [bv_length,em]
 have hDl:((bv X).drop j).length = d:=by rw [List.length_drop,bv_length];omega
 have hD1:∀ v ∈ (bv X).drop j,v.oneCell' = true:=fun v hv=>bv_one X v (List.mem_of_mem_drop hv)
 have hlen:(X.take i ++ T ++ X.drop j).length = i + m + d:=rep_len en em hd (by omega) (by omega)
 have e0:cur.take i = bv (X.take i):=by
  have h2:cur.take i = (cur.take X.length).take i:=by rw [List.take_take,Nat.min_eq_left (by omega)]
  rw [h2,h.hX,bv_takes]
 obtain ⟨vcur,hvb,hvl⟩:=h.hv
 have hov:∀ lb cb,(callFunc 157 #[.slice (some ⟨g,i + m,none⟩) lb cb,.slice (some ⟨vb,0,none⟩) m vc]).run Tryz.prog w.drew = .ok (.value (.bool false)) w.drew:=fun lb cb =>
  over_run ⟨g,i + m,none⟩ ⟨vb,0,none⟩ lb cb m vc (Ne.symm h.ne) cur.toArray vcur _ _ h.hg hvb (Or.inl ⟨rfl,rfl,by omega,by show 0 < vcur.size;omega⟩)
 obtain ⟨w2,hc2,hg2,ho2⟩:=copyK w.drew.drew g (i + m) (i + m + d - (i + m)) ⟨g,j,none⟩ d cur ((bv X).drop j) h.hg (by rw [hDl];simp only [Nat.min_def];split <;> omega) (fun q v hq=>by
  rw [Addr.add_lit]
  rw [List.getElem?_drop] at hq
  have:=h.cell (j + q) v hq
  rw [Nat.zero_add] at this
  exact this) (by omega) hD1
 have hs2:(splice cur (i + m) ((bv X).drop j)).length = cap:=by rw [length_splice _ _ _ (by omega)];exact hlc
 obtain ⟨w3,hc3,hg3,ho3⟩:=copyK w2 g i (i + m + d - i) ⟨vb,0,none⟩ m (splice cur (i + m) ((bv X).drop j)) (bv T) hg2 (by rw [hTl];simp only [Nat.min_def];split <;> omega) (fun q v hq=>by rw [Addr.add_lit,ho2.cell _ h.ne];exact h.hvs q v hq) (by omega) (bv_one T)
 have hs3:(splice (splice cur (i + m) ((bv X).drop j)) i (bv T)).length = cap:=by rw [length_splice _ _ _ (by omega)];exact hs2
 have e3:(splice (splice cur (i + m) ((bv X).drop j)) i (bv T)).take (i + m + d) = bv (X.take i ++ T ++ X.drop j):=by
  rw [take_splice _ _ _ _ (by omega) (by omega),hTl]
  have e1:(splice cur (i + m) ((bv X).drop j)).take i = bv (X.take i):=by
   unfold splice
   rw [List.take_append_of_le_length (by rw [List.length_take];omega),List.take_take,Nat.min_eq_left (by omega),e0]
  have e2:((splice cur (i + m) ((bv X).drop j)).drop (i + m)).take (i + m + d - (i + m)) = bv (X.drop j):=by
   unfold splice
   have h3:(cur.take (i + m)).length = i + m:=by rw [List.length_take];omega
   rw [List.drop_append,h3,Nat.sub_self,List.drop_zero,List.drop_of_length_le (by omega),List.nil_append,List.take_append_of_le_length (by omega),List.take_of_length_le (by omega),bv_drops]
  rw [e1,e2,bv_append,bv_append,List.append_assoc]
 have HP:Hid (RepPost w base (X.take i ++ T ++ X.drop j) (.returned (.slice (some ⟨g,0,none⟩) (i + m + d) cap)) w3):=by
  refine ⟨g,cap,by rw [hlen],((Only.drew g w).trans ((Only.drew g w.drew).trans (ho2.trans ho3))).below h.hb,⟨by rw [bv_length];omega,.inr ⟨g,cap,_,by rw [hlen],h.hb,hg3,by omega,h.hcm,by rw [List.size_toArray,hs3];omega,?_⟩⟩⟩
  show List.take _ _ = _
  rw [hlen,Nat.mul_one,e3]
 have HC2:Hid (∀ ty dc sc,(Builtin.copy_ #[22,22] ty #[.slice (some ⟨g,i + m,none⟩) (i + m + d - (i + m)) dc,.slice (some ⟨g,j,none⟩) d sc]).run Tryz.prog w.drew.drew = .ok (goInt (d:Int)) w2):=fun ty dc sc=>by have:=hc2 ty dc sc;rw [hDl] at this;exact this
 have HC3:Hid (∀ ty dc,(Builtin.copy_ #[22,22] ty #[.slice (some ⟨g,i,none⟩) (i + m + d - i) dc,.slice (some ⟨vb,0,none⟩) m vc]).run Tryz.prog w2 = .ok (goInt (m:Int)) w3):=fun ty dc=>by have:=hc3 ty dc vc;rw [hTl] at this;exact this
 have hjn:(j:Int)≤(n:Int):=by omega
 have hjc:(j:Int)≤(cap:Int):=by omega
 have hijI:(i:Int)≤(j:Int):=by omega
 have hiN:i≤n:=by omega
 have hic:i≤cap:=by omega
 have hjN:j≤n:=by omega
 have hne1:((i:Int) == (j:Int)) = false:=by rw [beq_eq_false_iff_ne];omega
 have hne2:((j:Int) == (n:Int)) = false:=by rw [beq_eq_false_iff_ne];omega
 have hw1:IntKind.i64.wrap ((i:Int) + (m:Int)) = (i:Int) + (m:Int):=by rw [IntKind.wrap_i64];omega
 have hw2:IntKind.i64.wrap ((i:Int) + (m:Int) + (d:Int)) = (i:Int) + (m:Int) + (d:Int):=by rw [IntKind.wrap_i64];omega
 have htn:((i:Int) + (m:Int)).toNat = i + m:=by omega
 have htn2:((i:Int) + (m:Int) + (d:Int)).toNat = i + m + d:=by omega
 have hp1:(0:Int)≤(i:Int) + (m:Int):=by omega
 have hp2:(0:Int)≤(i:Int) + (m:Int) + (d:Int):=by omega
 have hci:¬ (cap = i):=by omega
 have hcj:¬ (cap = j):=by omega
 have hle:¬ ((i:Int) + (m:Int)≤(j:Int)):=by omega
 have hroom2:¬ ((cap:Int) < (i:Int) + (m:Int) + (d:Int)):=by omega
 have htc:(i:Int) + (m:Int) + (d:Int)≤(cap:Int):=by omega
 have hit:(i:Int)≤(i:Int) + (m:Int) + (d:Int):=by omega
 have himt:(i:Int) + (m:Int)≤(i:Int) + (m:Int) + (d:Int):=by omega
 have hcim:¬ (cap = i + m):=by omega
 clear hc2 hc3 hg2 hg3 ho2 ho3 hs2 hs3 e3 e0 hlen hD1 hTl hDl h en em hbig hXc hlc hvb hvl
 go_enter Tryz.func116,Tryz.ntmps116
 go_upto_region 9 with fail
 go_region
 go_wp2_with (simp only [hov])
 go_region_law (refine step_copy_runI rfl _ _ 22 22 rfl _ _ (by simp [Act.eval,Act.put]) (by simp [Act.eval,Act.put]) (HC2.out _ (cap - (i + m)) (cap - j)) ?_)
 go_wp2_with (refine wpList_copy_runI _ rfl _ _ 22 22 rfl _ _ rfl rfl (HC3.out _ _) ?_)
 go_ret
 exact HP.out
end Go.Proofs.YtbbfcbodhmeanaaGreatDoor



namespace Go.Proofs.YtbbfcbodhmeanaaGreatDoor
open Go.RowKit
set_option maxHeartbeats 1000000 in
set_option maxRecDepth 100000 in
theorem rep_ins (w:World) (base g cap:Nat) (X:List UInt8) (cur:List Value) (vb vc:Nat) (T:List UInt8) (h:RepIn w base g cap X cur vb vc T) (i n m:Nat) (en:n = X.length) (em:m = T.length) (hi:i < n) :
  Calls Tryz.prog 116 #[.slice (some ⟨g,0,none⟩) n cap,.int .i64 i,.int .i64 i,.slice (some ⟨vb,0,none⟩) m vc] w fun e w'=>RepPost w base (X.take i ++ T ++ X.drop i) e w':=by
 have CI:Hid (Calls Tryz.prog 156 #[.slice (some ⟨g,0,none⟩) n cap,.int .i64 i,.slice (some ⟨vb,0,none⟩) m vc] w fun e w'=>RepPost w base (X.take i ++ T ++ X.drop i) e w'):=ins_any w base g cap X cur vb vc T h i n m en em hi
 have hXc:=h.hXc
 have hin:(i:Int)≤(n:Int):=by omega
 have hic:(i:Int)≤(cap:Int):=by omega
 have hii:((i:Int) == (i:Int)) = true:=by simp
 have hci:¬ (cap = i):=by omega
 clear h en em hXc
 go_enter Tryz.func116,Tryz.ntmps116
 go_wp2_with fail
 refine CI.out.mono ?_
 intro e w' hp
 obtain ⟨g',cap',rfl,h2,h3⟩:=hp
 have HP:Hid (RepPost w base (X.take i ++ T ++ X.drop i) (.returned (.slice (some ⟨g',0,none⟩) (X.take i ++ T ++ X.drop i).length cap')) w'):=⟨g',cap',rfl,h2,h3⟩
 clear CI h2 h3
 generalize (X.take i ++ T ++ X.drop i).length = nn at *
 go_wp2_with fail
 go_ret
 exact HP.out
theorem rep_any (w:World) (base g cap:Nat) (X:List UInt8) (cur:List Value) (vb vc:Nat) (T:List UInt8) (h:RepIn w base g cap X cur vb vc T) (i j n m:Nat) (en:n = X.length) (em:m = T.length) (hij:i≤j) (hj:j < n) :
  Calls Tryz.prog 116 #[.slice (some ⟨g,0,none⟩) n cap,.int .i64 i,.int .i64 j,.slice (some ⟨vb,0,none⟩) m vc] w fun e w'=>RepPost w base (X.take i ++ T ++ X.drop j) e w':=by
 by_cases h0:i = j
 ·subst h0
  exact rep_ins w base g cap X cur vb vc T h i n m en em hj
 ·by_cases h1:cap < i + m + (n - j)
  ·exact rep_grow w base g cap X cur vb vc T h i j n m (n - j) en em rfl (by omega) hj h1
  ·by_cases h2:i + m < j
   ·exact rep_less w base g cap X cur vb vc T h i j n m (n - j) en em rfl (by omega) hj h2
   ·by_cases h3:i + m = j
    ·exact rep_same w base g cap X cur vb vc T h i j n m (n - j) en em rfl (by omega) hj h3
    ·exact rep_more w base g cap X cur vb vc T h i j n m (n - j) en em rfl (by omega) hj (by omega) (by omega)
end Go.Proofs.YtbbfcbodhmeanaaGreatDoor



namespace Go.Proofs.YtbbfcbodhmeanaaGreatDoor
open Go.RowKit
structure PuAt (w:World) (b:List UInt8) (l:List LK) (ts:List (List UInt8)) (v:Value) (wr:World) (k:Nat) (X:List UInt8):Prop where
 bel:Below w.heap.size w wr
 own:wr.ownsRow w.heap.size 5 1 v X.length (bv X)
 eq:X = fillP (l.drop k) (ts.drop k) b
theorem puts_one (w wr:World) (v:Value) (X:List UInt8) (T:ByteArray) (i j n:Nat) (en:n = X.length) (hij:i≤j) (hj:j < n) (hT:T.data.toList ≠ []) (hbig:X.length + T.size≤3000000) (hb:Below w.heap.size w wr) (hown:wr.ownsRow w.heap.size 5 1 v X.length (bv X)) :
  Calls Tryz.prog 116 #[v,.int .i64 i,.int .i64 j,.slice (some ⟨wr.heap.size,0,none⟩) T.size (grownCap wr.drew T.size 0 5)] (Lib.bytesWorld wr.drew 5 T) fun e w'=>∃ v',e = .returned v'∧Below w.heap.size w w'∧w'.ownsRow w.heap.size 5 1 v' (X.take i ++ T.data.toList ++ X.drop j).length (bv (X.take i ++ T.data.toList ++ X.drop j)):=by
 have hBW:Below wr.heap.size wr (Lib.bytesWorld wr.drew 5 T):=⟨rfl,rfl,rfl,by rw [Lib.bytesWorld_size];show wr.heap.size≤wr.heap.size + 1;omega,fun k hk=>Lib.bytesWorld_at_old wr.drew _ T k hk⟩
 have hTl:T.size = T.data.toList.length:=Lib.size_eq T
 have hT0:0 < T.data.toList.length:=List.length_pos_iff.2 hT
 rcases hown.2 with ⟨rfl,h0⟩ | ⟨g,cap,cur,rfl,h1,h2,h3,h4,h5,h6⟩
 ·omega
 ·have hgl:g < wr.heap.size:=(Array.getElem?_eq_some_iff.1 h2).1
  have hin:RepIn (Lib.bytesWorld wr.drew 5 T) w.heap.size g cap X cur.toList wr.heap.size (grownCap wr.drew T.size 0 5) T.data.toList:=by
   refine ⟨h1,Nat.le_trans hb.size hBW.size,by rw [hBW.block g hgl];simpa using h2,by rw [Array.length_toList,h5];omega,h4,by rw [Nat.mul_one] at h6;exact h6,h3,⟨_,Lib.bytesWorld_at_new wr.drew 5 T,?_⟩,fun q u hq=>?_,by omega,hT0,by omega⟩
   ·unfold Lib.bytesCells
    simp
   ·have hql:q < T.size:=by
     have:=(List.getElem?_eq_some_iff.1 hq).1
     rwa [bv_length,← hTl] at this
    rw [Nat.zero_add]
    have:=Lib.bytesWorld_cell wr.drew 5 T q hql
    rw [show wr.drew.heap.size = wr.heap.size from rfl] at this
    rw [this]
    rw [hTl] at hql
    simp only [bv,List.getElem?_map,List.getElem?_eq_getElem hql,Option.map_some,Option.some.injEq] at hq
    rw [← hq]
    simp [List.getD_eq_getElem?_getD,List.getElem?_eq_getElem hql]
  have:=rep_any (Lib.bytesWorld wr.drew 5 T) w.heap.size g cap X cur.toList wr.heap.size (grownCap wr.drew T.size 0 5) T.data.toList hin i j n T.size en hTl hij hj
  rw [en] at this
  refine this.mono ?_
  rintro e w' ⟨g',cap',rfl,h8,h9⟩
  exact ⟨_,rfl,(hb.trans (hBW.mono hb.size)).trans h8,h9⟩
end Go.Proofs.YtbbfcbodhmeanaaGreatDoor



namespace Go.Proofs.YtbbfcbodhmeanaaGreatDoor
open Go.RowKit
def upSet:List UInt8:=[65,66,67,68,69,70,71,72,73,74,75,76,77,78,79,80,81,82,83,84,85,86,87,88,89,90]
theorem upSet_is (c:UInt8):upSet.contains c = isUpB c:=by
 have:∀ n:Fin 256,upSet.contains (UInt8.ofNat n.val) = isUpB (UInt8.ofNat n.val):=by decide +kernel
 have h:=this ⟨c.toNat,c.toNat_lt⟩
 simp only [UInt8.ofNat_toNat] at h
 exact h
set_option maxHeartbeats 4000000 in
set_option maxRecDepth 100000 in
theorem rsm_any (s:ByteArray) (w:World) (hs:s.size≤1000000) :
  Calls Tryz.prog 100 #[.string s] w fun e w'=>e = .returned (.string ⟨(smallU s.data.toList).toArray⟩)∧Below w.heap.size w w':=by
 have hcv:(convert 9 22 (.string s)).run Tryz.prog w = .ok (.slice (some ⟨w.heap.size,0,none⟩) s.size (grownCap w s.size 0 5)) (Lib.bytesWorld w 5 s):=Lib.run_convert_string_bytes w _ _ _ s Tryz.underlying9 Tryz.underlying22 Tryz.underlying5
 have hB:Below w.heap.size w (Lib.bytesWorld w 5 s):=⟨rfl,rfl,rfl,by rw [Lib.bytesWorld_size];omega,fun k hk=>Lib.bytesWorld_at_old w _ s k hk⟩
 have HC0:Hid (∀ i,i < s.size→(Lib.bytesWorld w 5 s).cell? ⟨w.heap.size,i,none⟩ = some (.int .u8 ((s.data.toList.getD i 0).toNat:Int))):=fun i hi=>Lib.bytesWorld_cell w _ s i hi
 have HF0:Hid (∀ i,i < s.size→(Lib.bytesWorld w 5 s).frozen? ⟨w.heap.size,i,none⟩ = false):=fun i hi=>by
  unfold World.frozen?
  simp only [Lib.bytesWorld_at_new]
  have:s.size≤(Lib.bytesCells w 5 s).size:=by unfold Lib.bytesCells;simp
  rw [Bool.and_eq_false_iff]
  left
  rw [decide_eq_false_iff_not]
  omega
 generalize grownCap w s.size 0 5 = CAP at *
 generalize Lib.bytesWorld w 5 s = w1 at *
 have hle:Hid (s.size = s.data.toList.length):=Lib.size_eq s
 go_enter Tryz.func100,Tryz.ntmps100
 go_wp2
 go_loopw [9] (fun iv wr=>∃ k:Nat,k≤s.size∧iv = .int .i64 k∧Below w.heap.size w wr∧Hid (∀ i,i < s.size→wr.cell? ⟨w.heap.size,i,none⟩ = some (.int .u8 (((smk k s.data.toList).getD i 0).toNat:Int)))∧Hid (∀ i,i < s.size→wr.frozen? ⟨w.heap.size,i,none⟩ = false)) (fun iv _=>s.size - (intOf iv).toNat)
 case atStart=>exact ⟨0,Nat.zero_le _,rfl,hB,HC0,HF0⟩
 case round =>
  obtain ⟨k,hk,rfl,hbel,HC,HF⟩:=hrel
  clear HC0 HF0
  by_cases hlt:k < s.size
  ·have hll:k < s.data.toList.length:=by rw [← hle.out];exact hlt
   have hck:=HC.out k hlt
   rw [smk_get k _ hll] at hck
   have hfk:=HF.out k hlt
   obtain ⟨c,hc⟩:∃ c,s.data.toList.getD k 0 = c:=⟨_,rfl⟩
   rw [hc] at hck
   have CI:Hid (Calls Tryz.prog 93 #[.string ⟨#[65,66,67,68,69,70,71,72,73,74,75,76,77,78,79,80,81,82,83,84,85,86,87,88,89,90]⟩,.int .u8 (c.toNat:Int)] wr fun e w'=>∃ i:Int,e = .returned (.int .i64 i)∧decide (0≤i) = isUpB c∧w' = wr):=by
    have:=ix_any ⟨#[65,66,67,68,69,70,71,72,73,74,75,76,77,78,79,80,81,82,83,84,85,86,87,88,89,90]⟩ upSet rfl c _ rfl wr
    rw [upSet_is] at this
    exact this
   cases hu:isUpB c with
   | false =>
    rw [hu] at CI
    have HC2:Hid (∀ i,i < s.size→wr.cell? ⟨w.heap.size,i,none⟩ = some (.int .u8 (((smk (k + 1) s.data.toList).getD i 0).toNat:Int))):=fun i hi=>by
     rw [smk_succ k _ hll,hc,show lowU c = c from by unfold lowU;rw [hu];rfl,← hc,← smk_get k _ hll,set_self _ k (by rw [smk_length];exact hll)]
     exact HC.out i hi
    clear HC hc hu
    go_wp2_with fail
    refine CI.out.mono ?_
    rintro e w' ⟨i9,rfl,hi9,hw'⟩
    have hw'':=hw'.symm
    subst hw''
    clear CI
    go_wp2
    go_roundw
    case rel=>exact ⟨k + 1,by omega,by go_num,hbel,HC2,HF⟩
    case measure=>simp [intOf];omega
   | true =>
    rw [hu] at CI
    have hub:65≤c.toNat∧c.toNat≤90:=by unfold isUpB at hu;simpa using hu
    have h65:(65:Int)≤(c.toNat:Int):=by omega
    have h90:(c.toNat:Int)≤90:=by omega
    have hval:(c.toNat:Int) + 32 = ((lowU c).toNat:Int):=by
     have:(lowU c).toNat = c.toNat + 32:=by
      unfold lowU
      rw [if_pos hu,UInt8.toNat_add]
      show (c.toNat + 32) % 256 = _
      omega
     omega
    have HC2:Hid (∀ i,i < s.size→(wr.setCell ⟨w.heap.size,k,none⟩ (.int .u8 ((lowU c).toNat:Int))).cell? ⟨w.heap.size,i,none⟩ = some (.int .u8 (((smk (k + 1) s.data.toList).getD i 0).toNat:Int))):=fun i hi=>by
     rw [smk_succ k _ hll,hc,set_getD _ _ _ _ (by rw [smk_length];exact hll)]
     by_cases hik:i = k
     ·subst hik
      rw [if_pos rfl]
      exact World.cell?_setCell_same _ _ _ hck
     ·rw [if_neg hik,World.cell?_setCell_other _ _ _ _ (fun e=>hik (by injection e with _ e _;exact e.symm))]
      exact HC.out i hi
    have HF2:Hid (∀ i,i < s.size→(wr.setCell ⟨w.heap.size,k,none⟩ (.int .u8 ((lowU c).toNat:Int))).frozen? ⟨w.heap.size,i,none⟩ = false):=fun i hi=>by
     rw [World.frozen?_setCell];exact HF.out i hi
    have hb2:Below w.heap.size w (wr.setCell ⟨w.heap.size,k,none⟩ (.int .u8 ((lowU c).toNat:Int))):=hbel.setCell (Nat.le_refl _) _
    clear HC HF hc hu hub
    go_wp2_with fail
    refine CI.out.mono ?_
    rintro e w' ⟨i9,rfl,hi9,hw'⟩
    have hw'':=hw'.symm
    subst hw''
    clear CI
    go_wp2
    try simp only [hval]
    go_roundw
    case rel=>exact ⟨k + 1,by omega,by go_num,hb2,HC2,HF2⟩
    case measure=>simp [intOf];omega
  ·obtain rfl:k = s.size:=by omega
   have hr:BRow wr (some ⟨w.heap.size,0,none⟩) (smallU s.data.toList):=fun _=>⟨w.heap.size,0,rfl,fun i hi=>by
    have hi':i < s.size:=by rw [hle.out];unfold smallU at hi;rw [List.length_map] at hi;exact hi
    have:=HC.out i hi'
    rw [hle.out,smk_all] at this
    rw [Nat.zero_add]
    exact this⟩
   have hcv2:=conv_bytes wr (some ⟨w.heap.size,0,none⟩) s.size CAP (smallU s.data.toList) (by rw [hle.out];unfold smallU;rw [List.length_map]) hr (fun e=>by cases e)
   clear HC HF hr
   go_wp2
   go_ret
   exact ⟨rfl,hbel⟩
end Go.Proofs.YtbbfcbodhmeanaaGreatDoor



namespace Go.Proofs.YtbbfcbodhmeanaaGreatDoor
open Go.RowKit
set_option maxHeartbeats 2000000 in
theorem rspace_any (g:Nat) (p:ByteArray) (k:Nat) (hk:k < p.size) (w:World) (hg:w.cell? ⟨g,0,none⟩ = some (.string p)) :
  Calls Tryz.prog 109 #[.int .i64 (k:Int),.pointer (some ⟨g,0,none⟩)] w fun e w'=>e = .returned (.bool (spB (p[k]'hk)))∧w' = w:=by
 have hki:(k:Int) < (p.size:Int):=by omega
 go_enter Tryz.func109,Tryz.ntmps109
 go_wp2_with (go_at_call 93;refine (ix_any ⟨#[32,9,13,10,12]⟩ [32,9,13,10,12] rfl (p[k]'hk) _ rfl _).mono ?_;rintro e w' ⟨i,rfl,hi8,hw'⟩;have hi9:Hid (decide (0≤i) = spB (p[k]'hk)):=hi8;clear hi8;have hw'':=hw'.symm;subst hw'')
 go_ret
 exact ⟨ret_bool hi9.out,rfl⟩
def alphaL:List UInt8:=[97,98,99,100,101,102,103,104,105,106,107,108,109,110,111,112,113,114,115,116,117,118,119,120,121,122]
theorem alpha_low (c:UInt8):alphaL.contains (lowU c) = letB c:=by
 have:∀ n:Fin 256,alphaL.contains (lowU (UInt8.ofNat n.val)) = letB (UInt8.ofNat n.val):=by decide +kernel
 have h:=this ⟨c.toNat,c.toNat_lt⟩
 simpa using h
set_option maxHeartbeats 2000000 in
theorem rletter_any (g:Nat) (p:ByteArray) (k:Nat) (hp:p.size≤4000) (hk:k≤p.size + 10) (w:World) (hg:w.cell? ⟨g,0,none⟩ = some (.string p)) :
  Calls Tryz.prog 110 #[.int .i64 (k:Int),.pointer (some ⟨g,0,none⟩)] w fun e w'=>e = .returned (.bool (headL (p.data.toList.drop k)))∧Below w.heap.size w w':=by
 by_cases hlt:k < p.size
 ·have HV:Hid (headL (p.data.toList.drop k) = letB (p[k]'hlt)):=by unfold Hid;rw [dropB p k hlt];rfl
  have hx:p.extract k (k + 1) = ⟨#[p[k]'hlt]⟩:=by
   apply ByteArray.ext
   apply Array.toList_inj.1
   have e:=Lib.extract_data p k (k + 1)
   rw [e,dropB p k hlt,show k + 1 - k = 1 from by omega]
   rfl
  have HS:Hid (∀ W,Calls Tryz.prog 100 #[.string ⟨#[p[k]'hlt]⟩] W fun e w'=>e = .returned (.string ⟨#[lowU (p[k]'hlt)]⟩)∧Below W.heap.size W w'):=fun W=>rsm_any ⟨#[p[k]'hlt]⟩ W (show 1≤1000000 by decide)
  have HC:Hid (∀ W c,Calls Tryz.prog 111 #[.string ⟨#[97,98,99,100,101,102,103,104,105,106,107,108,109,110,111,112,113,114,115,116,117,118,119,120,121,122]⟩,.string ⟨#[lowU c]⟩] W fun e w'=>e = .returned (.bool (letB c))∧w' = W):=fun W c=>by
   refine (Tryz.strings_Contains_one ⟨#[97,98,99,100,101,102,103,104,105,106,107,108,109,110,111,112,113,114,115,116,117,118,119,120,121,122]⟩ (lowU c) W).mono ?_
   rintro e w' ⟨rfl,rfl⟩
   refine ⟨?_,rfl⟩
   rw [indexByte_mem,← alpha_low c]
   simp [alphaL]
  have hki:(k:Int) < (p.size:Int):=by omega
  have hk1:(k:Int) + 1≤(p.size:Int):=by omega
  have hw1:IntKind.i64.wrap ((k:Int) + 1) = ((k + 1:Nat):Int):=by rw [IntKind.wrap_i64];omega
  generalize p[k]'hlt = c at *
  go_enter Tryz.func110,Tryz.ntmps110
  go_wp2_with fail
  refine (HS.out _).mono ?_
  rintro e w1 ⟨rfl,hb1⟩
  go_wp2_with fail
  refine (HC.out _ _).mono ?_
  rintro e w2 ⟨rfl,hw2⟩
  have hw3:=hw2.symm
  subst hw3
  go_wp2_with fail
  go_ret
  exact ⟨ret_bool HV.out.symm,hb1⟩
 ·have HV:Hid (headL (p.data.toList.drop k) = false):=by unfold Hid;rw [List.drop_of_length_le (by rw [← Lib.size_eq];omega)];rfl
  have hki:decide ((k:Int) < (p.size:Int)) = false:=by simp;omega
  go_enter Tryz.func110,Tryz.ntmps110
  go_wp2_with fail
  go_ret
  exact ⟨ret_bool HV.out.symm,Below.refl _ _⟩
set_option maxHeartbeats 2000000 in
theorem rbehind_any (g:Nat) (p E:ByteArray) (s:List UInt8) (hS:Suf p s) (hE:E.size≤10) (hp:p.size≤4000) (k:Nat) (hk:k = pos p s) (w:World) (hM:∃ m:Int,w.cell? ⟨0,0,none⟩ = some (.int .i64 m)) (hg:w.cell? ⟨g,0,none⟩ = some (.string p)) :
  Calls Tryz.prog 112 #[.int .i64 (k:Int),.string E,.pointer (some ⟨g,0,none⟩)] w fun e w'=>e = .returned (.int .i64 ((pos p (behindL E.data.toList s):Nat):Int))∧w' = w:=by
 subst hk
 have hx:=ext_end hS
 have hlen:=hS.len
 have hki:((pos p s:Nat):Int)≤(p.size:Int):=by have:=pos_le p s;omega
 have hkl:=pos_le p s
 obtain ⟨mm,hmm⟩:=hM
 have HC:Hid (Calls Tryz.prog 86 #[.string (lba s),.string E] w fun e w'=>e = .returned (.int .i64 (Lib.index s E.data.toList))∧w' = w):=Tryz.strings_Index (lba s) E mm w (by rw [lba_size];omega) hmm
 have hroom:=Lib.index_room s E.data.toList
 by_cases hi:Lib.index s E.data.toList < 0
 ·have HP:Hid (pos p (behindL E.data.toList s) = p.size):=by unfold Hid behindL;rw [if_pos hi];rfl
  generalize Lib.index s E.data.toList = i at *
  generalize pos p (behindL E.data.toList s) = m at *
  generalize pos p s = k at *
  clear hroom hS hmm
  go_enter Tryz.func112,Tryz.ntmps112
  go_wp2_with fail
  refine HC.out.mono ?_
  rintro e w1 ⟨rfl,hw1⟩
  have hw2:=hw1.symm
  subst hw2
  go_wp2_with fail
  go_ret
  exact ⟨by rw [HP.out];rfl,rfl⟩
 ·have HP:Hid (((pos p s:Nat):Int) + (Lib.index s E.data.toList + (E.size:Int)) = (pos p (behindL E.data.toList s):Nat)):=behind_pos hS hi
  have hr:=hroom (by omega)
  have hw1:IntKind.i64.wrap (((pos p s:Nat):Int) + Lib.index s E.data.toList) = ((pos p s:Nat):Int) + Lib.index s E.data.toList:=by rw [IntKind.wrap_i64];omega
  have hw2:IntKind.i64.wrap (((pos p s:Nat):Int) + Lib.index s E.data.toList + (E.size:Int)) = ((pos p s:Nat):Int) + Lib.index s E.data.toList + (E.size:Int):=by rw [IntKind.wrap_i64];omega
  generalize Lib.index s E.data.toList = i at *
  generalize pos p (behindL E.data.toList s) = m at *
  generalize pos p s = k at *
  clear hroom hS hmm hr
  go_enter Tryz.func112,Tryz.ntmps112
  go_wp2_with fail
  refine HC.out.mono ?_
  rintro e w1 ⟨rfl,hw1⟩
  have hw2:=hw1.symm
  subst hw2
  go_wp2_with fail
  go_ret
  exact ⟨ret_i64 (by have:=HP.out;omega),rfl⟩
end Go.Proofs.YtbbfcbodhmeanaaGreatDoor



namespace Go.Proofs.YtbbfcbodhmeanaaGreatDoor
open Go.RowKit
theorem at_byte {p:ByteArray} {c:UInt8} {t:List UInt8} (h:Suf p (c::t)):∃ k,pos p (c::t) = k∧∃ hk:k < p.size,p[k]'hk = c∧pos p t = k + 1:=by
 have h1:=h.len
 have h2:=h.drop
 have hk:pos p (c::t) < p.size:=by unfold pos;simp only [List.length_cons] at *;omega
 refine ⟨_,rfl,hk,?_,?_⟩
 ·rw [dropB p _ hk] at h2
  exact (List.cons.inj h2).1
 ·unfold pos;simp only [List.length_cons] at *;omega
end Go.Proofs.YtbbfcbodhmeanaaGreatDoor



namespace Go.Proofs.YtbbfcbodhmeanaaGreatDoor
open Go.RowKit
def NRow (w:World) (p:Option Addr) (xs:List (List UInt8)):Prop:=xs ≠ []→∃ b o,p = some ⟨b,o,none⟩∧∀ i,i < xs.length→w.cell? ⟨b,o + i,none⟩ = some (.string (lba (xs.getD i [])))
def TellsN (i:Int) (L:List (List UInt8)) (d:List UInt8):Prop:=decide (0≤i) = L.contains d
set_option maxHeartbeats 1000000 in
theorem indexText_any (p:Option Addr) (n c:Nat) (L:List (List UInt8)) (en:n = L.length) (d:List UInt8) (w:World) (hn:n≤1000000) (hr:NRow w p L) :
  Calls Tryz.prog 155 #[.slice p n c,.string (lba d)] w fun e w'=>∃ i:Int,e = .returned (.int .i64 i)∧TellsN i L d∧w' = w:=by
 have HL:Hid (n = L.length):=en
 have HR:Hid (NRow w p L):=hr
 clear en hr
 obtain ⟨D,hD⟩:∃ D,lba d = D:=⟨_,rfl⟩
 have HDD:Hid (lba d = D):=hD
 rw [hD]
 clear hD
 go_enter Tryz.func155,Tryz.ntmps155
 go_wp2
 go_loop [8] (fun iv=>∃ k:Nat,k≤n∧iv = .int .i64 k∧Hid (L.contains d = (L.drop k).contains d)) (fun iv=>n - (intOf iv).toNat)
 case atStart=>exact ⟨0,Nat.zero_le _,rfl,rfl⟩
 case round =>
  obtain ⟨k,hk,rfl,HK⟩:=hrel
  by_cases hlt:k < n
  ·have hkl:k < L.length:=by rw [← HL.out];exact hlt
   obtain ⟨b,o,rfl,hc⟩:=HR.out (fun e=>by rw [e] at hkl;simp at hkl)
   have h1:=hc k hkl
   have hdr:L.drop k = L.getD k []::L.drop (k + 1):=by
    rw [List.drop_eq_getElem_cons hkl]
    simp [List.getD_eq_getElem?_getD,List.getElem?_eq_getElem hkl]
   have HD:Hid (L.contains d = (d == L.getD k [] || (L.drop (k + 1)).contains d)):=by unfold Hid;rw [HK.out,hdr];rfl
   clear hc hdr HK
   generalize L.getD k [] = x at *
   obtain ⟨X,hX⟩:∃ X,lba x = X:=⟨_,rfl⟩
   by_cases he:d = x
   ·subst he
    have HN:Hid (L.contains d = true):=by unfold Hid;rw [HD.out];simp
    rw [HDD.out] at h1
    clear HD hX HDD
    go_wp2
    go_ret
    exact ⟨_,rfl,by unfold TellsN;rw [HN.out];simp,rfl⟩
   ·have HN:Hid (L.contains d = (L.drop (k + 1)).contains d):=by
     unfold Hid
     rw [HD.out,show (d == x) = false from by simpa using he]
     rfl
    have he':(D.toList == X.toList) = false:=by
     rw [ByteArray.toList_eq,ByteArray.toList_eq,← HDD.out,← hX,beq_eq_false_iff_ne]
     exact he
    rw [hX] at h1
    clear HD he hX
    go_wp2
    go_round
    case rel=>exact ⟨k + 1,by omega,by go_num,HN⟩
    case measure=>simp [intOf];omega
  ·obtain rfl:k = n:=by omega
   have HN:Hid (L.contains d = false):=by unfold Hid;rw [HK.out,HL.out,List.drop_of_length_le (Nat.le_refl _)];rfl
   clear HK
   go_wp2
   go_ret
   exact ⟨_,rfl,by unfold TellsN;rw [HN.out];rfl,rfl⟩
set_option maxHeartbeats 1000000 in
theorem containsText_any (p:Option Addr) (n c:Nat) (L:List (List UInt8)) (en:n = L.length) (d:List UInt8) (w:World) (hn:n≤1000000) (hr:NRow w p L) :
  Calls Tryz.prog 113 #[.slice p n c,.string (lba d)] w fun e w'=>e = .returned (.bool (L.contains d))∧w' = w:=by
 have HC:Hid (∀ W,W = w→Calls Tryz.prog 155 #[.slice p n c,.string (lba d)] W fun e w'=>∃ i:Int,e = .returned (.int .i64 i)∧TellsN i L d∧w' = W):=fun W e=>by subst e;exact indexText_any p n c L en d W hn hr
 clear en hr
 generalize lba d = D at *
 go_enter Tryz.func113,Tryz.ntmps113
 go_wp2_with fail
 refine (HC.out _ rfl).mono ?_
 rintro e w1 ⟨i,rfl,HI,hw1⟩
 have hw2:=hw1.symm
 subst hw2
 go_wp2_with fail
 go_ret
 exact ⟨ret_bool HI,rfl⟩
theorem NRow.of_own {w:World} {B n cap:Nat} {p:Option Addr} {L:List (List UInt8)} (h:w.ownsRow B 9 1 (.slice p n cap) n (L.map fun x=>Value.string (lba x))):NRow w p L:=by
 intro hne
 rcases h.2 with ⟨hv,h0⟩ | ⟨g,cap',cur,hv,_⟩
 ·exfalso
  have h1:=h.1
  rw [h0] at h1
  simp at h1
  exact hne h1
 ·injection hv with e1 e2 e3
  subst e1
  refine ⟨g,0,rfl,fun i hi=>?_⟩
  have:=h.cells (g:=g) rfl i (.string (lba (L.getD i []))) (by
   rw [List.getElem?_map,List.getElem?_eq_getElem hi]
   simp [List.getD_eq_getElem?_getD,List.getElem?_eq_getElem hi])
  have e:(⟨g,0,none⟩:Addr).add i = ⟨g,0 + i,none⟩:=by
   unfold Addr.add
   split
   ·rename_i h0
    rw [h0]
   ·rfl
  rw [e] at this
  exact this
end Go.Proofs.YtbbfcbodhmeanaaGreatDoor


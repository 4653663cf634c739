
import Derived.Test.YtbbfcbodhmeanaaGreatDoorXbundlesays31
namespace Go.Proofs.YtbbfcbodhmeanaaGreatDoor
open Go.RowKit
def KRow (w:World) (p:Option Addr) (N:Nat) (l:List LK):Prop:=l ≠ []→∃ b,p = some ⟨b,0,none⟩∧∀ i,i < l.length→w.cell? ⟨b,i * 3,none⟩ = some (.int .i64 ((N - (l.getD i (0,[])).1:Nat):Int))∧w.cell? ⟨b,i * 3 + 1,none⟩ = some (.int .i64 ((N - (l.getD i (0,[])).1 + (l.getD i (0,[])).2.length:Nat):Int))∧w.cell? ⟨b,i * 3 + 2,none⟩ = some (.string (lba (unamp (l.getD i (0,[])).2)))
theorem KRow.below {w w':World} {p:Option Addr} {N:Nat} {l:List LK} (h:KRow w p N l) (hb:Below w.heap.size w w'):KRow w' p N l:=by
 intro hne
 obtain ⟨b,rfl,hc⟩:=h hne
 refine ⟨b,rfl,fun i hi=>?_⟩
 obtain ⟨c0,c1,c2⟩:=hc i hi
 have hlt:=World.block_lt_of_cell? w _ c0
 exact ⟨(hb.cell (p:=⟨b,i * 3,none⟩) hlt).trans c0,(hb.cell (p:=⟨b,i * 3 + 1,none⟩) hlt).trans c1,(hb.cell (p:=⟨b,i * 3 + 2,none⟩) hlt).trans c2⟩
theorem lv_get (N:Nat):∀ (l:List LK) (i:Nat),i < l.length→(lv N l)[i * 3]? = some (.int .i64 ((N - (l.getD i (0,[])).1:Nat):Int))∧(lv N l)[i * 3 + 1]? = some (.int .i64 ((N - (l.getD i (0,[])).1 + (l.getD i (0,[])).2.length:Nat):Int))∧(lv N l)[i * 3 + 2]? = some (.string (lba (unamp (l.getD i (0,[])).2)))
 | [],i,h=>by simp at h
 | x::l,0,_=>by simp [lv,lkv]
 | x::l,i + 1,h=>by
  have e:lv N (x::l) = (lkv N x).toList ++ lv N l:=by simp [lv]
  have hl:(lkv N x).toList.length = 3:=by simp [lkv]
  have:=lv_get N l i (by simpa using h)
  have e1:∀ j,((lkv N x).toList ++ lv N l)[(i + 1) * 3 + j]? = (lv N l)[i * 3 + j]?:=fun j=>by
   rw [List.getElem?_append_right (by rw [hl];omega),hl,show (i + 1) * 3 + j - 3 = i * 3 + j from by omega]
  have e0:=e1 0
  simp only [Nat.add_zero] at e0
  rw [e,e0,e1 1,e1 2]
  simpa using this
theorem owned_links {w:World} {B N:Nat} {v:Value} {l:List LK} (h:w.ownsRow B 40 3 v l.length (lv N l)):∃ p c,v = .slice p l.length c∧l.length≤c∧c≤maxLen∧(p = none→l.length = 0∧c = 0)∧KRow w p N l:=by
 have hcl:=fun g hg=>h.cells (g:=g) hg
 rcases h.2 with ⟨rfl,h0⟩ | ⟨g,cap,cur,rfl,_,_,hn,hm,_,_⟩
 ·exact ⟨none,0,by rw [h0],by omega,by decide,fun _=>⟨h0,rfl⟩,fun hne=>absurd (List.length_eq_zero_iff.1 h0) hne⟩
 ·refine ⟨some ⟨g,0,none⟩,cap,rfl,hn,hm,(fun h=>by cases h),fun hne=>⟨g,rfl,fun i hi=>?_⟩⟩
  obtain ⟨c0,c1,c2⟩:=lv_get N l i hi
  have k0:=hcl g rfl (i * 3) _ c0
  have k1:=hcl g rfl (i * 3 + 1) _ c1
  have k2:=hcl g rfl (i * 3 + 2) _ c2
  rw [Addr.add_lit,Nat.zero_add] at k0 k1 k2
  exact ⟨k0,k1,k2⟩
def Ord (N:Nat):Nat→List LK→Prop
 | _,[]=>True
 | d,x::ls=>x.1≤N∧d≤N - x.1∧x.2.length≤x.1∧Ord N (N - x.1 + x.2.length) ls
theorem Ord.mono {N:Nat}:∀ {l:List LK} {d d':Nat},Ord N d l→d'≤d→Ord N d' l
 | [],_,_,_,_=>trivial
 | _::_,_,_,h,hd=>⟨h.1,Nat.le_trans hd h.2.1,h.2.2.1,h.2.2.2⟩
theorem ord_lefts:∀ (ss:List SG) (N d:Nat),d + (flatS ss).length = N→Ord N d (leftsS ss 0)
 | [],_,_,_=>trivial
 | (false,t)::ss,N,d,h=>by
  rw [lefts_lit]
  rw [flat_cons,List.length_append] at h
  exact (ord_lefts ss N (d + t.length) (by omega)).mono (by omega)
 | (true,t)::ss,N,d,h=>by
  rw [lefts_val]
  rw [flat_cons,List.length_append] at h
  have e:N - ((t ++ flatS ss).length + 0) = d:=by rw [List.length_append];omega
  refine ⟨by simp only [List.length_append];omega,by simp only [e];omega,by simp only [List.length_append];omega,?_⟩
  simp only [e]
  exact ord_lefts ss N (d + t.length) (by omega)
theorem find_ord (low:List UInt8→List UInt8) (b:List UInt8) (l:List LK) (h:findP low b = some l):Ord b.length 0 l∧l.length≤60∧b.length≤4000:=by
 unfold findP at h
 split at h
 ·cases h
 ·rename_i h4
  obtain ⟨ss,h1,h2,_⟩:=find_seg low b.length [] b l (Nat.le_refl _) h
  rw [List.nil_append] at h2
  refine ⟨by rw [h2];exact ord_lefts ss b.length 0 (by rw [← h1];simp),?_,by omega⟩
  have:∀ (n:Nat) (acc:List LK) (s:List UInt8) (L:List LK),findF low n acc s = some L→acc.length≤60→L.length≤60:=by
   intro n
   induction n with
   | zero=>intro acc s L h ha;simp only [findF,Option.some.injEq] at h;rw [← h];exact ha
   | succ n ih =>
    intro acc s L h ha
    rw [findF] at h
    split at h
    ·simp only [Option.some.injEq] at h;rw [← h];exact ha
    ·split at h
     ·cases h
     ·rename_i h60
      exact ih _ _ _ h (by omega)
  exact this _ _ _ _ h (by simp)
end Go.Proofs.YtbbfcbodhmeanaaGreatDoor



namespace Go.Proofs.YtbbfcbodhmeanaaGreatDoor
open Go.RowKit
set_option maxHeartbeats 4000000 in
theorem ok2_any (k:Nat) (w:World) (g:Nat) (q:Option Addr) (c:Nat) (L:List PT) (wh:List (List UInt8)) (hk:k < L.length) (h:SAt w g q c L wh) (s0 i0:Nat) (t:List UInt8) (h1:w.cell? ⟨s0,0,none⟩ = some (.pointer (some ⟨g,0,none⟩))) (h2:w.cell? ⟨i0,0,none⟩ = some (.string (tx8 t))) :
  Calls Tryz.prog 84 #[.int .i64 (k:Int),.pointer (some ⟨s0,0,none⟩),.pointer (some ⟨i0,0,none⟩)] w fun e w'=>e = .returned (.bool (okLoc wh t k (L.getD k pt0)))∧Below w.heap.size w w':=by
 obtain ⟨b,o,rfl,hbl,pb,cb,pk,ck,⟨-,-,-,c3,-⟩,-⟩:=h.part k hk
 have hgl:=h.lt
 have hs:=h.slice
 have hc1:=h.cap.1
 have hc2:=h.cap.2
 have h12:=h.few
 have ht:=h.text k (by omega)
 have hsh:(wh.getD k []).length≤120:=wh_short h.short k
 clear h
 obtain ⟨n,hn⟩:∃ n,L.length = n:=⟨_,rfl⟩
 rw [hn] at hk hs hc1 h12
 clear hn
 have HO:Hid (okLoc wh t k (L.getD k pt0) = (!(L.getD k pt0).loc.toList.isEmpty && ((tx8 (noFr (wh.getD k []))).toList == (tx8 t).toList))):=by
  unfold Hid okLoc
  rw [ByteArray.toList_eq,ByteArray.toList_eq,ByteArray.toList_eq,tx8_data,tx8_data]
 have CF:Hid (∀ W,Calls Tryz.prog 80 #[.string (tx8 (wh.getD k []))] W fun e w'=>e = .returned (.string (tx8 (noFr (wh.getD k []))))∧Below W.heap.size W w'):=fun W=>bfrag_any _ (by rw [tx8_size];unfold maxLen;omega) W
 generalize (L.getD k pt0).loc = I at *
 generalize okLoc wh t k (L.getD k pt0) = R at *
 generalize noFr (wh.getD k []) = NF at *
 generalize wh.getD k [] = wk at *
 have hkz:(k:Int) < (n:Int):=by omega
 have hk12:(k:Int) < 12:=by omega
 have hk0:(0:Int)≤(k:Int):=by omega
 by_cases he:I.toList.isEmpty = true
 ·have HR:Hid (R = false):=by unfold Hid;rw [HO.out,he];rfl
  clear HO CF
  go_enter Tryz.func84,Tryz.ntmps84
  go_wp2_with fail
  go_quiet (fail)
  go_wp2_with fail
  go_ret
  exact ⟨by rw [HR.out];rfl,below_drewN' (Below.refl _ _) _⟩
 ·have he:I.toList.isEmpty = false:=by simpa using he
  have HR:Hid (R = ((tx8 NF).toList == (tx8 t).toList)):=by unfold Hid;rw [HO.out,he];rfl
  clear HO
  have k1:∀ w',Below w.heap.size w w'→w'.cell? ⟨s0,0,none⟩ = some (.pointer (some ⟨g,0,none⟩)):=fun w' hb=>(hb.cell (p:=⟨s0,0,none⟩) (World.block_lt_of_cell? w _ h1)).trans h1
  have k2:∀ w',Below w.heap.size w w'→w'.cell? ⟨i0,0,none⟩ = some (.string (tx8 t)):=fun w' hb=>(hb.cell (p:=⟨i0,0,none⟩) (World.block_lt_of_cell? w _ h2)).trans h2
  have k3:∀ w',Below w.heap.size w w'→w'.cell? ⟨g,0,none⟩ = some (.slice (some ⟨b,o,none⟩) n c):=fun w' hb=>(hb.cell (p:=⟨g,0,none⟩) hgl).trans hs
  have k4:∀ w',Below w.heap.size w w'→w'.cell? ⟨g,1 + k,none⟩ = some (.string (tx8 wk)):=fun w' hb=>(hb.cell (p:=⟨g,1 + k,none⟩) hgl).trans ht
  have k5:∀ w',Below w.heap.size w w'→w'.cell? ⟨b,o + k * 7 + 3,none⟩ = some (.string I):=fun w' hb=>(hb.cell (p:=⟨b,o + k * 7 + 3,none⟩) hbl).trans c3
  clear h1 h2 hs ht c3
  have hb0:Below w.heap.size w w:=Below.refl _ _
  go_enter Tryz.func84,Tryz.ntmps84
  go_wp2_with fail
  go_region_held3 (fun w'=>Below w.heap.size w w') (first | assumption | exact hb0.drew) (first
   | (go_at_call 80;refine (CF.out _).mono ?_;rintro e w1 ⟨rfl,hb1⟩;have hbe1:Below w.heap.size w w1:=(hb0.drew).trans (hb1.mono (Nat.le_refl _));clear hb1))
  go_wp2_with fail
  go_ret
  exact ⟨by rw [HR.out];rfl,hbe1⟩
theorem firstP_skip (ok:Nat→PT→Bool) (L:List PT) (k:Nat) (hk:k < L.length) (h:¬ (manyS (L.getD k pt0).ty.data.toList = false∧ok k (L.getD k pt0) = true)):firstP ok k (L.drop k) = firstP ok (k + 1) (L.drop (k + 1)):=by
 have e:L.getD k pt0 = L[k]:=by rw [List.getD_eq_getElem?_getD,List.getElem?_eq_getElem hk];rfl
 rw [e] at h
 rw [List.drop_eq_getElem_cons hk,firstP,if_neg h]
theorem firstP_hit (ok:Nat→PT→Bool) (L:List PT) (k:Nat) (hk:k < L.length) (h:manyS (L.getD k pt0).ty.data.toList = false∧ok k (L.getD k pt0) = true):firstP ok k (L.drop k) = k:=by
 have e:L.getD k pt0 = L[k]:=by rw [List.getD_eq_getElem?_getD,List.getElem?_eq_getElem hk];rfl
 rw [e] at h
 rw [List.drop_eq_getElem_cons hk,firstP,if_pos h]
set_option maxHeartbeats 4000000 in
set_option maxRecDepth 100000 in
theorem first_any (F:Nat) (caps:Array Value) (ok:Nat→PT→Bool) (w:World) (g:Nat) (q:Option Addr) (c:Nat) (L:List PT) (wh:List (List UInt8)) (h:SAt w g q c L wh)
  (hcall:∀ (args:Array Value) (W:World),Sem.run Tryz.prog (callFunc F args) W = .ok (.enter F args) W)
  (hask:∀ (k:Nat) (W:World),k < L.length→Below w.heap.size w W→Calls Tryz.prog F (#[.int .i64 (k:Int)] ++ caps) W fun e w'=>e = .returned (.bool (ok k (L.getD k pt0)))∧Below W.heap.size W w') :
  Calls Tryz.prog 82 #[.pointer (some ⟨g,0,none⟩),.func (Fn.func F) #[] caps] w fun e w'=>e = .returned (.int .i64 (firstP ok 0 L))∧Below w.heap.size w w':=by
 have HS:Hid (SAt w g q c L wh):=h
 have HA:Hid (∀ (k:Nat) (W:World),k < L.length→Below w.heap.size w W→Calls Tryz.prog F (#[.int .i64 (k:Int)] ++ caps) W fun e w'=>e = .returned (.bool (ok k (L.getD k pt0)))∧Below W.heap.size W w'):=hask
 have hs:=h.slice
 have hc1:=h.cap.1
 have hc2:=h.cap.2
 have h12:=h.few
 clear h hask
 obtain ⟨n,hn⟩:∃ n,L.length = n:=⟨_,rfl⟩
 have HN:Hid (L.length = n):=hn
 rw [hn] at hs hc1 h12
 clear hn
 obtain ⟨R,hR⟩:∃ R,firstP ok 0 L = R:=⟨_,rfl⟩
 have HR:Hid (firstP ok 0 L = R):=hR
 rw [hR]
 clear hR
 go_enter Tryz.func82,Tryz.ntmps82
 go_wp2_with fail
 go_loopw [12] (fun iv wr=>∃ k:Nat,k≤n∧iv = .int .i64 k∧Below w.heap.size w wr∧Hid (firstP ok k (L.drop k) = R)) (fun iv _=>n - (intOf iv).toNat)
 case atStart=>exact ⟨0,Nat.zero_le _,rfl,Below.refl _ _,HR⟩
 case round =>
  obtain ⟨k,hk,rfl,hbr,HK⟩:=hrel
  clear HR
  by_cases hlt:k < n
  ·have hlz:(k:Int) < (n:Int):=by omega
   obtain ⟨b,o,rfl,hbl,pb,cb,pk,ck,⟨c0,c1,c2,c3,c4,c5,c6⟩,hH⟩:=(HS.out.below hbr).part k (by rw [HN.out];exact hlt)
   have CM:Hid (∀ W,Calls Tryz.prog 18 #[.string (L.getD k pt0).ty] W fun e w'=>e = .returned (.bool (manyS (L.getD k pt0).ty.data.toList))∧w' = W):=fun W=>pmany_any _ W
   have HCA:Hid (∀ (W:World),Below w.heap.size w W→Calls Tryz.prog F (#[.int .i64 (k:Int)] ++ caps) W fun e w'=>e = .returned (.bool (ok k (L.getD k pt0)))∧Below W.heap.size W w'):=fun W hW=>HA.out k W (by rw [HN.out];exact hlt) hW
   have HSk:Hid (¬ (manyS (L.getD k pt0).ty.data.toList = false∧ok k (L.getD k pt0) = true)→firstP ok (k + 1) (L.drop (k + 1)) = R):=fun hn=>by rw [← firstP_skip ok L k (by rw [HN.out];exact hlt) hn];exact HK.out
   have HHit:Hid (manyS (L.getD k pt0).ty.data.toList = false∧ok k (L.getD k pt0) = true→R = k):=fun hn=>by rw [← HK.out];exact firstP_hit ok L k (by rw [HN.out];exact hlt) hn
   clear hH HK
   have hsz:=hbr.size
   generalize ok k (L.getD k pt0) = OK at *
   generalize manyS (L.getD k pt0).ty.data.toList = MA at *
   generalize (L.getD k pt0).body.length = nb at *
   generalize (L.getD k pt0).kids.length = nk at *
   generalize (L.getD k pt0).how = hw at *
   generalize (L.getD k pt0).ty = ty at *
   cases MA with
   | true =>
    have HX:Hid (firstP ok (k + 1) (L.drop (k + 1)) = R):=HSk.out (by simp)
    clear HSk HHit
    go_wp2_with fail
    refine (CM.out _).mono ?_
    rintro e w1 ⟨rfl,rfl⟩
    clear CM
    go_wp2_with fail
    go_roundw
    case rel=>exact ⟨k + 1,by omega,by go_num,hbr.alloc hsz _,HX⟩
    case measure=>simp [intOf];omega
   | false =>
    go_wp2_with fail
    refine (CM.out _).mono ?_
    rintro e w1 ⟨rfl,rfl⟩
    clear CM
    go_wp2_with fail
    refine (HCA.out _ (hbr.alloc hsz _)).mono ?_
    rintro e w2 ⟨rfl,hb2⟩
    have hbe2:Below w.heap.size w w2:=(hbr.alloc hsz _).trans (hb2.mono (by simp;omega))
    clear HCA hb2
    cases OK with
    | true =>
     have HX:Hid (R = k):=HHit.out (by simp)
     clear HSk HHit
     go_wp2_with fail
     go_ret
     exact ⟨by rw [HX.out];rfl,hbe2⟩
    | false =>
     have HX:Hid (firstP ok (k + 1) (L.drop (k + 1)) = R):=HSk.out (by simp)
     clear HSk HHit
     go_wp2_with fail
     go_roundw
     case rel=>exact ⟨k + 1,by omega,by go_num,hbe2,HX⟩
     case measure=>simp [intOf];omega
  ·have hlz:¬ (k:Int) < (n:Int):=by omega
   have HX:Hid (R = -1):=by
    unfold Hid
    rw [← HK.out,List.drop_of_length_le (by rw [HN.out];omega),firstP]
   clear HK
   go_wp2_with fail
   go_ret
   exact ⟨by rw [HX.out];rfl,hbr⟩
end Go.Proofs.YtbbfcbodhmeanaaGreatDoor



namespace Go.Proofs.YtbbfcbodhmeanaaGreatDoor
open Go.RowKit
set_option maxHeartbeats 1000000 in
set_option maxRecDepth 100000 in
theorem within_any (p:PT) (pb:Option Addr) (cb:Nat) (pk:Option Addr) (ck F:Nat) (w:World) (hH:PHeld w F p pb cb pk ck) :
  Calls Tryz.prog 79 #[.agg #[.string p.ty,.string p.cs,.string p.id,.string p.loc,.int .i64 p.how,.slice pb p.body.length cb,.slice pk p.kids.length ck]] w fun e w'=>WithinPost w (placesP p) e w':=by
 have CC:Hid (∀ w',Below w.heap.size w w'→Calls Tryz.prog 73 #[.agg #[.string p.ty,.string p.cs,.string p.id,.string p.loc,.int .i64 p.how,.slice pb p.body.length cb,.slice pk p.kids.length ck]] w' fun e w''=>CheckedPost w' (placesP p) e w''):=fun w' hb=>checked_any p pb cb pk ck F w' (hH.below hb)
 have hfew:=placesP_few p
 generalize placesP p = R at *
 clear hH
 obtain ⟨i0,hi,hz0,hz1,hz2⟩:=info_parts info_int
 go_enter Tryz.func79,Tryz.ntmps79
 go_wp2_with fail
 refine (CC.out _ ((Below.refl _ _).alloc (Nat.le_refl _) _)).mono ?_
 rintro e w1 ⟨hb1,h1,h2⟩
 have hbel1:=((Below.refl _ w).alloc (Nat.le_refl _) _).trans (hb1.mono (by simp))
 by_cases hr:R.1 = 0
 ·obtain ⟨q,c,X,rfl,hown,hX⟩:=h2 hr
  have HR0:Hid (R.1 = 0):=hr
  clear h1 h2 hr CC hb1
  obtain ⟨n,hn⟩:∃ n,R.2.length = n:=⟨_,rfl⟩
  have HN:Hid (R.2.length = n):=hn
  rw [hn] at hown hfew
  simp only [hn]
  have HE:Hid (∀ k,k < n→∃ (g:Nat) (b o:Nat) (y:PT × Int),q = some ⟨g,0,none⟩∧R.2[k]? = some y∧w1.cell? ⟨g,k * 2,none⟩ = some (.pointer (some ⟨b,o,none⟩))∧w1.cell? ⟨g,k * 2 + 1,none⟩ = some (.int .i64 y.2)∧∃ f,PAt w1 f b o y.1):=fun k hk=>place_each hown hX hn.symm k hk
  clear hown hX hn
  go_wp2_with fail
  go_loopw [6,19] (fun ov iv wr=>∃ (k:Nat) (q6:Option Addr) (n6 c6:Nat),k≤n∧iv = .int .i64 k∧ov = .slice q6 n6 c6∧Below w1.heap.size w1 wr∧Hid (wr.ownsRow w1.heap.size 3 1 (.slice q6 n6 c6) k (izv ((R.2.take k).map (·.2))))) (fun _ iv _=>n - (intOf iv).toNat)
  case atStart=>exact ⟨0,none,0,0,Nat.zero_le _,rfl,rfl,Below.refl _ _,World.ownsRow_nil _ _ _ _⟩
  case round =>
   obtain ⟨k,q6,n6,c6,hk,rfl,rfl,hbr,HO⟩:=hrel
   have hsr:=hbr.size
   by_cases hlt:k < n
   ·have hlz:(k:Int) < (n:Int):=by omega
    obtain ⟨g,b,o,y,rfl,hy,hc1,hc2,_⟩:=HE.out k hlt
    have hcr1:=(hbr.cell (World.block_lt_of_cell? w1 _ hc1)).trans hc1
    have hcr2:=(hbr.cell (World.block_lt_of_cell? w1 _ hc2)).trans hc2
    have HT:Hid (izv ((R.2.take (k + 1)).map (·.2)) = izv ((R.2.take k).map (·.2)) ++ [.int .i64 y.2]):=by
     unfold Hid
     rw [List.take_add_one,hy]
     simp [izv]
    clear hc1 hc2 HE hy
    obtain ⟨z,hz⟩:∃ z,y.2 = z:=⟨_,rfl⟩
    rw [hz] at hcr2 HT
    clear hz
    go_wp2_with (at_builtin;refine wpList_append_own _ rfl (.tmp 23) (.tmp 26) 124 rfl w1.heap.size 3 i0 (.int .i64 0) 1 8 Tryz.underlying124 hi hz0 hz1 hz2 rfl (by decide) _ _ _ rfl ((HO.out.alloc _).alloc _) ⟨wr.heap.size + 1,0,none⟩ 1 1 [.int .i64 z] rfl rfl (cell_lone _ _ _ _ (by simp)) (one_int _) ?c3 ?c4 ?c5 ?_)
    case c3=>unfold maxLen;omega
    case c4=>omega
    case c5=>first | omega | (simp;omega)
    intro v9 w9 hown9 hg9 _
    have hb9:Below w1.heap.size w1 w9:=((hbr.alloc hsr _).alloc (by simp;omega) _).grown hg9 (by simp;omega) (fun j hj=>(HO.out.lt j hj).1)
    have R9:Hid (w9.ownsRow w1.heap.size 3 1 v9 (k + 1) (izv ((R.2.take (k + 1)).map (·.2)))):=by unfold Hid;rw [HT.out,List.map_take];exact hown9
    clear hown9 hg9 HO HT
    obtain ⟨q9,c9,rfl⟩:=owned_slice R9.out
    go_wp2_with fail
    go_roundw
    case rel=>exact ⟨k + 1,q9,k + 1,c9,by omega,by go_num,rfl,hb9,R9⟩
    case measure=>simp [intOf];omega
   ·have hlz:¬ ((k:Int) < (n:Int)):=by omega
    obtain rfl:k = n:=by omega
    have R9:wr.ownsRow w1.heap.size 3 1 (.slice q6 n6 c6) (R.2.map (·.2)).length (izv (R.2.map (·.2))):=by
     have:=HO.out
     rw [List.take_of_length_le (by rw [HN.out];omega)] at this
     rw [List.length_map,HN.out]
     exact this
    obtain ⟨q9,c9,e9,hle,hcm,hnil,hrow⟩:=owned_ints R9
    injection e9 with e1 e2 e3
    subst e1 e2 e3
    rw [List.length_map,HN.out] at hle hnil
    have HRow:Hid (IRow wr q6 (R.2.map (·.2))):=hrow
    simp only [List.length_map,HN.out]
    clear hrow R9 HE HO
    go_wp2_with fail
    go_ret2
    refine ⟨hbel1.trans (hbr.mono hbel1.size),fun h=>absurd HR0.out h,fun _=>⟨q6,c6,?_,?_,hcm,fun h=>(hnil h).2,HRow.out⟩⟩
    ·simp only [HN.out];rfl
    ·rw [HN.out];exact hle
 ·obtain rfl:=h1 hr
  clear h1 h2 CC
  have hrz:(((R.1:Nat):Int) == 0) = false:=by rw [beq_eq_false_iff_ne];omega
  obtain ⟨r,hrr⟩:∃ r,R.1 = r:=⟨_,rfl⟩
  have HR:Hid (R.1 = r):=hrr
  rw [hrr] at hrz hr
  simp only [hrr]
  clear hrr
  go_wp2_with fail
  go_ret2
  exact ⟨hbel1,fun _=>by rw [HR.out];rfl,fun h=>absurd (HR.out.symm.trans h) hr⟩
end Go.Proofs.YtbbfcbodhmeanaaGreatDoor



namespace Go.Proofs.YtbbfcbodhmeanaaGreatDoor
open Go.RowKit
set_option maxHeartbeats 2000000 in
set_option maxRecDepth 100000 in
theorem all_any (p:PT) (pb:Option Addr) (cb:Nat) (pk:Option Addr) (ck F:Nat) (w:World) (hH:PHeld w F p pb cb pk ck) :
  Calls Tryz.prog 33 #[.agg #[.string p.ty,.string p.cs,.string p.id,.string p.loc,.int .i64 p.how,.slice pb p.body.length cb,.slice pk p.kids.length ck]] w fun e w'=>AllPost w (placesP p) e w':=by
 have CC:Hid (∀ w',Below w.heap.size w w'→Calls Tryz.prog 73 #[.agg #[.string p.ty,.string p.cs,.string p.id,.string p.loc,.int .i64 p.how,.slice pb p.body.length cb,.slice pk p.kids.length ck]] w' fun e w''=>CheckedPost w' (placesP p) e w''):=fun w' hb=>checked_any p pb cb pk ck F w' (hH.below hb)
 have hfew:=placesP_few p
 have HCh:Hid (∀ x ∈ (placesP p).2,chkA x.1 = 0):=placesP_each p
 generalize placesP p = R at *
 clear hH
 obtain ⟨i0,hi,hz0,hz1,hz2⟩:=info_parts info_part
 go_enter Tryz.func33,Tryz.ntmps33
 go_wp2_with fail
 refine (CC.out _ ((Below.refl _ _).alloc (Nat.le_refl _) _)).mono ?_
 rintro e w1 ⟨hb1,h1,h2⟩
 have hbel1:=((Below.refl _ w).alloc (Nat.le_refl _) _).trans (hb1.mono (by simp))
 by_cases hr:R.1 = 0
 ·obtain ⟨q,c,X,rfl,hown,hX⟩:=h2 hr
  have HR0:Hid (R.1 = 0):=hr
  clear h1 h2 hr CC hb1
  obtain ⟨n,hn⟩:∃ n,R.2.length = n:=⟨_,rfl⟩
  have HN:Hid (R.2.length = n):=hn
  rw [hn] at hown hfew
  simp only [hn]
  have HE:Hid (∀ k,k < n→∃ (g:Nat) (b o:Nat) (y:PT × Int),q = some ⟨g,0,none⟩∧R.2[k]? = some y∧w1.cell? ⟨g,k * 2,none⟩ = some (.pointer (some ⟨b,o,none⟩))∧w1.cell? ⟨g,k * 2 + 1,none⟩ = some (.int .i64 y.2)∧∃ f,PAt w1 f b o y.1):=fun k hk=>place_each hown hX hn.symm k hk
  clear hown hX hn
  go_wp2_with fail
  go_loopw [6,20] (fun ov iv wr=>∃ (k:Nat) (q6:Option Addr) (n6 c6:Nat) (Y:List PY),k≤n∧iv = .int .i64 k∧ov = .slice q6 n6 c6∧Below w1.heap.size w1 wr∧Hid (wr.ownsRow w1.heap.size 25 7 (.slice q6 n6 c6) k (pav Y))∧Hid (Bodies wr w1.heap.size Y)∧Hid (Y.map (·.1) = (R.2.take k).map fun x=>x.1.alone)) (fun _ iv _=>n - (intOf iv).toNat)
  case atStart=>exact ⟨0,none,0,0,[],Nat.zero_le _,rfl,rfl,Below.refl _ _,World.ownsRow_nil _ _ _ _,(fun y hy=>by cases hy),rfl⟩
  case round =>
   obtain ⟨k,q6,n6,c6,Y,hk,rfl,rfl,hbr,HO,HB,HY⟩:=hrel
   have hsr:=hbr.size
   by_cases hlt:k < n
   ·have hlz:(k:Int) < (n:Int):=by omega
    obtain ⟨g,b,o,y,rfl,hy,hc1,hc2,f,hPy⟩:=HE.out k hlt
    have hcr1:=(hbr.cell (World.block_lt_of_cell? w1 _ hc1)).trans hc1
    have hcr2:=(hbr.cell (World.block_lt_of_cell? w1 _ hc2)).trans hc2
    have h4000:y.1.body.length≤4000:=chkA_body _ (HCh.out y (List.mem_of_getElem? hy))
    have HT:Hid ((R.2.take (k + 1)).map (fun x=>x.1.alone) = (R.2.take k).map (fun x=>x.1.alone) ++ [y.1.alone]):=by
     unfold Hid
     rw [List.take_add_one,hy]
     simp
    obtain ⟨pb2,cb2,pk2,ck2,hC,hH⟩:=hPy.below hbr
    have HLen:Hid (PLen y.1):=hH.1
    have HBody:Hid (∀ w',Below wr.heap.size wr w'→BRow w' pb2 y.1.body):=fun w' hb=>hH.2.2.1.under hb
    clear hc1 hc2 HE hy hPy hH HCh
    obtain ⟨z,hz⟩:∃ z,y.2 = z:=⟨_,rfl⟩
    rw [hz] at hcr2
    clear hz
    obtain ⟨⟨ty,cs,id,loc,how,body,kids⟩,iny⟩:=y
    obtain ⟨d0,d1,d2,d3,d4,d5,d6⟩:=hC
    simp only at d0 d1 d2 d3 d4 d5 d6 h4000 HBody
    obtain ⟨nb,hnb⟩:∃ nb,body.length = nb:=⟨_,rfl⟩
    have HNB:Hid (nb = body.length):=hnb.symm
    have CB:Hid (∀ w',Below wr.heap.size wr w'→Calls Tryz.prog 74 #[.slice pb2 nb cb2] w' fun e w''=>∃ q c,e = .returned (.slice q nb c)∧w''.ownsRow w'.heap.size 5 1 (.slice q nb c) nb (bv body)∧Below w'.heap.size w' w''):=fun w' hb=>bclone_any pb2 body nb cb2 hnb.symm w' (HBody.out w' hb) (by omega)
    rw [hnb] at d5 h4000
    obtain ⟨nk,hnk⟩:∃ nk,kids.length = nk:=⟨_,rfl⟩
    rw [hnk] at d6
    clear hnb hnk HBody
    have hbB:b < wr.heap.size:=World.block_lt_of_cell? wr _ d0
    have hbA:Below wr.heap.size wr ((wr.alloc (.cells #[Value.pointer (some ⟨b,o,none⟩),.int .i64 z] 117)).alloc (.cells #[Value.string ty,.string cs,.string id,.string loc,.int .i64 how,.slice pb2 nb cb2,.slice pk2 nk ck2] 25)):=((Below.refl _ _).alloc (Nat.le_refl _) _).alloc (by simp) _
    go_wp2_with fail
    refine (CB.out _ hbA).mono ?_
    rintro e w2 ⟨qb,cc,rfl,hob,hb2⟩
    obtain ⟨m0,m1,m2,m3,m4,m5,m6,m7,m8,m9,m10⟩:=made_seven hb2 (wr.heap.size + 1) (by simp)
    have hbW2:Below wr.heap.size wr w2:=hbA.trans (hb2.mono (by simp;omega))
    have hbW4:Below wr.heap.size wr ((w2.setCell ⟨wr.heap.size + 1,5,none⟩ (.slice qb nb cc)).setCell ⟨wr.heap.size + 1,6,none⟩ (.slice none 0 0)):=(hbW2.setCell (by simp) _).setCell (by simp) _
    have hown4:=ownsRow_below HO.out hbW4
    have hob4:((w2.setCell ⟨wr.heap.size + 1,5,none⟩ (.slice qb nb cc)).setCell ⟨wr.heap.size + 1,6,none⟩ (.slice none 0 0)).ownsRow w1.heap.size 5 1 (.slice qb nb cc) nb (bv body) :=
     owns_weaken (owns_set (owns_set hob _ _ (by simp)) _ _ (by simp)) (by simp;omega)
    have hs2:w1.heap.size≤w2.heap.size:=Nat.le_trans hsr hbW2.size
    obtain ⟨w4,hw4⟩:∃ w4,(w2.setCell ⟨wr.heap.size + 1,5,none⟩ (.slice qb nb cc)).setCell ⟨wr.heap.size + 1,6,none⟩ (.slice none 0 0) = w4:=⟨_,rfl⟩
    have hs4:w4.heap.size = w2.heap.size:=by rw [← hw4];simp
    have k0:w4.cell? ⟨wr.heap.size + 1,0,none⟩ = some (.string ty):=by rw [← hw4,set_other (i:=6) (j:=0) (by decide),set_other (i:=5) (j:=0) (by decide)];exact m0
    have k1:w4.cell? ⟨wr.heap.size + 1,1,none⟩ = some (.string cs):=by rw [← hw4,set_other (i:=6) (j:=1) (by decide),set_other (i:=5) (j:=1) (by decide)];exact m1
    have k2:w4.cell? ⟨wr.heap.size + 1,2,none⟩ = some (.string id):=by rw [← hw4,set_other (i:=6) (j:=2) (by decide),set_other (i:=5) (j:=2) (by decide)];exact m2
    have k3:w4.cell? ⟨wr.heap.size + 1,3,none⟩ = some (.string loc):=by rw [← hw4,set_other (i:=6) (j:=3) (by decide),set_other (i:=5) (j:=3) (by decide)];exact m3
    have k4:w4.cell? ⟨wr.heap.size + 1,4,none⟩ = some (.int .i64 how):=by rw [← hw4,set_other (i:=6) (j:=4) (by decide),set_other (i:=5) (j:=4) (by decide)];exact m4
    have k5:w4.cell? ⟨wr.heap.size + 1,5,none⟩ = some (.slice qb nb cc):=by rw [← hw4,set_other (i:=6) (j:=5) (by decide)];exact World.cell?_setCell_same _ _ _ m5
    have k6:w4.cell? ⟨wr.heap.size + 1,6,none⟩ = some (.slice none 0 0):=by rw [← hw4];exact World.cell?_setCell_same _ _ _ ((set_other (i:=5) (j:=6) (by decide)).trans m6)
    have HB4:Hid (Bodies w4 w1.heap.size Y):=fun y hy=>⟨(HB.out y hy).1,(HB.out y hy).2.1,by rw [← hw4];exact ownsRow_below (HB.out y hy).2.2 hbW4⟩
    have HOb4:Hid (w4.ownsRow w1.heap.size 5 1 (.slice qb nb cc) nb (bv body)):=by unfold Hid;rw [← hw4];exact hob4
    have HO4:Hid (w4.ownsRow w1.heap.size 25 7 (.slice q6 n6 c6) k (pav Y)):=by unfold Hid;rw [← hw4];exact hown4
    have HbW4:Hid (Below wr.heap.size wr w4):=by unfold Hid;rw [← hw4];exact hbW4
    clear hob hob4 hown4 hbW4 HB HO hb2 m10 hbA CB d0 d1 d2 d3 d4 d5 d6 hcr1 hcr2
    go_wp2_with (at_builtin;refine wpList_append_own _ rfl (.tmp 33) (.tmp 35) 23 rfl w1.heap.size 25 i0 (.agg #[.string ⟨#[]⟩,.string ⟨#[]⟩,.string ⟨#[]⟩,.string ⟨#[]⟩,.int .i64 0,.slice none 0 0,.slice none 0 0]) 7 120 Tryz.underlying23 hi hz0 hz1 hz2 rfl (by decide) _ _ _ rfl (HO4.out.alloc _) ⟨w2.heap.size,0,none⟩ 1 1 [.string ty,.string cs,.string id,.string loc,.int .i64 how,.slice qb nb cc,.slice none 0 0] rfl rfl ?c1 ?c2 ?c3 ?c4 ?c5 ?_)
    case c1=>exact cell_seven _ [_,_,_,_,_,_,_] _ _ hs4.symm
    case c2=>intro u hu;simp at hu;rcases hu with rfl | rfl | rfl | rfl | rfl | rfl | rfl <;> rfl
    case c3=>unfold maxLen;omega
    case c4=>omega
    case c5=>simp;omega
    intro v9 w9 hown9 hg9 _
    have hb49:Below w1.heap.size w1 w4:=hbr.trans (HbW4.out.mono hsr)
    have hb9:Below w1.heap.size w1 w9:=(hb49.alloc hb49.size _).grown hg9 (by simp;omega) (fun j hj=>(HO4.out.lt j hj).1)
    have keep:∀ {n:Nat} {v:Value} {xs:List Value},w4.ownsRow w1.heap.size 5 1 v n xs→w9.ownsRow w1.heap.size 5 1 v n xs:=fun h=>(h.alloc _).kept hg9 (owns_apart h HO4.out (by decide))
    have R9:Hid (w9.ownsRow w1.heap.size 25 7 v9 (k + 1) (pav (Y ++ [(⟨ty,cs,id,loc,how,body,[]⟩,qb,cc)]))):=by unfold Hid;rw [pav_snoc,← HNB.out];exact hown9
    have HB9:Hid (Bodies w9 w1.heap.size (Y ++ [(⟨ty,cs,id,loc,how,body,[]⟩,qb,cc)])):=fun y hy=>by
     rcases List.mem_append.1 hy with h | h
     ·exact ⟨(HB4.out y h).1,(HB4.out y h).2.1,keep (HB4.out y h).2.2⟩
     ·obtain rfl:=List.mem_singleton.1 h
      obtain ⟨l0,l1,l2,l3,l4,l5,l6,_⟩:=HLen.out
      refine ⟨rfl,⟨l0,l1,l2,l3,l4,l5,l6,Nat.zero_le _⟩,?_⟩
      simp only [← HNB.out]
      exact keep HOb4.out
    have HY9:Hid ((Y ++ [((⟨ty,cs,id,loc,how,body,[]⟩,qb,cc):PY)]).map (·.1) = (R.2.take (k + 1)).map fun x=>x.1.alone):=by unfold Hid;rw [HT.out,List.map_append,HY.out];rfl
    clear hown9 hg9 HO4 HT HB4 HOb4 keep
    obtain ⟨q9,c9,rfl⟩:=owned_slice R9.out
    go_wp2_with fail
    go_roundw
    case rel=>exact ⟨k + 1,q9,k + 1,c9,_,by omega,by go_num,rfl,hb9,R9,HB9,HY9⟩
    case measure=>simp [intOf];omega
   ·have hlz:¬ ((k:Int) < (n:Int)):=by omega
    obtain rfl:k = n:=by omega
    have hYl:Y.length = k:=by
     have:=congrArg List.length HY.out
     rw [List.length_map,List.length_map,List.length_take,HN.out] at this
     omega
    have R9:wr.ownsRow w1.heap.size 25 7 (.slice q6 n6 c6) Y.length (pav Y):=by rw [hYl];exact HO.out
    obtain ⟨q9,c9,e9,hle,hcm,hnil,hrow⟩:=owned_parts R9 HB.out
    injection e9 with e1 e2 e3
    subst e1 e2 e3
    rw [HY.out,List.take_of_length_le (by rw [HN.out];omega)] at hrow
    rw [hYl] at hle hnil ⊢
    have HRow:Hid (KAt wr 1 q6 (R.2.map fun x=>x.1.alone)):=hrow
    clear hrow R9 HE HO HB HY hYl
    go_wp2_with fail
    go_ret2
    refine ⟨hbel1.trans (hbr.mono hbel1.size),fun h=>absurd HR0.out h,fun _=>⟨q6,c6,?_,?_,hcm,fun h=>(hnil h).2,HRow.out⟩⟩
    ·simp only [HN.out];rfl
    ·rw [HN.out];exact hle
 ·obtain rfl:=h1 hr
  clear h1 h2 CC
  have hrz:(((R.1:Nat):Int) == 0) = false:=by rw [beq_eq_false_iff_ne];omega
  obtain ⟨r,hrr⟩:∃ r,R.1 = r:=⟨_,rfl⟩
  have HR:Hid (R.1 = r):=hrr
  rw [hrr] at hrz hr
  simp only [hrr]
  clear hrr
  go_wp2_with fail
  go_ret2
  exact ⟨hbel1,fun _=>by rw [HR.out];rfl,fun h=>absurd (HR.out.symm.trans h) hr⟩
end Go.Proofs.YtbbfcbodhmeanaaGreatDoor



namespace Go.Proofs.YtbbfcbodhmeanaaGreatDoor
open Go.RowKit
theorem putAll_in (f:Nat) (ih:∀ l m p depth inn,l.length≤12→(∀ x ∈ l,x.2 < 12)→inn < 12→put f l p depth inn = some m→∀ x ∈ m,x.2 < 12) (depth:Nat) (inn:Int) (hi:inn < 12):∀ (ks:List PT) (l m:List (PT × Int)),l.length≤12→(∀ x ∈ l,x.2 < 12)→putAll f depth inn l ks = some m→∀ x ∈ m,x.2 < 12
 | [],l,m,_,hl,h=>by rw [putAll_nil] at h;cases h;exact hl
 | k::ks,l,m,h12,hl,h=>by
  cases hk:put f l k depth inn with
  | none=>rw [putAll_none f depth inn l k ks hk] at h;cases h
  | some n =>
   rw [putAll_some f depth inn l n k ks hk] at h
   exact putAll_in f ih depth inn hi ks n m (put_length f l n k depth inn h12 hk).2 (ih l n k depth inn h12 hl hi hk) h
theorem put_in:∀ (f:Nat) (l m:List (PT × Int)) (p:PT) (depth:Nat) (inn:Int),l.length≤12→(∀ x ∈ l,x.2 < 12)→inn < 12→put f l p depth inn = some m→∀ x ∈ m,x.2 < 12
 | 0,_,_,_,_,_,_,_,_,h=>by rw [put] at h;cases h
 | f + 1,l,m,p,depth,inn,h12,hl,hi,h=>by
  by_cases hs:l.length = 12 ∨ 3 < depth
  ·rw [put_stop f l p depth inn hs] at h;cases h
  ·rw [put_go f l p depth inn hs] at h
   refine putAll_in f (put_in f) (depth + 1) l.length (by omega) p.kids (l ++ [(p,inn)]) m (by rw [List.length_append];simp;omega) (fun x hx=>?_) h
   rcases List.mem_append.1 hx with hx | hx
   ·exact hl x hx
   ·simp at hx;rw [hx];exact hi
theorem places_in (p:PT):∀ x ∈ (placesP p).2,x.2 < 12:=by
 unfold placesP
 cases h:put 4 [] p 1 (-1) with
 | none=>simp
 | some l =>
  simp only
  split
  ·exact put_in 4 [] l p 1 (-1) (by simp) (by simp) (by decide) h
  ·simp
def ShB (w:World) (g:Nat) (q:Option Addr) (n c:Nat) (wh:List (List UInt8)):Prop:=∃ cs,w.heap[g]? = some (.cells cs 77)∧cs.size = 13∧cs[0]? = some (.slice q n c)∧∀ i,i < 12→cs[1 + i]? = some (.string (tx8 (wh.getD i [])))
theorem ShB.below {w w':World} {g:Nat} {q:Option Addr} {n c:Nat} {wh:List (List UInt8)} (h:ShB w g q n c wh) (hb:Below w.heap.size w w'):ShB w' g q n c wh:=by
 obtain ⟨cs,h1,h2⟩:=h
 exact ⟨cs,blk_on h1 hb,h2⟩
theorem ShB.set {w:World} {g:Nat} {q:Option Addr} {n c:Nat} {wh wh':List (List UInt8)} (h:ShB w g q n c wh) (k:Nat) (hk:k < 12) (t:List UInt8) (he:∀ i,i < 12→wh'.getD i [] = if i = k then t else wh.getD i []):ShB (w.setCell ⟨g,1 + k,none⟩ (.string (tx8 t))) g q n c wh':=by
 obtain ⟨cs,h1,h2,h3,h4⟩:=h
 refine ⟨cs.setIfInBounds (1 + k) (.string (tx8 t)),set_same h1 _,by simpa using h2,?_,fun i hi=>?_⟩
 ·rw [Array.getElem?_setIfInBounds_ne (by omega)];exact h3
 ·rw [he i hi]
  by_cases e:i = k
  ·subst e
   rw [if_pos rfl,Array.getElem?_setIfInBounds_self_of_lt (by omega)]
  ·rw [if_neg e,Array.getElem?_setIfInBounds_ne (by omega)]
   exact h4 i hi
theorem ShB.text {w:World} {g:Nat} {q:Option Addr} {n c:Nat} {wh:List (List UInt8)} (h:ShB w g q n c wh) (i:Nat) (hi:i < 12):w.cell? ⟨g,1 + i,none⟩ = some (.string (tx8 (wh.getD i [])))∧w.frozen? ⟨g,1 + i,none⟩ = false:=by
 obtain ⟨cs,h1,h2,h3,h4⟩:=h
 exact ⟨by rw [blk_c h1];exact h4 i hi,blk_f h1 _⟩
theorem ShB.at {w:World} {g:Nat} {q:Option Addr} {c:Nat} {L:List PT} {wh:List (List UInt8)} (h:ShB w g q L.length c wh) (h12:L.length≤12) (hc:L.length≤c∧c≤maxLen) (hk:KAt w 1 q L) (hs:∀ x ∈ wh,x.length≤120):SAt w g q c L wh:=by
 obtain ⟨cs,h1,h2,h3,h4⟩:=h
 exact ⟨⟨cs,h1,h3,h4⟩,h12,hc,hk,hs⟩
theorem where_take (l:List (PT × Int)) (k:Nat) (hk:k < l.length):whereP (l.take (k + 1)) = whereP (l.take k) ++ [stepW (whereP (l.take k)) (l.getD k (pt0,0))]:=by
 rw [List.take_add_one,List.getElem?_eq_getElem hk,List.getD_eq_getElem?_getD,List.getElem?_eq_getElem hk]
 exact whereP_snoc _ _
theorem where_len (l:List (PT × Int)) (k:Nat) (hk:k≤l.length):(whereP (l.take k)).length = k:=by rw [whereP_length,List.length_take];omega
theorem getD_snoc (wh:List (List UInt8)) (t:List UInt8) (i:Nat):(wh ++ [t]).getD i [] = if i = wh.length then t else wh.getD i []:=by
 rw [List.getD_eq_getElem?_getD,List.getD_eq_getElem?_getD]
 by_cases e:i = wh.length
 ·subst e;simp
 ·rw [if_neg e]
  by_cases h:i < wh.length
  ·rw [List.getElem?_append_left h]
  ·rw [List.getElem?_eq_none (by simp;omega),List.getElem?_eq_none (by omega)]
end Go.Proofs.YtbbfcbodhmeanaaGreatDoor


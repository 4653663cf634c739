
import Derived.Test.YtbbfcbodhmeanaaGreatDoorXrewriteonly6
namespace Go.Proofs.YtbbfcbodhmeanaaGreatDoor
open Go.RowKit
theorem RdAt.drewN {w:World} {g:Nat} {p:ByteArray} {k:Int} (h:RdAt w g p k) (n:Nat):RdAt (w.drewN n) g p k:=by
 unfold RdAt at h ⊢
 exact h
theorem below_many {n:Nat} {w w':World} (h:Below n w w') (m:Nat):Below n w (w'.drewN m):=by
 induction m with
 | zero=>exact h
 | succ m ih=>exact ih.drew
set_option maxHeartbeats 1000000 in
theorem done_any (g:Nat) (p:ByteArray) (k:Int) (w:World) (hr:RdAt w g p k) :
  Calls Tryz.prog 75 #[.pointer (some ⟨g,0,none⟩)] w fun e w'=>e = .returned (.bool (decide ((p.size:Int)≤k)))∧∃ m,w' = w.drewN m:=by
 have h0:=hr.page
 have h1:=hr.at_
 clear hr
 go_enter Tryz.func75,Tryz.ntmps75
 go_wp2
 go_region
 all_goals (
  go_wp2
  go_ret
  exact ⟨rfl,1,rfl⟩)
def QuietAt (F:Nat) (args:Array Value) (v:Value) (w:World):Prop:=∀ n,Calls Tryz.prog F args (w.drewN n) fun e w''=>e = .returned v∧∃ m,w'' = w.drewN m
theorem done_quiet (g:Nat) (p:ByteArray) (k:Int) (b:Bool) (hb:decide ((p.size:Int)≤k) = b) (w:World) (hr:RdAt w g p k):QuietAt 75 #[.pointer (some ⟨g,0,none⟩)] (.bool b) w:=fun n=>by
 subst hb
 exact Calls.quiet_of (done_any g p k _ (hr.drewN n))
set_option maxHeartbeats 2000000 in
theorem sees_any (g:Nat) (p:ByteArray) (k:Nat) (c:UInt8) (cc:Int) (ec:cc = (c.toNat:Int)) (w:World) (hr:RdAt w g p k) :
  Calls Tryz.prog 174 #[.pointer (some ⟨g,0,none⟩),.int .u8 cc] w fun e w'=>e = .returned (.bool ((p.data.toList.drop k).head? == some c))∧∃ m,w' = w.drewN m:=by
 subst ec
 have h0:=hr.page
 have h1:=hr.at_
 by_cases hk:k < p.size
 ·have HD:Hid (QuietAt 75 #[.pointer (some ⟨g,0,none⟩)] (.bool false) w):=done_quiet g p k false (by simp;omega) w hr
  have HV:Hid (((p.data.toList.drop k).head? == some c) = ((p[k].toNat:Int) == (c.toNat:Int))):=by
   unfold Hid
   rw [dropB p k hk,List.head?_cons,Bool.eq_iff_iff]
   simp only [beq_iff_eq,Option.some.injEq]
   exact ⟨fun h=>by rw [h],fun h=>UInt8.toNat_inj.1 (by omega)⟩
  clear hr
  go_enter Tryz.func174,Tryz.ntmps174
  go_wp2_with fail
  go_quiet (first | (go_at_call 75;exact HD.out _) | fail)
  go_wp2_with fail
  go_ret
  exact ⟨ret_bool HV.out.symm,_,rfl⟩
 ·have HD:Hid (QuietAt 75 #[.pointer (some ⟨g,0,none⟩)] (.bool true) w):=done_quiet g p k true (by simp;omega) w hr
  have HV:Hid (((p.data.toList.drop k).head? == some c) = false):=by
   unfold Hid
   rw [List.drop_of_length_le (by rw [← Lib.size_eq];omega)]
   rfl
  clear hr
  go_enter Tryz.func174,Tryz.ntmps174
  go_wp2_with fail
  go_quiet (first | (go_at_call 75;exact HD.out _) | fail)
  go_wp2_with fail
  go_ret
  exact ⟨ret_bool HV.out.symm,_,rfl⟩
structure AskIn (F:Nat) (caps:Array Value) (q:UInt8→Bool) (g:Nat) (OK:World→Prop):Prop where
 call:∀ (args:Array Value) (W:World),Sem.run Tryz.prog (callFunc F args) W = .ok (.enter F args) W
 ask:∀ (c:UInt8) (W:World),OK W→Calls Tryz.prog F (#[.int .u8 (c.toNat:Int)] ++ caps) W fun e w'=>e = .returned (.bool (q c))∧w' = W
 drew:∀ (W:World) (n:Nat),OK W→OK (W.drewN n)
 set:∀ (W:World) (v:Value),OK W→OK (W.setCell ⟨g,1,none⟩ v)
theorem AskIn.quiet {F:Nat} {caps:Array Value} {q:UInt8→Bool} {g:Nat} {OK:World→Prop} (h:AskIn F caps q g OK) (c:UInt8) (b:Bool) (hb:q c = b) (w:World) (hw:OK w):QuietAt F (#[.int .u8 (c.toNat:Int)] ++ caps) (.bool b) w:=fun n=>by
 subst hb
 exact Calls.quiet_of_same (h.ask c _ (h.drew w n hw))
theorem tw_step (q:UInt8→Bool) (p:ByteArray) (k:Nat) (hk:k < p.size) (hq:q p[k] = true):(p.data.toList.drop k).takeWhile q = p[k]::(p.data.toList.drop (k + 1)).takeWhile q:=by
 rw [dropB p k hk,List.takeWhile_cons,if_pos hq]
theorem tw_stop (q:UInt8→Bool) (p:ByteArray) (k:Nat) (hk:k < p.size) (hq:q p[k] = false):(p.data.toList.drop k).takeWhile q = []:=by
 rw [dropB p k hk,List.takeWhile_cons,if_neg (by rw [hq];decide)]
theorem tw_end (q:UInt8→Bool) (p:ByteArray) (k:Nat) (hk:¬ k < p.size):(p.data.toList.drop k).takeWhile q = []:=by
 rw [List.drop_of_length_le (by rw [← Lib.size_eq];omega)]
 rfl
set_option maxHeartbeats 4000000 in
theorem pass_any (F:Nat) (caps:Array Value) (q:UInt8→Bool) (OK:World→Prop) (g:Nat) (p:ByteArray) (k m:Nat) (T:ByteArray) (w:World) (hr:RdAt w g p k) (hOK:OK w) (HQ:AskIn F caps q g OK) (hp:p.size≤4000)
  (hm:m = k + ((p.data.toList.drop k).takeWhile q).length) (hT:p.extract k m = T) (hmp:m≤p.size) :
  Calls Tryz.prog 170 #[.pointer (some ⟨g,0,none⟩),.func (Fn.func F) #[] caps] w fun e w'=>e = .returned (.string T)∧Moves w g m w':=by
 have HA:Hid (AskIn F caps q g OK):=HQ
 have hcall:=HQ.call
 have h0:=hr.page
 have h1:=hr.at_
 have hfr:=hr.frozen 1
 have hmk:k≤m:=by omega
 have HM:Hid (m = k + ((p.data.toList.drop k).takeWhile q).length):=hm
 have HT:Hid (p.extract k m = T):=hT
 clear HQ hm hT
 go_enter Tryz.func170,Tryz.ntmps170
 go_wp2_with fail
 go_loopg [] (p.size + 1 - k) (fun gk wr=>∃ j:Nat,j + gk = p.size + 1∧k≤j∧j≤m∧RdAt wr g p j∧Moves w g j wr∧OK wr∧Hid (m = j + ((p.data.toList.drop j).takeWhile q).length))
 case atStart=>exact ⟨k,by omega,Nat.le_refl _,hmk,hr,Moves.still hr,hOK,HM⟩
 case round =>
  obtain ⟨j,hj1,hj2,hj3,hrj,hmj,hok,HJ⟩:=hrel
  have h0j:=hrj.page
  have h1j:=hrj.at_
  have hfj:=hrj.frozen 1
  have HR:Hid (RdAt w g p k):=hr
  have HRj:Hid (RdAt wr g p j):=hrj
  have HMj:Hid (Moves w g j wr):=hmj
  have HOj:Hid (OK wr):=hok
  clear h0 h1 hfr hr hrj hmj hOK hok
  by_cases hlt:j < p.size
  ·have HD:Hid (QuietAt 75 #[.pointer (some ⟨g,0,none⟩)] (.bool false) wr):=done_quiet g p j false (by simp;omega) wr HRj.out
   by_cases hq:q p[j] = true
   ·have HC:Hid (QuietAt F (#[.int .u8 (p[j].toNat:Int)] ++ caps) (.bool true) wr):=HA.out.quiet p[j] true hq wr HOj.out
    have HN:Hid (m = (j + 1) + ((p.data.toList.drop (j + 1)).takeWhile q).length):=by
     unfold Hid
     have:=HJ.out
     rw [tw_step q p j hlt hq,List.length_cons] at this
     omega
    have hw1:IntKind.i64.wrap ((j:Int) + 1) = ((j + 1:Nat):Int):=by rw [IntKind.wrap_i64];omega
    have hjm:j + 1≤m:=by have:=HN.out;omega
    clear hq HJ
    go_wp2_with fail
    go_quiet (first | (go_at_call 75;exact HD.out _) | exact HC.out _)
    go_wp2_with fail
    go_roundg (gk - 1)
    case measure=>omega
    case rel =>
     exact ⟨j + 1,by omega,by omega,hjm,(HRj.out.drewN _).set _,(HMj.out.then (below_many (Below.refl _ _) _)).trans Moves.of_set HR.out,HA.out.set _ _ (HA.out.drew _ _ HOj.out),HN⟩
   ·have HC:Hid (QuietAt F (#[.int .u8 (p[j].toNat:Int)] ++ caps) (.bool false) wr):=HA.out.quiet p[j] false (by simpa using hq) wr HOj.out
    have hjm:m = j:=by
     have:=HJ.out
     rw [tw_stop q p j hlt (by simpa using hq),List.length_nil] at this
     omega
    subst hjm
    clear hq HJ
    go_wp2_with fail
    go_quiet (first | (go_at_call 75;exact HD.out _) | exact HC.out _)
    have hk1:(k:Int)≤(m:Int):=by omega
    have hk2:(m:Int)≤(p.size:Int):=by omega
    go_wp2_with fail
    go_region
    all_goals (
     go_wp2_with fail
     go_ret
     exact ⟨by rw [← HT.out];rfl,HMj.out.then (below_many (Below.refl _ _) _)⟩)
  ·have HD:Hid (QuietAt 75 #[.pointer (some ⟨g,0,none⟩)] (.bool true) wr):=done_quiet g p j true (by simp;omega) wr HRj.out
   have hjm:m = j:=by
    have:=HJ.out
    rw [tw_end q p j hlt,List.length_nil] at this
    omega
   subst hjm
   clear HJ
   go_wp2_with fail
   go_quiet (first | (go_at_call 75;exact HD.out _) | fail)
   have hk1:(k:Int)≤(m:Int):=by omega
   have hk2:(m:Int)≤(p.size:Int):=by omega
   go_wp2_with fail
   go_region
   all_goals (
    go_wp2_with fail
    go_ret
    exact ⟨by rw [← HT.out];rfl,HMj.out.then (below_many (Below.refl _ _) _)⟩)
theorem ask_space (g:Nat):AskIn 172 #[] spB g (fun _=>True):=⟨fun args W=>by kernel_rfl,fun c W _=>space_any c _ rfl W,fun _ _ _=>trivial,fun _ _ _=>trivial⟩
theorem ask_tag1 (g:Nat):AskIn 171 #[] inName g (fun _=>True):=⟨fun args W=>by kernel_rfl,fun c W _=>tag1_any c W,fun _ _ _=>trivial,fun _ _ _=>trivial⟩
theorem ask_tag2 (g:Nat):AskIn 173 #[] inGap g (fun _=>True):=⟨fun args W=>by kernel_rfl,fun c W _=>tag2_any c W,fun _ _ _=>trivial,fun _ _ _=>trivial⟩
theorem ask_attr1 (g:Nat):AskIn 201 #[] inAttr g (fun _=>True):=⟨fun args W=>by kernel_rfl,fun c W _=>attr1_any c W,fun _ _ _=>trivial,fun _ _ _=>trivial⟩
theorem ask_val1 (g:Nat):AskIn 212 #[] inBare g (fun _=>True):=⟨fun args W=>by kernel_rfl,fun c W _=>val1_any c W,fun _ _ _=>trivial,fun _ _ _=>trivial⟩
theorem ask_val2 (g h:Nat) (q:UInt8) (hgh:h ≠ g):AskIn 213 #[.pointer (some ⟨h,0,none⟩)] (notQ q) g (fun W=>W.cell? ⟨h,0,none⟩ = some (.int .u8 (q.toNat:Int))) :=
 ⟨fun args W=>by kernel_rfl,fun c W hW=>val2_any q c h W hW,fun _ _ h=>h,fun W v hW=>by rw [World.cell?_setCell_other _ _ _ _ (fun e=>hgh (by cases e))];exact hW⟩
end Go.Proofs.YtbbfcbodhmeanaaGreatDoor



namespace Go.Proofs.YtbbfcbodhmeanaaGreatDoor
theorem tag_none (low:List UInt8→List UInt8):∀ (n:Nat) (seen:List (List UInt8)) (s:List UInt8),(tagF low n seen s).1 = none→(tagF low n seen s).2 = []
 | 0,_,_,_=>rfl
 | n + 1,seen,s,h=>by
  unfold tagF at h ⊢
  cases hd:s.dropWhile inGap with
  | nil=>rfl
  | cons c t =>
   rw [hd] at h
   simp only at h ⊢
   split at h
   ·cases h
   ·rename_i h62
    rw [if_neg h62]
    simp only [Option.map_eq_none_iff] at h
    exact tag_none low n _ _ h
theorem tagF_nil (low:List UInt8→List UInt8) (n:Nat) (seen:List (List UInt8)):tagF low n seen [] = (none,[]):=by
 cases n <;> simp [tagF]
theorem tagF_gap (low:List UInt8→List UInt8) (n:Nat) (seen:List (List UInt8)) (g:List UInt8) (c:UInt8) (t:List UInt8) (hg:∀ x ∈ g,inGap x = true) (hc:inGap c = false) :
  tagF low (n + 1) seen (g ++ c::t) = if c = 62 then (some [],t) else ((tagF low n (low (nameP (c::t))::seen) (attrP (c::t)).2).1.map (mineP seen (low (nameP (c::t))) (attrP (c::t)).1 ++ ·),(tagF low n (low (nameP (c::t))::seen) (attrP (c::t)).2).2):=by
 obtain ⟨_,e⟩:=tw_app inGap g (c::t) hg (fun y hy=>by simp at hy;subst hy;exact hc)
 rw [tagF,e]
theorem lefts_lit (t:List UInt8) (ss:List SG) (k:Nat):leftsS ((false,t)::ss) k = leftsS ss k:=rfl
theorem lefts_val (t:List UInt8) (ss:List SG) (k:Nat):leftsS ((true,t)::ss) k = ((t ++ flatS ss).length + k,t)::leftsS ss k:=rfl
theorem flat_cons (b:Bool) (t:List UInt8) (ss:List SG):flatS ((b,t)::ss) = t ++ flatS ss:=rfl
theorem tag_seg (low:List UInt8→List UInt8):∀ (n:Nat) (seen:List (List UInt8)) (s:List UInt8) (l:List LK) (rest:List UInt8),tagF low n seen s = (some l,rest) →
  ∃ c lit ss,s = flatS ((false,c::lit)::ss) ++ rest∧l = leftsS ((false,c::lit)::ss) rest.length ∧
   ∀ (ss':List SG) (rest':List UInt8) (n':Nat),Rep ss ss'→(flatS ((false,c::lit)::ss') ++ rest').length < n'→tagF low n' seen (flatS ((false,c::lit)::ss') ++ rest') = (some (leftsS ((false,c::lit)::ss') rest'.length),rest')
 | 0,_,_,_,_,h=>by simp [tagF] at h
 | n + 1,seen,s,l,rest,h=>by
  have es:=tw_dw inGap s
  have hg:=tw_all inGap s
  have hst:=dw_stops inGap s
  cases hd:s.dropWhile inGap with
  | nil=>rw [tagF,hd] at h;simp at h
  | cons c t =>
   rw [hd] at es hst
   have hc:=hst c rfl
   generalize s.takeWhile inGap = g at es hg
   subst es
   rw [tagF_gap low n seen g c t hg hc] at h
   by_cases h62:c = 62
   ·rw [if_pos h62] at h
    subst h62
    simp only [Prod.mk.injEq,Option.some.injEq] at h
    obtain ⟨rfl,rfl⟩:=h
    have hgl:∃ c0 lit,g ++ [62] = c0::lit:=by cases g <;> simp
    obtain ⟨c0,lit,hcl⟩:=hgl
    refine ⟨c0,lit,[],by rw [flat_cons,← hcl];simp [flatS],rfl,fun ss' rest' n' hR hn=>?_⟩
    rw [hR.nil] at hn ⊢
    rw [flat_cons,← hcl] at hn ⊢
    simp only [flatS,List.append_nil,List.append_assoc,List.cons_append,List.nil_append] at hn ⊢
    obtain ⟨m,rfl⟩:∃ m,n' = m + 1:=⟨n' - 1,by omega⟩
    rw [tagF_gap low m seen g 62 rest' hg hc,if_pos rfl]
    rfl
   ·rw [if_neg h62] at h
    simp only [Prod.mk.injEq,Option.map_eq_some_iff] at h
    obtain ⟨⟨l1,h1,h2⟩,h3⟩:=h
    have hrec:tagF low n (low (nameP (c::t))::seen) (attrP (c::t)).2 = (some l1,rest):=Prod.ext h1 h3
    have hne:(attrP (c::t)).2 ≠ []:=fun e=>by rw [e,tagF_nil] at hrec;simp at hrec
    obtain ⟨c1,lit1,ss1,k1,k2,k3⟩:=tag_seg low n _ _ _ _ hrec
    have hseg:=attr_seg c t (attrP (c::t)).1 (attrP (c::t)).2 rfl hne
    generalize (attrP (c::t)).2 = r at k1 hseg hne
    generalize (attrP (c::t)).1 = v at h2 hseg
    generalize hnm:nameP (c::t) = nm at h2 k3 hseg
    have hhead:∀ (ss':List SG) (rest':List UInt8),(flatS ((false,c1::lit1)::ss') ++ rest').head? = r.head?:=by
     intro ss' rest';rw [k1];rfl
    rcases hseg with ⟨rfl,c2,pre,e1,e2⟩ | ⟨x,rfl,c2,pre,raw,post,e1,e2,e3⟩
    ·have hc2:c2 = c:=by rw [List.cons_append] at e1;exact (List.cons.inj e1).1.symm
     subst hc2
     have hgl:∃ c0 lit,g ++ (c2::pre) = c0::lit:=by cases g <;> simp
     obtain ⟨c0,lit,hcl⟩:=hgl
     refine ⟨c0,lit,(false,c1::lit1)::ss1,?_,?_,fun ss' rest' n' hR hn=>?_⟩
     ·rw [flat_cons,← hcl,e1,k1];simp
     ·rw [← h2,k2];rfl
     ·obtain ⟨us,rfl,hR1⟩:=hR.lit
      have eX:flatS ((false,c0::lit)::(false,c1::lit1)::us) ++ rest' = g ++ c2::(pre ++ (flatS ((false,c1::lit1)::us) ++ rest')):=by
       rw [flat_cons,← hcl];simp
      rw [eX] at hn ⊢
      obtain ⟨m,rfl⟩:∃ m,n' = m + 1:=⟨n' - 1,by omega⟩
      obtain ⟨e4,e5⟩:=e2 (flatS ((false,c1::lit1)::us) ++ rest') (hhead us rest')
      rw [List.cons_append] at e4 e5
      rw [tagF_gap low m seen g c2 _ hg hc,if_neg h62,e4,e5,hnm]
      rw [k3 us rest' m hR1 (by simp only [List.length_append,List.length_cons] at hn ⊢;omega)]
      rfl
    ·have hc2:c2 = c:=by rw [List.cons_append] at e1;exact (List.cons.inj e1).1.symm
     subst hc2
     by_cases hk:seen.contains (low nm) = false∧(low nm = hrefL ∨ low nm = srcL)
     ·have hgl:∃ c0 lit,g ++ (c2::pre) = c0::lit:=by cases g <;> simp
      obtain ⟨c0,lit,hcl⟩:=hgl
      refine ⟨c0,lit,(true,raw)::(false,post)::(false,c1::lit1)::ss1,?_,?_,fun ss' rest' n' hR hn=>?_⟩
      ·rw [flat_cons,← hcl,e1,k1];simp [flatS]
      ·rw [← h2,k2,e2,k1]
       simp only [mineP,lefts_lit,lefts_val]
       rw [if_pos hk]
       simp [flatS];omega
      ·obtain ⟨raw',us1,rfl,hok,hR1⟩:=hR.val
       obtain ⟨us2,rfl,hR2⟩:=hR1.lit
       obtain ⟨us,rfl,hR3⟩:=hR2.lit
       have eX:flatS ((false,c0::lit)::(true,raw')::(false,post)::(false,c1::lit1)::us) ++ rest' = g ++ c2::(pre ++ (raw' ++ (post ++ (flatS ((false,c1::lit1)::us) ++ rest')))):=by
        rw [flat_cons,← hcl];simp [flatS]
       rw [eX] at hn ⊢
       obtain ⟨m,rfl⟩:∃ m,n' = m + 1:=⟨n' - 1,by omega⟩
       obtain ⟨e4,e5⟩:=e3 raw' (flatS ((false,c1::lit1)::us) ++ rest') hok (hhead us rest')
       rw [List.cons_append] at e4 e5
       rw [tagF_gap low m seen g c2 _ hg hc,if_neg h62,e4,e5,hnm]
       rw [k3 us rest' m hR3 (by simp only [List.length_append,List.length_cons] at hn ⊢;omega)]
       simp only [mineP,lefts_lit,lefts_val]
       rw [if_pos hk]
       simp [flatS];omega
     ·have hgl:∃ c0 lit,g ++ ((c2::pre) ++ (raw ++ post)) = c0::lit:=by cases g <;> simp
      obtain ⟨c0,lit,hcl⟩:=hgl
      refine ⟨c0,lit,(false,c1::lit1)::ss1,?_,?_,fun ss' rest' n' hR hn=>?_⟩
      ·rw [flat_cons,← hcl,e1,k1];simp
      ·rw [← h2,k2]
       simp only [mineP,lefts_lit]
       rw [if_neg hk]
       rfl
      ·obtain ⟨us,rfl,hR1⟩:=hR.lit
       have eX:flatS ((false,c0::lit)::(false,c1::lit1)::us) ++ rest' = g ++ c2::(pre ++ (raw ++ (post ++ (flatS ((false,c1::lit1)::us) ++ rest')))):=by
        rw [flat_cons,← hcl];simp
       rw [eX] at hn ⊢
       obtain ⟨m,rfl⟩:∃ m,n' = m + 1:=⟨n' - 1,by omega⟩
       obtain ⟨e4,e5⟩:=e3 raw (flatS ((false,c1::lit1)::us) ++ rest') (.inl rfl) (hhead us rest')
       rw [List.cons_append] at e4 e5
       rw [tagF_gap low m seen g c2 _ hg hc,if_neg h62,e4,e5,hnm]
       rw [k3 us rest' m hR1 (by simp only [List.length_append,List.length_cons] at hn ⊢;omega)]
       simp only [mineP,lefts_lit]
       rw [if_neg hk]
       rfl
theorem behind_seg (m s:List UInt8) (hm:m ≠ []):(Lib.index s m < 0∧behindL m s = []) ∨ ∃ x,s = x ++ (m ++ behindL m s)∧∀ r,behindL m (x ++ (m ++ r)) = r:=by
 have hpos:0 < m.length:=List.length_pos_iff.2 hm
 rcases Lib.index_spec s m with ⟨h,_⟩ | ⟨i,h,hi,ho,hno⟩
 ·left
  have:Lib.index s m < 0:=by omega
  exact ⟨this,by unfold behindL;rw [if_pos this]⟩
 ·right
  have hp:m <+: s.drop i:=by unfold Lib.occAt at ho;exact List.isPrefixOf_iff_prefix.1 ho
  obtain ⟨r0,hr0⟩:=hp
  have hb:behindL m s = s.drop (i + m.length):=by unfold behindL;rw [if_neg (by omega),h];rfl
  have hdrop:s.drop (i + m.length) = r0:=by rw [← List.drop_drop,← hr0];simp
  have hs:s = s.take i ++ (m ++ r0):=by rw [hr0,List.take_append_drop]
  have hlen:(s.take i).length = i:=by simp;omega
  refine ⟨s.take i,by rw [hb,hdrop];exact hs,fun r=>?_⟩
  generalize s.take i = x at hs hlen
  have hidx:Lib.index (x ++ (m ++ r)) m = (i:Int):=by
   refine Lib.index_hit (fun j hj=>?_) (by simp;omega) ?_
   ·have h1:=hno j hj
    unfold Lib.occAt at h1 ⊢
    rw [hs] at h1
    have e:∀ q:List UInt8,(x ++ (m ++ q)).drop j = (x.drop j ++ m) ++ q:=fun q=>by rw [List.drop_append_of_le_length (by omega),List.append_assoc]
    rw [e] at h1 ⊢
    cases hh:m.isPrefixOf ((x.drop j ++ m) ++ r) with
    | false=>rfl
    | true =>
     have h2:=List.isPrefixOf_iff_prefix.1 hh
     have h3:m <+: x.drop j ++ m:=List.prefix_of_prefix_length_le h2 (List.prefix_append _ _) (by simp)
     have h4:m <+: (x.drop j ++ m) ++ r0:=h3.trans (List.prefix_append _ _)
     rw [List.isPrefixOf_iff_prefix.2 h4] at h1
     cases h1
   ·unfold Lib.occAt
    rw [← hlen,List.drop_left]
    exact List.isPrefixOf_iff_prefix.2 (List.prefix_append _ _)
  unfold behindL
  rw [if_neg (by omega),hidx]
  rw [Int.toNat_natCast,← List.drop_drop,← hlen,List.drop_left,List.drop_left]
end Go.Proofs.YtbbfcbodhmeanaaGreatDoor



namespace Go.Proofs.YtbbfcbodhmeanaaGreatDoor
theorem tagB_one (c:UInt8) (t:List UInt8):tagB [60] (60::c::t) = letB c:=by simp [tagB,headL,List.isPrefixOf]
theorem let_facts {c:UInt8} (h:letB c = true):inName c = true∧c ≠ 33∧c ≠ 63∧c ≠ 47:=by
 have n:∀ x:UInt8,letB x = false→c ≠ x:=fun x hx e=>by rw [e,hx] at h;cases h
 have a1:=n 32 (by decide);have a2:=n 9 (by decide);have a3:=n 13 (by decide);have a4:=n 10 (by decide);have a5:=n 12 (by decide)
 have b1:=n 62 (by decide);have b2:=n 47 (by decide)
 exact ⟨by simp [inName,spB,a1,a2,a3,a4,a5,b1,b2],n 33 (by decide),n 63 (by decide),b2⟩
theorem piece_tag (low:List UInt8→List UInt8) (c:UInt8) (t:List UInt8) (h:letB c = true):pieceP low (60::c::t) = ((tagP low (c::t)).1.getD [],(tagP low (c::t)).2):=by
 obtain ⟨_,h1,h2,_⟩:=let_facts h
 unfold pieceP
 rw [if_neg (by simp [comL,List.isPrefixOf,Ne.symm h1]),if_neg (by simp [List.isPrefixOf,Ne.symm h1,Ne.symm h2]),if_pos (by rw [tagB_one,h])]
 rfl
theorem piece_shut (low:List UInt8→List UInt8) (c:UInt8) (t:List UInt8) (h:letB c = true):pieceP low (60::47::c::t) = ([],(tagP low (c::t)).2):=by
 unfold pieceP
 rw [if_neg (by simp [comL,List.isPrefixOf]),if_neg (by simp [List.isPrefixOf]),if_neg (by rw [tagB_one];decide),if_pos (by simp [tagB,headL,List.isPrefixOf,h])]
 rfl
theorem piece_com (low:List UInt8→List UInt8) (t:List UInt8):pieceP low (60::33::45::45::t) = ([],behindL comE t):=by
 unfold pieceP
 rw [if_pos (by simp [comL,List.isPrefixOf])]
 rfl
def other (s:List UInt8):Bool:=match s with
 | a::b::r=>if a = 60 then (if b = 33 ∨ b = 63 then false else if b = 47 then !headL r else !letB b) else true
 | _=>true
theorem piece_other (low:List UInt8→List UInt8) (c:UInt8) (t:List UInt8) (h:other (c::t) = true):pieceP low (c::t) = ([],t):=by
 by_cases hc:c = 60
 ·subst hc
  cases t with
  | nil=>simp [pieceP,comL,List.isPrefixOf,tagB,headL]
  | cons d t =>
   simp only [other,if_true] at h
   by_cases hd0:d = 33 ∨ d = 63
   ·rw [if_pos hd0] at h;cases h
   ·rw [if_neg hd0] at h
    have hd1:d ≠ 33:=fun e=>hd0 (.inl e)
    have hd2:d ≠ 63:=fun e=>hd0 (.inr e)
    unfold pieceP
    rw [if_neg (by simp [comL,List.isPrefixOf,Ne.symm hd1]),if_neg (by simp [List.isPrefixOf,Ne.symm hd1,Ne.symm hd2])]
    by_cases hd:d = 47
    ·rw [if_pos hd] at h
     subst hd
     have hx:headL t = false:=by simpa using h
     rw [if_neg (by rw [tagB_one];decide),if_neg (by simp [tagB,List.isPrefixOf,hx])]
     rfl
    ·rw [if_neg hd] at h
     have hl:letB d = false:=by simpa using h
     rw [if_neg (by rw [tagB_one,hl];decide),if_neg (by simp [tagB,List.isPrefixOf,Ne.symm hd])]
     rfl
 ·simp [pieceP,comL,List.isPrefixOf,tagB,Ne.symm hc]
theorem other_take (c:UInt8) (t u:List UInt8) (h:u.take 2 = t.take 2):other (c::u) = other (c::t):=by
 match t,u,h with
 | [],[],_=>rfl
 | [],_::_,h=>simp at h
 | _::_,[],h=>simp at h
 | [x],[y],h=>simp at h;subst h;rfl
 | [x],y::z::u,h=>simp at h
 | x::z::t,[y],h=>simp at h
 | x::z::t,y::z'::u,h =>
  simp at h
  obtain ⟨rfl,rfl⟩:=h
  rfl
def PieceOK (low:List UInt8→List UInt8) (s:List UInt8):Prop:=∃ segs,s = flatS segs ++ (pieceP low s).2∧(pieceP low s).1 = leftsS segs (pieceP low s).2.length ∧
 ∀ (segs':List SG) (rest':List UInt8),Rep segs segs'→rest'.take 2 = (pieceP low s).2.take 2→pieceP low (flatS segs' ++ rest') = (leftsS segs' rest'.length,rest')∧(flatS segs' ++ rest').take 2 = s.take 2
theorem take2_nil {r:List UInt8} (h:r.take 2 = ([]:List UInt8).take 2):r = []:=by
 cases r with
 | nil=>rfl
 | cons x r=>simp at h
theorem piece_end (low:List UInt8→List UInt8) (s:List UInt8) (h:pieceP low s = ([],[])):PieceOK low s:=by
 unfold PieceOK
 rw [h]
 refine ⟨[(false,s)],by simp [flatS],rfl,fun segs' rest' hR hr=>?_⟩
 obtain ⟨us,rfl,hn⟩:=hR.lit
 obtain rfl:=hn.nil
 obtain rfl:=take2_nil hr
 simp only [flatS,List.append_nil]
 exact ⟨h,trivial⟩
theorem piece_lit (low:List UInt8→List UInt8) (a b:UInt8) (x r:List UInt8) (h:∀ r',pieceP low (a::b::(x ++ r')) = ([],r')):PieceOK low (a::b::(x ++ r)):=by
 unfold PieceOK
 rw [h]
 refine ⟨[(false,a::b::x)],by simp [flatS],rfl,fun segs' rest' hR hr=>?_⟩
 obtain ⟨us,rfl,hn⟩:=hR.lit
 obtain rfl:=hn.nil
 simp only [flatS,List.append_nil,List.cons_append]
 rw [h]
 exact ⟨rfl,by simp⟩
theorem tagP_name (low:List UInt8→List UInt8) (nm X:List UInt8) (hn:∀ c ∈ nm,inName c = true) (hX:Stops inName X):tagP low (nm ++ X) = tagF low (X.length + 1) [] X:=by
 unfold tagP
 rw [(tw_app inName nm X hn hX).2]
theorem piece_two (low:List UInt8→List UInt8) (c:UInt8) (t:List UInt8) (hc:c = 33 ∨ c = 63) (hn:comL.isPrefixOf (60::c::t) = false):pieceP low (60::c::t) = ([],behindL [62] (60::c::t)):=by
 unfold pieceP
 rw [if_neg (by rw [hn];decide),if_pos (by rcases hc with rfl | rfl <;> simp [List.isPrefixOf])]
theorem com_far (c:UInt8) (t r r':List UInt8) (h:comL.isPrefixOf (60::c::(t ++ 62::r)) = false):comL.isPrefixOf (60::c::(t ++ 62::r')) = false:=by
 match t,h with
 | [],_=>simp [comL,List.isPrefixOf]
 | [x],_=>simp [comL,List.isPrefixOf]
 | x::y::t,h=>simpa [comL,List.isPrefixOf] using h
theorem piece_ok (low:List UInt8→List UInt8) (c:UInt8) (t:List UInt8):PieceOK low (c::t):=by
 by_cases ho:other (c::t) = true
 ·unfold PieceOK
  rw [piece_other low c t ho]
  refine ⟨[(false,[c])],rfl,rfl,fun segs' rest' hR hr=>?_⟩
  obtain ⟨us,rfl,hn⟩:=hR.lit
  obtain rfl:=hn.nil
  simp only [flatS,List.append_nil,List.cons_append,List.nil_append]
  simp only at hr
  rw [piece_other low c rest' (by rw [other_take c t rest' hr];exact ho)]
  refine ⟨rfl,?_⟩
  have:rest'.take 1 = t.take 1:=by
   have h1:=congrArg (List.take 1) hr
   simpa [List.take_take] using h1
  simp [this]
 ·have hc:c = 60:=by
   by_cases e:c = 60
   ·exact e
   ·exact absurd (by cases t <;> simp [other,e]) ho
  subst hc
  cases t with
  | nil=>exact absurd rfl ho
  | cons d t =>
   by_cases hd:d = 33 ∨ d = 63
   ·by_cases hcom:comL.isPrefixOf (60::d::t) = true
    ·obtain ⟨u,hu⟩:=List.isPrefixOf_iff_prefix.1 hcom
     rw [← hu]
     show PieceOK low (60::33::45::45::u)
     rcases behind_seg comE u (by simp [comE]) with ⟨_,hb⟩ | ⟨x,hx,hb⟩
     ·exact piece_end low _ (by rw [piece_com,hb])
     ·have:=piece_lit low 60 33 (45::45::(x ++ comE)) (behindL comE u) (fun r'=>by
       have e:(45::45::(x ++ comE)) ++ r' = 45::45::(x ++ (comE ++ r')):=by simp
       rw [e,piece_com,hb])
      have e:(45::45::(x ++ comE)) ++ behindL comE u = 45::45::u:=by
       conv=>rhs;rw [hx]
       simp
      rw [e] at this
      exact this
    ·have hcom':comL.isPrefixOf (60::d::t) = false:=Bool.eq_false_iff.2 hcom
     rcases behind_seg [62] (60::d::t) (by simp) with ⟨_,hb⟩ | ⟨x,hx,hb⟩
     ·exact piece_end low _ (by rw [piece_two low d t hd hcom',hb])
     ·match x,hx,hb with
      | [],hx,_=>simp at hx
      | [a],hx,_=>simp at hx;rcases hd with h | h <;> rw [hx.2.1] at h <;> cases h
      | a::b::x,hx,hb =>
       have h1:60 = a∧d = b∧t = x ++ (62::behindL [62] (60::d::t)):=by simpa using hx
       obtain ⟨rfl,rfl,h2⟩:=h1
       rw [h2] at hcom' ⊢
       have:=piece_lit low 60 d (x ++ [62]) (behindL [62] (60::d::t)) (fun r'=>by
        have e:(x ++ [62]) ++ r' = x ++ 62::r':=by simp
        rw [e,piece_two low d _ hd (com_far d x _ r' hcom')]
        have:=hb r'
        simp only [List.cons_append,List.nil_append] at this
        rw [this])
       simpa using this
   ·have hd1:d ≠ 33:=fun e=>hd (.inl e)
    have hd2:d ≠ 63:=fun e=>hd (.inr e)
    by_cases hd3:d = 47
    ·subst hd3
     cases t with
     | nil=>exact absurd rfl ho
     | cons x t =>
      have hl:letB x = true:=by
       cases hx:letB x with
       | true=>rfl
       | false=>exact absurd (by simp [other,headL,hx]) ho
      have es:=tw_dw inName (x::t)
      have hn:=tw_all inName (x::t)
      have hst:=dw_stops inName (x::t)
      generalize (x::t).takeWhile inName = nm at es hn
      generalize (x::t).dropWhile inName = X at es hst
      have hP:=piece_shut low x t hl
      rw [← es,tagP_name low nm X hn hst] at hP
      cases ho:(tagF low (X.length + 1) [] X).1 with
      | none =>
       rw [tag_none low _ _ _ ho] at hP
       exact piece_end low _ (by rw [← es];exact hP)
      | some l =>
       obtain ⟨c1,lit,ss,k1,k2,k3⟩:=tag_seg low (X.length + 1) [] X l (tagF low (X.length + 1) [] X).2 (Prod.ext ho rfl)
       generalize (tagF low (X.length + 1) [] X).2 = rest at k1 k2 k3 hP
       have hnm:∃ x' nm',nm = x'::nm'∧letB x' = true:=by
        cases nm with
        | nil =>
         rw [List.nil_append] at es
         have:=hst x (by rw [es];rfl)
         rw [(let_facts hl).1] at this;cases this
        | cons y nm=>rw [List.cons_append,List.cons.injEq] at es;exact ⟨y,nm,rfl,es.1 ▸ hl⟩
       obtain ⟨x',nm',rfl,hl'⟩:=hnm
       rw [← es,k1]
       have:=piece_lit low 60 47 ((x'::nm') ++ flatS ((false,c1::lit)::ss)) rest (fun r'=>by
        have e:((x'::nm') ++ flatS ((false,c1::lit)::ss)) ++ r' = x'::(nm' ++ (flatS ((false,c1::lit)::ss) ++ r')):=by simp
        rw [e,piece_shut low x' _ hl',← List.cons_append,tagP_name low (x'::nm') _ hn (stops_head hst (by rw [k1];rfl))]
        rw [k3 ss r' _ (Rep.refl ss) (Nat.lt_succ_self _)])
       simpa using this
    ·have hl:letB d = true:=by
      cases hx:letB d with
      | true=>rfl
      | false=>exact absurd (by simp [other,hd,hd3,hx]) ho
     have es:=tw_dw inName (d::t)
     have hn:=tw_all inName (d::t)
     have hst:=dw_stops inName (d::t)
     generalize (d::t).takeWhile inName = nm at es hn
     generalize (d::t).dropWhile inName = X at es hst
     have hP:=piece_tag low d t hl
     rw [← es,tagP_name low nm X hn hst] at hP
     cases ho:(tagF low (X.length + 1) [] X).1 with
     | none =>
      rw [tag_none low _ _ _ ho,ho] at hP
      exact piece_end low _ (by rw [← es];exact hP)
     | some l =>
      obtain ⟨c1,lit,ss,k1,k2,k3⟩:=tag_seg low (X.length + 1) [] X l (tagF low (X.length + 1) [] X).2 (Prod.ext ho rfl)
      rw [ho] at hP
      generalize (tagF low (X.length + 1) [] X).2 = rest at k1 k2 k3 hP
      have hnm:∃ x' nm',nm = x'::nm'∧letB x' = true:=by
       cases nm with
       | nil =>
        rw [List.nil_append] at es
        have:=hst d (by rw [es];rfl)
        rw [(let_facts hl).1] at this;cases this
       | cons y nm=>rw [List.cons_append,List.cons.injEq] at es;exact ⟨y,nm,rfl,es.1 ▸ hl⟩
      obtain ⟨x',nm',rfl,hl'⟩:=hnm
      rw [← es]
      unfold PieceOK
      rw [hP]
      refine ⟨(false,60::x'::nm')::(false,c1::lit)::ss,?_,?_,fun segs' rest' hR hr=>?_⟩
      ·rw [flat_cons];simp only;conv=>lhs;rw [k1]
       simp
      ·simp only [Option.getD_some];rw [k2];rfl
      ·obtain ⟨us0,rfl,hR0⟩:=hR.lit
       obtain ⟨us,rfl,hR1⟩:=hR0.lit
       have e:flatS ((false,60::x'::nm')::(false,c1::lit)::us) ++ rest' = 60::x'::(nm' ++ (flatS ((false,c1::lit)::us) ++ rest')):=by rw [flat_cons];simp
       rw [e,piece_tag low x' _ hl',← List.cons_append,tagP_name low (x'::nm') _ hn (stops_head hst (by rw [k1];rfl))]
       rw [k3 us rest' _ hR1 (Nat.lt_succ_self _)]
       exact ⟨rfl,by simp⟩
theorem find_seg (low:List UInt8→List UInt8):∀ (n:Nat) (acc:List LK) (s:List UInt8) (L:List LK),s.length≤n→findF low n acc s = some L →
  ∃ segs,s = flatS segs∧L = acc ++ leftsS segs 0∧∀ (segs':List SG) (acc':List LK) (n':Nat),Rep segs segs'→acc'.length = acc.length→(flatS segs').length≤n'→findF low n' acc' (flatS segs') = some (acc' ++ leftsS segs' 0)∧(flatS segs').take 2 = s.take 2
 | 0,acc,s,L,hs,h=>by
  obtain rfl:s = []:=List.length_eq_zero_iff.1 (by omega)
  simp only [findF,Option.some.injEq] at h
  subst h
  refine ⟨[],rfl,by simp [leftsS],fun segs' acc' n' hR _ _=>?_⟩
  obtain rfl:=hR.nil
  cases n' <;> simp [findF,flatS,leftsS]
 | n + 1,acc,[],L,hs,h=>by
  simp only [findF,if_true,Option.some.injEq] at h
  subst h
  refine ⟨[],rfl,by simp [leftsS],fun segs' acc' n' hR _ _=>?_⟩
  obtain rfl:=hR.nil
  cases n' <;> simp [findF,flatS,leftsS]
 | n + 1,acc,c::t,L,hs,h=>by
  have hlen:=piece_len low c t
  obtain ⟨sg1,h1,h2,h3⟩:=piece_ok low c t
  rw [findF,if_neg (by simp)] at h
  split at h
  ·cases h
  ·rename_i h60
   generalize (pieceP low (c::t)).1 = l1 at h h2 h60
   generalize (pieceP low (c::t)).2 = rest at h h1 h2 h3 hlen
   obtain ⟨sg2,k1,k2,k3⟩:=find_seg low n (acc ++ l1) rest L (by omega) h
   refine ⟨sg1 ++ sg2,by rw [flat_app,← k1];exact h1,?_,fun segs' acc' n' hR ha hn=>?_⟩
   ·rw [k2,h2,lefts_app,k1,List.append_assoc];rfl
   ·obtain ⟨sg1',sg2',rfl,hR1,hR2⟩:=hR.app
    rw [flat_app] at hn ⊢
    obtain ⟨_,j2⟩:=k3 sg2' (acc ++ l1) _ hR2 rfl (Nat.le_refl _)
    obtain ⟨j3,j4⟩:=h3 sg1' (flatS sg2') hR1 j2
    refine ⟨?_,j4⟩
    have hlr:∀ (a b:List SG) (k m:Nat),Rep a b→(leftsS a k).length = (leftsS b m).length:=by
     intro a
     induction a with
     | nil=>intro b k m h;rw [h.nil];rfl
     | cons x a ih =>
      intro b k m h
      cases b with
      | nil=>exact h.elim
      | cons y b =>
       obtain ⟨g1,_,_,g4⟩:=h
       have:=ih b k m g4
       simp only [leftsS]
       rw [← g1]
       split <;> simp [this]
    cases hf:flatS sg1' ++ flatS sg2' with
    | nil=>rw [hf] at j4;cases t <;> simp at j4
    | cons y u =>
     rw [hf] at j3 hn
     have hpl:=piece_len low y u
     obtain ⟨m,rfl⟩:∃ m,n' = m + 1:=⟨n' - 1,by simp at hn;omega⟩
     rw [findF,if_neg (by simp),j3]
     have hl1:(leftsS sg1' (flatS sg2').length).length = l1.length:=by rw [h2];exact (hlr _ _ _ _ hR1).symm
     rw [if_neg (by simp only [List.length_append] at h60 ⊢;omega)]
     rw [j3] at hpl
     obtain ⟨j5,_⟩:=k3 sg2' (acc' ++ leftsS sg1' (flatS sg2').length) m hR2 (by simp only [List.length_append];omega) (by simp only [List.length_cons] at hn hpl;omega)
     simp only
     rw [j5,lefts_app,List.append_assoc]
     rfl
end Go.Proofs.YtbbfcbodhmeanaaGreatDoor



import Derived.Test.YtbbfcbodhmeanaaGreatDoorXrewritesays9
import Derived.Maps.Own
import Derived.Maps.Views
import Derived.Maps.OwnOps
namespace Go.Proofs.YtbbfcbodhmeanaaGreatDoor
open Go.RowKit Go.WideMaps Go.Maps
def lv (n:Nat) (l:List LK):List Value:=l.flatMap fun x=>(lkv n x).toList
theorem lv_snoc (n:Nat) (l:List LK) (x:LK):lv n (l ++ [x]) = lv n l ++ (lkv n x).toList:=by simp [lv]
theorem lv_app (n:Nat) (l m:List LK):lv n (l ++ m) = lv n l ++ lv n m:=by simp [lv]
theorem lv_length (n:Nat) (l:List LK):(lv n l).length = l.length * 3:=by
 induction l with
 | nil=>rfl
 | cons x l ih=>rw [show lv n (x::l) = (lkv n x).toList ++ lv n l from by simp [lv],List.length_append,ih];simp [lkv];omega
theorem info_link:(Tryz.prog.info? 40).map (fun i=>(i.zero,i.size,i.bytes)) = some (some (.agg #[.int .i64 0,.int .i64 0,.string ⟨#[]⟩]),3,32):=by kernel_rfl
theorem ownsRow_base {w:World} {B B' e s n:Nat} {v:Value} {xs:List Value} (h:w.ownsRow B e s v n xs) (hB:B'≤B):w.ownsRow B' e s v n xs:=by
 refine ⟨h.1,?_⟩
 rcases h.2 with h1 | ⟨g,cap,cur,h1,h2,h3⟩
 ·exact .inl h1
 ·exact .inr ⟨g,cap,cur,h1,Nat.le_trans hB h2,h3⟩
theorem klaw:Keyed Tryz.prog 9:=string_keyed Tryz.underlying9
theorem zero_int (w:World):(zeroValue 3).run Tryz.prog w = .ok (.int .i64 0) w:=by kernel_rfl
def Seen (w:World) (b n:Nat) (seen:List (List UInt8)):Prop:=∃ D:DataW Unit,w.ownsMap Tryz.prog 9 (plainElem Tryz.prog 3) b n D∧IsMap D∧∀ nm:List UInt8,D.atKey (.string nm) (.lit (.int .i64 0)) = .lit (.int .i64 ((seen.count nm:Nat):Int))
theorem seen_made (w:World):Seen (w.alloc (.map #[] 0)) w.heap.size 0 []:=⟨.map [],World.ownsMap_made _ _ _ _,isMap_empty,fun nm=>by simp [DataW.atKey]⟩
theorem Seen.move {w w':World} {b n:Nat} {seen:List (List UInt8)} (h:Seen w b n seen) (e:w'.heap[b]? = w.heap[b]?):Seen w' b n seen:=by
 obtain ⟨D,⟨es,clock,hb,F,hs,hD⟩,h2,h3⟩:=h
 exact ⟨D,⟨es,clock,e.trans hb,F,hs,hD⟩,h2,h3⟩
theorem Seen.lt {w:World} {b n:Nat} {seen:List (List UInt8)} (h:Seen w b n seen):b < w.heap.size:=by
 obtain ⟨D,h1,_,_⟩:=h
 exact h1.lt
theorem Seen.look {w:World} {b n:Nat} {seen:List (List UInt8)} (h:Seen w b n seen) (s:ByteArray) (hs:s.size≤maxLen) :
  (Instr.lookup 107 (.map (some b)) (.string s) false).run Tryz.prog w = .ok (.int .i64 ((seen.count s.data.toList:Nat):Int)) w:=by
 obtain ⟨D,h1,_,h3⟩:=h
 obtain ⟨c,hrun,hat,_⟩:=h1.lookup_int klaw Tryz.underlying107 Tryz.underlying3 (zero_int _) (keyOf_string_mk Tryz.underlying9 hs)
 have e:c = ((seen.count s.data.toList:Nat):Int):=by
  have h4:=(h3 s.data.toList).symm.trans hat
  exact (Lit.int.inj (DataW.lit.inj h4)).2.symm
 rw [e] at hrun
 exact hrun
theorem Seen.put {w:World} {b n:Nat} {seen:List (List UInt8)} (h:Seen w b n seen) (s:ByteArray) (hs:s.size≤maxLen) (hn:n < maxLen) (c:Int) (hc:c = ((seen.count s.data.toList + 1:Nat):Int)) (hcm:seen.count s.data.toList < 1000000) :
  ∃ w',(Instr.mapUpdate 107 (.map (some b)) (.string s) (.int .i64 c)).run Tryz.prog w = .ok () w'∧Seen w' b (n + 1) (s.data.toList::seen)∧w.grownBy w' (some b):=by
 obtain ⟨D,h1,h2,h3⟩:=h
 have hk:=keyOf_string_mk (P:=Tryz.prog) Tryz.underlying9 hs
 obtain ⟨w',hrun,h4,h5⟩:=h1.update klaw Tryz.underlying107 hn hk (plainElem_int Tryz.underlying3 (a:=c) (WalkArith.wf_i64 (by omega)))
 refine ⟨w',hrun,⟨_,h4,?_,fun nm=>?_⟩,h5⟩
 ·exact h2.put _ _
 ·by_cases e:nm = s.data.toList
  ·subst e
   rw [atKey_put_same h2 (show WideAt.IsKeyLit (.string s.data.toList) from trivial),hc,List.count_cons_self]
  ·rw [atKey_put_other (by intro h;injection h with h;exact e h),h3,List.count_cons_of_ne (Ne.symm e)]
def tagS (low:List UInt8→List UInt8) (seen:List (List UInt8)) (s:List UInt8):Option (List LK) × List UInt8:=tagF low (s.length + 1) seen s
theorem tagS_nil (low:List UInt8→List UInt8) (seen:List (List UInt8)) (s:List UInt8) (h:s.dropWhile inGap = []):tagS low seen s = (none,[]):=by
 unfold tagS tagF
 rw [h]
theorem tagS_end (low:List UInt8→List UInt8) (seen:List (List UInt8)) (s t:List UInt8) (h:s.dropWhile inGap = 62::t):tagS low seen s = (some [],t):=by
 unfold tagS tagF
 rw [h]
 rfl
theorem tagS_next (low:List UInt8→List UInt8) (seen:List (List UInt8)) (s:List UInt8) (c:UInt8) (t:List UInt8) (h:s.dropWhile inGap = c::t) (hc:c ≠ 62) :
  tagS low seen s = ((tagS low (low (nameP (c::t))::seen) (attrP (c::t)).2).1.map (mineP seen (low (nameP (c::t))) (attrP (c::t)).1 ++ ·),(tagS low (low (nameP (c::t))::seen) (attrP (c::t)).2).2):=by
 have h3:=dropWhile_le_cons h
 have h4:=attr_len c t
 unfold tagS
 rw [tagF_fuel low ((attrP (c::t)).2.length + 1) s.length _ _ (Nat.lt_succ_self _) (by omega)]
 conv=>lhs;unfold tagF
 rw [h]
 simp only
 rw [if_neg hc]
end Go.Proofs.YtbbfcbodhmeanaaGreatDoor



namespace Go.Proofs.YtbbfcbodhmeanaaGreatDoor
open Go.RowKit Go.WideMaps Go.Maps
theorem lstr_const (T:ByteArray) (l:List UInt8):(T.toList == l) = decide (T.data.toList = l):=by
 rw [ByteArray.toList_eq,Bool.eq_iff_iff];simp
theorem str_href (T:ByteArray):(T.toList == ([104,114,101,102]:List UInt8)) = decide (T.data.toList = hrefL):=lstr_const T [104,114,101,102]
theorem str_src (T:ByteArray):(T.toList == ([115,114,99]:List UInt8)) = decide (T.data.toList = srcL):=lstr_const T [115,114,99]
theorem mapGoD_len (f:Int→Int):∀ (n:Nat) (l:List UInt8),(Lib.mapGoD f n l).length≤4 * n
 | 0,_=>Nat.zero_le _
 | n + 1,l=>by
  unfold Lib.mapGoD
  split
  ·exact Nat.zero_le _
  ·have h1:=mapGoD_len f n (l.drop (Lib.decodeL l).2)
   rw [List.length_append]
   have h2:(if 0≤f (Lib.decodeL l).1 then Lib.encodeRune (f (Lib.decodeL l).1) else []).length≤4:=by
    split
    ·have:=(Lib.encodeRuneZ_length (f (Lib.decodeL l).1)).2
     simpa [Lib.encodeRune] using this
    ·exact Nat.zero_le _
   omega
theorem lowT_len (l:List UInt8):(lowT l).length≤4 * l.length:=mapGoD_len _ _ _
structure TagAt (w:World) (g:Nat) (p:ByteArray) (s0:List UInt8) (gk:Nat) (v:Value) (wr:World) (sj:List UInt8) (seen:List (List UInt8)) (acc:List LK):Prop where
 few:sj.length < gk
 la:acc.length + sj.length≤4000
 ls:seen.length + sj.length≤4000
 suf:Suf p sj
 rd:RdAt wr g p (pos p sj)
 mv:Moves w g (pos p sj) wr
 sn:Seen wr w.heap.size seen.length seen
 own:wr.ownsRow (w.heap.size + 1) 40 3 v acc.length (lv p.size acc)
 eq:tagS lowT [] s0 = ((tagS lowT seen sj).1.map (acc ++ ·),(tagS lowT seen sj).2)
def TagPost (w:World) (g:Nat) (p:ByteArray) (r:Option (List LK) × List UInt8) (e:Ending) (w':World):Prop :=
 ∃ v,e = .returned v∧w'.ownsRow w.heap.size 40 3 v (r.1.getD []).length (lv p.size (r.1.getD []))∧Moves w g (pos p r.2) w'
theorem Moves.grown {w w' w'':World} {g b:Nat} {m:Int} (h:Moves w g m w') (hg:w'.grownBy w'' (some b)) (hb:w.heap.size≤b):Moves w g m w'':=by
 have h1:Below w.heap.size (w.setCell ⟨g,1,none⟩ (.int .i64 m)) w':=h
 exact h1.grown hg h.size (fun k hk=>by cases hk;exact hb)
theorem Moves.grownv {w w' w'':World} {g:Nat} {v:Value} {m:Int} (h:Moves w g m w') (hg:w'.grownBy w'' v.ownBlock) (hb:∀ k,v.ownBlock = some k→w.heap.size≤k):Moves w g m w'':=by
 have h1:Below w.heap.size (w.setCell ⟨g,1,none⟩ (.int .i64 m)) w':=h
 exact h1.grown hg h.size hb
theorem RdAt.grown {w w':World} {g:Nat} {p:ByteArray} {k:Int} (h:RdAt w g p k) {row:Option Nat} (hg:w.grownBy w' row) (hne:some g ≠ row):RdAt w' g p k:=by
 unfold RdAt
 rw [hg.block g h.lt hne]
 exact h
theorem slice_of {w:World} {B e s n:Nat} {v:Value} {xs:List Value} (h:w.ownsRow B e s v n xs):∃ a c,v = .slice a n c∧n≤c∧c≤maxLen∧(a = none→n = 0∧c = 0):=by
 rcases h.2 with ⟨rfl,rfl⟩ | ⟨g,cap,cur,rfl,_,_,h1,h2,_⟩
 ·exact ⟨none,0,rfl,Nat.le_refl _,by decide,fun _=>⟨rfl,rfl⟩⟩
 ·exact ⟨some ⟨g,0,none⟩,cap,rfl,h1,h2,fun h=>by cases h⟩
theorem count_zero {seen:List (List UInt8)} {nm:List UInt8} (h:seen.contains nm = false):seen.count nm = 0:=by
 rw [List.count_eq_zero]
 intro hm
 rw [List.contains_iff_mem.2 hm] at h
 cases h
theorem count_pos {seen:List (List UInt8)} {nm:List UInt8} (h:seen.contains nm = true):0 < seen.count nm:=List.count_pos_iff.2 (List.contains_iff_mem.1 h)
set_option maxHeartbeats 16000000 in
set_option maxRecDepth 100000 in
theorem tag_any (w0:World) (HE:LEnv w0) (g:Nat) (hg:w0.heap.size≤g) (p:ByteArray) (s:List UInt8) (hS:Suf p s) (w:World) (hr:RdAt w g p (pos p s)) (hb:Below w0.heap.size w0 w) (hp:p.size≤4000) :
  Calls Tryz.prog 132 #[.pointer (some ⟨g,0,none⟩)] w fun e w'=>TagPost w g p (tagP lowT s) e w':=by
 have HR:Hid (RdAt w g p (pos p s)):=hr
 have hlt:=hr.lt
 have hne:g ≠ w.heap.size:=by omega
 have HS0:Hid (Suf p (s.dropWhile inName)):=hS.dw inName
 have HEV:Hid (LEnv w0):=HE
 have HB:Hid (Below w0.heap.size w0 w):=hb
 have HT:Hid (tagP lowT s = tagS lowT [] (s.dropWhile inName)):=rfl
 have CP1:Hid (∀ W,RdAt W g p (pos p s)→Calls Tryz.prog 170 #[.pointer (some ⟨g,0,none⟩),.func (Fn.func 171) #[] #[]] W fun e w'=>e = .returned (.string (lba (s.takeWhile inName)))∧Moves W g (pos p (s.dropWhile inName)) w'):=fun W h1=>pass_suf _ #[] inName (fun _=>True) g p s hS W h1 trivial (ask_tag1 g) hp
 have hmm:=@run_makeMap Tryz.prog
 have hs0:=(hS.dw inName).len
 obtain ⟨i0,hi,hz0,hz1,hz2⟩:=info_parts info_link
 show Calls _ _ _ _ fun e w'=>TagPost w g p (tagP lowT s) e w'
 rw [HT.out]
 have HPo:Hid (∀ e w',TagPost w g p (tagS lowT [] (s.dropWhile inName)) e w'→TagPost w g p (tagS lowT [] (s.dropWhile inName)) e w'):=fun _ _ h=>h
 generalize s.dropWhile inName = s0 at *
 generalize pos p s = k at *
 clear hr HE hb hS HT
 have hba:Below w.heap.size w (w.alloc (.map #[] 0)):=(Below.refl _ _).alloc (Nat.le_refl _) _
 have HSN:Hid (Seen (w.alloc (.map #[] 0)) w.heap.size 0 []):=seen_made w
 go_enter Tryz.func132,Tryz.ntmps132
 go_wp2_with fail
 refine (CP1.out _ (HR.out.below hba)).mono ?_
 rintro e w1 ⟨rfl,hm1⟩
 have hr1:=hm1.rd (HR.out.below hba)
 have hm1':Moves w g (pos p s0) w1:=((Moves.still HR.out).then hba).trans hm1 HR.out
 have hsn1:Seen w1 w.heap.size 0 []:=HSN.out.move (hm1.block _ (by simp) (Ne.symm hne))
 clear CP1 hm1 hba HSN hmm
 have HA0:Hid (TagAt w g p s0 (s0.length + 1) (.slice none 0 0) w1 s0 [] []):=⟨Nat.lt_succ_self _,by simp;omega,by simp;omega,HS0.out,hr1,hm1',hsn1,World.ownsRow_nil _ _ _ _,by
  cases h:(tagS lowT [] s0).1 with
  | none=>exact Prod.ext h rfl
  | some l=>exact Prod.ext h rfl⟩
 clear hr1 hm1' hsn1
 go_wp2_with fail
 go_loopg [3] (s0.length + 1) (fun gk v wr=>∃ (sj:List UInt8) (seen:List (List UInt8)) (acc:List LK),Hid (TagAt w g p s0 gk v wr sj seen acc))
 case atStart=>exact ⟨s0,[],[],HA0⟩
 case round =>
  obtain ⟨sj,seen,acc,HJ⟩:=hrel
  clear HA0 HPo
  obtain ⟨a3,c3,rfl,hac,hcm,hnn⟩:=slice_of HJ.out.own
  have hla:=HJ.out.la
  have hls:=HJ.out.ls
  have CP:Hid (∀ W,RdAt W g p (pos p sj)→Calls Tryz.prog 170 #[.pointer (some ⟨g,0,none⟩),.func (Fn.func 173) #[] #[]] W fun e w'=>e = .returned (.string (lba (sj.takeWhile inGap)))∧Moves W g (pos p (sj.dropWhile inGap)) w'):=fun W h1=>pass_suf _ #[] inGap (fun _=>True) g p sj HJ.out.suf W h1 trivial (ask_tag2 g) hp
  have HSj:=HJ.out.suf.dw inGap
  have CD:Hid (∀ W,RdAt W g p (pos p (sj.dropWhile inGap))→Calls Tryz.prog 75 #[.pointer (some ⟨g,0,none⟩)] W fun e w'=>e = .returned (.bool (decide (sj.dropWhile inGap = [])))∧∃ m,w' = W.drewN m):=fun W hW=>done_suf g p _ HSj _ rfl W hW
  have CS:Hid (∀ W,RdAt W g p (pos p (sj.dropWhile inGap))→Calls Tryz.prog 174 #[.pointer (some ⟨g,0,none⟩),.int .u8 62] W fun e w'=>e = .returned (.bool ((sj.dropWhile inGap).head? == some 62))∧∃ m,w' = W.drewN m):=fun W hW=>sees_suf g p _ HSj 62 62 rfl _ rfl W hW
  have hdl:=drop_dropWhile inGap sj
  go_wp2_with fail
  refine (CP.out _ HJ.out.rd).mono ?_
  rintro e w2 ⟨rfl,hm2⟩
  have hr2:=hm2.rd HJ.out.rd
  have hmv2:Moves w g (pos p (sj.dropWhile inGap)) w2:=HJ.out.mv.trans hm2 HR.out
  have hsn2:=HJ.out.sn.move (hm2.block _ HJ.out.sn.lt (Ne.symm hne))
  have hown2:=hm2.owns HJ.out.own (by omega)
  have HTn:Hid (∀ h:sj.dropWhile inGap = [],tagS lowT [] s0 = (none,[])):=fun h=>by rw [HJ.out.eq,tagS_nil lowT seen sj h];rfl
  have HTe:Hid (∀ t,sj.dropWhile inGap = 62::t→tagS lowT [] s0 = (some acc,t)):=fun t h=>by rw [HJ.out.eq,tagS_end lowT seen sj t h];simp
  have HTx:Hid (∀ c t,sj.dropWhile inGap = c::t→c ≠ 62→tagS lowT [] s0 = ((tagS lowT (lowT (nameP (c::t))::seen) (attrP (c::t)).2).1.map ((acc ++ mineP seen (lowT (nameP (c::t))) (attrP (c::t)).1) ++ ·),(tagS lowT (lowT (nameP (c::t))::seen) (attrP (c::t)).2).2)):=fun c t h hc=>by
   rw [HJ.out.eq,tagS_next lowT seen sj c t h hc]
   simp only [Option.map_map]
   refine Prod.ext ?_ rfl
   show Option.map _ _ = Option.map _ _
   refine congrArg (fun f=>Option.map f _) ?_
   funext y
   simp
  have hfew:=HJ.out.few
  clear CP hm2 HJ
  go_wp2_with fail
  refine (CD.out _ hr2).mono ?_
  rintro e w3 ⟨rfl,n3,rfl⟩
  clear CD
  have hr3:=hr2.drewN n3
  have hmv3:=hmv2.drewN n3
  have hsn3:Seen (w2.drewN n3) w.heap.size seen.length seen:=hsn2.move rfl
  have hown3:(w2.drewN n3).ownsRow (w.heap.size + 1) 40 3 (.slice a3 acc.length c3) acc.length (lv p.size acc):=hown2
  clear hr2 hmv2 hsn2 hown2
  generalize w2.drewN n3 = w3 at *
  cases hd:sj.dropWhile inGap with
  | nil =>
   have HN:=HTn.out hd
   have HM3:Hid (Moves w g (pos p []) w3):=by unfold Hid;rw [← hd];exact hmv3
   have HNN:Hid (tagS lowT [] s0 = (none,[])):=HN
   clear HTn HTe HTx CS hr3 hmv3 hsn3 hown3 HN
   simp only [decide_true]
   go_wp2_with fail
   go_ret
   show TagPost _ _ _ _ _ _
   rw [HNN.out]
   exact ⟨_,rfl,World.ownsRow_nil _ _ _ _,HM3.out⟩
  | cons c t =>
   rw [hd] at CS hr3 hmv3 HSj hdl
   have hdn:decide (c::t = []) = false:=by simp
   rw [hdn]
   go_wp2_with fail
   refine (CS.out _ hr3).mono ?_
   rintro e w4 ⟨rfl,n4,rfl⟩
   clear CS
   have hr4:=hr3.drewN n4
   have hmv4:=hmv3.drewN n4
   have hsn4:Seen (w3.drewN n4) w.heap.size seen.length seen:=hsn3.move rfl
   have hown4:(w3.drewN n4).ownsRow (w.heap.size + 1) 40 3 (.slice a3 acc.length c3) acc.length (lv p.size acc):=hown3
   clear hr3 hmv3 hsn3 hown3
   generalize w3.drewN n4 = w4 at *
   have hk1:pos p t = pos p (c::t) + 1:=pos_plus HSj (a:=[c]) rfl
   have hkl:=pos_le p (c::t)
   by_cases h62:c = 62
   ·subst h62
    have HNN:Hid (tagS lowT [] s0 = (some acc,t)):=HTe.out t hd
    have hsee:((62::t).head? == some (62:UInt8)) = true:=rfl
    rw [hsee]
    have h1:=hr4.at_
    have hf:=hr4.frozen 1
    have HM5:Hid (Moves w g (pos p t) (w4.setCell ⟨g,1,none⟩ (.int .i64 (((pos p (62::t) + 1:Nat):Int))))):=by
     unfold Hid;rw [hk1];exact hmv4.trans Moves.of_set HR.out
    have HO5:Hid ((w4.setCell ⟨g,1,none⟩ (.int .i64 (((pos p (62::t) + 1:Nat):Int)))).ownsRow w.heap.size 40 3 (.slice a3 acc.length c3) acc.length (lv p.size acc)):=ownsRow_base (Moves.of_set.owns hown4 (by omega)) (by omega)
    have hwr:IntKind.i64.wrap (((pos p (62::t):Nat):Int) + 1) = (((pos p (62::t) + 1:Nat)):Int):=by rw [IntKind.wrap_i64];omega
    clear HTn HTe HTx hr4 hmv4 hsn4 hown4 hk1
    generalize pos p (62::t) = kk at *
    go_wp2_with fail
    go_ret
    show TagPost _ _ _ _ _ _
    rw [HNN.out]
    exact ⟨_,rfl,HO5.out,HM5.out⟩
   ·have hsee:((c::t).head? == some (62:UInt8)) = false:=by simp [h62]
    rw [hsee]
    have HNX:=HTx.out c t hd h62
    have CA:Hid (Calls Tryz.prog 175 #[.pointer (some ⟨g,0,none⟩)] w4 fun e w'=>e = .returned (.tuple #[.string (lba (lowT (nameP (c::t)))),.agg (lkO p.size (attrP (c::t)).1),.bool (attrP (c::t)).1.isSome])∧Moves w4 g (pos p (attrP (c::t)).2) w') :=
     attr_any w0 HEV.out g hg p c t HSj w4 hr4 (hmv4.base HB.out hg) hp
    have hal:=attr_len c t
    have hasuf:Suf p (attrP (c::t)).2:=(attr_suf (c::t)).trans HSj
    simp only [List.length_cons] at hdl
    have HNZ:Hid (lowT (nameP (c::t)) = (lba (lowT (nameP (c::t)))).data.toList∧(lba (lowT (nameP (c::t)))).size≤maxLen):=⟨rfl,by
     rw [lba_size]
     have h1:=lowT_len (nameP (c::t))
     have h2:(nameP (c::t)).length≤(c::t).length:=by
      rw [name_cons]
      have:=(List.takeWhile_prefix (l:=t) inAttr).length_le
      simp only [List.length_cons]
      omega
     have h3:=HSj.len
     unfold maxLen
     omega⟩
    have HNX2:Hid (tagS lowT [] s0 = ((tagS lowT ((lba (lowT (nameP (c::t)))).data.toList::seen) (attrP (c::t)).2).1.map ((acc ++ mineP seen (lba (lowT (nameP (c::t)))).data.toList (attrP (c::t)).1) ++ ·),(tagS lowT ((lba (lowT (nameP (c::t)))).data.toList::seen) (attrP (c::t)).2).2)):=HNX
    have hnz:=HNZ.out.2
    clear HTn HTe HTx hk1 hkl HNX HNZ hd hsee
    generalize lba (lowT (nameP (c::t))) = NL at *
    generalize (attrP (c::t)).1 = OV at *
    generalize (attrP (c::t)).2 = R at *
    obtain ⟨V0,V1,V2,hV⟩:∃ (V0 V1:Int) (V2:ByteArray),lkO p.size OV = #[.int .i64 V0,.int .i64 V1,.string V2]:=by cases OV <;> exact ⟨_,_,_,rfl⟩
    rw [hV] at CA
    go_wp2_with fail
    refine CA.out.mono ?_
    rintro e w5 ⟨rfl,hm5⟩
    clear CA
    have hr5:=hm5.rd hr4
    have hmv5:Moves w g (pos p R) w5:=hmv4.trans hm5 HR.out
    have hsn5:=hsn4.move (hm5.block _ hsn4.lt (Ne.symm hne))
    have hown5:=hm5.owns hown4 (by omega)
    have hba5:Below w5.heap.size w5 (w5.alloc (.cells #[.int .i64 V0,.int .i64 V1,.string V2] 40)):=(Below.refl _ _).alloc (Nat.le_refl _) _
    have hr6:=hr5.below hba5
    have hmv6:=hmv5.then hba5
    have hsn6:=hsn5.move (hba5.block _ hsn5.lt)
    have hown6:=hown5.alloc (.cells #[.int .i64 V0,.int .i64 V1,.string V2] 40)
    have hcnt:seen.count NL.data.toList≤4000:=Nat.le_trans List.count_le_length (by omega)
    have hlk6:=hsn6.look NL hnz
    obtain ⟨w7,hup,hsn7,hg7⟩:=hsn6.put NL hnz (by unfold maxLen;omega) ((seen.count NL.data.toList:Nat) + 1:Int) (by omega) (by omega)
    have hlk7:=hsn7.look NL hnz
    rw [List.count_cons_self] at hlk7
    have hr7:=hr6.grown hg7 (by intro e;have:=Option.some.inj e;omega)
    have hmv7:=hmv6.grown hg7 (Nat.le_refl _)
    have hown7:=hown6.kept hg7 (by
     rcases hown6.2 with ⟨h1,_⟩ | ⟨gg,cap,cur,h1,h2,_⟩
     ·left;rw [h1];rfl
     ·right;rw [h1];intro e;simp [Value.ownBlock] at e;omega)
    have hsz5:w.heap.size < w5.heap.size:=hsn5.lt
    have hl7:w7.heap[w5.heap.size]? = some (.cells #[.int .i64 V0,.int .i64 V1,.string V2] 40):=by
     rw [hg7.block _ (by simp) (by intro e;have:=Option.some.inj e;omega)]
     exact lnew _ _
    obtain ⟨d0,d1,d2,df⟩:=lcells3 hl7
    have hsn7':Seen w7 w.heap.size (seen.length + 1) (NL.data.toList::seen):=hsn7
    have HSN7:Hid (Seen w7 w.heap.size (seen.length + 1) (NL.data.toList::seen)):=hsn7
    have HR7:Hid (RdAt w7 g p (pos p R)):=hr7
    have HM7:Hid (Moves w g (pos p R) w7):=hmv7
    have HO7:Hid (w7.ownsRow (w.heap.size + 1) 40 3 (.slice a3 acc.length c3) acc.length (lv p.size acc)):=hown7
    have eh:=str_href NL
    have es:=str_src NL
    have HCP:Hid (seen.contains NL.data.toList = true→0 < seen.count NL.data.toList):=count_pos
    have HCZ:Hid (seen.contains NL.data.toList = false→seen.count NL.data.toList = 0):=count_zero
    have hR1:R.length < gk - 1:=by omega
    have hR2:R.length + 1≤sj.length:=by omega
    have HSF:Hid (Suf p R):=hasuf
    clear hm5 hr4 hmv4 hsn4 hown4 hr5 hmv5 hsn5 hown5 hba5 hr6 hmv6 hsn6 hown6 hsn7 hsn7' hr7 hmv7 hown7 hl7 hg7 hasuf
    have HADD:Hid (∀ (acc2:List LK) (v2:Value) (w9:World),acc2 = acc ++ mineP seen NL.data.toList OV→acc2.length≤acc.length + 1→RdAt w9 g p (pos p R)→Moves w g (pos p R) w9→Seen w9 w.heap.size (seen.length + 1) (NL.data.toList::seen)→w9.ownsRow (w.heap.size + 1) 40 3 v2 acc2.length (lv p.size acc2)→TagAt w g p s0 (gk - 1) v2 w9 R (NL.data.toList::seen) acc2):=fun acc2 v2 w9 h1 h2 h3 h4 h5 h6 =>
     ⟨hR1,by omega,by simp only [List.length_cons];omega,HSF.out,h3,h4,h5,h6,by rw [h1];exact HNX2.out⟩
    clear HNX2 HSF hal hdl
    generalize hcn:seen.count NL.data.toList = cnt at *
    have hwc:IntKind.i64.wrap ((cnt:Int) + 1) = (cnt:Int) + 1:=by rw [IntKind.wrap_i64];omega
    cases OV with
    | none =>
     simp only [Option.isSome_none]
     go_wp2_with fail
     go_roundg (gk - 1)
     case measure=>omega
     case rel=>exact ⟨R,NL.data.toList::seen,acc,HADD.out acc _ _ (by simp [mineP]) (by omega) HR7.out HM7.out HSN7.out HO7.out⟩
    | some x =>
     simp only [Option.isSome_some]
     cases hct:seen.contains NL.data.toList with
     | true =>
      have h0:=HCP.out hct
      have hone:(((cnt:Int) + 1) == 1) = false:=by rw [beq_eq_false_iff_ne];omega
      have hone':¬ ((cnt:Int) + 1) = 1:=by omega
      clear HCP HCZ
      go_wp2_with fail
      go_roundg (gk - 1)
      case measure=>omega
      case rel=>exact ⟨R,NL.data.toList::seen,acc,HADD.out acc _ _ (by simp only [mineP];rw [if_neg (by rw [hct];simp),List.append_nil]) (by omega) HR7.out HM7.out HSN7.out HO7.out⟩
     | false =>
      have h0:=HCZ.out hct
      have hone:(((cnt:Int) + 1) == 1) = true:=by rw [h0];rfl
      clear HCP HCZ h0
      by_cases hh:NL.data.toList = hrefL
      ·rw [decide_eq_true hh] at eh
       have hmine:seen.contains NL.data.toList = false∧(NL.data.toList = hrefL ∨ NL.data.toList = srcL):=⟨hct,.inl hh⟩
       clear hh hct es hcn
       have HX:Hid (lkv p.size x = #[.int .i64 V0,.int .i64 V1,.string V2]):=hV
       clear hV
       go_wp2_with (at_builtin;refine wpList_append_own _ rfl (.tmp 50) (.tmp 52) 65 rfl (w.heap.size + 1) 40 i0 (.agg #[.int .i64 0,.int .i64 0,.string ⟨#[]⟩]) 3 32 Tryz.underlying65 hi hz0 hz1 hz2 rfl (by decide) _ _ _ rfl (HO7.out.alloc _) ⟨w7.heap.size,0,none⟩ 1 1 [.int .i64 V0,.int .i64 V1,.string V2] rfl rfl ?c1 ?c2 ?c3 ?c4 ?c5 ?_)
       case c1=>exact cell_three _ _ _ _ _
       case c2=>intro u hu;simp at hu;rcases hu with rfl | rfl | rfl <;> rfl
       case c3=>unfold maxLen;omega
       case c4=>have h1:=HM7.out.size;omega
       case c5=>have h1:=HSN7.out.lt;simp;omega
       intro v9 w9 hown9 hg9 _
       have HOB:Hid (∀ k,(Value.slice a3 acc.length c3).ownBlock = some k→w.heap.size + 1≤k∧k < w7.heap.size):=HO7.out.lt
       have hr9:RdAt w9 g p (pos p R):=(HR7.out.below ((Below.refl _ _).alloc (Nat.le_refl _) _)).grown hg9 (by intro e;have:=HOB.out g e.symm;omega)
       have hmv9:Moves w g (pos p R) w9:=(HM7.out.alloc _).grownv hg9 (fun k hk=>by have:=HOB.out k hk;omega)
       have hsn9:Seen w9 w.heap.size (seen.length + 1) (NL.data.toList::seen):=by
        have h1:=HSN7.out
        have h2:=h1.lt
        have h3:=h1.move (Below.heap_alloc w7 (.cells #[.int .i64 V0,.int .i64 V1,.string V2] 40) w.heap.size h2)
        refine h3.move (hg9.block _ h3.lt ?_)
        intro e
        have:=HOB.out _ e.symm
        omega
       have hown9':w9.ownsRow (w.heap.size + 1) 40 3 v9 (acc ++ [x]).length (lv p.size (acc ++ [x])):=by rw [lv_snoc,HX.out,List.length_append];exact hown9
       have HRL:Hid (TagAt w g p s0 (gk - 1) v9 w9 R (NL.data.toList::seen) (acc ++ [x])):=HADD.out _ _ _ (by simp only [mineP];rw [if_pos hmine]) (by simp) hr9 hmv9 hsn9 hown9'
       clear hown9 hg9 hr9 hmv9 hsn9 hown9' HOB HADD HX hmine
       go_wp2_with fail
       go_roundg (gk - 1)
       case measure=>omega
       case rel=>exact ⟨R,NL.data.toList::seen,acc ++ [x],HRL⟩
      ·rw [decide_eq_false hh] at eh
       by_cases hs2:NL.data.toList = srcL
       ·rw [decide_eq_true hs2] at es
        have hmine:seen.contains NL.data.toList = false∧(NL.data.toList = hrefL ∨ NL.data.toList = srcL):=⟨hct,.inr hs2⟩
        clear hs2 hh hct hcn
        have HX:Hid (lkv p.size x = #[.int .i64 V0,.int .i64 V1,.string V2]):=hV
        clear hV
        go_wp2_with (at_builtin;refine wpList_append_own _ rfl (.tmp 50) (.tmp 52) 65 rfl (w.heap.size + 1) 40 i0 (.agg #[.int .i64 0,.int .i64 0,.string ⟨#[]⟩]) 3 32 Tryz.underlying65 hi hz0 hz1 hz2 rfl (by decide) _ _ _ rfl (HO7.out.alloc _) ⟨w7.heap.size,0,none⟩ 1 1 [.int .i64 V0,.int .i64 V1,.string V2] rfl rfl ?c1 ?c2 ?c3 ?c4 ?c5 ?_)
        case c1=>exact cell_three _ _ _ _ _
        case c2=>intro u hu;simp at hu;rcases hu with rfl | rfl | rfl <;> rfl
        case c3=>unfold maxLen;omega
        case c4=>have h1:=HM7.out.size;omega
        case c5=>have h1:=HSN7.out.lt;simp;omega
        intro v9 w9 hown9 hg9 _
        have HOB:Hid (∀ k,(Value.slice a3 acc.length c3).ownBlock = some k→w.heap.size + 1≤k∧k < w7.heap.size):=HO7.out.lt
        have hr9:RdAt w9 g p (pos p R):=(HR7.out.below ((Below.refl _ _).alloc (Nat.le_refl _) _)).grown hg9 (by intro e;have:=HOB.out g e.symm;omega)
        have hmv9:Moves w g (pos p R) w9:=(HM7.out.alloc _).grownv hg9 (fun k hk=>by have:=HOB.out k hk;omega)
        have hsn9:Seen w9 w.heap.size (seen.length + 1) (NL.data.toList::seen):=by
         have h1:=HSN7.out
         have h2:=h1.lt
         have h3:=h1.move (Below.heap_alloc w7 (.cells #[.int .i64 V0,.int .i64 V1,.string V2] 40) w.heap.size h2)
         refine h3.move (hg9.block _ h3.lt ?_)
         intro e
         have:=HOB.out _ e.symm
         omega
        have hown9':w9.ownsRow (w.heap.size + 1) 40 3 v9 (acc ++ [x]).length (lv p.size (acc ++ [x])):=by rw [lv_snoc,HX.out,List.length_append];exact hown9
        have HRL:Hid (TagAt w g p s0 (gk - 1) v9 w9 R (NL.data.toList::seen) (acc ++ [x])):=HADD.out _ _ _ (by simp only [mineP];rw [if_pos hmine]) (by simp) hr9 hmv9 hsn9 hown9'
        clear hown9 hg9 hr9 hmv9 hsn9 hown9' HOB HADD HX hmine
        go_wp2_with fail
        go_roundg (gk - 1)
        case measure=>omega
        case rel=>exact ⟨R,NL.data.toList::seen,acc ++ [x],HRL⟩
       ·rw [decide_eq_false hs2] at es
        go_wp2_with fail
        go_roundg (gk - 1)
        case measure=>omega
        case rel=>exact ⟨R,NL.data.toList::seen,acc,HADD.out acc _ _ (by simp only [mineP];rw [if_neg (fun h=>by rcases h.2 with h | h <;> contradiction),List.append_nil]) (by omega) HR7.out HM7.out HSN7.out HO7.out⟩
end Go.Proofs.YtbbfcbodhmeanaaGreatDoor


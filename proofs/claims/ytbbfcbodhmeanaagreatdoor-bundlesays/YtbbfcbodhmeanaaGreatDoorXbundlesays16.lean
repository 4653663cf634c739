
import Derived.Test.YtbbfcbodhmeanaaGreatDoorXbundlesays15
import Derived.Laws.ResultCell
import Derived.Test.YtbbfcbodhmeanaaGreatDoorXbundlesays11
namespace Go.Proofs.YtbbfcbodhmeanaaGreatDoor
open Go.RowKit
def lba (l:List UInt8):ByteArray:=⟨l.toArray⟩
theorem lba_data (l:List UInt8):(lba l).data.toList = l:=rfl
theorem lba_size (l:List UInt8):(lba l).size = l.length:=by rw [Lib.size_eq,lba_data]
theorem lba_inj {a b:ByteArray} (h:a.data.toList = b.data.toList):a = b:=ByteArray.ext (Array.toList_inj.1 h)
def pos (p:ByteArray) (s:List UInt8):Nat:=p.size - s.length
abbrev Suf (p:ByteArray) (s:List UInt8):Prop:=s <:+ p.data.toList
theorem Suf.len {p:ByteArray} {s:List UInt8} (h:Suf p s):s.length≤p.size:=by rw [Lib.size_eq];exact h.length_le
theorem Suf.drop {p:ByteArray} {s:List UInt8} (h:Suf p s):p.data.toList.drop (pos p s) = s:=by
 unfold pos
 rw [Lib.size_eq]
 exact (List.suffix_iff_eq_drop.1 h).symm
theorem pos_le (p:ByteArray) (s:List UInt8):pos p s≤p.size:=by unfold pos;omega
theorem pos_plus {p:ByteArray} {s a r:List UInt8} (h:Suf p s) (e:a ++ r = s):pos p r = pos p s + a.length:=by
 have:=h.len
 subst e
 unfold pos
 simp only [List.length_append] at this ⊢
 omega
theorem ext_of {p:ByteArray} {s a r:List UInt8} (h:Suf p s) (e:a ++ r = s):p.extract (pos p s) (pos p r) = lba a:=by
 have hd:=h.drop
 have hp:=pos_plus h e
 refine lba_inj ?_
 rw [hp,lba_data]
 have e1:(p.extract (pos p s) (pos p s + a.length)).data.toList = ((p.data.toList.drop (pos p s)).take a.length):=by
  rw [Lib.extract_data,show pos p s + a.length - pos p s = a.length from by omega]
 rw [e1,hd,← e,List.take_left]
theorem ext_end {p:ByteArray} {s:List UInt8} (h:Suf p s):p.extract (pos p s) p.size = lba s:=by
 have:=ext_of h (List.append_nil s)
 have e:pos p ([]:List UInt8) = p.size:=rfl
 rw [e] at this
 exact this
theorem Suf.dw {p:ByteArray} {s:List UInt8} (h:Suf p s) (q:UInt8→Bool):Suf p (s.dropWhile q):=(List.dropWhile_suffix q).trans h
theorem Suf.dr {p:ByteArray} {s:List UInt8} (h:Suf p s) (n:Nat):Suf p (s.drop n):=(List.drop_suffix n s).trans h
theorem Suf.tl {p:ByteArray} {c:UInt8} {s:List UInt8} (h:Suf p (c::s)):Suf p s:=(List.suffix_cons c s).trans h
theorem behind_suf (m s:List UInt8):behindL m s <:+ s:=by
 unfold behindL
 split
 ·exact List.nil_suffix
 ·exact List.drop_suffix _ _
theorem pass_suf (F:Nat) (caps:Array Value) (q:UInt8→Bool) (OK:World→Prop) (g:Nat) (p:ByteArray) (s:List UInt8) (hS:Suf p s) (w:World) (hr:RdAt w g p (pos p s)) (hOK:OK w) (HQ:AskIn F caps q g OK) (hp:p.size≤4000) :
  Calls Tryz.prog 170 #[.pointer (some ⟨g,0,none⟩),.func (Fn.func F) #[] caps] w fun e w'=>e = .returned (.string (lba (s.takeWhile q)))∧Moves w g (pos p (s.dropWhile q)) w':=by
 have e:=tw_dw q s
 refine pass_any F caps q OK g p (pos p s) (pos p (s.dropWhile q)) (lba (s.takeWhile q)) w hr hOK HQ hp ?_ (ext_of hS e) (pos_le _ _)
 rw [hS.drop]
 exact pos_plus hS e
structure LTabs (w:World):Prop where
 mx:∃ m:Int,w.cell? ⟨0,0,none⟩ = some (.int .i64 m)
 cv:Lib.CaseVar 3 Lib.caseA w
 u8:Lib.Utf8Tabs 1 2 w
def LEnv (w0:World):Prop:=∀ W,Below w0.heap.size w0 W→LTabs W
theorem behind_pos {p E:ByteArray} {s:List UInt8} (hS:Suf p s) (hi:¬ Lib.index s E.data.toList < 0):((pos p s:Nat):Int) + (Lib.index s E.data.toList + (E.size:Int)) = (pos p (behindL E.data.toList s):Nat):=by
 have h1:=Lib.index_room s E.data.toList (by omega)
 have h2:=hS.len
 have h3:behindL E.data.toList s = s.drop ((Lib.index s E.data.toList).toNat + E.data.toList.length):=by unfold behindL;rw [if_neg hi]
 unfold pos
 rw [h3,List.length_drop,Lib.size_eq E]
 omega
set_option maxHeartbeats 2000000 in
theorem passEnd_any (w0:World) (HE:LEnv w0) (E:ByteArray) (hE:E.size≤10) (g:Nat) (p:ByteArray) (s:List UInt8) (hS:Suf p s) (w:World) (hr:RdAt w g p (pos p s)) (hb:Below w0.heap.size w0 w) (hp:p.size≤4000) :
  Calls Tryz.prog 130 #[.pointer (some ⟨g,0,none⟩),.string E] w fun e w'=>e = .returned (.tuple #[])∧Moves w g (pos p (behindL E.data.toList s)) w':=by
 have h0:=hr.page
 have h1:=hr.at_
 have hf:=hr.frozen 1
 have hx:=ext_end hS
 have HR:Hid (RdAt w g p (pos p s)):=hr
 have hlen:=hS.len
 have HC:Hid (QuietAt 86 #[.string (lba s),.string E] (.int .i64 (Lib.index s E.data.toList)) w):=fun n=>by
  obtain ⟨m,hm⟩:=(HE w hb).mx
  exact Calls.quiet_of_same (Tryz.strings_Index (lba s) E m (w.drewN n) (by rw [lba_size];omega) hm)
 have hk1:((pos p s:Nat):Int)≤(p.size:Int):=by have:=pos_le p s;omega
 have hk2:pos p s≤p.size:=pos_le p s
 have hroom:=Lib.index_room s E.data.toList
 by_cases hi:Lib.index s E.data.toList < 0
 ·have hn:behindL E.data.toList s = []:=by unfold behindL;rw [if_pos hi]
  have HP:Hid (pos p (behindL E.data.toList s) = p.size):=by unfold Hid;rw [hn];rfl
  have hi':¬ 0≤Lib.index s E.data.toList:=by omega
  generalize Lib.index s E.data.toList = i at HC hi hi'
  generalize pos p (behindL E.data.toList s) = m at HP
  generalize pos p s = k at *
  clear hn hr hi hroom hS HE hb
  go_enter Tryz.func130,Tryz.ntmps130
  go_wp2_with fail
  go_quiet (first | (go_at_call 86;exact HC.out _) | fail)
  go_wp2_with fail
  go_end0
  rw [HP.out]
  exact ⟨rfl,((Moves.still HR.out).then (below_many (Below.refl _ _) _)).trans Moves.of_set HR.out⟩
 ·have HP:Hid (((pos p s:Nat):Int) + (Lib.index s E.data.toList + (E.size:Int)) = (pos p (behindL E.data.toList s):Nat)):=behind_pos hS hi
  have hi':0≤Lib.index s E.data.toList:=by omega
  have hroom':=hroom hi'
  have hw1:IntKind.i64.wrap (Lib.index s E.data.toList + (E.size:Int)) = Lib.index s E.data.toList + (E.size:Int):=by rw [IntKind.wrap_i64];omega
  have hw2:IntKind.i64.wrap (((pos p s:Nat):Int) + (Lib.index s E.data.toList + (E.size:Int))) = (pos p (behindL E.data.toList s):Nat):=by rw [HP.out,IntKind.wrap_i64];have:=pos_le p (behindL E.data.toList s);omega
  generalize pos p (behindL E.data.toList s) = m at *
  generalize Lib.index s E.data.toList = i at *
  generalize pos p s = k at *
  clear hr hi hS HE hb hroom HP hroom'
  go_enter Tryz.func130,Tryz.ntmps130
  go_wp2_with fail
  go_quiet (first | (go_at_call 86;exact HC.out _) | fail)
  go_wp2_with fail
  refine bodyPost_ret (results_none rfl _ _ _) rfl ?_
  ·exact ⟨rfl,((Moves.still HR.out).then (below_many (Below.refl _ _) _)).trans Moves.of_set HR.out⟩
def lkC (p:ByteArray) (s r raw:List UInt8):Array Value:=#[.int .i64 (pos p s:Nat),.int .i64 (pos p r:Nat),.string (lba (unamp raw))]
theorem amp_room (s:ByteArray) (hs:s.size≤4000):s.size + Lib.countB s (lba ampL) * (lba [38]).size≤140737488355328:=by
 have h1:Lib.countB s (lba ampL)≤s.size + 1:=by
  unfold Lib.countB
  have:=Lib.count_le s.data.toList (lba ampL).data.toList
  have:=Lib.size_eq s
  omega
 have h2:(lba [38]).size = 1:=rfl
 rw [h2]
 omega
theorem results_cell1 {fn:Func} {p:Tmp} {ty:TypeId} (h:fn.results = #[.cell p ty]) (tmps:Array Value) (P:Program) (w:World) :
  (results fn tmps).run P w =
   ((asAddr (tmps.getD p undef)).run P w).andThen fun a w₁=>(loadVar ty a).run P w₁:=by
 simp only [results,h]
 simp [Sem.run_bind,Result.andThen]
theorem results_tct {fn:Func} {u p v:Tmp} {ty:TypeId} (h:fn.results = #[.tmp u,.cell p ty,.tmp v]) (tmps:Array Value) (P:Program) (w:World) :
  (results fn tmps).run P w =
   ((asAddr (tmps.getD p undef)).run P w).andThen fun a w₁=>((loadVar ty a).run P w₁).andThen fun y w₂=>.ok (.tuple #[tmps.getD u undef,y,tmps.getD v undef]) w₂:=by
 simp only [results,h]
 simp [Sem.run_bind,Result.andThen]
theorem lcells3 {W:World} {k:Nat} {t:TypeId} {v0 v1 v2:Value} (h:W.heap[k]? = some (.cells #[v0,v1,v2] t)) :
  W.cell? ⟨k,0,none⟩ = some v0∧W.cell? ⟨k,1,none⟩ = some v1∧W.cell? ⟨k,2,none⟩ = some v2∧∀ o,W.frozen? ⟨k,o,none⟩ = false :=
 ⟨by simp [World.cell?,h],by simp [World.cell?,h],by simp [World.cell?,h],fun o=>by simp [World.frozen?,h]⟩
theorem lnew (W:World) (o:Obj):(W.alloc o).heap[W.heap.size]? = some o:=by
 show (W.heap.push _)[W.heap.size]? = _
 rw [Array.getElem?_push,if_pos rfl]
theorem lkept {W W':World} {k:Nat} {o:Obj} (h:W.heap[k]? = some o) (hb:Below W.heap.size W W'):W'.heap[k]? = some o:=by
 rw [hb.block _ (Array.getElem?_eq_some_iff.1 h).1];exact h
theorem lltn {W:World} {k:Nat} {o:Obj} (h:W.heap[k]? = some o):k < W.heap.size:=(Array.getElem?_eq_some_iff.1 h).1
theorem Moves.kept {w w':World} {g:Nat} {m:Int} (h:Moves w g m w') {k:Nat} {o:Obj} (hk:w.heap[k]? = some o) (hg:k ≠ g):w'.heap[k]? = some o:=by
 rw [h.block k (lltn hk) hg];exact hk
theorem Moves.new {w w':World} {g:Nat} {m:Int} (h:Moves w g m w') (k i:Nat) (hk:w.heap.size≤k) (v:Value):Moves w g m (w'.setCell ⟨k,i,none⟩ v):=by
 have h1:Below w.heap.size (w.setCell ⟨g,1,none⟩ (.int .i64 m)) w':=h
 exact h1.setCell (p:=⟨k,i,none⟩) hk v
theorem Moves.alloc {w w':World} {g:Nat} {m:Int} (h:Moves w g m w') (o:Obj):Moves w g m (w'.alloc o):=h.then ((Below.refl _ _).alloc (Nat.le_refl _) _)
theorem Moves.drewN {w w':World} {g:Nat} {m:Int} (h:Moves w g m w') (n:Nat):Moves w g m (w'.drewN n):=h.then (below_many (Below.refl _ _) _)
set_option maxHeartbeats 4000000 in
theorem link_any (w0:World) (HE:LEnv w0) (F:Nat) (caps:Array Value) (q:UInt8→Bool) (OK:World→Prop) (hOKa:∀ W v t,OK W→OK (W.alloc (.cells v t))) (g:Nat) (hg:w0.heap.size≤g) (p:ByteArray) (s:List UInt8) (hS:Suf p s) (w:World) (hr:RdAt w g p (pos p s)) (hb:Below w0.heap.size w0 w) (hOK:OK w) (HQ:AskIn F caps q g OK) (hp:p.size≤4000) :
  Calls Tryz.prog 211 #[.pointer (some ⟨g,0,none⟩),.func (Fn.func F) #[] caps] w fun e w'=>e = .returned (.agg (lkC p s (s.dropWhile q) (s.takeWhile q)))∧Moves w g (pos p (s.dropWhile q)) w':=by
 have h1:=hr.at_
 have HR:Hid (RdAt w g p (pos p s)):=hr
 have hlt:=hr.lt
 have hne:g ≠ w.heap.size:=by omega
 have HP:Hid (∀ W,RdAt W g p (pos p s)→OK W→Calls Tryz.prog 170 #[.pointer (some ⟨g,0,none⟩),.func (Fn.func F) #[] caps] W fun e w'=>e = .returned (.string (lba (s.takeWhile q)))∧Moves W g (pos p (s.dropWhile q)) w'):=fun W h1 h2=>pass_suf F caps q OK g p s hS W h1 h2 HQ hp
 have htl:(lba (s.takeWhile q)).size≤4000:=by rw [lba_size];have:=(List.takeWhile_prefix (l:=s) q).length_le;have:=hS.len;omega
 have HA:Hid (∀ W,Below w0.heap.size w0 W→Calls Tryz.prog 216 #[.string (lba (s.takeWhile q)),.string ⟨#[38,97,109,112,59]⟩,.string ⟨#[38]⟩] W fun e w'=>e = .returned (.string (lba (unamp (s.takeWhile q))))∧Below W.heap.size W w'):=fun W hW=>by
  obtain ⟨m,hm⟩:=(HE W hW).mx
  exact Tryz.strings_ReplaceAll (lba (s.takeWhile q)) ⟨#[38,97,109,112,59]⟩ ⟨#[38]⟩ m W (by omega) hm (by decide) (amp_room _ htl)
 have HB:Hid (Below w0.heap.size w0 w):=hb
 have HO:Hid (OK (w.alloc (.cells #[.int .i64 0,.int .i64 0,.string ⟨#[]⟩] 40))):=hOKa _ _ _ hOK
 unfold lkC
 generalize s.takeWhile q = T at *
 generalize pos p (s.dropWhile q) = m at *
 generalize pos p s = k at *
 clear hr HE hb hOK hOKa HQ hS htl
 have hba:Below w.heap.size w (w.alloc (.cells #[.int .i64 0,.int .i64 0,.string ⟨#[]⟩] 40)):=(Below.refl _ _).alloc (Nat.le_refl _) _
 have hnew:=lnew w (.cells #[.int .i64 0,.int .i64 0,.string ⟨#[]⟩] 40)
 go_enter Tryz.func211,Tryz.ntmps211
 go_wp2_with fail
 refine (HP.out _ (HR.out.below hba) HO.out).mono ?_
 rintro e w1 ⟨rfl,hm1⟩
 have hB1:=hm1.base (HB.out.trans (hba.mono HB.out.size)) hg
 have hk1:=hm1.kept hnew (Ne.symm hne)
 have HM:Hid (Moves w g m w1):=((Moves.still HR.out).then hba).trans hm1 HR.out
 clear HP HO hnew hm1 hba h1
 go_wp2_with fail
 refine (HA.out _ hB1).mono ?_
 rintro e w2 ⟨rfl,hb2⟩
 have hr2:=(HM.out.then hb2).rd HR.out
 have hk2:=lkept hk1 hb2
 have h1:=hr2.at_
 obtain ⟨c0,c1,c2,cf⟩:=lcells3 hk2
 have HM2:Hid (Moves w g m w2):=HM.out.then hb2
 have hsz:w.heap.size < w2.heap.size:=lltn hk2
 clear HM HA hb2 hr2 hk1 hk2 hB1
 go_wp2_with fail
 refine bodyPost_ret (v:=.agg #[.int .i64 k,.int .i64 m,.string (lba (unamp T))]) ?_ rfl ⟨rfl,?_⟩
 ·rw [results_cell1 rfl]
  go_simp
 ·exact ((HM2.out.new _ _ (Nat.le_refl _) _).new _ _ (Nat.le_refl _) _).new _ _ (Nat.le_refl _) _
end Go.Proofs.YtbbfcbodhmeanaaGreatDoor



namespace Go.Proofs.YtbbfcbodhmeanaaGreatDoor
open Go.RowKit
def upSet:List UInt8:=[65,66,67,68,69,70,71,72,73,74,75,76,77,78,79,80,81,82,83,84,85,86,87,88,89,90]
theorem upSet_is (c:UInt8):upSet.contains c = isUpB c:=by
 have:∀ n:Fin 256,upSet.contains (UInt8.ofNat n.val) = isUpB (UInt8.ofNat n.val):=by decide +kernel
 have h:=this ⟨c.toNat,c.toNat_lt⟩
 simp only [UInt8.ofNat_toNat] at h
 exact h
set_option maxHeartbeats 4000000 in
set_option maxRecDepth 100000 in
theorem rsm_any (s:ByteArray) (w:World) (hs:s.size≤1000000) :
  Calls Tryz.prog 100 #[.string s] w fun e w'=>e = .returned (.string ⟨(smallU s.data.toList).toArray⟩)∧Below w.heap.size w w':=by
 have hcv:(convert 9 22 (.string s)).run Tryz.prog w = .ok (.slice (some ⟨w.heap.size,0,none⟩) s.size (grownCap w s.size 0 5)) (Lib.bytesWorld w 5 s):=Lib.run_convert_string_bytes w _ _ _ s Tryz.underlying9 Tryz.underlying22 Tryz.underlying5
 have hB:Below w.heap.size w (Lib.bytesWorld w 5 s):=⟨rfl,rfl,rfl,by rw [Lib.bytesWorld_size];omega,fun k hk=>Lib.bytesWorld_at_old w _ s k hk⟩
 have HC0:Hid (∀ i,i < s.size→(Lib.bytesWorld w 5 s).cell? ⟨w.heap.size,i,none⟩ = some (.int .u8 ((s.data.toList.getD i 0).toNat:Int))):=fun i hi=>Lib.bytesWorld_cell w _ s i hi
 have HF0:Hid (∀ i,i < s.size→(Lib.bytesWorld w 5 s).frozen? ⟨w.heap.size,i,none⟩ = false):=fun i hi=>by
  unfold World.frozen?
  simp only [Lib.bytesWorld_at_new]
  have:s.size≤(Lib.bytesCells w 5 s).size:=by unfold Lib.bytesCells;simp
  rw [Bool.and_eq_false_iff]
  left
  rw [decide_eq_false_iff_not]
  omega
 generalize grownCap w s.size 0 5 = CAP at *
 generalize Lib.bytesWorld w 5 s = w1 at *
 have hle:Hid (s.size = s.data.toList.length):=Lib.size_eq s
 go_enter Tryz.func100,Tryz.ntmps100
 go_wp2
 go_loopw [9] (fun iv wr=>∃ k:Nat,k≤s.size∧iv = .int .i64 k∧Below w.heap.size w wr∧Hid (∀ i,i < s.size→wr.cell? ⟨w.heap.size,i,none⟩ = some (.int .u8 (((smk k s.data.toList).getD i 0).toNat:Int)))∧Hid (∀ i,i < s.size→wr.frozen? ⟨w.heap.size,i,none⟩ = false)) (fun iv _=>s.size - (intOf iv).toNat)
 case atStart=>exact ⟨0,Nat.zero_le _,rfl,hB,HC0,HF0⟩
 case round =>
  obtain ⟨k,hk,rfl,hbel,HC,HF⟩:=hrel
  clear HC0 HF0
  by_cases hlt:k < s.size
  ·have hll:k < s.data.toList.length:=by rw [← hle.out];exact hlt
   have hck:=HC.out k hlt
   rw [smk_get k _ hll] at hck
   have hfk:=HF.out k hlt
   obtain ⟨c,hc⟩:∃ c,s.data.toList.getD k 0 = c:=⟨_,rfl⟩
   rw [hc] at hck
   have CI:Hid (Calls Tryz.prog 93 #[.string ⟨#[65,66,67,68,69,70,71,72,73,74,75,76,77,78,79,80,81,82,83,84,85,86,87,88,89,90]⟩,.int .u8 (c.toNat:Int)] wr fun e w'=>∃ i:Int,e = .returned (.int .i64 i)∧decide (0≤i) = isUpB c∧w' = wr):=by
    have:=ix_any ⟨#[65,66,67,68,69,70,71,72,73,74,75,76,77,78,79,80,81,82,83,84,85,86,87,88,89,90]⟩ upSet rfl c _ rfl wr
    rw [upSet_is] at this
    exact this
   cases hu:isUpB c with
   | false =>
    rw [hu] at CI
    have HC2:Hid (∀ i,i < s.size→wr.cell? ⟨w.heap.size,i,none⟩ = some (.int .u8 (((smk (k + 1) s.data.toList).getD i 0).toNat:Int))):=fun i hi=>by
     rw [smk_succ k _ hll,hc,show lowU c = c from by unfold lowU;rw [hu];rfl,← hc,← smk_get k _ hll,set_self _ k (by rw [smk_length];exact hll)]
     exact HC.out i hi
    clear HC hc hu
    go_wp2_with fail
    refine CI.out.mono ?_
    rintro e w' ⟨i9,rfl,hi9,hw'⟩
    have hw'':=hw'.symm
    subst hw''
    clear CI
    go_wp2
    go_roundw
    case rel=>exact ⟨k + 1,by omega,by go_num,hbel,HC2,HF⟩
    case measure=>simp [intOf];omega
   | true =>
    rw [hu] at CI
    have hub:65≤c.toNat∧c.toNat≤90:=by unfold isUpB at hu;simpa using hu
    have h65:(65:Int)≤(c.toNat:Int):=by omega
    have h90:(c.toNat:Int)≤90:=by omega
    have hval:(c.toNat:Int) + 32 = ((lowU c).toNat:Int):=by
     have:(lowU c).toNat = c.toNat + 32:=by
      unfold lowU
      rw [if_pos hu,UInt8.toNat_add]
      show (c.toNat + 32) % 256 = _
      omega
     omega
    have HC2:Hid (∀ i,i < s.size→(wr.setCell ⟨w.heap.size,k,none⟩ (.int .u8 ((lowU c).toNat:Int))).cell? ⟨w.heap.size,i,none⟩ = some (.int .u8 (((smk (k + 1) s.data.toList).getD i 0).toNat:Int))):=fun i hi=>by
     rw [smk_succ k _ hll,hc,set_getD _ _ _ _ (by rw [smk_length];exact hll)]
     by_cases hik:i = k
     ·subst hik
      rw [if_pos rfl]
      exact World.cell?_setCell_same _ _ _ hck
     ·rw [if_neg hik,World.cell?_setCell_other _ _ _ _ (fun e=>hik (by injection e with _ e _;exact e.symm))]
      exact HC.out i hi
    have HF2:Hid (∀ i,i < s.size→(wr.setCell ⟨w.heap.size,k,none⟩ (.int .u8 ((lowU c).toNat:Int))).frozen? ⟨w.heap.size,i,none⟩ = false):=fun i hi=>by
     rw [World.frozen?_setCell];exact HF.out i hi
    have hb2:Below w.heap.size w (wr.setCell ⟨w.heap.size,k,none⟩ (.int .u8 ((lowU c).toNat:Int))):=hbel.setCell (Nat.le_refl _) _
    clear HC HF hc hu hub
    go_wp2_with fail
    refine CI.out.mono ?_
    rintro e w' ⟨i9,rfl,hi9,hw'⟩
    have hw'':=hw'.symm
    subst hw''
    clear CI
    go_wp2
    try simp only [hval]
    go_roundw
    case rel=>exact ⟨k + 1,by omega,by go_num,hb2,HC2,HF2⟩
    case measure=>simp [intOf];omega
  ·obtain rfl:k = s.size:=by omega
   have hr:BRow wr (some ⟨w.heap.size,0,none⟩) (smallU s.data.toList):=fun _=>⟨w.heap.size,0,rfl,fun i hi=>by
    have hi':i < s.size:=by rw [hle.out];unfold smallU at hi;rw [List.length_map] at hi;exact hi
    have:=HC.out i hi'
    rw [hle.out,smk_all] at this
    rw [Nat.zero_add]
    exact this⟩
   have hcv2:=conv_bytes wr (some ⟨w.heap.size,0,none⟩) s.size CAP (smallU s.data.toList) (by rw [hle.out];unfold smallU;rw [List.length_map]) hr (fun e=>by cases e)
   clear HC HF hr
   go_wp2
   go_ret
   exact ⟨rfl,hbel⟩
end Go.Proofs.YtbbfcbodhmeanaaGreatDoor



namespace Go.Proofs.YtbbfcbodhmeanaaGreatDoor
open Go.RowKit
set_option maxHeartbeats 2000000 in
theorem rspace_any (g:Nat) (p:ByteArray) (k:Nat) (hk:k < p.size) (w:World) (hg:w.cell? ⟨g,0,none⟩ = some (.string p)) :
  Calls Tryz.prog 109 #[.int .i64 (k:Int),.pointer (some ⟨g,0,none⟩)] w fun e w'=>e = .returned (.bool (spB (p[k]'hk)))∧w' = w:=by
 have hki:(k:Int) < (p.size:Int):=by omega
 go_enter Tryz.func109,Tryz.ntmps109
 go_wp2_with (go_at_call 93;refine (ix_any ⟨#[32,9,13,10,12]⟩ [32,9,13,10,12] rfl (p[k]'hk) _ rfl _).mono ?_;rintro e w' ⟨i,rfl,hi8,hw'⟩;have hi9:Hid (decide (0≤i) = spB (p[k]'hk)):=hi8;clear hi8;have hw'':=hw'.symm;subst hw'')
 go_ret
 exact ⟨ret_bool hi9.out,rfl⟩
def alphaL:List UInt8:=[97,98,99,100,101,102,103,104,105,106,107,108,109,110,111,112,113,114,115,116,117,118,119,120,121,122]
theorem alpha_low (c:UInt8):alphaL.contains (lowU c) = letB c:=by
 have:∀ n:Fin 256,alphaL.contains (lowU (UInt8.ofNat n.val)) = letB (UInt8.ofNat n.val):=by decide +kernel
 have h:=this ⟨c.toNat,c.toNat_lt⟩
 simpa using h
set_option maxHeartbeats 2000000 in
theorem rletter_any (g:Nat) (p:ByteArray) (k:Nat) (hp:p.size≤4000) (hk:k≤p.size + 10) (w:World) (hg:w.cell? ⟨g,0,none⟩ = some (.string p)) :
  Calls Tryz.prog 110 #[.int .i64 (k:Int),.pointer (some ⟨g,0,none⟩)] w fun e w'=>e = .returned (.bool (headL (p.data.toList.drop k)))∧Below w.heap.size w w':=by
 by_cases hlt:k < p.size
 ·have HV:Hid (headL (p.data.toList.drop k) = letB (p[k]'hlt)):=by unfold Hid;rw [dropB p k hlt];rfl
  have hx:p.extract k (k + 1) = ⟨#[p[k]'hlt]⟩:=by
   apply ByteArray.ext
   apply Array.toList_inj.1
   have e:=Lib.extract_data p k (k + 1)
   rw [e,dropB p k hlt,show k + 1 - k = 1 from by omega]
   rfl
  have HS:Hid (∀ W,Calls Tryz.prog 100 #[.string ⟨#[p[k]'hlt]⟩] W fun e w'=>e = .returned (.string ⟨#[lowU (p[k]'hlt)]⟩)∧Below W.heap.size W w'):=fun W=>rsm_any ⟨#[p[k]'hlt]⟩ W (show 1≤1000000 by decide)
  have HC:Hid (∀ W c,Calls Tryz.prog 111 #[.string ⟨#[97,98,99,100,101,102,103,104,105,106,107,108,109,110,111,112,113,114,115,116,117,118,119,120,121,122]⟩,.string ⟨#[lowU c]⟩] W fun e w'=>e = .returned (.bool (letB c))∧w' = W):=fun W c=>by
   refine (Tryz.strings_Contains_one ⟨#[97,98,99,100,101,102,103,104,105,106,107,108,109,110,111,112,113,114,115,116,117,118,119,120,121,122]⟩ (lowU c) W).mono ?_
   rintro e w' ⟨rfl,rfl⟩
   refine ⟨?_,rfl⟩
   rw [indexByte_mem,← alpha_low c]
   simp [alphaL]
  have hki:(k:Int) < (p.size:Int):=by omega
  have hk1:(k:Int) + 1≤(p.size:Int):=by omega
  have hw1:IntKind.i64.wrap ((k:Int) + 1) = ((k + 1:Nat):Int):=by rw [IntKind.wrap_i64];omega
  generalize p[k]'hlt = c at *
  go_enter Tryz.func110,Tryz.ntmps110
  go_wp2_with fail
  refine (HS.out _).mono ?_
  rintro e w1 ⟨rfl,hb1⟩
  go_wp2_with fail
  refine (HC.out _ _).mono ?_
  rintro e w2 ⟨rfl,hw2⟩
  have hw3:=hw2.symm
  subst hw3
  go_wp2_with fail
  go_ret
  exact ⟨ret_bool HV.out.symm,hb1⟩
 ·have HV:Hid (headL (p.data.toList.drop k) = false):=by unfold Hid;rw [List.drop_of_length_le (by rw [← Lib.size_eq];omega)];rfl
  have hki:decide ((k:Int) < (p.size:Int)) = false:=by simp;omega
  go_enter Tryz.func110,Tryz.ntmps110
  go_wp2_with fail
  go_ret
  exact ⟨ret_bool HV.out.symm,Below.refl _ _⟩
set_option maxHeartbeats 2000000 in
theorem rbehind_any (g:Nat) (p E:ByteArray) (s:List UInt8) (hS:Suf p s) (hE:E.size≤10) (hp:p.size≤4000) (k:Nat) (hk:k = pos p s) (w:World) (hM:∃ m:Int,w.cell? ⟨0,0,none⟩ = some (.int .i64 m)) (hg:w.cell? ⟨g,0,none⟩ = some (.string p)) :
  Calls Tryz.prog 112 #[.int .i64 (k:Int),.string E,.pointer (some ⟨g,0,none⟩)] w fun e w'=>e = .returned (.int .i64 ((pos p (behindL E.data.toList s):Nat):Int))∧w' = w:=by
 subst hk
 have hx:=ext_end hS
 have hlen:=hS.len
 have hki:((pos p s:Nat):Int)≤(p.size:Int):=by have:=pos_le p s;omega
 have hkl:=pos_le p s
 obtain ⟨mm,hmm⟩:=hM
 have HC:Hid (Calls Tryz.prog 86 #[.string (lba s),.string E] w fun e w'=>e = .returned (.int .i64 (Lib.index s E.data.toList))∧w' = w):=Tryz.strings_Index (lba s) E mm w (by rw [lba_size];omega) hmm
 have hroom:=Lib.index_room s E.data.toList
 by_cases hi:Lib.index s E.data.toList < 0
 ·have HP:Hid (pos p (behindL E.data.toList s) = p.size):=by unfold Hid behindL;rw [if_pos hi];rfl
  generalize Lib.index s E.data.toList = i at *
  generalize pos p (behindL E.data.toList s) = m at *
  generalize pos p s = k at *
  clear hroom hS hmm
  go_enter Tryz.func112,Tryz.ntmps112
  go_wp2_with fail
  refine HC.out.mono ?_
  rintro e w1 ⟨rfl,hw1⟩
  have hw2:=hw1.symm
  subst hw2
  go_wp2_with fail
  go_ret
  exact ⟨by rw [HP.out];rfl,rfl⟩
 ·have HP:Hid (((pos p s:Nat):Int) + (Lib.index s E.data.toList + (E.size:Int)) = (pos p (behindL E.data.toList s):Nat)):=behind_pos hS hi
  have hr:=hroom (by omega)
  have hw1:IntKind.i64.wrap (((pos p s:Nat):Int) + Lib.index s E.data.toList) = ((pos p s:Nat):Int) + Lib.index s E.data.toList:=by rw [IntKind.wrap_i64];omega
  have hw2:IntKind.i64.wrap (((pos p s:Nat):Int) + Lib.index s E.data.toList + (E.size:Int)) = ((pos p s:Nat):Int) + Lib.index s E.data.toList + (E.size:Int):=by rw [IntKind.wrap_i64];omega
  generalize Lib.index s E.data.toList = i at *
  generalize pos p (behindL E.data.toList s) = m at *
  generalize pos p s = k at *
  clear hroom hS hmm hr
  go_enter Tryz.func112,Tryz.ntmps112
  go_wp2_with fail
  refine HC.out.mono ?_
  rintro e w1 ⟨rfl,hw1⟩
  have hw2:=hw1.symm
  subst hw2
  go_wp2_with fail
  go_ret
  exact ⟨ret_i64 (by have:=HP.out;omega),rfl⟩
end Go.Proofs.YtbbfcbodhmeanaaGreatDoor



namespace Go.Proofs.YtbbfcbodhmeanaaGreatDoor
open Go.RowKit
def loopsOf:Code→List Code
 | .loop c=>c::loopsOf c
 | .seq a b=>loopsOf a ++ loopsOf b
 | .block _ c=>loopsOf c
 | .scope c=>loopsOf c
 | .cond _ a b=>loopsOf a ++ loopsOf b
 | _=>[]
theorem at_byte {p:ByteArray} {c:UInt8} {t:List UInt8} (h:Suf p (c::t)):∃ k,pos p (c::t) = k∧∃ hk:k < p.size,p[k]'hk = c∧pos p t = k + 1:=by
 have h1:=h.len
 have h2:=h.drop
 have hk:pos p (c::t) < p.size:=by unfold pos;simp only [List.length_cons] at *;omega
 refine ⟨_,rfl,hk,?_,?_⟩
 ·rw [dropB p _ hk] at h2
  exact (List.cons.inj h2).1
 ·unfold pos;simp only [List.length_cons] at *;omega
def loopAt (f:Func) (k:Nat):Code:=((f.body.map loopsOf).getD []).getD k .skip
end Go.Proofs.YtbbfcbodhmeanaaGreatDoor



namespace Go.Proofs.YtbbfcbodhmeanaaGreatDoor
open Go.RowKit
def NRow (w:World) (p:Option Addr) (xs:List (List UInt8)):Prop:=xs ≠ []→∃ b o,p = some ⟨b,o,none⟩∧∀ i,i < xs.length→w.cell? ⟨b,o + i,none⟩ = some (.string (lba (xs.getD i [])))
def TellsN (i:Int) (L:List (List UInt8)) (d:List UInt8):Prop:=decide (0≤i) = L.contains d
set_option maxHeartbeats 1000000 in
theorem indexText_any (p:Option Addr) (n c:Nat) (L:List (List UInt8)) (en:n = L.length) (d:List UInt8) (w:World) (hn:n≤1000000) (hr:NRow w p L) :
  Calls Tryz.prog 155 #[.slice p n c,.string (lba d)] w fun e w'=>∃ i:Int,e = .returned (.int .i64 i)∧TellsN i L d∧w' = w:=by
 have HL:Hid (n = L.length):=en
 have HR:Hid (NRow w p L):=hr
 clear en hr
 obtain ⟨D,hD⟩:∃ D,lba d = D:=⟨_,rfl⟩
 have HDD:Hid (lba d = D):=hD
 rw [hD]
 clear hD
 go_enter Tryz.func155,Tryz.ntmps155
 go_wp2
 go_loop [8] (fun iv=>∃ k:Nat,k≤n∧iv = .int .i64 k∧Hid (L.contains d = (L.drop k).contains d)) (fun iv=>n - (intOf iv).toNat)
 case atStart=>exact ⟨0,Nat.zero_le _,rfl,rfl⟩
 case round =>
  obtain ⟨k,hk,rfl,HK⟩:=hrel
  by_cases hlt:k < n
  ·have hkl:k < L.length:=by rw [← HL.out];exact hlt
   obtain ⟨b,o,rfl,hc⟩:=HR.out (fun e=>by rw [e] at hkl;simp at hkl)
   have h1:=hc k hkl
   have hdr:L.drop k = L.getD k []::L.drop (k + 1):=by
    rw [List.drop_eq_getElem_cons hkl]
    simp [List.getD_eq_getElem?_getD,List.getElem?_eq_getElem hkl]
   have HD:Hid (L.contains d = (d == L.getD k [] || (L.drop (k + 1)).contains d)):=by unfold Hid;rw [HK.out,hdr];rfl
   clear hc hdr HK
   generalize L.getD k [] = x at *
   obtain ⟨X,hX⟩:∃ X,lba x = X:=⟨_,rfl⟩
   by_cases he:d = x
   ·subst he
    have HN:Hid (L.contains d = true):=by unfold Hid;rw [HD.out];simp
    rw [HDD.out] at h1
    clear HD hX HDD
    go_wp2
    go_ret
    exact ⟨_,rfl,by unfold TellsN;rw [HN.out];simp,rfl⟩
   ·have HN:Hid (L.contains d = (L.drop (k + 1)).contains d):=by
     unfold Hid
     rw [HD.out,show (d == x) = false from by simpa using he]
     rfl
    have he':(D.toList == X.toList) = false:=by
     rw [ByteArray.toList_eq,ByteArray.toList_eq,← HDD.out,← hX,beq_eq_false_iff_ne]
     exact he
    rw [hX] at h1
    clear HD he hX
    go_wp2
    go_round
    case rel=>exact ⟨k + 1,by omega,by go_num,HN⟩
    case measure=>simp [intOf];omega
  ·obtain rfl:k = n:=by omega
   have HN:Hid (L.contains d = false):=by unfold Hid;rw [HK.out,HL.out,List.drop_of_length_le (Nat.le_refl _)];rfl
   clear HK
   go_wp2
   go_ret
   exact ⟨_,rfl,by unfold TellsN;rw [HN.out];rfl,rfl⟩
set_option maxHeartbeats 1000000 in
theorem containsText_any (p:Option Addr) (n c:Nat) (L:List (List UInt8)) (en:n = L.length) (d:List UInt8) (w:World) (hn:n≤1000000) (hr:NRow w p L) :
  Calls Tryz.prog 113 #[.slice p n c,.string (lba d)] w fun e w'=>e = .returned (.bool (L.contains d))∧w' = w:=by
 have HC:Hid (∀ W,W = w→Calls Tryz.prog 155 #[.slice p n c,.string (lba d)] W fun e w'=>∃ i:Int,e = .returned (.int .i64 i)∧TellsN i L d∧w' = W):=fun W e=>by subst e;exact indexText_any p n c L en d W hn hr
 clear en hr
 generalize lba d = D at *
 go_enter Tryz.func113,Tryz.ntmps113
 go_wp2_with fail
 refine (HC.out _ rfl).mono ?_
 rintro e w1 ⟨i,rfl,HI,hw1⟩
 have hw2:=hw1.symm
 subst hw2
 go_wp2_with fail
 go_ret
 exact ⟨ret_bool HI,rfl⟩
theorem NRow.of_own {w:World} {B n cap:Nat} {p:Option Addr} {L:List (List UInt8)} (h:w.ownsRow B 9 1 (.slice p n cap) n (L.map fun x=>Value.string (lba x))):NRow w p L:=by
 intro hne
 rcases h.2 with ⟨hv,h0⟩ | ⟨g,cap',cur,hv,_⟩
 ·exfalso
  have h1:=h.1
  rw [h0] at h1
  simp at h1
  exact hne h1
 ·injection hv with e1 e2 e3
  subst e1
  refine ⟨g,0,rfl,fun i hi=>?_⟩
  have:=h.cells (g:=g) rfl i (.string (lba (L.getD i []))) (by
   rw [List.getElem?_map,List.getElem?_eq_getElem hi]
   simp [List.getD_eq_getElem?_getD,List.getElem?_eq_getElem hi])
  have e:(⟨g,0,none⟩:Addr).add i = ⟨g,0 + i,none⟩:=by
   unfold Addr.add
   split
   ·rename_i h0
    rw [h0]
   ·rfl
  rw [e] at this
  exact this
end Go.Proofs.YtbbfcbodhmeanaaGreatDoor


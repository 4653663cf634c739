
import Derived.Test.YtbbfcbodhmeanaaGreatDoorXrewritenone7
import Derived.Laws.ResultCell
namespace Go.Proofs.YtbbfcbodhmeanaaGreatDoor
open Go.RowKit
def lba (l:List UInt8):ByteArray:=⟨l.toArray⟩
theorem lba_data (l:List UInt8):(lba l).data.toList = l:=rfl
theorem lba_size (l:List UInt8):(lba l).size = l.length:=by rw [Lib.size_eq,lba_data]
theorem lba_inj {a b:ByteArray} (h:a.data.toList = b.data.toList):a = b:=ByteArray.ext (Array.toList_inj.1 h)
def pos (p:ByteArray) (s:List UInt8):Nat:=p.size - s.length
abbrev Suf (p:ByteArray) (s:List UInt8):Prop:=s <:+ p.data.toList
theorem Suf.len {p:ByteArray} {s:List UInt8} (h:Suf p s):s.length≤p.size:=by rw [Lib.size_eq];exact h.length_le
theorem Suf.drop {p:ByteArray} {s:List UInt8} (h:Suf p s):p.data.toList.drop (pos p s) = s:=by
 unfold pos
 rw [Lib.size_eq]
 exact (List.suffix_iff_eq_drop.1 h).symm
theorem pos_le (p:ByteArray) (s:List UInt8):pos p s≤p.size:=by unfold pos;omega
theorem pos_plus {p:ByteArray} {s a r:List UInt8} (h:Suf p s) (e:a ++ r = s):pos p r = pos p s + a.length:=by
 have:=h.len
 subst e
 unfold pos
 simp only [List.length_append] at this ⊢
 omega
theorem ext_of {p:ByteArray} {s a r:List UInt8} (h:Suf p s) (e:a ++ r = s):p.extract (pos p s) (pos p r) = lba a:=by
 have hd:=h.drop
 have hp:=pos_plus h e
 refine lba_inj ?_
 rw [hp,lba_data]
 have e1:(p.extract (pos p s) (pos p s + a.length)).data.toList = ((p.data.toList.drop (pos p s)).take a.length):=by
  rw [Lib.extract_data,show pos p s + a.length - pos p s = a.length from by omega]
 rw [e1,hd,← e,List.take_left]
theorem ext_end {p:ByteArray} {s:List UInt8} (h:Suf p s):p.extract (pos p s) p.size = lba s:=by
 have:=ext_of h (List.append_nil s)
 have e:pos p ([]:List UInt8) = p.size:=rfl
 rw [e] at this
 exact this
theorem Suf.dw {p:ByteArray} {s:List UInt8} (h:Suf p s) (q:UInt8→Bool):Suf p (s.dropWhile q):=(List.dropWhile_suffix q).trans h
theorem Suf.dr {p:ByteArray} {s:List UInt8} (h:Suf p s) (n:Nat):Suf p (s.drop n):=(List.drop_suffix n s).trans h
theorem Suf.tl {p:ByteArray} {c:UInt8} {s:List UInt8} (h:Suf p (c::s)):Suf p s:=(List.suffix_cons c s).trans h
theorem behind_suf (m s:List UInt8):behindL m s <:+ s:=by
 unfold behindL
 split
 ·exact List.nil_suffix
 ·exact List.drop_suffix _ _
theorem pass_suf (F:Nat) (caps:Array Value) (q:UInt8→Bool) (OK:World→Prop) (g:Nat) (p:ByteArray) (s:List UInt8) (hS:Suf p s) (w:World) (hr:RdAt w g p (pos p s)) (hOK:OK w) (HQ:AskIn F caps q g OK) (hp:p.size≤4000) :
  Calls Tryz.prog 170 #[.pointer (some ⟨g,0,none⟩),.func (Fn.func F) #[] caps] w fun e w'=>e = .returned (.string (lba (s.takeWhile q)))∧Moves w g (pos p (s.dropWhile q)) w':=by
 have e:=tw_dw q s
 refine pass_any F caps q OK g p (pos p s) (pos p (s.dropWhile q)) (lba (s.takeWhile q)) w hr hOK HQ hp ?_ (ext_of hS e) (pos_le _ _)
 rw [hS.drop]
 exact pos_plus hS e
structure LTabs (w:World):Prop where
 mx:∃ m:Int,w.cell? ⟨0,0,none⟩ = some (.int .i64 m)
 cv:Lib.CaseVar 3 Lib.caseA w
 u8:Lib.Utf8Tabs 1 2 w
def LEnv (w0:World):Prop:=∀ W,Below w0.heap.size w0 W→LTabs W
theorem behind_pos {p E:ByteArray} {s:List UInt8} (hS:Suf p s) (hi:¬ Lib.index s E.data.toList < 0):((pos p s:Nat):Int) + (Lib.index s E.data.toList + (E.size:Int)) = (pos p (behindL E.data.toList s):Nat):=by
 have h1:=Lib.index_room s E.data.toList (by omega)
 have h2:=hS.len
 have h3:behindL E.data.toList s = s.drop ((Lib.index s E.data.toList).toNat + E.data.toList.length):=by unfold behindL;rw [if_neg hi]
 unfold pos
 rw [h3,List.length_drop,Lib.size_eq E]
 omega
set_option maxHeartbeats 2000000 in
theorem passEnd_any (w0:World) (HE:LEnv w0) (E:ByteArray) (hE:E.size≤10) (g:Nat) (p:ByteArray) (s:List UInt8) (hS:Suf p s) (w:World) (hr:RdAt w g p (pos p s)) (hb:Below w0.heap.size w0 w) (hp:p.size≤4000) :
  Calls Tryz.prog 130 #[.pointer (some ⟨g,0,none⟩),.string E] w fun e w'=>e = .returned (.tuple #[])∧Moves w g (pos p (behindL E.data.toList s)) w':=by
 have h0:=hr.page
 have h1:=hr.at_
 have hf:=hr.frozen 1
 have hx:=ext_end hS
 have HR:Hid (RdAt w g p (pos p s)):=hr
 have hlen:=hS.len
 have HC:Hid (QuietAt 86 #[.string (lba s),.string E] (.int .i64 (Lib.index s E.data.toList)) w):=fun n=>by
  obtain ⟨m,hm⟩:=(HE w hb).mx
  exact Calls.quiet_of_same (Tryz.strings_Index (lba s) E m (w.drewN n) (by rw [lba_size];omega) hm)
 have hk1:((pos p s:Nat):Int)≤(p.size:Int):=by have:=pos_le p s;omega
 have hk2:pos p s≤p.size:=pos_le p s
 have hroom:=Lib.index_room s E.data.toList
 by_cases hi:Lib.index s E.data.toList < 0
 ·have hn:behindL E.data.toList s = []:=by unfold behindL;rw [if_pos hi]
  have HP:Hid (pos p (behindL E.data.toList s) = p.size):=by unfold Hid;rw [hn];rfl
  have hi':¬ 0≤Lib.index s E.data.toList:=by omega
  generalize Lib.index s E.data.toList = i at HC hi hi'
  generalize pos p (behindL E.data.toList s) = m at HP
  generalize pos p s = k at *
  clear hn hr hi hroom hS HE hb
  go_enter Tryz.func130,Tryz.ntmps130
  go_wp2_with fail
  go_quiet (first | (go_at_call 86;exact HC.out _) | fail)
  go_wp2_with fail
  go_end0
  rw [HP.out]
  exact ⟨rfl,((Moves.still HR.out).then (below_many (Below.refl _ _) _)).trans Moves.of_set HR.out⟩
 ·have HP:Hid (((pos p s:Nat):Int) + (Lib.index s E.data.toList + (E.size:Int)) = (pos p (behindL E.data.toList s):Nat)):=behind_pos hS hi
  have hi':0≤Lib.index s E.data.toList:=by omega
  have hroom':=hroom hi'
  have hw1:IntKind.i64.wrap (Lib.index s E.data.toList + (E.size:Int)) = Lib.index s E.data.toList + (E.size:Int):=by rw [IntKind.wrap_i64];omega
  have hw2:IntKind.i64.wrap (((pos p s:Nat):Int) + (Lib.index s E.data.toList + (E.size:Int))) = (pos p (behindL E.data.toList s):Nat):=by rw [HP.out,IntKind.wrap_i64];have:=pos_le p (behindL E.data.toList s);omega
  generalize pos p (behindL E.data.toList s) = m at *
  generalize Lib.index s E.data.toList = i at *
  generalize pos p s = k at *
  clear hr hi hS HE hb hroom HP hroom'
  go_enter Tryz.func130,Tryz.ntmps130
  go_wp2_with fail
  go_quiet (first | (go_at_call 86;exact HC.out _) | fail)
  go_wp2_with fail
  refine bodyPost_ret (results_none rfl _ _ _) rfl ?_
  ·exact ⟨rfl,((Moves.still HR.out).then (below_many (Below.refl _ _) _)).trans Moves.of_set HR.out⟩
def lkC (p:ByteArray) (s r raw:List UInt8):Array Value:=#[.int .i64 (pos p s:Nat),.int .i64 (pos p r:Nat),.string (lba (unamp raw))]
theorem amp_room (s:ByteArray) (hs:s.size≤4000):s.size + Lib.countB s (lba ampL) * (lba [38]).size≤140737488355328:=by
 have h1:Lib.countB s (lba ampL)≤s.size + 1:=by
  unfold Lib.countB
  have:=Lib.count_le s.data.toList (lba ampL).data.toList
  have:=Lib.size_eq s
  omega
 have h2:(lba [38]).size = 1:=rfl
 rw [h2]
 omega
theorem results_cell1 {fn:Func} {p:Tmp} {ty:TypeId} (h:fn.results = #[.cell p ty]) (tmps:Array Value) (P:Program) (w:World) :
  (results fn tmps).run P w =
   ((asAddr (tmps.getD p undef)).run P w).andThen fun a w₁=>(loadVar ty a).run P w₁:=by
 simp only [results,h]
 simp [Sem.run_bind,Result.andThen]
theorem results_tct {fn:Func} {u p v:Tmp} {ty:TypeId} (h:fn.results = #[.tmp u,.cell p ty,.tmp v]) (tmps:Array Value) (P:Program) (w:World) :
  (results fn tmps).run P w =
   ((asAddr (tmps.getD p undef)).run P w).andThen fun a w₁=>((loadVar ty a).run P w₁).andThen fun y w₂=>.ok (.tuple #[tmps.getD u undef,y,tmps.getD v undef]) w₂:=by
 simp only [results,h]
 simp [Sem.run_bind,Result.andThen]
theorem lcells3 {W:World} {k:Nat} {t:TypeId} {v0 v1 v2:Value} (h:W.heap[k]? = some (.cells #[v0,v1,v2] t)) :
  W.cell? ⟨k,0,none⟩ = some v0∧W.cell? ⟨k,1,none⟩ = some v1∧W.cell? ⟨k,2,none⟩ = some v2∧∀ o,W.frozen? ⟨k,o,none⟩ = false :=
 ⟨by simp [World.cell?,h],by simp [World.cell?,h],by simp [World.cell?,h],fun o=>by simp [World.frozen?,h]⟩
theorem lnew (W:World) (o:Obj):(W.alloc o).heap[W.heap.size]? = some o:=by
 show (W.heap.push _)[W.heap.size]? = _
 rw [Array.getElem?_push,if_pos rfl]
theorem lkept {W W':World} {k:Nat} {o:Obj} (h:W.heap[k]? = some o) (hb:Below W.heap.size W W'):W'.heap[k]? = some o:=by
 rw [hb.block _ (Array.getElem?_eq_some_iff.1 h).1];exact h
theorem lltn {W:World} {k:Nat} {o:Obj} (h:W.heap[k]? = some o):k < W.heap.size:=(Array.getElem?_eq_some_iff.1 h).1
theorem Moves.kept {w w':World} {g:Nat} {m:Int} (h:Moves w g m w') {k:Nat} {o:Obj} (hk:w.heap[k]? = some o) (hg:k ≠ g):w'.heap[k]? = some o:=by
 rw [h.block k (lltn hk) hg];exact hk
theorem Moves.new {w w':World} {g:Nat} {m:Int} (h:Moves w g m w') (k i:Nat) (hk:w.heap.size≤k) (v:Value):Moves w g m (w'.setCell ⟨k,i,none⟩ v):=by
 have h1:Below w.heap.size (w.setCell ⟨g,1,none⟩ (.int .i64 m)) w':=h
 exact h1.setCell (p:=⟨k,i,none⟩) hk v
theorem Moves.alloc {w w':World} {g:Nat} {m:Int} (h:Moves w g m w') (o:Obj):Moves w g m (w'.alloc o):=h.then ((Below.refl _ _).alloc (Nat.le_refl _) _)
theorem Moves.drewN {w w':World} {g:Nat} {m:Int} (h:Moves w g m w') (n:Nat):Moves w g m (w'.drewN n):=h.then (below_many (Below.refl _ _) _)
set_option maxHeartbeats 4000000 in
theorem link_any (w0:World) (HE:LEnv w0) (F:Nat) (caps:Array Value) (q:UInt8→Bool) (OK:World→Prop) (hOKa:∀ W v t,OK W→OK (W.alloc (.cells v t))) (g:Nat) (hg:w0.heap.size≤g) (p:ByteArray) (s:List UInt8) (hS:Suf p s) (w:World) (hr:RdAt w g p (pos p s)) (hb:Below w0.heap.size w0 w) (hOK:OK w) (HQ:AskIn F caps q g OK) (hp:p.size≤4000) :
  Calls Tryz.prog 211 #[.pointer (some ⟨g,0,none⟩),.func (Fn.func F) #[] caps] w fun e w'=>e = .returned (.agg (lkC p s (s.dropWhile q) (s.takeWhile q)))∧Moves w g (pos p (s.dropWhile q)) w':=by
 have h1:=hr.at_
 have HR:Hid (RdAt w g p (pos p s)):=hr
 have hlt:=hr.lt
 have hne:g ≠ w.heap.size:=by omega
 have HP:Hid (∀ W,RdAt W g p (pos p s)→OK W→Calls Tryz.prog 170 #[.pointer (some ⟨g,0,none⟩),.func (Fn.func F) #[] caps] W fun e w'=>e = .returned (.string (lba (s.takeWhile q)))∧Moves W g (pos p (s.dropWhile q)) w'):=fun W h1 h2=>pass_suf F caps q OK g p s hS W h1 h2 HQ hp
 have htl:(lba (s.takeWhile q)).size≤4000:=by rw [lba_size];have:=(List.takeWhile_prefix (l:=s) q).length_le;have:=hS.len;omega
 have HA:Hid (∀ W,Below w0.heap.size w0 W→Calls Tryz.prog 216 #[.string (lba (s.takeWhile q)),.string ⟨#[38,97,109,112,59]⟩,.string ⟨#[38]⟩] W fun e w'=>e = .returned (.string (lba (unamp (s.takeWhile q))))∧Below W.heap.size W w'):=fun W hW=>by
  obtain ⟨m,hm⟩:=(HE W hW).mx
  exact Tryz.strings_ReplaceAll (lba (s.takeWhile q)) ⟨#[38,97,109,112,59]⟩ ⟨#[38]⟩ m W (by omega) hm (by decide) (amp_room _ htl)
 have HB:Hid (Below w0.heap.size w0 w):=hb
 have HO:Hid (OK (w.alloc (.cells #[.int .i64 0,.int .i64 0,.string ⟨#[]⟩] 40))):=hOKa _ _ _ hOK
 unfold lkC
 generalize s.takeWhile q = T at *
 generalize pos p (s.dropWhile q) = m at *
 generalize pos p s = k at *
 clear hr HE hb hOK hOKa HQ hS htl
 have hba:Below w.heap.size w (w.alloc (.cells #[.int .i64 0,.int .i64 0,.string ⟨#[]⟩] 40)):=(Below.refl _ _).alloc (Nat.le_refl _) _
 have hnew:=lnew w (.cells #[.int .i64 0,.int .i64 0,.string ⟨#[]⟩] 40)
 go_enter Tryz.func211,Tryz.ntmps211
 go_wp2_with fail
 refine (HP.out _ (HR.out.below hba) HO.out).mono ?_
 rintro e w1 ⟨rfl,hm1⟩
 have hB1:=hm1.base (HB.out.trans (hba.mono HB.out.size)) hg
 have hk1:=hm1.kept hnew (Ne.symm hne)
 have HM:Hid (Moves w g m w1):=((Moves.still HR.out).then hba).trans hm1 HR.out
 clear HP HO hnew hm1 hba h1
 go_wp2_with fail
 refine (HA.out _ hB1).mono ?_
 rintro e w2 ⟨rfl,hb2⟩
 have hr2:=(HM.out.then hb2).rd HR.out
 have hk2:=lkept hk1 hb2
 have h1:=hr2.at_
 obtain ⟨c0,c1,c2,cf⟩:=lcells3 hk2
 have HM2:Hid (Moves w g m w2):=HM.out.then hb2
 have hsz:w.heap.size < w2.heap.size:=lltn hk2
 clear HM HA hb2 hr2 hk1 hk2 hB1
 go_wp2_with fail
 refine bodyPost_ret (v:=.agg #[.int .i64 k,.int .i64 m,.string (lba (unamp T))]) ?_ rfl ⟨rfl,?_⟩
 ·rw [results_cell1 rfl]
  go_simp
 ·exact ((HM2.out.new _ _ (Nat.le_refl _) _).new _ _ (Nat.le_refl _) _).new _ _ (Nat.le_refl _) _
end Go.Proofs.YtbbfcbodhmeanaaGreatDoor



namespace Go.Proofs.YtbbfcbodhmeanaaGreatDoor
open Go.RowKit
def lkv (n:Nat) (x:LK):Array Value:=#[.int .i64 ((n - x.1:Nat):Int),.int .i64 ((n - x.1 + x.2.length:Nat):Int),.string (lba (unamp x.2))]
theorem lkC_lkv {p:ByteArray} {s:List UInt8} (hS:Suf p s) (q:UInt8→Bool):lkC p s (s.dropWhile q) (s.takeWhile q) = lkv p.size (s.length,s.takeWhile q):=by
 unfold lkC lkv
 rw [pos_plus hS (tw_dw q s)]
 rfl
theorem sees_suf (g:Nat) (p:ByteArray) (s:List UInt8) (hS:Suf p s) (c:UInt8) (cc:Int) (ec:cc = (c.toNat:Int)) (b:Bool) (hb:(s.head? == some c) = b) (w:World) (hr:RdAt w g p (pos p s)) :
  Calls Tryz.prog 174 #[.pointer (some ⟨g,0,none⟩),.int .u8 cc] w fun e w'=>e = .returned (.bool b)∧∃ m,w' = w.drewN m:=by
 subst hb
 have:=sees_any g p (pos p s) c cc ec w hr
 rw [hS.drop] at this
 exact this
theorem done_suf (g:Nat) (p:ByteArray) (s:List UInt8) (hS:Suf p s) (b:Bool) (hb:decide (s = []) = b) (w:World) (hr:RdAt w g p (pos p s)) :
  Calls Tryz.prog 75 #[.pointer (some ⟨g,0,none⟩)] w fun e w'=>e = .returned (.bool b)∧∃ m,w' = w.drewN m:=by
 have h:=done_any g p (pos p s) w hr
 have e:decide ((p.size:Int)≤(pos p s:Nat)) = b:=by
  rw [← hb,Bool.eq_iff_iff]
  simp only [decide_eq_true_eq]
  have:=hS.len
  unfold pos
  constructor
  ·intro h;exact List.length_eq_zero_iff.1 (by omega)
  ·rintro rfl;simp
 rw [e] at h
 exact h
abbrev linkZ:Obj:=.cells #[.int .i64 0,.int .i64 0,.string ⟨#[]⟩] 40
set_option maxHeartbeats 4000000 in
set_option maxRecDepth 100000 in
theorem value_bare (w0:World) (HE:LEnv w0) (g:Nat) (hg:w0.heap.size≤g) (p:ByteArray) (s:List UInt8) (hS:Suf p s) (w:World) (hr:RdAt w g p (pos p s)) (hb:Below w0.heap.size w0 w) (hp:p.size≤4000)
  (h34:(s.head? == some 34) = false) (h39:(s.head? == some 39) = false) :
  Calls Tryz.prog 203 #[.pointer (some ⟨g,0,none⟩)] w fun e w'=>e = .returned (.agg (lkv p.size (s.length,s.takeWhile inBare)))∧Moves w g (pos p (s.dropWhile inBare)) w':=by
 have HR:Hid (RdAt w g p (pos p s)):=hr
 have hlt:=hr.lt
 have hne:g ≠ w.heap.size:=by omega
 have C1:Hid (∀ W,RdAt W g p (pos p s)→Calls Tryz.prog 174 #[.pointer (some ⟨g,0,none⟩),.int .u8 34] W fun e w'=>e = .returned (.bool false)∧∃ m,w' = W.drewN m):=fun W hW=>sees_suf g p s hS 34 34 rfl false h34 W hW
 have C2:Hid (∀ W,RdAt W g p (pos p s)→Calls Tryz.prog 174 #[.pointer (some ⟨g,0,none⟩),.int .u8 39] W fun e w'=>e = .returned (.bool false)∧∃ m,w' = W.drewN m):=fun W hW=>sees_suf g p s hS 39 39 rfl false h39 W hW
 have CL:Hid (∀ W,RdAt W g p (pos p s)→Below w0.heap.size w0 W→Calls Tryz.prog 211 #[.pointer (some ⟨g,0,none⟩),.func (Fn.func 212) #[] #[]] W fun e w'=>e = .returned (.agg (lkv p.size (s.length,s.takeWhile inBare)))∧Moves W g (pos p (s.dropWhile inBare)) w'):=fun W h1 h2=>by
  have:=link_any w0 HE 212 #[] inBare (fun _=>True) (fun _ _ _ _=>trivial) g hg p s hS W h1 h2 trivial (ask_val1 g) hp
  rw [lkC_lkv hS] at this
  exact this
 have HB:Hid (Below w0.heap.size w0 w):=hb
 have hba:Below w.heap.size w (w.alloc linkZ):=(Below.refl _ _).alloc (Nat.le_refl _) _
 have hnew:=lnew w linkZ
 obtain ⟨V0,V1,V2,hV⟩:∃ (V0 V1:Nat) (V2:ByteArray),lkv p.size (s.length,s.takeWhile inBare) = #[.int .i64 (V0:Int),.int .i64 (V1:Int),.string V2]:=⟨_,_,_,rfl⟩
 rw [hV] at CL
 rw [hV]
 generalize pos p (s.dropWhile inBare) = m at *
 generalize pos p s = k at *
 clear hr HE hb hS h34 h39 hV
 obtain ⟨W0,hW0⟩:∃ W,W = w.alloc linkZ:=⟨_,rfl⟩
 rw [← hW0] at hba hnew
 have hr0:=HR.out.below hba
 go_enter Tryz.func203,Tryz.ntmps203
 go_wp2_with fail
 rw [← hW0]
 clear hW0
 refine (C1.out _ hr0).mono ?_
 rintro e w1 ⟨rfl,n1,rfl⟩
 go_wp2_with fail
 refine (C2.out _ (hr0.drewN _)).mono ?_
 rintro e w1 ⟨rfl,n2,rfl⟩
 have hB0:Below w0.heap.size w0 W0:=HB.out.trans (hba.mono HB.out.size)
 clear C1 C2
 go_wp2_with fail
 refine (CL.out _ (hr0.drewN _) (below_many hB0 _)).mono ?_
 rintro e w3 ⟨rfl,hm3⟩
 have hk3:=hm3.kept (show (W0.drewN _).heap[w.heap.size]? = _ from hnew) (Ne.symm hne)
 have HM:Hid (Moves w g m w3):=(((Moves.still HR.out).then hba).drewN _).trans hm3 HR.out
 obtain ⟨c0,c1,c2,cf⟩:=lcells3 hk3
 clear CL hk3 hm3 hnew hr0 hba hB0
 go_wp2_with fail
 refine bodyPost_ret (v:=.agg #[.int .i64 (V0:Int),.int .i64 (V1:Int),.string V2]) ?_ rfl ⟨rfl,?_⟩
 ·rw [results_cell1 rfl]
  go_simp
 ·exact ((HM.out.new _ _ (Nat.le_refl _) _).new _ _ (Nat.le_refl _) _).new _ _ (Nat.le_refl _) _
theorem drewN_add (w:World) (a b:Nat):(w.drewN a).drewN b = w.drewN (a + b):=World.drewN_drewN w a b
set_option maxHeartbeats 8000000 in
set_option maxRecDepth 100000 in
theorem value_34 (w0:World) (HE:LEnv w0) (g:Nat) (hg:w0.heap.size≤g) (p:ByteArray) (t:List UInt8) (hS:Suf p (34::t)) (w:World) (hr:RdAt w g p (pos p (34::t))) (hb:Below w0.heap.size w0 w) (hp:p.size≤4000) :
  Calls Tryz.prog 203 #[.pointer (some ⟨g,0,none⟩)] w fun e w'=>e = .returned (.agg (lkv p.size (t.length,t.takeWhile (notQ 34))))∧Moves w g (pos p ((t.dropWhile (notQ 34)).drop 1)) w':=by
 have HR:Hid (RdAt w g p (pos p (34::t))):=hr
 have hlt:=hr.lt
 have hne:g ≠ w.heap.size:=by omega
 have hne1:g ≠ w.heap.size + 1:=by omega
 have C1:Hid (∀ W,RdAt W g p (pos p (34::t))→Calls Tryz.prog 174 #[.pointer (some ⟨g,0,none⟩),.int .u8 34] W fun e w'=>e = .returned (.bool true)∧∃ m,w' = W.drewN m):=fun W hW=>sees_suf g p (34::t) hS 34 34 rfl true rfl W hW
 have CL:Hid (∀ W h,h ≠ g→W.cell? ⟨h,0,none⟩ = some (.int .u8 34)→RdAt W g p (pos p t)→Below w0.heap.size w0 W→Calls Tryz.prog 211 #[.pointer (some ⟨g,0,none⟩),.func (Fn.func 213) #[] #[.pointer (some ⟨h,0,none⟩)]] W fun e w'=>e = .returned (.agg (lkv p.size (t.length,t.takeWhile (notQ 34))))∧Moves W g (pos p (t.dropWhile (notQ 34))) w'):=fun W h hh hc h1 h2=>by
  have:=link_any w0 HE 213 #[.pointer (some ⟨h,0,none⟩)] (notQ 34) (fun W=>W.cell? ⟨h,0,none⟩ = some (.int .u8 ((34:UInt8).toNat:Int))) (fun W v t hW=>by
   have hlt:=World.block_lt_of_cell? W _ hW
   exact (((Below.refl _ _).alloc (Nat.le_refl _) _).cell (p:=⟨h,0,none⟩) hlt).trans hW) g hg p t hS.tl W h1 h2 hc (ask_val2 g h 34 hh) hp
  rw [lkC_lkv hS.tl] at this
  exact this
 have CD:Hid (∀ W,RdAt W g p (pos p (t.dropWhile (notQ 34)))→Calls Tryz.prog 75 #[.pointer (some ⟨g,0,none⟩)] W fun e w'=>e = .returned (.bool (decide (t.dropWhile (notQ 34) = [])))∧∃ m,w' = W.drewN m):=fun W hW=>done_suf g p _ (hS.tl.dw _) _ rfl W hW
 have HB:Hid (Below w0.heap.size w0 w):=hb
 have hba:Below w.heap.size w (w.alloc linkZ):=(Below.refl _ _).alloc (Nat.le_refl _) _
 have hnew:=lnew w linkZ
 have hlen:=hS.len
 have hix:∀ hk:pos p (34::t) < p.size,p[pos p (34::t)]'hk = 34:=fun hk=>by
  have h:=hS.drop
  rw [dropB p _ hk] at h
  exact (List.cons.inj h).1
 have hk:pos p (34::t) < p.size:=by unfold pos;simp only [List.length_cons] at hlen ⊢;omega
 have hp1:pos p t = pos p (34::t) + 1:=pos_plus hS (a:=[34]) rfl
 have HX:Hid (t.dropWhile (notQ 34) ≠ []→pos p ((t.dropWhile (notQ 34)).drop 1) = pos p (t.dropWhile (notQ 34)) + 1):=fun h=>by
  cases hd:t.dropWhile (notQ 34) with
  | nil=>exact absurd hd h
  | cons y r=>exact pos_plus (hd ▸ hS.tl.dw (notQ 34)) (a:=[y]) rfl
 have HX0:Hid (t.dropWhile (notQ 34) = []→pos p ((t.dropWhile (notQ 34)).drop 1) = pos p (t.dropWhile (notQ 34))):=fun h=>by rw [h];rfl
 have hmle:=pos_le p (t.dropWhile (notQ 34))
 obtain ⟨V0,V1,V2,hV⟩:∃ (V0 V1:Nat) (V2:ByteArray),lkv p.size (t.length,t.takeWhile (notQ 34)) = #[.int .i64 (V0:Int),.int .i64 (V1:Int),.string V2]:=⟨_,_,_,rfl⟩
 rw [hV] at CL
 rw [hV]
 rw [hp1] at CL
 generalize pos p ((t.dropWhile (notQ 34)).drop 1) = m2 at *
 generalize pos p (t.dropWhile (notQ 34)) = m at *
 generalize pos p (34::t) = k at *
 clear hr HE hb hS hV hp1 hlen
 generalize t.dropWhile (notQ 34) = D at *
 obtain ⟨W0,hW0⟩:∃ W,W = w.alloc linkZ:=⟨_,rfl⟩
 rw [← hW0] at hba hnew
 have hr0:=HR.out.below hba
 have hsz0:W0.heap.size = w.heap.size + 1:=by rw [hW0];simp
 have hkn:p[k]'hk = 34:=hix hk
 have hki:(k:Int) < (p.size:Int):=by omega
 have hwr:IntKind.i64.wrap ((k:Int) + 1) = ((k + 1:Nat):Int):=by rw [IntKind.wrap_i64];omega
 go_enter Tryz.func203,Tryz.ntmps203
 go_wp2_with fail
 rw [← hW0]
 clear hW0
 refine (C1.out _ hr0).mono ?_
 rintro e w1 ⟨rfl,n1,rfl⟩
 go_wp2_with fail
 have h0:=hr0.page
 have h1:=hr0.at_
 have hf1:=hr0.frozen 1
 have hr2:=hr0.drewN (n1 + 1)
 go_region
 go_wp2_with fail
 obtain ⟨W1,hW1⟩:∃ W,W = ((W0.drewN (n1 + 1)).setCell ⟨g,1,none⟩ (.int .i64 ((k:Int) + 1))).alloc (.cells #[.int .u8 34] 5):=⟨_,rfl⟩
 have M01:Moves W0 g ((k + 1:Nat):Int) W1:=by rw [hW1];exact ((((Moves.still hr0).drewN _).trans Moves.of_set hr0)).alloc _
 have hk1:=M01.kept hnew (Ne.symm hne)
 have hr1:=M01.rd hr0
 have hq1:W1.heap[w.heap.size + 1]? = some (.cells #[.int .u8 34] 5):=by
  have h:=lnew ((W0.drewN (n1 + 1)).setCell ⟨g,1,none⟩ (.int .i64 ((k:Int) + 1))) (.cells #[.int .u8 34] 5)
  rw [← hW1,set1_size,World.heap_drewN,hsz0] at h
  exact h
 have hqc:W1.cell? ⟨w.heap.size + 1,0,none⟩ = some (.int .u8 34):=by simp [World.cell?,hq1]
 have hB1:Below w0.heap.size w0 W1:=M01.base (HB.out.trans (hba.mono HB.out.size)) hg
 have M1:Hid (Moves w g ((k + 1:Nat):Int) W1):=((Moves.still HR.out).then hba).trans M01 HR.out
 rw [← hW1]
 clear hW1 M01 hr2 h0 h1 hf1 hr0 hsz0 hnew hba
 refine (CL.out _ _ (Ne.symm hne1) hqc hr1 hB1).mono ?_
 rintro e w5 ⟨rfl,hm5⟩
 have hk5:=hm5.kept hk1 (Ne.symm hne)
 have hr5:=hm5.rd hr1
 have HM:Hid (Moves w g m w5):=M1.out.trans hm5 HR.out
 have hl5:=hr5.lt
 have hn5:g ≠ w5.heap.size:=by omega
 have hz5:=lltn hk5
 have hz5':w.heap.size ≠ w5.heap.size:=by omega
 clear CL hm5 hk1 hr1 hB1 M1 hq1 hqc
 obtain ⟨W6,hW6⟩:∃ W,W = w5.alloc (.cells #[.int .i64 (V0:Int),.int .i64 (V1:Int),.string V2] 40):=⟨_,rfl⟩
 have hr6:RdAt W6 g p m:=by rw [hW6];exact hr5.below ((Below.refl _ _).alloc (Nat.le_refl _) _)
 have hk6:W6.heap[w.heap.size]? = some linkZ:=by rw [hW6];exact lkept hk5 ((Below.refl _ _).alloc (Nat.le_refl _) _)
 have hl6:W6.heap[w5.heap.size]? = some (.cells #[.int .i64 (V0:Int),.int .i64 (V1:Int),.string V2] 40):=by rw [hW6];exact lnew _ _
 have HM6:Hid (Moves w g m W6):=by unfold Hid;rw [hW6];exact HM.out.alloc _
 have HW6:Hid (W6 = _):=hW6
 clear hW6 hk5 hr5
 go_wp2_with fail
 rw [← HW6.out]
 refine (CD.out _ hr6).mono ?_
 rintro e w7 ⟨rfl,n7,rfl⟩
 have c1:=hr6.at_
 have cf1:=hr6.frozen 1
 obtain ⟨d0,d1,d2,df⟩:=lcells3 hk6
 obtain ⟨e0,e1,e2,ef⟩:=lcells3 hl6
 have hwm:IntKind.i64.wrap ((m:Int) + 1) = ((m + 1:Nat):Int):=by rw [IntKind.wrap_i64];omega
 by_cases hD:D = []
 ·rw [decide_eq_true hD]
  have hX:=HX0.out hD
  subst hX
  clear CD HX HX0 hD HM HW6 hr6 hk6 hl6
  go_wp2_with fail
  refine bodyPost_ret (v:=.agg #[.int .i64 (V0:Int),.int .i64 (V1:Int),.string V2]) ?_ rfl ⟨rfl,?_⟩
  ·rw [results_cell1 rfl]
   go_simp
  ·exact (((HM6.out.drewN _).new _ _ (Nat.le_refl _) _).new _ _ (Nat.le_refl _) _).new _ _ (Nat.le_refl _) _
 ·rw [decide_eq_false hD]
  have hX:=HX.out hD
  have M2:Hid (Moves w g ((m + 1:Nat):Int) ((W6.drewN n7).setCell ⟨g,1,none⟩ (.int .i64 ((m + 1:Nat):Int)))):=(HM6.out.drewN _).trans Moves.of_set HR.out
  subst hX
  clear CD HX HX0 hD HM HW6 hr6 hk6 hl6
  go_wp2_with fail
  refine bodyPost_ret (v:=.agg #[.int .i64 (V0:Int),.int .i64 (V1:Int),.string V2]) ?_ rfl ⟨rfl,?_⟩
  ·rw [results_cell1 rfl]
   go_simp
  ·exact ((M2.out.new _ _ (Nat.le_refl _) _).new _ _ (Nat.le_refl _) _).new _ _ (Nat.le_refl _) _
set_option maxHeartbeats 8000000 in
set_option maxRecDepth 100000 in
theorem value_39 (w0:World) (HE:LEnv w0) (g:Nat) (hg:w0.heap.size≤g) (p:ByteArray) (t:List UInt8) (hS:Suf p (39::t)) (w:World) (hr:RdAt w g p (pos p (39::t))) (hb:Below w0.heap.size w0 w) (hp:p.size≤4000) :
  Calls Tryz.prog 203 #[.pointer (some ⟨g,0,none⟩)] w fun e w'=>e = .returned (.agg (lkv p.size (t.length,t.takeWhile (notQ 39))))∧Moves w g (pos p ((t.dropWhile (notQ 39)).drop 1)) w':=by
 have HR:Hid (RdAt w g p (pos p (39::t))):=hr
 have hlt:=hr.lt
 have hne:g ≠ w.heap.size:=by omega
 have hne1:g ≠ w.heap.size + 1:=by omega
 have C1:Hid (∀ W,RdAt W g p (pos p (39::t))→Calls Tryz.prog 174 #[.pointer (some ⟨g,0,none⟩),.int .u8 34] W fun e w'=>e = .returned (.bool false)∧∃ m,w' = W.drewN m):=fun W hW=>sees_suf g p (39::t) hS 34 34 rfl false rfl W hW
 have C2:Hid (∀ W,RdAt W g p (pos p (39::t))→Calls Tryz.prog 174 #[.pointer (some ⟨g,0,none⟩),.int .u8 39] W fun e w'=>e = .returned (.bool true)∧∃ m,w' = W.drewN m):=fun W hW=>sees_suf g p (39::t) hS 39 39 rfl true rfl W hW
 have CL:Hid (∀ W h,h ≠ g→W.cell? ⟨h,0,none⟩ = some (.int .u8 39)→RdAt W g p (pos p t)→Below w0.heap.size w0 W→Calls Tryz.prog 211 #[.pointer (some ⟨g,0,none⟩),.func (Fn.func 213) #[] #[.pointer (some ⟨h,0,none⟩)]] W fun e w'=>e = .returned (.agg (lkv p.size (t.length,t.takeWhile (notQ 39))))∧Moves W g (pos p (t.dropWhile (notQ 39))) w'):=fun W h hh hc h1 h2=>by
  have:=link_any w0 HE 213 #[.pointer (some ⟨h,0,none⟩)] (notQ 39) (fun W=>W.cell? ⟨h,0,none⟩ = some (.int .u8 ((39:UInt8).toNat:Int))) (fun W v t hW=>by
   have hlt:=World.block_lt_of_cell? W _ hW
   exact (((Below.refl _ _).alloc (Nat.le_refl _) _).cell (p:=⟨h,0,none⟩) hlt).trans hW) g hg p t hS.tl W h1 h2 hc (ask_val2 g h 39 hh) hp
  rw [lkC_lkv hS.tl] at this
  exact this
 have CD:Hid (∀ W,RdAt W g p (pos p (t.dropWhile (notQ 39)))→Calls Tryz.prog 75 #[.pointer (some ⟨g,0,none⟩)] W fun e w'=>e = .returned (.bool (decide (t.dropWhile (notQ 39) = [])))∧∃ m,w' = W.drewN m):=fun W hW=>done_suf g p _ (hS.tl.dw _) _ rfl W hW
 have HB:Hid (Below w0.heap.size w0 w):=hb
 have hba:Below w.heap.size w (w.alloc linkZ):=(Below.refl _ _).alloc (Nat.le_refl _) _
 have hnew:=lnew w linkZ
 have hlen:=hS.len
 have hix:∀ hk:pos p (39::t) < p.size,p[pos p (39::t)]'hk = 39:=fun hk=>by
  have h:=hS.drop
  rw [dropB p _ hk] at h
  exact (List.cons.inj h).1
 have hk:pos p (39::t) < p.size:=by unfold pos;simp only [List.length_cons] at hlen ⊢;omega
 have hp1:pos p t = pos p (39::t) + 1:=pos_plus hS (a:=[39]) rfl
 have HX:Hid (t.dropWhile (notQ 39) ≠ []→pos p ((t.dropWhile (notQ 39)).drop 1) = pos p (t.dropWhile (notQ 39)) + 1):=fun h=>by
  cases hd:t.dropWhile (notQ 39) with
  | nil=>exact absurd hd h
  | cons y r=>exact pos_plus (hd ▸ hS.tl.dw (notQ 39)) (a:=[y]) rfl
 have HX0:Hid (t.dropWhile (notQ 39) = []→pos p ((t.dropWhile (notQ 39)).drop 1) = pos p (t.dropWhile (notQ 39))):=fun h=>by rw [h];rfl
 have hmle:=pos_le p (t.dropWhile (notQ 39))
 obtain ⟨V0,V1,V2,hV⟩:∃ (V0 V1:Nat) (V2:ByteArray),lkv p.size (t.length,t.takeWhile (notQ 39)) = #[.int .i64 (V0:Int),.int .i64 (V1:Int),.string V2]:=⟨_,_,_,rfl⟩
 rw [hV] at CL
 rw [hV]
 rw [hp1] at CL
 generalize pos p ((t.dropWhile (notQ 39)).drop 1) = m2 at *
 generalize pos p (t.dropWhile (notQ 39)) = m at *
 generalize pos p (39::t) = k at *
 clear hr HE hb hS hV hp1 hlen
 generalize t.dropWhile (notQ 39) = D at *
 obtain ⟨W0,hW0⟩:∃ W,W = w.alloc linkZ:=⟨_,rfl⟩
 rw [← hW0] at hba hnew
 have hr0:=HR.out.below hba
 have hsz0:W0.heap.size = w.heap.size + 1:=by rw [hW0];simp
 have hkn:p[k]'hk = 39:=hix hk
 have hki:(k:Int) < (p.size:Int):=by omega
 have hwr:IntKind.i64.wrap ((k:Int) + 1) = ((k + 1:Nat):Int):=by rw [IntKind.wrap_i64];omega
 go_enter Tryz.func203,Tryz.ntmps203
 go_wp2_with fail
 rw [← hW0]
 clear hW0
 refine (C1.out _ hr0).mono ?_
 rintro e w1 ⟨rfl,n0,rfl⟩
 go_wp2_with fail
 refine (C2.out _ (hr0.drewN _)).mono ?_
 rintro e w1 ⟨rfl,n2,rfl⟩
 obtain ⟨n1,hn1⟩:∃ n,n = n0 + n2:=⟨_,rfl⟩
 rw [drewN_add,← hn1]
 clear hn1
 go_wp2_with fail
 have h0:=hr0.page
 have h1:=hr0.at_
 have hf1:=hr0.frozen 1
 have hr2:=hr0.drewN (n1 + 1)
 go_region
 go_wp2_with fail
 obtain ⟨W1,hW1⟩:∃ W,W = ((W0.drewN (n1 + 1)).setCell ⟨g,1,none⟩ (.int .i64 ((k:Int) + 1))).alloc (.cells #[.int .u8 39] 5):=⟨_,rfl⟩
 have M01:Moves W0 g ((k + 1:Nat):Int) W1:=by rw [hW1];exact ((((Moves.still hr0).drewN _).trans Moves.of_set hr0)).alloc _
 have hk1:=M01.kept hnew (Ne.symm hne)
 have hr1:=M01.rd hr0
 have hq1:W1.heap[w.heap.size + 1]? = some (.cells #[.int .u8 39] 5):=by
  have h:=lnew ((W0.drewN (n1 + 1)).setCell ⟨g,1,none⟩ (.int .i64 ((k:Int) + 1))) (.cells #[.int .u8 39] 5)
  rw [← hW1,set1_size,World.heap_drewN,hsz0] at h
  exact h
 have hqc:W1.cell? ⟨w.heap.size + 1,0,none⟩ = some (.int .u8 39):=by simp [World.cell?,hq1]
 have hB1:Below w0.heap.size w0 W1:=M01.base (HB.out.trans (hba.mono HB.out.size)) hg
 have M1:Hid (Moves w g ((k + 1:Nat):Int) W1):=((Moves.still HR.out).then hba).trans M01 HR.out
 rw [← hW1]
 clear hW1 M01 hr2 h0 h1 hf1 hr0 hsz0 hnew hba
 refine (CL.out _ _ (Ne.symm hne1) hqc hr1 hB1).mono ?_
 rintro e w5 ⟨rfl,hm5⟩
 have hk5:=hm5.kept hk1 (Ne.symm hne)
 have hr5:=hm5.rd hr1
 have HM:Hid (Moves w g m w5):=M1.out.trans hm5 HR.out
 have hl5:=hr5.lt
 have hn5:g ≠ w5.heap.size:=by omega
 have hz5:=lltn hk5
 have hz5':w.heap.size ≠ w5.heap.size:=by omega
 clear CL hm5 hk1 hr1 hB1 M1 hq1 hqc
 obtain ⟨W6,hW6⟩:∃ W,W = w5.alloc (.cells #[.int .i64 (V0:Int),.int .i64 (V1:Int),.string V2] 40):=⟨_,rfl⟩
 have hr6:RdAt W6 g p m:=by rw [hW6];exact hr5.below ((Below.refl _ _).alloc (Nat.le_refl _) _)
 have hk6:W6.heap[w.heap.size]? = some linkZ:=by rw [hW6];exact lkept hk5 ((Below.refl _ _).alloc (Nat.le_refl _) _)
 have hl6:W6.heap[w5.heap.size]? = some (.cells #[.int .i64 (V0:Int),.int .i64 (V1:Int),.string V2] 40):=by rw [hW6];exact lnew _ _
 have HM6:Hid (Moves w g m W6):=by unfold Hid;rw [hW6];exact HM.out.alloc _
 have HW6:Hid (W6 = _):=hW6
 clear hW6 hk5 hr5
 go_wp2_with fail
 rw [← HW6.out]
 refine (CD.out _ hr6).mono ?_
 rintro e w7 ⟨rfl,n7,rfl⟩
 have c1:=hr6.at_
 have cf1:=hr6.frozen 1
 obtain ⟨d0,d1,d2,df⟩:=lcells3 hk6
 obtain ⟨e0,e1,e2,ef⟩:=lcells3 hl6
 have hwm:IntKind.i64.wrap ((m:Int) + 1) = ((m + 1:Nat):Int):=by rw [IntKind.wrap_i64];omega
 by_cases hD:D = []
 ·rw [decide_eq_true hD]
  have hX:=HX0.out hD
  subst hX
  clear CD HX HX0 hD HM HW6 hr6 hk6 hl6
  go_wp2_with fail
  refine bodyPost_ret (v:=.agg #[.int .i64 (V0:Int),.int .i64 (V1:Int),.string V2]) ?_ rfl ⟨rfl,?_⟩
  ·rw [results_cell1 rfl]
   go_simp
  ·exact (((HM6.out.drewN _).new _ _ (Nat.le_refl _) _).new _ _ (Nat.le_refl _) _).new _ _ (Nat.le_refl _) _
 ·rw [decide_eq_false hD]
  have hX:=HX.out hD
  have M2:Hid (Moves w g ((m + 1:Nat):Int) ((W6.drewN n7).setCell ⟨g,1,none⟩ (.int .i64 ((m + 1:Nat):Int)))):=(HM6.out.drewN _).trans Moves.of_set HR.out
  subst hX
  clear CD HX HX0 hD HM HW6 hr6 hk6 hl6
  go_wp2_with fail
  refine bodyPost_ret (v:=.agg #[.int .i64 (V0:Int),.int .i64 (V1:Int),.string V2]) ?_ rfl ⟨rfl,?_⟩
  ·rw [results_cell1 rfl]
   go_simp
  ·exact ((M2.out.new _ _ (Nat.le_refl _) _).new _ _ (Nat.le_refl _) _).new _ _ (Nat.le_refl _) _
theorem value_any (w0:World) (HE:LEnv w0) (g:Nat) (hg:w0.heap.size≤g) (p:ByteArray) (s:List UInt8) (hS:Suf p s) (w:World) (hr:RdAt w g p (pos p s)) (hb:Below w0.heap.size w0 w) (hp:p.size≤4000) :
  Calls Tryz.prog 203 #[.pointer (some ⟨g,0,none⟩)] w fun e w'=>e = .returned (.agg (lkv p.size ((valP s).1.length,(valP s).2.1)))∧Moves w g (pos p (valP s).2.2) w':=by
 cases s with
 | nil=>exact value_bare w0 HE g hg p [] hS w hr hb hp rfl rfl
 | cons c t =>
  by_cases h34:c = 34
  ·subst h34;exact value_34 w0 HE g hg p t hS w hr hb hp
  ·by_cases h39:c = 39
   ·subst h39;exact value_39 w0 HE g hg p t hS w hr hb hp
   ·have hv:valP (c::t) = (c::t,(c::t).takeWhile inBare,(c::t).dropWhile inBare):=by simp only [valP];rw [if_neg (by simp [qB,h34,h39])]
    rw [hv]
    exact value_bare w0 HE g hg p (c::t) hS w hr hb hp (by simp [h34]) (by simp [h39])
theorem val_suf (s:List UInt8):(valP s).2.2 <:+ s:=by
 cases s with
 | nil=>exact List.nil_suffix
 | cons c t =>
  simp only [valP]
  split
  ·exact ((List.drop_suffix _ _).trans (List.dropWhile_suffix _)).trans (List.suffix_cons c t)
  ·exact List.dropWhile_suffix _
end Go.Proofs.YtbbfcbodhmeanaaGreatDoor



import Derived.Laws.EntriesVeiled
import Derived.Test.YtbbfcbodhmeanaaGreatDoorXrewritesays56
namespace Go.Proofs.YtbbfcbodhmeanaaGreatDoor
open Go.RowKit
theorem info_strW:(Tryz.prog.info? 9).map (fun i=>(i.zero,i.size,i.bytes)) = some (some (.string ⟨#[]⟩),1,16):=by kernel_rfl
theorem cell_loneW (w:World) (v:Value) (t:TypeId):∀ j x,[v][j]? = some x→(w.alloc (.cells #[v] t)).cell? ((⟨w.heap.size,0,none⟩:Addr).add j) = some x:=by
 intro j x hj
 match j,hj with
 | 0,hj=>simp at hj;subst hj;simp [Addr.add]
theorem one_strW (T:ByteArray):∀ u ∈ [Value.string T],u.oneCell' = true:=by
 intro u hu
 simp at hu
 subst hu
 rfl
theorem slice_ofW {w:World} {B e s n:Nat} {v:Value} {xs:List Value} (h:w.ownsRow B e s v n xs):∃ a c,v = .slice a n c:=by
 rcases h.2 with ⟨rfl,rfl⟩ | ⟨g,cap,cur,rfl,_⟩
 ·exact ⟨none,0,rfl⟩
 ·exact ⟨some ⟨g,0,none⟩,cap,rfl⟩
theorem three_at (a:Array Obj) (x y z:Obj):(((a.push x).push y).push z)[a.size]? = some x∧(((a.push x).push y).push z)[a.size + 1]? = some y∧(((a.push x).push y).push z)[a.size + 2]? = some z:=by
 have h1:(a.push x).size = a.size + 1:=Array.size_push ..
 have h2:((a.push x).push y).size = a.size + 2:=by rw [Array.size_push,h1]
 refine ⟨?_,?_,?_⟩
 ·rw [Array.getElem?_push,if_neg (by omega),Array.getElem?_push,if_neg (by omega),Array.getElem?_push,if_pos rfl]
 ·rw [Array.getElem?_push,if_neg (by omega),Array.getElem?_push,if_pos (by omega)]
 ·rw [Array.getElem?_push,if_pos (by omega)]
abbrev FnW (g g2:Nat):Value:=.func (Fn.func 60) #[] #[.pointer (some ⟨g,0,none⟩),.pointer (some ⟨g2,0,none⟩)]
structure WAt (w:World) (g g2:Nat) (W:World) (acc:List (List UInt8)):Prop where
 bel:Below w.heap.size w W
 hg:w.heap.size≤g
 hg2:g < g2
 out:∃ v,W.heap[g]? = some (.cells #[v] 26)∧W.ownsRow (g2 + 1) 9 1 v acc.length (wtv acc)
 wk:W.heap[g2]? = some (.cells #[FnW g g2] 97)
theorem WAt.below {w:World} {g g2:Nat} {W W':World} {acc:List (List UInt8)} (h:WAt w g g2 W acc) (hb:Below W.heap.size W W'):WAt w g g2 W' acc:=by
 obtain ⟨v,h1,h2⟩:=h.out
 exact ⟨h.bel.trans (hb.mono h.bel.size),h.hg,h.hg2,⟨v,blk_on h1 hb,ownsRow_below h2 hb⟩,blk_on h.wk hb⟩
theorem wtv_snoc (acc:List (List UInt8)) (x:List UInt8):wtv (acc ++ [x]) = wtv acc ++ [.string (tx8 x)]:=by simp [wtv]
theorem WAt.push {w:World} {g g2:Nat} {W w9:World} {acc:List (List UInt8)} {x:List UInt8} {v v9:Value} {o:Obj} (h:WAt w g g2 W acc) (hv:W.heap[g]? = some (.cells #[v] 26)) (ho:W.ownsRow (g2 + 1) 9 1 v acc.length (wtv acc))
  (ho9:w9.ownsRow (g2 + 1) 9 1 v9 (acc.length + 1) (wtv acc ++ [.string (tx8 x)])) (hg9:(W.alloc o).grownBy w9 v.ownBlock):WAt w g g2 (w9.setCell ⟨g,0,none⟩ v9) (acc ++ [x]):=by
 have hgl:g < W.heap.size:=(Array.getElem?_eq_some_iff.1 hv).1
 have hg2l:g2 < W.heap.size:=(Array.getElem?_eq_some_iff.1 h.wk).1
 have hrow:=ho.lt
 have h1:=h.hg
 have h2:=h.hg2
 have e1:w9.heap[g]? = some (.cells #[v] 26):=by rw [hg9.block g (by simp;omega) (fun e=>by have:=hrow g e.symm;omega),Below.heap_alloc _ _ _ hgl];exact hv
 have e2:w9.heap[g2]? = some (.cells #[FnW g g2] 97):=by rw [hg9.block g2 (by simp;omega) (fun e=>by have:=hrow g2 e.symm;omega),Below.heap_alloc _ _ _ hg2l];exact h.wk
 have hb9:Below w.heap.size w w9:=(h.bel.alloc h.bel.size o).grown hg9 (by have:=h.bel.size;simp;omega) (fun k hk=>by have:=hrow k hk;omega)
 refine ⟨hb9.setCell (p:=⟨g,0,none⟩) h1 _,h1,h2,⟨v9,?_,?_⟩,?_⟩
 ·rw [heap_setCell_same w9 g 0 _ _ _ e1]
  rfl
 ·rw [wtv_snoc,List.length_append]
  refine ⟨ho9.1,?_⟩
  rcases ho9.2 with h3 | ⟨gg,cap,cur,h3,h4,h5,h6⟩
  ·exact .inl h3
  ·refine .inr ⟨gg,cap,cur,h3,h4,?_,h6⟩
   show (w9.heap.modify g _)[gg]? = _
   rw [Array.getElem?_modify,if_neg (by omega)]
   exact h5
 ·show (w9.heap.modify g _)[g2]? = _
  rw [Array.getElem?_modify,if_neg (by omega)]
  exact e2
set_option maxHeartbeats 4000000 in
set_option maxRecDepth 100000 in
theorem where1_any (w:World) (hM:∀ W,Below w.heap.size w W→MaxAt W) (g g2:Nat):∀ (f F:Nat) (p:PT) (pb:Option Addr) (cb:Nat) (pk:Option Addr) (ck:Nat) (ah:List UInt8) (acc:List (List UInt8)) (W:World),lev f p = true→ah.length≤120→acc.length + (whereR f p ah).length≤1000→PHeld w F p pb cb pk ck→WAt w g g2 W acc →
  Calls Tryz.prog 60 #[.agg #[.string p.ty,.string p.cs,.string p.id,.string p.loc,.int .i64 p.how,.slice pb p.body.length cb,.slice pk p.kids.length ck],.string (tx8 ah),.pointer (some ⟨g,0,none⟩),.pointer (some ⟨g2,0,none⟩)] W
   fun e w'=>e = .returned (.tuple #[])∧WAt w g g2 w' (acc ++ whereR f p ah):=by
 intro f
 induction f with
 | zero=>intro F p pb cb pk ck ah acc W hl;rw [lev] at hl;cases hl
 | succ f ih =>
  intro F p pb cb pk ck ah acc W hl hah h1000 hH hW
  rw [lev_succ,List.all_eq_true] at hl
  have HR:Hid (whereR (f + 1) p ah = meR ah p::p.kids.flatMap fun k=>whereR f k (meR ah p)):=whereR_succ f p ah
  rw [whereR_succ,List.length_cons] at h1000
  obtain ⟨hal,hml⟩:=meR_len ah p hah
  have hloc:p.loc.size≤maxLen:=hH.1.2.2.2.1
  have CL:Hid (∀ W',Below w.heap.size w W'→Calls Tryz.prog 13 #[.string (tx8 (aheadR ah)),.string p.loc] W' fun e w'=>e = .returned (.string (tx8 (ledU (aheadR ah) p.loc.data.toList)))∧Below W'.heap.size W' w'):=fun W' hb=>rledt_any (tx8 (aheadR ah)) p.loc (by show (aheadR ah).toArray.size≤maxLen;simp;unfold maxLen;omega) hloc W' (hM W' hb)
  have HKP:Hid (p.kids ≠ []→∃ F' b o,F = F' + 1∧pk = some ⟨b,o,none⟩∧∀ i,i < p.kids.length→PAt w F' b (o + i * 7) (p.kids.getD i pt0)):=fun hne=>by
   have hk:KAt w F pk p.kids:=hH.2.2.2.2
   cases F with
   | zero=>exact absurd hk hne
   | succ F' =>
    obtain ⟨b,o,e1,e2⟩:=hk.each hne
    exact ⟨F',b,o,rfl,e1,e2⟩
  have hkl:p.kids.length≤9223372036854775807:=by have:=hH.1.2.2.2.2.2.2.2;unfold maxLen at this;exact this
  have IH:Hid (∀ (F:Nat) (k:PT) (pb:Option Addr) (cb:Nat) (pk:Option Addr) (ck:Nat) (bh:List UInt8) (acc:List (List UInt8)) (W:World),k ∈ p.kids→bh.length≤120→acc.length + (whereR f k bh).length≤1000→PHeld w F k pb cb pk ck→WAt w g g2 W acc →
   Calls Tryz.prog 60 #[.agg #[.string k.ty,.string k.cs,.string k.id,.string k.loc,.int .i64 k.how,.slice pb k.body.length cb,.slice pk k.kids.length ck],.string (tx8 bh),.pointer (some ⟨g,0,none⟩),.pointer (some ⟨g2,0,none⟩)] W fun e w'=>e = .returned (.tuple #[])∧WAt w g g2 w' (acc ++ whereR f k bh)):=fun F k pb cb pk ck bh acc W hk h1 h2 h3 h4=>ih F k pb cb pk ck bh acc W (hl k hk) h1 h2 h3 h4
  obtain ⟨i0,hi,hz0,hz1,hz2⟩:=info_parts info_strW
  obtain ⟨n,hn⟩:∃ n,p.kids.length = n:=⟨_,rfl⟩
  have HN:Hid (p.kids.length = n):=hn
  obtain ⟨nb,hnb⟩:∃ n,p.body.length = n:=⟨_,rfl⟩
  rw [hn] at HKP hkl ⊢
  rw [hnb]
  have HLE:Hid (acc.length + ((p.kids.flatMap fun k=>whereR f k (meR ah p)).length + 1)≤1000):=h1000
  obtain ⟨W1,hW1⟩:∃ w1,W.alloc (.cells #[.string p.ty,.string p.cs,.string p.id,.string p.loc,.int .i64 p.how,.slice pb nb cb,.slice pk n ck] 25) = w1:=⟨_,rfl⟩
  have hb1:Below W.heap.size W W1:=by rw [← hW1];exact (Below.refl _ _).alloc (Nat.le_refl _) _
  have k1:W1.heap[W.heap.size]? = some (.cells #[.string p.ty,.string p.cs,.string p.id,.string p.loc,.int .i64 p.how,.slice pb nb cb,.slice pk n ck] 25):=by rw [← hW1];exact blk_new W _
  have HA1:Hid (WAt w g g2 W1 acc):=hW.below hb1
  have HW1:Hid (W.alloc (.cells #[.string p.ty,.string p.cs,.string p.id,.string p.loc,.int .i64 p.how,.slice pb nb cb,.slice pk n ck] 25) = W1):=hW1
  obtain ⟨v,hv,hov⟩:=hW.out
  have hrow:=hov.lt
  have hgg:=hW.hg
  have hgg2:=hW.hg2
  have hBW1:Below w.heap.size w W1:=hW.bel.trans (hb1.mono hW.bel.size)
  have hv1:=blk_on hv hb1
  have hov1:=ownsRow_below hov hb1
  have hgl:g < W.heap.size:=(Array.getElem?_eq_some_iff.1 hv).1
  have hg2l:g2 < W.heap.size:=(Array.getElem?_eq_some_iff.1 hW.wk).1
  have HV1:Hid (W1.heap[g]? = some (.cells #[v] 26)):=hv1
  have HO1:Hid (W1.ownsRow (g2 + 1) 9 1 v acc.length (wtv acc)):=hov1
  have HB1:Hid (Below w.heap.size w W1):=hBW1
  obtain ⟨bx,hbx⟩:∃ b,W.heap.size = b:=⟨_,rfl⟩
  rw [hbx] at k1 hrow hgl hg2l
  have HBX:Hid (W.heap.size = bx):=hbx
  have HK1:Hid (W1.heap[bx]? = some (.cells #[.string p.ty,.string p.cs,.string p.id,.string p.loc,.int .i64 p.how,.slice pb nb cb,.slice pk n ck] 25)):=k1
  have HROW:Hid (∀ k,v.ownBlock = some k→g2 + 1≤k∧k < bx):=hrow
  have y3:W1.cell? ⟨bx,3,none⟩ = some (.string p.loc):=(blk_c k1 3).trans rfl
  have hal4:=HLE.out
  clear hn hnb ih hH hl h1000 hW hW1 hv hov hrow hb1 hv1 hov1 k1 hbx hBW1
  go_enter Tryz.func60,Tryz.ntmps60
  go_upto_region 1 with fail
  rw [HW1.out,HBX.out]
  go_upto_if 10 with fail
  go_cut [1] (fun u w'=>u = .string (tx8 (aheadR ah))∧w' = W1)
  case first =>
   by_cases h0:ah = []
   ·have hemp:(tx8 ah).toList.isEmpty = true:=by rw [ByteArray.toList_eq,h0];rfl
    have HAE:Hid (tx8 (aheadR ah) = ⟨#[116,104,105,115,109,101,115,115,97,103,101,58,47]⟩):=by unfold Hid aheadR;rw [if_pos h0];rfl
    clear h0
    rw [hemp]
    go_wp2_with fail
    go_meet
    exact ⟨by rw [HAE.out],rfl⟩
   ·have hemp:(tx8 ah).toList.isEmpty = false:=by
     rw [ByteArray.toList_eq]
     cases h:ah with
     | nil=>exact absurd h h0
     | cons _ _=>rfl
    have HAE:Hid (tx8 (aheadR ah) = tx8 ah):=by unfold Hid aheadR;rw [if_neg h0]
    clear h0
    rw [hemp]
    go_wp2_with fail
    go_meet
    exact ⟨by rw [HAE.out],rfl⟩
  case rest =>
  obtain ⟨hu1,hwc1⟩:=hcut
  rw [hu1,hwc1]
  clear hu1 hwc1
  go_upto_if 14 with fail
  go_cut [6] (fun u w'=>u = .string (tx8 (meR ah p))∧Below W1.heap.size W1 w')
  case first =>
   by_cases h0:p.loc.data.toList = []
   ·have hemp:p.loc.toList.isEmpty = true:=by rw [ByteArray.toList_eq,h0];rfl
    have HME:Hid (tx8 (meR ah p) = tx8 (aheadR ah)):=by unfold Hid meR;rw [if_pos h0]
    clear h0 CL
    rw [hemp]
    go_wp2_with fail
    go_meet
    exact ⟨by rw [HME.out],Below.refl _ _⟩
   ·have hemp:p.loc.toList.isEmpty = false:=by
     rw [ByteArray.toList_eq]
     cases h:p.loc.data.toList with
     | nil=>exact absurd h h0
     | cons _ _=>rfl
    have HME:Hid (tx8 (meR ah p) = tx8 (ledU (aheadR ah) p.loc.data.toList)):=by unfold Hid meR;rw [if_neg h0]
    clear h0
    rw [hemp]
    go_wp2_with fail
    refine (CL.out _ HB1.out).mono ?_
    rintro e w' ⟨rfl,hb'⟩
    have HBB:Hid (Below W1.heap.size W1 w'):=hb'
    clear CL hb'
    go_wp2_with fail
    go_meet
    exact ⟨by rw [HME.out],HBB.out⟩
  case rest =>
  obtain ⟨hu6,hb2⟩:=hcut
  rw [hu6]
  obtain ⟨w2,hw2⟩:∃ W,W = wc:=⟨_,rfl⟩
  rw [← hw2] at hb2 ⊢
  clear hu6 hw2
  have hv2:=blk_on HV1.out hb2
  have HO2:Hid (w2.ownsRow (g2 + 1) 9 1 v acc.length (wtv acc)):=ownsRow_below HO1.out hb2
  have HA2:Hid (WAt w g g2 w2 acc):=HA1.out.below hb2
  have hk2:=blk_on HK1.out hb2
  have hlt2:bx < w2.heap.size:=(Array.getElem?_eq_some_iff.1 hk2).1
  have HV2:Hid (w2.heap[g]? = some (.cells #[v] 26)):=hv2
  have HK2:Hid (w2.heap[bx]? = some (.cells #[.string p.ty,.string p.cs,.string p.id,.string p.loc,.int .i64 p.how,.slice pb nb cb,.slice pk n ck] 25)):=hk2
  have cg:w2.cell? ⟨g,0,none⟩ = some v:=(blk_c hv2 0).trans rfl
  obtain ⟨me,hme⟩:∃ x,meR ah p = x:=⟨_,rfl⟩
  rw [hme] at HR HLE hml ⊢
  clear hme hb2 hv2 hk2 HA1 HV1 HO1 HK1 CL y3 HB1 HW1 HBX
  go_wp2_with (at_builtin;refine wpList_append_own _ rfl (.tmp 19) (.tmp 21) 26 rfl (g2 + 1) 9 i0 (.string ⟨#[]⟩) 1 16 Tryz.underlying26 hi hz0 hz1 hz2 rfl (by decide) _ _ _ rfl (HO2.out.alloc _) ⟨w2.heap.size,0,none⟩ 1 1 [.string (tx8 me)] rfl rfl (cell_loneW _ _ _) (one_strW _) ?d1 ?d2 ?d3 ?_)
  case d1=>unfold maxLen;omega
  case d2=>omega
  case d3=>simp;omega
  intro v9 w9 hown9 hg9 _
  obtain ⟨p9,c9,hv9⟩:=slice_ofW hown9
  rw [hv9] at hown9 ⊢
  clear hv9
  have HP:Hid (WAt w g g2 (w9.setCell ⟨g,0,none⟩ (.slice p9 (acc.length + 1) c9)) (acc ++ [me])):=HA2.out.push HV2.out HO2.out hown9 hg9
  have e1:w9.heap[g]? = some (.cells #[v] 26):=by rw [hg9.block g (by simp;omega) (fun e=>by have:=HROW.out g e.symm;omega),Below.heap_alloc _ _ _ (by omega)];exact HV2.out
  have e2:w9.heap[bx]? = some (.cells #[.string p.ty,.string p.cs,.string p.id,.string p.loc,.int .i64 p.how,.slice pb nb cb,.slice pk n ck] 25):=by rw [hg9.block bx (by simp;omega) (fun e=>by have:=HROW.out bx e.symm;omega),Below.heap_alloc _ _ _ (by omega)];exact HK2.out
  have cg9:w9.cell? ⟨g,0,none⟩ = some v:=(blk_c e1 0).trans rfl
  have fg9:w9.frozen? ⟨g,0,none⟩ = false:=blk_f e1 0
  obtain ⟨W4,hW4⟩:∃ W,w9.setCell ⟨g,0,none⟩ (.slice p9 (acc.length + 1) c9) = W:=⟨_,rfl⟩
  have c6:W4.cell? ⟨bx,6,none⟩ = some (.slice pk n ck):=by
   rw [← hW4]
   exact (World.cell?_setCell_other _ _ _ _ (fun e=>by injection e with e;omega)).trans ((blk_c e2 6).trans rfl)
  rw [hW4] at HP
  have HW4:Hid (w9.setCell ⟨g,0,none⟩ (.slice p9 (acc.length + 1) c9) = W4):=hW4
  clear hW4 hown9 hg9 e1 e2 HA2 HV2 HO2 HK2 cg
  go_upto_region 7 with fail
  rw [HW4.out]
  clear cg9 fg9 HW4
  go_wp2_with fail
  go_loopw [26] (fun iv wr=>∃ k:Nat,k≤n∧iv = .int .i64 k∧Hid (WAt w g g2 wr (acc ++ me::(p.kids.take k).flatMap fun k=>whereR f k me))) (fun iv _=>n - (intOf iv).toNat)
  case atStart=>exact ⟨0,Nat.zero_le _,rfl,HP⟩
  case round =>
   obtain ⟨k,hk,rfl,HJ⟩:=hrel
   clear HP c6
   by_cases hlt:k < n
   ·have hlz:(k:Int) < (n:Int):=by omega
    have hne:p.kids ≠ []:=fun e=>by have:=HN.out;rw [e] at this;simp at this;omega
    obtain ⟨F',bp,op,hF',rfl,hPp⟩:=HKP.out hne
    have hkP:k < p.kids.length:=by rw [HN.out];exact hlt
    have HP1:=hPp k hlt
    have hmem:p.kids.getD k pt0 ∈ p.kids:=by simp [List.getD_eq_getElem?_getD,List.getElem?_eq_getElem hkP]
    have hT:(p.kids.take (k + 1)).flatMap (fun k=>whereR f k me) = (p.kids.take k).flatMap (fun k=>whereR f k me) ++ whereR f (p.kids.getD k pt0) me:=by
     rw [List.take_add_one,List.getElem?_eq_getElem hkP,List.flatMap_append,List.getD_eq_getElem?_getD,List.getElem?_eq_getElem hkP]
     congr 1
     show List.flatMap _ [p.kids[k]] = _
     simp
    have hle:((p.kids.take (k + 1)).flatMap fun k=>whereR f k me).length≤(p.kids.flatMap fun k=>whereR f k me).length:=by
     conv=>rhs;rw [← List.take_append_drop (k + 1) p.kids,List.flatMap_append,List.length_append]
     omega
    rw [hT,List.length_append] at hle
    obtain ⟨P1,hP1⟩:∃ P1,p.kids.getD k pt0 = P1:=⟨_,rfl⟩
    rw [hP1] at HP1 hT hle hmem
    obtain ⟨a1,a2,a3,a4,hC1,hH1⟩:=HP1
    obtain ⟨d0,d1,d2,d3,d4,d5,d6⟩:=hC1
    have hbl:bp < w.heap.size:=World.block_lt_of_cell? w _ d0
    have kb:∀ o v,w.cell? ⟨bp,o,none⟩ = some v→wr.cell? ⟨bp,o,none⟩ = some v:=fun o v h=>(HJ.out.bel.cell (p:=⟨bp,o,none⟩) hbl).trans h
    have x0:=kb _ _ d0
    have x1:=kb _ _ d1
    have x2:=kb _ _ d2
    have x3:=kb _ _ d3
    have x4:=kb _ _ d4
    have x5:=kb _ _ d5
    have x6:=kb _ _ d6
    have IH1:Hid (∀ W',WAt w g g2 W' (acc ++ me::(p.kids.take k).flatMap fun k=>whereR f k me)→Calls Tryz.prog 60 #[.agg #[.string P1.ty,.string P1.cs,.string P1.id,.string P1.loc,.int .i64 P1.how,.slice a1 P1.body.length a2,.slice a3 P1.kids.length a4],.string (tx8 me),.pointer (some ⟨g,0,none⟩),.pointer (some ⟨g2,0,none⟩)] W' fun e w'=>e = .returned (.tuple #[])∧WAt w g g2 w' (acc ++ me::(p.kids.take (k + 1)).flatMap fun k=>whereR f k me)):=fun W' hW'=>by
     have h:=IH.out F' P1 a1 a2 a3 a4 me _ W' hmem hml (by have:=HLE.out;simp only [List.length_append,List.length_cons];omega) hH1 hW'
     rw [hT]
     rw [List.append_assoc,List.cons_append] at h
     exact h
    clear hPp hP1 hH1 HKP hT hle hmem d0 d1 d2 d3 d4 d5 d6 kb IH
    obtain ⟨pt1,pc1,pi1,pl1,ph1,pb1,pk1⟩:=P1
    simp only at x0 x1 x2 x3 x4 x5 x6 IH1
    generalize pb1.length = m1 at *
    generalize pk1.length = m2 at *
    generalize (acc ++ me::(p.kids.take k).flatMap fun k=>whereR f k me) = A0 at *
    go_upto_region 10 with fail
    obtain ⟨V,hV⟩:∃ W,W = wr.alloc (.cells #[.string pt1,.string pc1,.string pi1,.string pl1,.int .i64 ph1,.slice a1 m1 a2,.slice a3 m2 a4] 25):=⟨_,rfl⟩
    have kV:V.heap[wr.heap.size]? = some (.cells #[.string pt1,.string pc1,.string pi1,.string pl1,.int .i64 ph1,.slice a1 m1 a2,.slice a3 m2 a4] 25):=by rw [hV];exact blk_new wr _
    have hAV:WAt w g g2 V A0:=by rw [hV];exact HJ.out.below ((Below.refl _ _).alloc (Nat.le_refl _) _)
    rw [← hV]
    obtain ⟨q,hq⟩:∃ k,wr.heap.size = k:=⟨_,rfl⟩
    rw [hq] at kV ⊢
    have HAV:Hid (WAt w g g2 V A0):=hAV
    have cw:V.cell? ⟨g2,0,none⟩ = some (FnW g g2):=(blk_c hAV.wk 0).trans rfl
    have z0:V.cell? ⟨q,0,none⟩ = some (.string pt1):=(blk_c kV 0).trans rfl
    have z1:V.cell? ⟨q,1,none⟩ = some (.string pc1):=(blk_c kV 1).trans rfl
    have z2:V.cell? ⟨q,2,none⟩ = some (.string pi1):=(blk_c kV 2).trans rfl
    have z3:V.cell? ⟨q,3,none⟩ = some (.string pl1):=(blk_c kV 3).trans rfl
    have z4:V.cell? ⟨q,4,none⟩ = some (.int .i64 ph1):=(blk_c kV 4).trans rfl
    have z5:V.cell? ⟨q,5,none⟩ = some (.slice a1 m1 a2):=(blk_c kV 5).trans rfl
    have z6:V.cell? ⟨q,6,none⟩ = some (.slice a3 m2 a4):=(blk_c kV 6).trans rfl
    clear hV hAV kV hq x0 x1 x2 x3 x4 x5 x6 HJ
    go_wp2_with fail
    refine (IH1.out _ HAV.out).mono ?_
    rintro e w' ⟨rfl,hA'⟩
    have HA':Hid _:=hA'
    clear IH1 HAV cw z0 z1 z2 z3 z4 z5 z6 hA'
    go_wp2_with fail
    go_roundw
    case rel=>exact ⟨k + 1,by omega,by go_num,HA'⟩
    case measure=>simp [intOf];omega
   ·have hlz:¬ ((k:Int) < (n:Int)):=by omega
    have HF:Hid (WAt w g g2 wr (acc ++ whereR (f + 1) p ah)):=by
     unfold Hid
     rw [HR.out]
     have h:=HJ.out
     rw [List.take_of_length_le (by rw [HN.out];omega)] at h
     exact h
    clear HJ IH HKP
    go_wp2_with fail
    go_end0
    exact ⟨rfl,HF.out⟩
set_option maxHeartbeats 2000000 in
set_option maxRecDepth 100000 in
theorem rwhere_any (f F:Nat) (p:PT) (pb:Option Addr) (cb:Nat) (pk:Option Addr) (ck:Nat) (w:World) (hM:∀ W,Below w.heap.size w W→MaxAt W) (hl:lev f p = true) (h1000:(whereR f p []).length≤1000) (hH:PHeld w F p pb cb pk ck) :
  Calls Tryz.prog 16 #[.agg #[.string p.ty,.string p.cs,.string p.id,.string p.loc,.int .i64 p.how,.slice pb p.body.length cb,.slice pk p.kids.length ck]] w
   fun e w'=>∃ v,e = .returned v∧Below w.heap.size w w'∧w'.ownsRow w.heap.size 9 1 v (whereR f p []).length (wtv (whereR f p [])):=by
 have CW:Hid (∀ g g2 W,WAt w g g2 W []→Calls Tryz.prog 60 #[.agg #[.string p.ty,.string p.cs,.string p.id,.string p.loc,.int .i64 p.how,.slice pb p.body.length cb,.slice pk p.kids.length ck],.string ⟨#[]⟩,.pointer (some ⟨g,0,none⟩),.pointer (some ⟨g2,0,none⟩)] W fun e w'=>e = .returned (.tuple #[])∧WAt w g g2 w' (whereR f p [])):=fun g g2 W hW=>by
  have h:=where1_any w hM g g2 f F p pb cb pk ck [] [] W hl (by simp) (by simpa using h1000) hH hW
  rw [List.nil_append] at h
  exact h
 generalize whereR f p [] = RES at *
 generalize p.body.length = nb at *
 generalize p.kids.length = n at *
 clear hH hl h1000 hM
 obtain ⟨V,hV⟩:∃ W,W = ((w.alloc (.cells #[.string p.ty,.string p.cs,.string p.id,.string p.loc,.int .i64 p.how,.slice pb nb cb,.slice pk n ck] 25)).alloc (.cells #[.slice none 0 0] 26)).alloc (.cells #[FnW (w.heap.size + 1) (w.heap.size + 2)] 97):=⟨_,rfl⟩
 have hbV:Below w.heap.size w V:=by rw [hV];exact (((Below.refl _ _).alloc (Nat.le_refl _) _).alloc (by simp) _).alloc (by simp;omega) _
 have b2:V.heap[w.heap.size + 2]? = some (.cells #[FnW (w.heap.size + 1) (w.heap.size + 2)] 97):=by rw [hV];exact (three_at w.heap _ _ _).2.2
 have b1:V.heap[w.heap.size + 1]? = some (.cells #[.slice none 0 0] 26):=by rw [hV];exact (three_at w.heap _ _ _).2.1
 have b0:V.heap[w.heap.size]? = some (.cells #[.string p.ty,.string p.cs,.string p.id,.string p.loc,.int .i64 p.how,.slice pb nb cb,.slice pk n ck] 25):=by rw [hV];exact (three_at w.heap _ _ _).1
 have HA:Hid (WAt w (w.heap.size + 1) (w.heap.size + 2) V []):=⟨hbV,by omega,by omega,⟨.slice none 0 0,b1,World.ownsRow_nil _ _ _ _⟩,b2⟩
 have HV:Hid (V = ((w.alloc (.cells #[.string p.ty,.string p.cs,.string p.id,.string p.loc,.int .i64 p.how,.slice pb nb cb,.slice pk n ck] 25)).alloc (.cells #[.slice none 0 0] 26)).alloc (.cells #[FnW (w.heap.size + 1) (w.heap.size + 2)] 97)):=hV
 have cw:V.cell? ⟨w.heap.size + 2,0,none⟩ = some (FnW (w.heap.size + 1) (w.heap.size + 2)):=(blk_c b2 0).trans rfl
 have z0:V.cell? ⟨w.heap.size,0,none⟩ = some (.string p.ty):=(blk_c b0 0).trans rfl
 have z1:V.cell? ⟨w.heap.size,1,none⟩ = some (.string p.cs):=(blk_c b0 1).trans rfl
 have z2:V.cell? ⟨w.heap.size,2,none⟩ = some (.string p.id):=(blk_c b0 2).trans rfl
 have z3:V.cell? ⟨w.heap.size,3,none⟩ = some (.string p.loc):=(blk_c b0 3).trans rfl
 have z4:V.cell? ⟨w.heap.size,4,none⟩ = some (.int .i64 p.how):=(blk_c b0 4).trans rfl
 have z5:V.cell? ⟨w.heap.size,5,none⟩ = some (.slice pb nb cb):=(blk_c b0 5).trans rfl
 have z6:V.cell? ⟨w.heap.size,6,none⟩ = some (.slice pk n ck):=(blk_c b0 6).trans rfl
 clear hV hbV b0 b1 b2
 go_enter Tryz.func16,Tryz.ntmps16
 go_upto_region 4 with fail
 rw [← HV.out]
 go_wp2_with fail
 refine (CW.out _ _ _ HA.out).mono ?_
 rintro e w' ⟨rfl,hA'⟩
 obtain ⟨v,hv,ho⟩:=hA'.out
 obtain ⟨pv,kv,hvv⟩:=slice_ofW ho
 rw [hvv] at hv ho
 have cv:w'.cell? ⟨w.heap.size + 1,0,none⟩ = some (.slice pv RES.length kv):=(blk_c hv 0).trans rfl
 have HB:Hid (Below w.heap.size w w'):=hA'.bel
 have HO:Hid (w'.ownsRow w.heap.size 9 1 (.slice pv RES.length kv) RES.length (wtv RES)):=by
  refine ⟨ho.1,?_⟩
  rcases ho.2 with h3 | ⟨gg,cap,cur,h3,h4,h5⟩
  ·exact .inl h3
  ·exact .inr ⟨gg,cap,cur,h3,by omega,h5⟩
 clear hA' hv ho hvv CW HA cw z0 z1 z2 z3 z4 z5 z6 HV
 go_wp2_with fail
 go_ret
 exact ⟨_,rfl,HB.out,HO.out⟩
end Go.Proofs.YtbbfcbodhmeanaaGreatDoor



namespace Go.Proofs.YtbbfcbodhmeanaaGreatDoor
open Go.RowKit
theorem badF_all:∀ (l:List PT),badF l = 0→∀ x ∈ l,chkA x = 0
 | [],_,x,hx=>by simp at hx
 | y::l,h,x,hx=>by
  rw [badF] at h
  split at h
  ·rename_i hy
   rcases List.mem_cons.1 hx with rfl | hx
   ·exact hy
   ·exact badF_all l h x hx
  ·rename_i hy
   exact absurd h hy
theorem chk_all (p:PT) (h:(placesP p).1 = 0):∀ x ∈ flatP 4 p,chkA x = 0:=by
 refine badF_all _ ?_
 have hs:=places_spec p
 unfold placesP at h
 by_cases hl:lev 3 p = true∧(tree 4 p).length≤12
 ·rw [if_pos hl] at hs
  rw [hs] at h
  simp only at h
  by_cases hb:firstBad ((tree 4 p).map (abs 0 (-1))) = 0
  ·rw [← badF_map,List.map_map] at hb
   rw [← tree_flat]
   exact hb
  ·rw [if_neg hb] at h
   exact absurd h hb
 ·rw [if_neg hl] at hs
  rw [hs] at h
  cases h
theorem chk_short {x:PT} (h:chkA x = 0):x.id.size≤120∧x.body.length≤4000:=by
 unfold chkA at h
 split at h
 ·cases h
 ·rename_i ht
  split at h
  ·cases h
  ·split at h
   ·cases h
   ·rename_i hb
    refine ⟨?_,by omega⟩
    have ht':textsOk x = true:=by cases hx:textsOk x <;> simp_all
    unfold textsOk at ht'
    simp only [Bool.and_eq_true] at ht'
    have hw:=ht'.1.2
    unfold wordS at hw
    simp only [Bool.and_eq_true,decide_eq_true_eq] at hw
    rw [Lib.size_eq]
    exact hw.1
def FlatIn (V:World) (ab ao:Nat) (L:List PT):Prop:=∀ i,i < L.length→(∃ pb cb pk ck,PCells V ab (ao + i * 7) (L.getD i pt0) pb cb pk ck∧BRow V pb (L.getD i pt0).body∧(pb = none→(L.getD i pt0).body.length = 0∧cb = 0))∧(L.getD i pt0).ty.size≤maxLen
def TelIn (V:World) (wb wo:Nat) (wh:List (List UInt8)):Prop:=∀ i,i < wh.length→V.cell? ⟨wb,wo + i,none⟩ = some (.string (tx8 (wh.getD i [])))
theorem flat_in {V:World} {F:Nat} {ab ao:Nat} {L:List PT} (h:KAt V (F + 1) (some ⟨ab,ao,none⟩) L):FlatIn V ab ao L:=by
 intro i hi
 obtain ⟨b,o,e,hc⟩:=h (fun e=>by rw [e] at hi;simp at hi)
 cases e
 obtain ⟨pb,cb,pk,ck,h1,h2⟩:=hc i hi
 refine ⟨⟨pb,cb,pk,ck,h1,h2.2.2.1,fun e=>?_⟩,h2.1.1⟩
 have h3:=h2.2.1.2.2 e
 have h4:=h2.2.1.1
 exact ⟨by omega,h3⟩
theorem TelIn.below {w w':World} {wb wo:Nat} {wh:List (List UInt8)} (h:TelIn w wb wo wh) (hb:Below w.heap.size w w'):TelIn w' wb wo wh:=fun i hi=>(hb.cell (p:=⟨wb,wo + i,none⟩) (World.block_lt_of_cell? w _ (h i hi))).trans (h i hi)
theorem owned_tel {w:World} {B:Nat} {v:Value} {l:List (List UInt8)} (hne:l ≠ []) (h:w.ownsRow B 9 1 v l.length (wtv l)):∃ g c,v = .slice (some ⟨g,0,none⟩) l.length c∧TelIn w g 0 l:=by
 have hcl:=fun g hg=>h.cells (g:=g) hg
 rcases h.2 with ⟨rfl,h0⟩ | ⟨g,cap,cur,rfl,_,_,hn,hm,_,_⟩
 ·exact absurd (List.length_eq_zero_iff.1 h0) hne
 ·refine ⟨g,cap,rfl,fun i hi=>?_⟩
  have k0:=hcl g rfl i (.string (tx8 (l.getD i []))) (by
   unfold wtv
   rw [List.getElem?_map,List.getD_eq_getElem?_getD,List.getElem?_eq_getElem hi]
   rfl)
  rw [Addr.add_lit] at k0
  exact k0
def RGoalsPost (w:World) (r:Option (List GL)) (e:Ending) (w':World):Prop :=
 Below w.heap.size w w'∧match r with
  | none=>e = .returned (.tuple #[.slice none 0 0,.int .i64 2])
  | some l=>∃ v,e = .returned (.tuple #[v,.int .i64 0])∧w'.ownsRow w.heap.size 42 6 v l.length (glv l)
theorem go_in {w0 V:World} (hE:LEnv w0) (hb:Below w0.heap.size w0 V) {ab ao wb wo:Nat} {L:List PT} {wh:List (List UInt8)} (hf:∀ W,Below V.heap.size V W→FlatIn W ab ao L) (ht:∀ W,Below V.heap.size V W→TelIn W wb wo wh) (hl:wh.length = L.length) (hc:∀ x ∈ L,chkA x = 0) (h120:∀ i,(wh.getD i []).length≤120) (hL:L.length≤12):GoIn V V.heap.size ab ao wb wo L wh :=
 ⟨fun W hW i hi=>by obtain ⟨⟨pb,cb,pk,ck,h1,_⟩,_⟩:=hf W hW i hi;exact ⟨pb,cb,pk,ck,h1⟩,fun W hW i hi=>ht W hW i (by rw [hl];exact hi),fun W hW=>hE.max (hb.trans (hW.mono hb.size)),fun i hi=>⟨(hf V (Below.refl _ _) i hi).2,by
  have:=(chk_short (hc (L.getD i pt0) (by rw [List.getD_eq_getElem?_getD,List.getElem?_eq_getElem hi];exact List.getElem_mem hi))).1
  omega⟩,h120,by omega⟩
set_option maxRecDepth 1000000 in
set_option maxHeartbeats 8000000 in
theorem rgoals_any (w0:World) (hE:LEnv w0) (F:Nat) (p:PT) (pb:Option Addr) (cb:Nat) (pk:Option Addr) (ck:Nat) (w:World) (hb:Below w0.heap.size w0 w) (hH:PHeld w F p pb cb pk ck) (hok:(placesP p).1 = 0) :
  Calls Tryz.prog 14 #[.agg #[.string p.ty,.string p.cs,.string p.id,.string p.loc,.int .i64 p.how,.slice pb p.body.length cb,.slice pk p.kids.length ck]] w fun e w'=>RGoalsPost w (goalsGo smallU (flatP 4 p) (whereR 4 p []) 0 (flatP 4 p) []) e w':=by
 obtain ⟨hlev,h12,hfl⟩:=places_flat p hok
 have hall:=chk_all p hok
 have hwl:(whereR 4 p []).length = (flatP 4 p).length:=by rw [← where_places p hok,whereP_length,← hfl,List.length_map]
 have hw120:∀ i,((whereR 4 p []).getD i []).length≤120:=by
  intro i
  rw [← where_places p hok,List.getD_eq_getElem?_getD]
  cases hx:(whereP (placesP p).2)[i]? with
  | none=>simp
  | some y=>simpa using whereP_each _ y (List.mem_of_getElem? hx)
 have hne:flatP 4 p ≠ []:=by rw [flatP_succ];simp
 obtain ⟨W1,hW1⟩:∃ W,W = w.alloc (.cells #[.string p.ty,.string p.cs,.string p.id,.string p.loc,.int .i64 p.how,.slice pb p.body.length cb,.slice pk p.kids.length ck] 25):=⟨_,rfl⟩
 have hb1:Below w.heap.size w W1:=by rw [hW1];exact (Below.refl _ _).alloc (Nat.le_refl _) _
 have kW:W1.heap[w.heap.size]? = some (.cells #[.string p.ty,.string p.cs,.string p.id,.string p.loc,.int .i64 p.how,.slice pb p.body.length cb,.slice pk p.kids.length ck] 25):=by rw [hW1];exact blk_new _ _
 have hlow:∀ W,Below W1.heap.size W1 W→Below w0.heap.size w0 W:=fun W hW=>hb.trans ((hb1.trans (hW.mono hb1.size)).mono hb.size)
 have hHW:∀ W,Below W1.heap.size W1 W→PHeld W F p pb cb pk ck:=fun W hW=>hH.below (hb1.trans (hW.mono hb1.size))
 obtain ⟨n,hn⟩:∃ n,n = (flatP 4 p).length:=⟨_,rfl⟩
 have CF:Hid (∀ W,Below W1.heap.size W1 W→Calls Tryz.prog 44 #[.agg #[.string p.ty,.string p.cs,.string p.id,.string p.loc,.int .i64 p.how,.slice pb p.body.length cb,.slice pk p.kids.length ck]] W fun e w'=>∃ ab ao ca,e = .returned (.slice (some ⟨ab,ao,none⟩) n ca)∧Below W1.heap.size W1 w'∧Below W.heap.size W w'∧Hid (∀ V,Below w'.heap.size w' V→FlatIn V ab ao (flatP 4 p))):=fun W hW=>by
  refine (flat_any 4 F p pb cb pk ck W hlev (by omega) (hHW W hW)).mono ?_
  rintro e w' ⟨q,c,rfl,hbw,_,_,_,hK,_⟩
  obtain ⟨ab,ao,rfl,_⟩:=hK hne
  exact ⟨ab,ao,c,by rw [hn],hW.trans (hbw.mono hW.size),hbw,fun V hV=>flat_in (KAt.below hV _ _ _ hK)⟩
 have CW:Hid (∀ W,Below W1.heap.size W1 W→Calls Tryz.prog 16 #[.agg #[.string p.ty,.string p.cs,.string p.id,.string p.loc,.int .i64 p.how,.slice pb p.body.length cb,.slice pk p.kids.length ck]] W fun e w'=>∃ wb wo cw,e = .returned (.slice (some ⟨wb,wo,none⟩) n cw)∧Below W1.heap.size W1 w'∧Below W.heap.size W w'∧Hid (∀ V,Below w'.heap.size w' V→TelIn V wb wo (whereR 4 p []))):=fun W hW=>by
  refine (rwhere_any 4 F p pb cb pk ck W (fun V hV=>hE.max (hlow V (hW.trans (hV.mono hW.size)))) hlev (by omega) (hHW W hW)).mono ?_
  rintro e w' ⟨v,rfl,hbw,hown⟩
  obtain ⟨g,c,rfl,ht⟩:=owned_tel (fun e=>by rw [e] at hwl;exact hne (List.length_eq_zero_iff.1 hwl.symm)) hown
  exact ⟨g,0,c,by rw [hn,hwl],hW.trans (hbw.mono hW.size),hbw,fun V hV=>ht.below hV⟩
 have HGO:Hid (∀ (V:World) (ab ao wb wo:Nat),Below W1.heap.size W1 V→(∀ W,Below V.heap.size V W→FlatIn W ab ao (flatP 4 p))→(∀ W,Below V.heap.size V W→TelIn W wb wo (whereR 4 p []))→GoIn V V.heap.size ab ao wb wo (flatP 4 p) (whereR 4 p [])):=fun V ab ao wb wo hV hf ht=>go_in hE (hlow V hV) hf ht hwl hall hw120 h12
 have H4:Hid (∀ i,i < (flatP 4 p).length→((flatP 4 p).getD i pt0).body.length≤4000):=fun i hi=>(chk_short (hall _ (by rw [List.getD_eq_getElem?_getD,List.getElem?_eq_getElem hi];exact List.getElem_mem hi))).2
 have HPOST:Hid (∀ (e:Ending) (w':World) (r:Option (List GL)),Below W1.heap.size W1 w'→RGoalsPost W1 r e w'→RGoalsPost w r e w'):=fun e w' r hbw hp=>⟨hb1.trans (hbw.mono hb1.size),by
  cases r with
  | none=>exact hp.2
  | some l =>
   obtain ⟨v,he,ho⟩:=hp.2
   exact ⟨v,he,owns_weaken ho hb1.size⟩⟩
 have HLOW:Hid (∀ W,Below W1.heap.size W1 W→Below w0.heap.size w0 W):=hlow
 have HE:Hid (LEnv w0):=hE
 have HN:Hid (n = (flatP 4 p).length):=hn
 have e0:∀ W,Below W1.heap.size W1 W→W.cell? ⟨w.heap.size,0,none⟩ = some (.string p.ty):=fun W h=>(blk_c (blk_on kW h) 0).trans rfl
 have e1:∀ W,Below W1.heap.size W1 W→W.cell? ⟨w.heap.size,1,none⟩ = some (.string p.cs):=fun W h=>(blk_c (blk_on kW h) 1).trans rfl
 have e2:∀ W,Below W1.heap.size W1 W→W.cell? ⟨w.heap.size,2,none⟩ = some (.string p.id):=fun W h=>(blk_c (blk_on kW h) 2).trans rfl
 have e3:∀ W,Below W1.heap.size W1 W→W.cell? ⟨w.heap.size,3,none⟩ = some (.string p.loc):=fun W h=>(blk_c (blk_on kW h) 3).trans rfl
 have e4:∀ W,Below W1.heap.size W1 W→W.cell? ⟨w.heap.size,4,none⟩ = some (.int .i64 p.how):=fun W h=>(blk_c (blk_on kW h) 4).trans rfl
 have e5:∀ W,Below W1.heap.size W1 W→W.cell? ⟨w.heap.size,5,none⟩ = some (.slice pb p.body.length cb):=fun W h=>(blk_c (blk_on kW h) 5).trans rfl
 have e6:∀ W,Below W1.heap.size W1 W→W.cell? ⟨w.heap.size,6,none⟩ = some (.slice pk p.kids.length ck):=fun W h=>(blk_c (blk_on kW h) 6).trans rfl
 have hb0:Below W1.heap.size W1 W1.drew:=(Below.refl _ _).drew
 have HW1:Hid (W1 = w.alloc (.cells #[.string p.ty,.string p.cs,.string p.id,.string p.loc,.int .i64 p.how,.slice pb p.body.length cb,.slice pk p.kids.length ck] 25)):=hW1
 clear hW1 hb1 kW hlow hHW hwl hall hw120 hne hlev h12 hfl hok hE hb hH hn
 obtain ⟨L,hL⟩:∃ L,flatP 4 p = L:=⟨_,rfl⟩
 obtain ⟨wh,hwh⟩:∃ l,whereR 4 p [] = l:=⟨_,rfl⟩
 rw [hL] at CF HGO H4 HN
 rw [hwh] at CW HGO
 rw [hL,hwh]
 obtain ⟨RES,hRES⟩:∃ r,goalsGo smallU L wh 0 L [] = r:=⟨_,rfl⟩
 have HRES:Hid (goalsGo smallU L wh 0 L [] = RES):=hRES
 rw [hRES]
 clear hL hwh hRES
 generalize p.body.length = nb at *
 generalize p.kids.length = nk at *
 go_enter Tryz.func14,Tryz.ntmps14
 go_upto_region 1 with fail
 rw [← HW1.out]
 go_region_held3 (fun W=>Below W1.heap.size W1 W) (first | assumption | exact hb0) (first
  | (go_at_call 44;refine (CF.out _ ?_).mono ?_;(first | assumption | exact hb0);rintro e w2 ⟨ab,ao,ca,rfl,hb2,hr2,HF2⟩)
  | (go_at_call 16;refine (CW.out _ ?_).mono ?_;(first | assumption | exact hb0);rintro e w3 ⟨wb,wo,cw,rfl,hb3,hr3,HT3⟩))
 ·have HBV:Hid (Below W1.heap.size W1 w3):=hb3
  have HFI:Hid (∀ W,Below w3.heap.size w3 W→FlatIn W ab ao L):=fun W hW=>HF2.out W (hr3.trans (hW.mono hr3.size))
  have HTI:Hid (∀ W,Below w3.heap.size w3 W→TelIn W wb wo wh):=HT3.out
  clear hb2 hr2 HF2 hb3 hr3 HT3 e0 e1 e2 e3 e4 e5 e6 CF CW hb0
  try clear hHeld
  go_wp2_with fail
  refine lg1 w0 HE.out ab ao wb wo n ca cw L wh HN.out w3 (HLOW.out _ HBV.out) (HGO.out _ _ _ _ _ HBV.out HFI.out HTI.out) (fun W hW i hi=>(HFI.out W hW i hi).1) H4.out RES HRES.out _ _ _ _ _ _ _ _ _ _ _ _ _ _ _ _ _ _ _ _ _ _ _ _ _ _ _ _ _ _ _ _ _ _ _ _ _ _ _ _ _ _ _ _ _ _ _ _ _ _ _ _ _ _ _ _ _ _ _ _ _ _ _ _ _ _ _ _ _ _ _ _ _ _ _ _ _ _ _ _ _ _ _ _ _ _ _ _ _ _ _ _ _ _ _ _ _ _ _ _ _ _ _ _ _ _ _ _ _ _ _ _ _ _ _ _ _ _ _ _ _ _ _ _ _ ?_ ?_
  ·intro q2 q3 q8 q9 q10 q11 q12 q14 q15 q16 q17 q18 q25 q26 q27 q28 q29 q30 q31 q32 q33 q34 q35 q36 q37 q38 q39 q40 q41 q42 q43 q44 q45 q46 q47 q48 q49 q50 q51 q52 q53 q54 q55 q56 q57 q58 q59 q60 q61 q62 q63 q64 q65 q66 q67 q68 q69 q70 q71 q72 q73 q74 q75 q76 q77 q78 q79 q80 q81 q82 q83 q84 q85 q86 q87 q88 q89 q90 q91 q92 q93 q94 q95 q96 q97 q98 q99 q100 q101 q102 q103 q104 q105 q106 q107 q108 q109 q110 q111 q112 q113 q114 q115 q116 q117 q118 q119 q120 q121 q122 q123 q124 q125 q126 q127 q128 q129 qy ny cy w9 acc hres hb9 hn9 _ hO9
   have HP:Hid (RGoalsPost w RES (.returned (.tuple #[.slice qy ny cy,.int .i64 0])) w9):=by
    refine HPOST.out _ _ _ (HBV.out.trans (hb9.mono HBV.out.size)) ⟨HBV.out.trans (hb9.mono HBV.out.size),?_⟩
    rw [hres]
    refine ⟨_,rfl,?_⟩
    rw [← hn9]
    exact owns_weaken hO9 HBV.out.size
   clear hres hb9 hn9 hO9
   go_wp2_with fail
   go_ret2
   exact HP.out
  ·intro q7 q8 q9 q10 q11 q12 q14 q15 q16 q17 q18 q25 q26 q27 q28 q29 q30 q31 q32 q33 q34 q35 q36 q37 q38 q39 q40 q41 q42 q43 q44 q45 q46 q47 q48 q49 q50 q51 q52 q53 q54 q55 q56 q57 q58 q59 q60 q61 q62 q63 q64 q65 q66 q67 q68 q69 q70 q71 q72 q73 q74 q75 q76 q77 q78 q79 q80 q81 q82 q83 q84 q85 q86 q87 q88 q89 q90 q91 q92 q93 q94 q95 q96 q97 q98 q99 q100 q101 q102 q103 q104 q105 q106 q107 q108 q109 q110 q111 q112 q113 q114 q115 q116 q117 q118 q119 q120 q121 q122 q123 q124 q125 q126 q127 q128 q129 w9 hres hb9
   have HP:Hid (RGoalsPost w RES (.returned (.tuple #[.slice none 0 0,.int .i64 2])) w9):=by
    refine HPOST.out _ _ _ (HBV.out.trans (hb9.mono HBV.out.size)) ⟨HBV.out.trans (hb9.mono HBV.out.size),?_⟩
    rw [hres]
   clear hres hb9
   go_wp2_with fail
   go_ret2
   exact HP.out
end Go.Proofs.YtbbfcbodhmeanaaGreatDoor



import Derived.Test.YtbbfcbodhmeanaaGreatDoorXrewritesays52
namespace Go.Proofs.YtbbfcbodhmeanaaGreatDoor
open Go.RowKit
theorem like_bad {u:UL} (h:likeU u = true):checkU u ≠ 0:=by
 intro h0
 obtain ⟨_,_,hf,_⟩:=checkU_zero h0
 have hh:u.hh = false:=by unfold likeU at h;simp at h;exact h.1
 unfold frmU at hf
 rw [h,hh] at hf
 split at hf <;> simp at hf
theorem pre_two (s:ByteArray) (w:World):Calls Tryz.prog 59 #[.string s,.string ⟨#[47,47]⟩] w fun e w'=>e = .returned (.bool (preSS s.data.toList))∧w' = w:=by
 refine (Tryz.strings_HasPrefix s ⟨#[47,47]⟩ w).mono ?_
 rintro e w' ⟨rfl,rfl⟩
 refine ⟨?_,rfl⟩
 rw [show Lib.hasPrefix s.data.toList (ByteArray.mk #[47,47]).data.toList = preSS s.data.toList from by
  show Lib.hasPrefix s.data.toList [47,47] = preSS s.data.toList
  match s.data.toList with
  | []=>rfl
  | [a]=>simp [Lib.hasPrefix,List.isPrefixOf,preSS]
  | a::b::l=>simp [Lib.hasPrefix,List.isPrefixOf,preSS,Bool.beq_comm]]
def dirD (bp:ByteArray) (bhh:Bool):ByteArray:=if (bhh && bp.data.toList.isEmpty) = true then ⟨#[47]⟩ else bar (dirP bp.data.toList)
theorem dirD_size (bp:ByteArray) (bhh:Bool) (h:bp.size≤120):(dirD bp bhh).size≤121:=by
 obtain ⟨d1,d2,d3⟩:=last_dir bp
 unfold dirD
 split
 ·show 1≤121;omega
 ·rw [bar_size,d3,List.length_take]
  have:=Lib.size_eq bp
  omega
theorem dirD_at (bp:ByteArray) (bhh:Bool) :
  (bhh = true∧bp.data.toList = []∧Lib.lastIndexByte bp 47 = -1∧dirD bp bhh = ⟨#[47]⟩) ∨ ((bhh = false ∨ (bhh = true∧bp.data.toList ≠ []))∧((Lib.lastIndexByte bp 47 = -1∧dirD bp bhh = E0) ∨ ∃ m:Nat,Lib.lastIndexByte bp 47 = (m:Int)∧m < bp.size∧bp.extract 0 (m + 1) = dirD bp bhh)):=by
 obtain ⟨d1,d2,d3⟩:=last_dir bp
 by_cases hA:(bhh && bp.data.toList.isEmpty) = true
 ·left
  have hA':=hA
  rw [Bool.and_eq_true] at hA'
  have hbe:bp.data.toList = []:=by simpa using hA'.2
  have hz:bp.size = 0:=by rw [Lib.size_eq,hbe];rfl
  refine ⟨hA'.1,hbe,by omega,?_⟩
  unfold dirD
  rw [if_pos hA]
 ·right
  refine ⟨?_,?_⟩
  ·cases bhh with
   | false=>exact .inl rfl
   | true=>refine .inr ⟨rfl,?_⟩;intro h;apply hA;rw [h];rfl
  ·have hD:dirD bp bhh = bar (dirP bp.data.toList):=by unfold dirD;rw [if_neg hA]
   rw [hD,d3]
   by_cases hk:Lib.lastIndexByte bp 47 = -1
   ·left
    refine ⟨hk,?_⟩
    rw [hk]
    rfl
   ·right
    refine ⟨(Lib.lastIndexByte bp 47).toNat,by omega,by omega,?_⟩
    apply ba_inj
    rw [Lib.extract_data,show (Lib.lastIndexByte bp 47).toNat + 1 = (Lib.lastIndexByte bp 47 + 1).toNat from by omega]
    simp [bar]
theorem fill_of (bs bh bp bq bf us uh up uq uf:ByteArray) (bhh bhq bhf uhh uhq uhf:Bool) (b1:bs.size≤120) (b2:bh.size≤120) (b3:bp.size≤120) (b4:bq.size≤120) (u1:us.size≤120) (u2:uh.size≤120) (u3:up.size≤120) (u4:uq.size≤120) :
  ∃ s1 h1 p1 q1 hh1 hq1,FillAt bs bh bp bq us uh up uq s1 h1 p1 q1 (dirD bp bhh) bhh bhq uhh uhq hh1 hq1 (preS up.data.toList)∧fullU (UV.l ⟨bs,bhh,bh,bp,bhq,bq,bhf,bf⟩) (UV.l ⟨us,uhh,uh,up,uhq,uq,uhf,uf⟩) = UV.l ⟨s1,hh1,h1,p1,hq1,q1,uhf,uf⟩∧s1.size≤120∧h1.size≤120∧p1.size≤250∧q1.size≤120:=by
 have hds:=dirD_size bp bhh b3
 by_cases hue:us.data.toList = []
 ·obtain rfl:=bempty_yes us hue
  cases uhh with
  | true=>exact ⟨_,_,_,_,_,_,.inr (.inl ⟨rfl,rfl,rfl,rfl,rfl,rfl,rfl,rfl⟩),rfl,b1,u2,by omega,u4⟩
  | false =>
   by_cases hpe:up.data.toList = []
   ·obtain rfl:=bempty_yes up hpe
    cases uhq with
    | true=>exact ⟨_,_,_,_,_,_,.inr (.inr (.inl ⟨rfl,rfl,rfl,rfl,rfl,rfl,rfl,rfl,rfl,rfl⟩)),rfl,b1,b2,by omega,u4⟩
    | false=>exact ⟨_,_,_,_,_,_,.inr (.inr (.inr (.inl ⟨rfl,rfl,rfl,rfl,rfl,rfl,rfl,rfl,rfl,rfl⟩))),rfl,b1,b2,by omega,b4⟩
   ·have hce:fullU (UV.l ⟨bs,bhh,bh,bp,bhq,bq,bhf,bf⟩) (UV.l ⟨⟨#[]⟩,false,uh,up,uhq,uq,uhf,uf⟩) = if preS up.data.toList then ⟨bs.data.toList,bhh,bh.data.toList,up.data.toList,uhq,uq.data.toList,uhf,uf.data.toList⟩ else if bhh && bp.data.toList.isEmpty then ⟨bs.data.toList,bhh,bh.data.toList,47::up.data.toList,uhq,uq.data.toList,uhf,uf.data.toList⟩ else ⟨bs.data.toList,bhh,bh.data.toList,dirP bp.data.toList ++ up.data.toList,uhq,uq.data.toList,uhf,uf.data.toList⟩:=by
     show compU (UV.l ⟨bs,bhh,bh,bp,bhq,bq,bhf,bf⟩) (UV.l ⟨⟨#[]⟩,false,uh,up,uhq,uq,uhf,uf⟩) = _
     unfold compU UV.l
     simp only
     rw [if_neg (by simp),if_neg (by rw [isE_no up hpe];simp)]
    rw [hce]
    cases hps:preS up.data.toList with
    | true =>
     rw [if_pos rfl]
     exact ⟨_,_,_,_,_,_,.inr (.inr (.inr (.inr (.inl ⟨rfl,rfl,rfl,rfl,rfl,hpe,rfl,rfl,rfl,rfl⟩)))),rfl,b1,b2,by omega,u4⟩
    | false =>
     rw [if_neg (by simp)]
     refine ⟨_,_,_,_,_,_,.inr (.inr (.inr (.inr (.inr ⟨rfl,rfl,rfl,rfl,rfl,hpe,rfl,rfl,rfl,rfl⟩)))),?_,b1,b2,by rw [ByteArray.size_append];omega,u4⟩
     unfold dirD
     unfold UV.l
     simp only [data_app]
     split
     ·rfl
     ·rfl
 ·have hfull:fullU (UV.l ⟨bs,bhh,bh,bp,bhq,bq,bhf,bf⟩) (UV.l ⟨us,uhh,uh,up,uhq,uq,uhf,uf⟩) = UV.l ⟨us,uhh,uh,up,uhq,uq,uhf,uf⟩:=by
   unfold fullU
   rw [if_neg]
   show ¬ us.data.toList.isEmpty = true
   rw [isE_no us hue];simp
  exact ⟨_,_,_,_,_,_,.inl ⟨hue,rfl,rfl,rfl,rfl,rfl,rfl⟩,hfull,u1,u2,by omega,u4⟩
set_option maxHeartbeats 4000000 in
set_option maxRecDepth 100000 in
theorem rled_b (bs bh bp bq bf us uh up uq uf:ByteArray) (bhh bhq bhf uhh uhq uhf:Bool) (n:Nat) (hn:n ≠ 0) (w:World)
  (CB:∀ W,Below w.heap.size w W→Calls Tryz.prog 102 #[.agg (cellsU bs bhh bh bp bhq bq bhf bf)] W fun e w'=>e = .returned (.int .i64 (n:Int))∧Below W.heap.size W w') :
  Calls Tryz.prog 54 #[.agg (cellsU bs bhh bh bp bhq bq bhf bf),.agg (cellsU us uhh uh up uhq uq uhf uf)] w fun e w'=>e = .returned (.tuple #[zeroU,.int .i64 (n:Int)])∧Below w.heap.size w w':=by
 have HCB:Hid (∀ W,Below w.heap.size w W→_):=CB
 clear CB
 have P0:=three_n w 85 (cellsU bs bhh bh bp bhq bq bhf bf) (cellsU us uhh uh up uhq uq uhf uf) (cellsU E0 false E0 E0 false E0 false E0)
 have hn0:((n:Int) == 0) = false:=by rw [beq_eq_false_iff_ne];omega
 have hn1:¬ (n:Int) = 0:=by omega
 go_enter Tryz.func54,Tryz.ntmps54
 go_wp2_with fail
 obtain ⟨W0,hW0⟩:∃ W,W = ((w.alloc (.cells (cellsU bs bhh bh bp bhq bq bhf bf) 85)).alloc (.cells (cellsU us uhh uh up uhq uq uhf uf) 85)).alloc (.cells (cellsU E0 false E0 E0 false E0 false E0) 85):=⟨_,rfl⟩
 rw [← hW0] at P0
 rw [← hW0]
 clear hW0
 refine (HCB.out _ P0.1).mono ?_
 rintro e w1 ⟨rfl,hb1⟩
 have P1:=P0.below hb1
 clear HCB hb1 P0
 go_wp2_with fail
 refine (lbad_any _ _).mono ?_
 rintro e w9 ⟨rfl,hb9⟩
 have P9:=P1.below hb9
 clear hb9 P1
 obtain ⟨r0,r1,r2,r3,r4,r5,r6,r7,rf⟩:=cells_8 P9.2.2.2
 go_wp2
 refine bodyPost_ret (v:=.tuple #[zeroU,.int .i64 (n:Int)]) ?_ rfl ⟨rfl,?_⟩
 ·rw [results_cell_tmp rfl]
  go_simp
 ·exact ((((((((P9.1.setCell (Nat.le_add_right w.heap.size 2) _).setCell (Nat.le_add_right w.heap.size 2) _).setCell (Nat.le_add_right w.heap.size 2) _).setCell (Nat.le_add_right w.heap.size 2) _).setCell (Nat.le_add_right w.heap.size 2) _).setCell (Nat.le_add_right w.heap.size 2) _).setCell (Nat.le_add_right w.heap.size 2) _).setCell (Nat.le_add_right w.heap.size 2) _)
set_option maxHeartbeats 4000000 in
set_option maxRecDepth 100000 in
theorem rled_u (bs bh bp bq bf us uh up uq uf:ByteArray) (bhh bhq bhf uhh uhq uhf:Bool) (n:Nat) (hn:n ≠ 0) (w:World)
  (CB:∀ W,Below w.heap.size w W→Calls Tryz.prog 102 #[.agg (cellsU bs bhh bh bp bhq bq bhf bf)] W fun e w'=>e = .returned (.int .i64 0)∧Below W.heap.size W w')
  (CU:∀ W,Below w.heap.size w W→Calls Tryz.prog 102 #[.agg (cellsU us uhh uh up uhq uq uhf uf)] W fun e w'=>e = .returned (.int .i64 (n:Int))∧Below W.heap.size W w') :
  Calls Tryz.prog 54 #[.agg (cellsU bs bhh bh bp bhq bq bhf bf),.agg (cellsU us uhh uh up uhq uq uhf uf)] w fun e w'=>e = .returned (.tuple #[zeroU,.int .i64 (n:Int)])∧Below w.heap.size w w':=by
 have HCB:Hid (∀ W,Below w.heap.size w W→_):=CB
 have HCU:Hid (∀ W,Below w.heap.size w W→_):=CU
 clear CB CU
 have P0:=three_n w 85 (cellsU bs bhh bh bp bhq bq bhf bf) (cellsU us uhh uh up uhq uq uhf uf) (cellsU E0 false E0 E0 false E0 false E0)
 have hn0:((n:Int) == 0) = false:=by rw [beq_eq_false_iff_ne];omega
 have hn1:¬ (n:Int) = 0:=by omega
 go_enter Tryz.func54,Tryz.ntmps54
 go_wp2_with fail
 obtain ⟨W0,hW0⟩:∃ W,W = ((w.alloc (.cells (cellsU bs bhh bh bp bhq bq bhf bf) 85)).alloc (.cells (cellsU us uhh uh up uhq uq uhf uf) 85)).alloc (.cells (cellsU E0 false E0 E0 false E0 false E0) 85):=⟨_,rfl⟩
 rw [← hW0] at P0
 rw [← hW0]
 clear hW0
 refine (HCB.out _ P0.1).mono ?_
 rintro e w1 ⟨rfl,hb1⟩
 have P1:=P0.below hb1
 clear HCB hb1 P0
 obtain ⟨c0,c1,c2,c3,c4,c5,c6,c7,cf⟩:=cells_8 P1.2.2.1
 go_wp2_with fail
 refine (HCU.out _ P1.1).mono ?_
 rintro e w2 ⟨rfl,hb2⟩
 have P2:=P1.below hb2
 clear HCU hb2 P1 c0 c1 c2 c3 c4 c5 c6 c7 cf
 go_wp2_with fail
 refine (lbad_any _ _).mono ?_
 rintro e w9 ⟨rfl,hb9⟩
 have P9:=P2.below hb9
 clear hb9 P2
 obtain ⟨r0,r1,r2,r3,r4,r5,r6,r7,rf⟩:=cells_8 P9.2.2.2
 go_wp2
 refine bodyPost_ret (v:=.tuple #[zeroU,.int .i64 (n:Int)]) ?_ rfl ⟨rfl,?_⟩
 ·rw [results_cell_tmp rfl]
  go_simp
 ·exact ((((((((P9.1.setCell (Nat.le_add_right w.heap.size 2) _).setCell (Nat.le_add_right w.heap.size 2) _).setCell (Nat.le_add_right w.heap.size 2) _).setCell (Nat.le_add_right w.heap.size 2) _).setCell (Nat.le_add_right w.heap.size 2) _).setCell (Nat.le_add_right w.heap.size 2) _).setCell (Nat.le_add_right w.heap.size 2) _).setCell (Nat.le_add_right w.heap.size 2) _)
set_option maxHeartbeats 4000000 in
set_option maxRecDepth 100000 in
theorem rled_S (bh bp bq bf us uh up uq uf:ByteArray) (bhh bhq bhf uhh uhq uhf:Bool) (w:World)
  (CB:∀ W,Below w.heap.size w W→Calls Tryz.prog 102 #[.agg (cellsU E0 bhh bh bp bhq bq bhf bf)] W fun e w'=>e = .returned (.int .i64 0)∧Below W.heap.size W w')
  (CU:∀ W,Below w.heap.size w W→Calls Tryz.prog 102 #[.agg (cellsU us uhh uh up uhq uq uhf uf)] W fun e w'=>e = .returned (.int .i64 0)∧Below W.heap.size W w') :
  Calls Tryz.prog 54 #[.agg (cellsU E0 bhh bh bp bhq bq bhf bf),.agg (cellsU us uhh uh up uhq uq uhf uf)] w fun e w'=>e = .returned (.tuple #[zeroU,.int .i64 4])∧Below w.heap.size w w':=by
 have HCB:Hid (∀ W,Below w.heap.size w W→_):=CB
 have HCU:Hid (∀ W,Below w.heap.size w W→_):=CU
 clear CB CU
 have P0:=three_n w 85 (cellsU E0 bhh bh bp bhq bq bhf bf) (cellsU us uhh uh up uhq uq uhf uf) (cellsU E0 false E0 E0 false E0 false E0)
 have hbe:=bempty_t E0 rfl
 go_enter Tryz.func54,Tryz.ntmps54
 go_wp2_with fail
 obtain ⟨W0,hW0⟩:∃ W,W = ((w.alloc (.cells (cellsU E0 bhh bh bp bhq bq bhf bf) 85)).alloc (.cells (cellsU us uhh uh up uhq uq uhf uf) 85)).alloc (.cells (cellsU E0 false E0 E0 false E0 false E0) 85):=⟨_,rfl⟩
 rw [← hW0] at P0
 rw [← hW0]
 clear hW0
 refine (HCB.out _ P0.1).mono ?_
 rintro e w1 ⟨rfl,hb1⟩
 have P1:=P0.below hb1
 clear HCB hb1 P0
 obtain ⟨c0,c1,c2,c3,c4,c5,c6,c7,cf⟩:=cells_8 P1.2.2.1
 go_wp2_with fail
 refine (HCU.out _ P1.1).mono ?_
 rintro e w2 ⟨rfl,hb2⟩
 have P2:=P1.below hb2
 clear HCU hb2 P1 c0 c1 c2 c3 c4 c5 c6 c7 cf
 obtain ⟨d0,d1,d2,d3,d4,d5,d6,d7,df⟩:=cells_8 P2.2.1
 go_wp2_with fail
 refine (lbad_any _ _).mono ?_
 rintro e w9 ⟨rfl,hb9⟩
 have P9:=P2.below hb9
 clear hb9 P2 d0 d1 d2 d3 d4 d5 d6 d7 df
 obtain ⟨r0,r1,r2,r3,r4,r5,r6,r7,rf⟩:=cells_8 P9.2.2.2
 go_wp2
 refine bodyPost_ret (v:=.tuple #[zeroU,.int .i64 4]) ?_ rfl ⟨rfl,?_⟩
 ·rw [results_cell_tmp rfl]
  go_simp
 ·exact ((((((((P9.1.setCell (Nat.le_add_right w.heap.size 2) _).setCell (Nat.le_add_right w.heap.size 2) _).setCell (Nat.le_add_right w.heap.size 2) _).setCell (Nat.le_add_right w.heap.size 2) _).setCell (Nat.le_add_right w.heap.size 2) _).setCell (Nat.le_add_right w.heap.size 2) _).setCell (Nat.le_add_right w.heap.size 2) _).setCell (Nat.le_add_right w.heap.size 2) _)
theorem end_at (y:UV) (ss:Bool) (hs:ss = preSS y.pth.data.toList) :
  (checkU y.l = 0∧(ofL (endU y.l).1).v = y.v∧(endU y.l).2 = 0) ∨ (checkU y.l ≠ 0∧(ofL (endU y.l).1).v = zeroU∧(endU y.l).2 = if (!y.hh && ss) = true then 4 else checkU y.l):=by
 have hlk:likeU y.l = (!y.hh && ss):=by rw [hs];rfl
 unfold endU
 cases hl:likeU y.l with
 | true =>
  refine .inr ⟨like_bad hl,?_,?_⟩
  ·rw [if_pos rfl];rfl
  ·rw [if_pos rfl,if_pos (hlk.symm.trans hl)]
 | false =>
  rw [if_neg (by simp)]
  unfold checkedU
  by_cases h0:checkU y.l = 0
  ·refine .inl ⟨h0,?_,?_⟩
   ·rw [if_pos h0];rfl
   ·rw [if_pos h0]
  ·refine .inr ⟨h0,?_,?_⟩
   ·rw [if_neg h0];rfl
   ·rw [if_neg h0,if_neg (by rw [← hlk,hl];simp)]
theorem rled_any (b u:UV) (hb:b.short maxLen) (hu:u.short maxLen) (w:World) (hM:MaxAt w) :
  Calls Tryz.prog 54 #[b.v,u.v] w fun e w'=>UPost w (leadU b.l u.l) e w':=by
 have CB:=fun W (h:Below w.heap.size w W)=>rchk_any b hb W (hM.below h)
 have CU:=fun W (h:Below w.heap.size w W)=>rchk_any u hu W (hM.below h)
 obtain ⟨bs,bhh,bh,bp,bhq,bq,bhf,bf⟩:=b
 obtain ⟨us,uhh,uh,up,uhq,uq,uhf,uf⟩:=u
 unfold leadU
 by_cases hcb:checkU (UV.l ⟨bs,bhh,bh,bp,bhq,bq,bhf,bf⟩) = 0
 ·by_cases hcu:checkU (UV.l ⟨us,uhh,uh,up,uhq,uq,uhf,uf⟩) = 0
  ·rw [if_neg (by simpa using hcb),if_neg (by simpa using hcu)]
   rw [hcb] at CB
   rw [hcu] at CU
   have sb:=checkU_short hcb
   have su:=checkU_short hcu
   by_cases hse:bs.data.toList = []
   ·obtain rfl:=bempty_yes bs hse
    rw [if_pos (by rfl)]
    refine (rled_S bh bp bq bf us uh up uq uf bhh bhq bhf uhh uhq uhf w CB CU).mono ?_
    rintro e w' ⟨rfl,hb⟩
    exact ⟨rfl,hb⟩
   ·rw [if_neg (by show ¬ bs.data.toList.isEmpty = true;rw [isE_no bs hse];simp)]
    obtain ⟨b1,b2,b3,b4,b5⟩:=sb
    obtain ⟨u1,u2,u3,u4,u5⟩:=su
    simp only at b1 b2 b3 b4 b5 u1 u2 u3 u4 u5
    have hfp:=full_path _ _ hcb hcu
    obtain ⟨s1,h1,p1,q1,hh1,hq1,XF,hfull,l1,l2,l3,l4⟩:=fill_of bs bh bp bq bf us uh up uq uf bhh bhq bhf uhh uhq uhf b1 b2 b3 b4 u1 u2 u3 u4
    rw [hfull] at hfp
    rw [hfull]
    have hul:=undot_len p1.data.toList
    have hpl:=Lib.size_eq p1
    have hds:=dirD_size bp bhh b3
    have CL:∀ W,Calls Tryz.prog 104 #[.string bp,.string ⟨#[47]⟩] W fun e w'=>e = .returned (.int .i64 (Lib.lastIndexByte bp 47))∧w' = W:=fun W=>Tryz.strings_LastIndex_one bp ⟨#[47]⟩ rfl (by omega) W
    obtain ⟨p2,hund,hp2,CQ⟩:∃ p2:ByteArray,undU (UV.l ⟨s1,hh1,h1,p1,hq1,q1,uhf,uf⟩) = UV.l ⟨s1,hh1,h1,p2,hq1,q1,uhf,uf⟩∧p2.size≤300∧((hh1 = true∧∀ W,Below w.heap.size w W→Calls Tryz.prog 105 #[.string p1] W fun e w'=>e = .returned (.string p2)∧Below W.heap.size W w') ∨ (hh1 = false∧preS p1.data.toList = true∧∀ W,Below w.heap.size w W→Calls Tryz.prog 105 #[.string p1] W fun e w'=>e = .returned (.string p2)∧Below W.heap.size W w') ∨ (hh1 = false∧preS p1.data.toList = false∧p1 = p2)):=by
     cases hh1 with
     | true =>
      have hq:=hfp (.inl rfl)
      exact ⟨bar (undotU p1.data.toList),rfl,by rw [bar_size];omega,.inl ⟨rfl,fun W h=>rdots_any p1 W (hM.below h) (by omega) hq⟩⟩
     | false =>
      cases hps:preS p1.data.toList with
      | true =>
       refine ⟨bar (undotU p1.data.toList),?_,by rw [bar_size];omega,.inr (.inl ⟨rfl,rfl,fun W h=>rdots_any p1 W (hM.below h) (by omega) (.inr hps)⟩)⟩
       unfold undU
       rw [if_pos (by show (false || preS p1.data.toList) = true;rw [hps];rfl)]
       rfl
      | false =>
       refine ⟨p1,?_,by omega,.inr (.inr ⟨rfl,rfl,rfl⟩)⟩
       unfold undU
       rw [if_neg (by show ¬ (false || preS p1.data.toList) = true;rw [hps];simp)]
    rw [hund]
    have HR:=end_at ⟨s1,hh1,h1,p2,hq1,q1,uhf,uf⟩ _ rfl
    refine (rled_walk bs bh bp bq bf us uh up uq uf s1 h1 p1 q1 (dirD bp bhh) p2 bhh bhq bhf uhh uhq uhf hh1 hq1 (preS up.data.toList) (preS p1.data.toList) (preSS p2.data.toList) (Lib.lastIndexByte bp 47) _ _ (checkU (UV.l ⟨s1,hh1,h1,p2,hq1,q1,uhf,uf⟩)) w hse XF (fun _=>dirD_at bp bhh) b3 u3 (by omega) CL CB CU (fun W=>pre_one up W) CQ (fun W=>pre_one p1 W) (fun W h=>rchk_any ⟨s1,hh1,h1,p2,hq1,q1,uhf,uf⟩ (by unfold maxLen;exact ⟨by simp only;omega,by simp only;omega,by simp only;omega,by simp only;omega,by simp only;omega⟩) W (hM.below h)) (fun W=>pre_two p2 W) HR).mono ?_
    rintro e w' ⟨rfl,hb⟩
    exact ⟨rfl,hb⟩
  ·rw [if_neg (by simpa using hcb),if_pos hcu]
   rw [hcb] at CB
   refine (rled_u bs bh bp bq bf us uh up uq uf bhh bhq bhf uhh uhq uhf _ hcu w CB CU).mono ?_
   rintro e w' ⟨rfl,hb⟩
   exact ⟨rfl,hb⟩
 ·rw [if_pos hcb]
  refine (rled_b bs bh bp bq bf us uh up uq uf bhh bhq bhf uhh uhq uhf _ hcb w CB).mono ?_
  rintro e w' ⟨rfl,hb⟩
  exact ⟨rfl,hb⟩
end Go.Proofs.YtbbfcbodhmeanaaGreatDoor



namespace Go.Proofs.YtbbfcbodhmeanaaGreatDoor
open Go.RowKit
def CutAt1 (s A R:ByteArray) (F:Bool) (k:Int):Prop:=(F = false∧k = -1∧A = s∧R = E0) ∨ (F = true∧∃ n:Nat,k = (n:Int)∧n < s.size∧s.extract 0 n = A∧s.extract (n + 1) s.size = R)
def HostAt (X PT H0 H:ByteArray) (pp:Bool) (j:Nat):Prop:=(pp = false∧PT = X∧H = E0∧(X.size < 2 ∨ (2≤X.size∧((X.extract 0 2).toList == [47,47]) = false))) ∨ (pp = true∧2≤X.size∧((X.extract 0 2).toList == [47,47]) = true∧2 + j≤X.size∧X.extract 2 (2 + j) = H0∧X.extract (2 + j) X.size = PT)
set_option maxHeartbeats 1000000 in
theorem rbad_any (n:Int) (w:World) :
  Calls Tryz.prog 99 #[.int .i64 n] w fun e w'=>e = .returned (.tuple #[zeroU,.int .i64 n])∧Below w.heap.size w w':=by
 go_enter Tryz.func99,Tryz.ntmps99
 go_wp2
 refine bodyPost_ret (v:=.tuple #[zeroU,.int .i64 n]) ?_ rfl ⟨rfl,?_⟩
 ·rw [results_cell_tmp rfl]
  go_simp
 ·exact (Below.refl _ _).alloc (Nat.le_refl _) _
set_option maxHeartbeats 8000000 in
set_option maxRecDepth 100000 in
theorem rread_walk (s A1 R1 A2 R2 A3 X SC PT H0 H:ByteArray) (F1 F2 F3 okS pp:Bool) (k1 k2 k3:Int) (sl j n:Nat) (RV:Value) (RN:Nat) (w:World) (hs:s.size≤120) (hA1:A1.size≤120) (hA2:A2.size≤120) (hsl:sl≤A2.size) (hA3:A2.extract 0 sl = A3)
  (X1:Hid (CutAt1 s A1 R1 F1 k1)) (X2:Hid (CutAt1 A1 A2 R2 F2 k2)) (X4:Hid (HostAt X PT H0 H pp j)) (hXs:X.size≤120)
  (X3:Hid ((F3 = false∧k3 = -1∧X = A2∧SC = E0) ∨ (F3 = true∧∃ m:Nat,k3 = (m:Int)∧m < A2.size∧A2.extract (m + 1) A2.size = X ∧
   (∀ W,Calls Tryz.prog 100 #[.string (A2.extract 0 m)] W fun e w'=>e = .returned (.string SC)∧Below W.heap.size W w')∧(okS = false→SC.data.toList = [] ∨ (SC.data.toList ≠ []∧∀ W,Calls Tryz.prog 101 #[.string SC] W fun e w'=>e = .returned (.bool false)∧Below W.heap.size W w')) ∧
   (okS = true→SC.data.toList ≠ []∧∀ W,Calls Tryz.prog 101 #[.string SC] W fun e w'=>e = .returned (.bool true)∧Below W.heap.size W w'))))
  (HB:Hid (F3 = true→okS = false→RV = zeroU∧RN = 1)) (HG:Hid ((F3 = false ∨ okS = true)→RN = n∧RV = if n = 0 then .agg (cellsU SC pp H PT F2 R2 F1 R1) else zeroU))
  (CI1:Hid (∀ W,Calls Tryz.prog 86 #[.string s,.string ⟨#[35]⟩] W fun e w'=>e = .returned (.int .i64 k1)∧w' = W))
  (CI2:Hid (∀ W,Calls Tryz.prog 86 #[.string A1,.string ⟨#[63]⟩] W fun e w'=>e = .returned (.int .i64 k2)∧w' = W))
  (CI3:Hid (∀ W,Calls Tryz.prog 86 #[.string (A2 ++ ⟨#[47]⟩),.string ⟨#[47]⟩] W fun e w'=>e = .returned (.int .i64 (sl:Int))∧w' = W))
  (CI4:Hid (∀ W,Calls Tryz.prog 86 #[.string A3,.string ⟨#[58]⟩] W fun e w'=>e = .returned (.int .i64 k3)∧w' = W))
  (CI5:Hid (pp = true→∀ W,Calls Tryz.prog 86 #[.string (X.extract 2 X.size ++ ⟨#[47]⟩),.string ⟨#[47]⟩] W fun e w'=>e = .returned (.int .i64 (j:Int))∧w' = W))
  (CH:Hid (pp = true→∀ W,Calls Tryz.prog 100 #[.string H0] W fun e w'=>e = .returned (.string H)∧Below W.heap.size W w'))
  (CK:Hid (∀ W,Below w.heap.size w W→Calls Tryz.prog 102 #[.agg (cellsU SC pp H PT F2 R2 F1 R1)] W fun e w'=>e = .returned (.int .i64 (n:Int))∧Below W.heap.size W w')) :
  Calls Tryz.prog 53 #[.string s] w fun e w'=>e = .returned (.tuple #[RV,.int .i64 (RN:Int)])∧Below w.heap.size w w':=by
 have hi:¬ (120:Int) < (s.size:Int):=by omega
 have P0:=two_new w 85 (cellsU E0 false E0 E0 false E0 false E0) (cellsU E0 false E0 E0 false E0 false E0)
 go_enter Tryz.func53,Tryz.ntmps53
 go_wp2_with fail
 obtain ⟨W0,hW0⟩:∃ W,W = (w.alloc (.cells (cellsU E0 false E0 E0 false E0 false E0) 85)).alloc (.cells (cellsU E0 false E0 E0 false E0 false E0) 85):=⟨_,rfl⟩
 rw [← hW0] at P0
 rw [← hW0]
 clear hW0
 refine (CI1.out _).mono ?_
 rintro e w1 ⟨rfl,hw1⟩
 subst hw1
 clear CI1
 go_upto_if 22 with fail
 go_cut [0] (fun c wx=>c = .string A1∧Two w 85 (cellsU E0 false E0 E0 false E0 false E0) (cellsU E0 false E0 E0 false E0 F1 R1) wx)
 case first =>
  clear X2 X3 X4 HB HG CI2 CI3 CI4 CI5 CH CK
  obtain ⟨c0,c1,c2,c3,c4,c5,c6,c7,cf⟩:=P0.cells
  rcases X1.out with ⟨rfl,rfl,rfl,rfl⟩ | ⟨rfl,m,rfl,hn,e1,e2⟩
  ·go_wp2_with fail
   go_meet
   exact ⟨rfl,P0⟩
  ·have hni:(0:Int)≤(m:Int):=by omega
   have hn1:(m:Int)≤(s.size:Int):=by omega
   have hn2:(m:Int) + 1≤(s.size:Int):=by omega
   have hw1:IntKind.i64.wrap ((m:Int) + 1) = (m:Int) + 1:=wrap_small _ (by omega) (by omega)
   go_wp2_with fail
   go_region
   all_goals (
    go_wp2_with fail
    go_meet
    exact ⟨rfl,((P0.set6 _).set7 _).drew⟩)
 case rest =>
 obtain ⟨rfl,P1⟩:=hcut
 clear X1 P0
 obtain ⟨c0,c1,c2,c3,c4,c5,c6,c7,cf⟩:=P1.cells
 go_wp2_with fail
 refine (CI2.out _).mono ?_
 rintro e w1 ⟨rfl,hw1⟩
 subst hw1
 clear CI2
 go_upto_if 35 with fail
 go_cut [0] (fun c wx=>c = .string A2∧Two w 85 (cellsU E0 false E0 E0 false E0 false E0) (cellsU E0 false E0 E0 F2 R2 F1 R1) wx)
 case first =>
  clear X3 X4 HB HG CI3 CI4 CI5 CH CK
  clear c0 c1 c2 c3 c4 c5 c6 c7 cf
  obtain ⟨c0,c1,c2,c3,c4,c5,c6,c7,cf⟩:=P1.cells
  rcases X2.out with ⟨rfl,rfl,rfl,rfl⟩ | ⟨rfl,m,rfl,hn,e1,e2⟩
  ·go_wp2_with fail
   go_meet
   exact ⟨rfl,P1⟩
  ·have hni:(0:Int)≤(m:Int):=by omega
   have hn1:(m:Int)≤(A1.size:Int):=by omega
   have hn2:(m:Int) + 1≤(A1.size:Int):=by omega
   have hw1:IntKind.i64.wrap ((m:Int) + 1) = (m:Int) + 1:=wrap_small _ (by omega) (by omega)
   go_wp2_with fail
   go_region
   all_goals (
    go_wp2_with fail
    go_meet
    exact ⟨rfl,((P1.set4 _).set5 _).drew⟩)
 case rest =>
 obtain ⟨rfl,P2⟩:=hcut
 clear X2 P1
 clear c0 c1 c2 c3 c4 c5 c6 c7 cf
 have hcat:¬ 9223372036854775807 < A2.size + (⟨#[47]⟩:ByteArray).size:=by
  have:(⟨#[47]⟩:ByteArray).size = 1:=rfl
  omega
 have hsi:(sl:Int)≤(A2.size:Int):=by omega
 go_wp2_with fail
 refine (CI3.out _).mono ?_
 rintro e w1 ⟨rfl,hw1⟩
 subst hw1
 clear CI3
 go_wp2_with fail
 refine (CI4.out _).mono ?_
 rintro e w1 ⟨rfl,hw1⟩
 subst hw1
 clear CI4
 go_upto_if 53 with fail
 go_cut [0] (fun c wx=>c = .string X∧Hid (F3 = false ∨ okS = true)∧Two w 85 (cellsU E0 false E0 E0 false E0 false E0) (cellsU SC false E0 E0 F2 R2 F1 R1) wx)
 case first =>
  clear X4 HG CI5 CH CK hcat hsi
  obtain ⟨c0,c1,c2,c3,c4,c5,c6,c7,cf⟩:=P2.cells
  rcases X3.out with ⟨rfl,rfl,rfl,rfl⟩ | ⟨rfl,m,rfl,hn,e2,CS,Cno,Cyes⟩
  ·clear X3
   go_wp2_with fail
   go_meet
   exact ⟨rfl,Or.inl (by first | rfl | trivial),P2⟩
  ·have hni:(0:Int)≤(m:Int):=by omega
   have hn1:(m:Int)≤(A2.size:Int):=by omega
   have hn2:(m:Int) + 1≤(A2.size:Int):=by omega
   have hw1:IntKind.i64.wrap ((m:Int) + 1) = (m:Int) + 1:=wrap_small _ (by omega) (by omega)
   have HCno:Hid (okS = false→_):=Cno
   have HCyes:Hid (okS = true→_):=Cyes
   have HCS:Hid (∀ W,_):=CS
   clear Cno Cyes CS X3
   go_wp2_with fail
   refine (HCS.out _).mono ?_
   rintro e w5 ⟨rfl,hb5⟩
   have P3:=P2.below hb5
   clear c0 c1 c2 c3 c4 c5 c6 c7 cf hb5 P2 HCS
   obtain ⟨c0,c1,c2,c3,c4,c5,c6,c7,cf⟩:=P3.cells
   have Q:=P3.set0 (.string SC)
   cases okS with
   | false =>
    have hR:=HB.out (by first | rfl | trivial) (by first | rfl | trivial)
    rcases HCno.out (by first | rfl | trivial) with hE | ⟨hE,CB⟩
    ·obtain rfl:=bempty_yes SC hE
     clear HCno HCyes HB
     go_wp2_with fail
     refine (rbad_any _ _).mono ?_
     rintro e w6 ⟨rfl,hb6⟩
     have Q6:=Q.below hb6
     clear hb6
     obtain ⟨r0,r1,r2,r3,r4,r5,r6,r7,rf⟩:=Q6.cells'
     go_wp2
     refine bodyPost_ret (v:=.tuple #[zeroU,.int .i64 1]) ?_ rfl ⟨by rw [hR.1,hR.2];rfl,?_⟩
     ·rw [results_cell_tmp rfl]
      go_simp
     ·exact ((((((((Q6.1.setCell (Nat.le_refl _) _).setCell (Nat.le_refl _) _).setCell (Nat.le_refl _) _).setCell (Nat.le_refl _) _).setCell (Nat.le_refl _) _).setCell (Nat.le_refl _) _).setCell (Nat.le_refl _) _).setCell (Nat.le_refl _) _)
    ·have he:=bempty_no SC hE
     have HCB:Hid (∀ W,_):=CB
     clear HCno HCyes HB CB
     go_wp2_with fail
     refine (HCB.out _).mono ?_
     rintro e w5b ⟨rfl,hb5b⟩
     replace Q:=Q.below hb5b
     clear c0 c1 c2 c3 c4 c5 c6 c7 cf hb5b P3
     obtain ⟨c0,c1,c2,c3,c4,c5,c6,c7,cf⟩:=Q.cells
     go_wp2_with fail
     refine (rbad_any _ _).mono ?_
     rintro e w6 ⟨rfl,hb6⟩
     have Q6:=Q.below hb6
     clear hb6
     obtain ⟨r0,r1,r2,r3,r4,r5,r6,r7,rf⟩:=Q6.cells'
     go_wp2
     refine bodyPost_ret (v:=.tuple #[zeroU,.int .i64 1]) ?_ rfl ⟨by rw [hR.1,hR.2];rfl,?_⟩
     ·rw [results_cell_tmp rfl]
      go_simp
     ·exact ((((((((Q6.1.setCell (Nat.le_refl _) _).setCell (Nat.le_refl _) _).setCell (Nat.le_refl _) _).setCell (Nat.le_refl _) _).setCell (Nat.le_refl _) _).setCell (Nat.le_refl _) _).setCell (Nat.le_refl _) _).setCell (Nat.le_refl _) _)
   | true =>
    obtain ⟨hE,CB⟩:=HCyes.out (by first | rfl | trivial)
    have he:=bempty_no SC hE
    have HCB:Hid (∀ W,_):=CB
    clear HCno HCyes HB CB
    go_wp2_with fail
    refine (HCB.out _).mono ?_
    rintro e w5b ⟨rfl,hb5b⟩
    replace Q:=Q.below hb5b
    clear c0 c1 c2 c3 c4 c5 c6 c7 cf hb5b P3
    go_wp2_with fail
    go_meet
    exact ⟨rfl,Or.inr (by first | rfl | trivial),Q⟩
 case rest =>
 obtain ⟨rfl,hgo,P3⟩:=hcut
 obtain ⟨hRN,hRV⟩:=HG.out hgo.out
 subst hRN
 have HRV:Hid (RV = _):=hRV
 clear HB HG hgo hRV X3 P2
 go_upto_region 18 with fail
 go_cut [83] (fun c wx=>c = .bool pp∧wx = wc)
 case first =>
  clear HRV CI5 CH CK
  rcases X4.out with ⟨rfl,h1,h2,h3 | ⟨h3,h4⟩⟩ | ⟨rfl,h3,h4,_⟩
  ·have hx2:¬ (2:Int)≤(X.size:Int):=by omega
   clear X4
   go_wp2_with fail
   go_meet
   exact ⟨rfl,rfl⟩
  ·have hx2:(2:Int)≤(X.size:Int):=by omega
   clear X4
   go_wp2_with fail
   go_meet
   exact ⟨by first | rfl | rw [h4],rfl⟩
  ·have hx2:(2:Int)≤(X.size:Int):=by omega
   clear X4
   go_wp2_with fail
   go_meet
   exact ⟨by first | rfl | rw [h4],rfl⟩
 case rest =>
 obtain ⟨rfl,hwc⟩:=hcut
 subst hwc
 go_upto_if 83 with fail
 go_cut [0] (fun c wx=>c = .string PT∧Two w 85 (cellsU E0 false E0 E0 false E0 false E0) (cellsU SC pp H E0 F2 R2 F1 R1) wx)
 case first =>
  clear HRV CK
  rcases X4.out with ⟨rfl,rfl,rfl,h3⟩ | ⟨rfl,h3,h4,h5,h6,h7⟩
  ·clear X4 CI5 CH h3
   go_wp2_with fail
   go_meet
   exact ⟨rfl,P3⟩
  ·have HI:Hid (∀ W,_):=CI5.out (by first | rfl | trivial)
   have HH:Hid (∀ W,_):=CH.out (by first | rfl | trivial)
   clear X4 h4 CI5 CH
   have hx2:(2:Int)≤(X.size:Int):=by omega
   have hsx:(X.extract 2 X.size).size = X.size - 2:=by simp [ByteArray.size_extract]
   have hcat2:¬ 9223372036854775807 < (X.extract 2 X.size).size + (⟨#[47]⟩:ByteArray).size:=by
    have:(⟨#[47]⟩:ByteArray).size = 1:=rfl
    omega
   have hj1:(2:Int) + (j:Int)≤(X.size:Int):=by omega
   have hjw:IntKind.i64.wrap ((2:Int) + (j:Int)) = ((2 + j:Nat):Int):=by rw [show ((2 + j:Nat):Int) = (2:Int) + (j:Int) from by omega];exact wrap_small _ (by omega) (by omega)
   have hj2:((2 + j:Nat):Int)≤(X.size:Int):=by omega
   have hj3:(2:Int)≤((2 + j:Nat):Int):=by omega
   obtain ⟨jj,hjj⟩:∃ jj,2 + j = jj:=⟨_,rfl⟩
   rw [hjj] at hjw hj2 hj3 h6 h7
   obtain ⟨c0,c1,c2,c3,c4,c5,c6,c7,cf⟩:=P3.cells
   go_wp2_with fail
   refine (HI.out _).mono ?_
   rintro e w1 ⟨rfl,hw1⟩
   subst hw1
   clear HI
   go_wp2_with fail
   go_region_with (go_at_call 100;refine (HH.out _).mono ?_;rintro e w5 ⟨rfl,hb5⟩;have P4:=(P3.drew).below hb5;obtain ⟨d0,d1,d2,d3,d4,d5,d6,d7,df⟩:=P4.cells)
   all_goals (
    go_wp2_with fail
    go_meet
    exact ⟨rfl,(P4.set1 _).set2 _⟩)
 case rest =>
 obtain ⟨rfl,P4⟩:=hcut
 clear X4 CI5 CH P3
 obtain ⟨c0,c1,c2,c3,c4,c5,c6,c7,cf⟩:=P4.cells
 have Q1:=P4.set3 (.string PT)
 go_wp2_with fail
 refine (CK.out _ Q1.1).mono ?_
 rintro e w8 ⟨rfl,hb8⟩
 have Q6:=Q1.below hb8
 clear hb8 Q1 P4 CK
 clear c0 c1 c2 c3 c4 c5 c6 c7 cf
 obtain ⟨c0,c1,c2,c3,c4,c5,c6,c7,cf⟩:=Q6.cells
 by_cases h0:RN = 0
 ·subst h0
  have hv:=HRV.out
  obtain ⟨r0,r1,r2,r3,r4,r5,r6,r7,rf⟩:=Q6.cells'
  clear HRV
  go_wp2
  refine bodyPost_ret (v:=.tuple #[.agg (cellsU SC pp H PT F2 R2 F1 R1),.int .i64 0]) ?_ rfl ⟨by rw [hv];rfl,?_⟩
  ·rw [results_cell_tmp rfl]
   go_simp
  ·exact ((((((((Q6.1.setCell (Nat.le_refl _) _).setCell (Nat.le_refl _) _).setCell (Nat.le_refl _) _).setCell (Nat.le_refl _) _).setCell (Nat.le_refl _) _).setCell (Nat.le_refl _) _).setCell (Nat.le_refl _) _).setCell (Nat.le_refl _) _)
 ·have hn0:((RN:Int) == 0) = false:=by rw [beq_eq_false_iff_ne];omega
  have hv:=HRV.out
  rw [if_neg h0] at hv
  clear HRV
  go_wp2_with fail
  refine (rbad_any _ _).mono ?_
  rintro e w9 ⟨rfl,hb9⟩
  replace Q6:=Q6.below hb9
  clear hb9 c0 c1 c2 c3 c4 c5 c6 c7 cf
  obtain ⟨r0,r1,r2,r3,r4,r5,r6,r7,rf⟩:=Q6.cells'
  go_wp2
  refine bodyPost_ret (v:=.tuple #[zeroU,.int .i64 (RN:Int)]) ?_ rfl ⟨by rw [hv],?_⟩
  ·rw [results_cell_tmp rfl]
   go_simp
  ·exact ((((((((Q6.1.setCell (Nat.le_refl _) _).setCell (Nat.le_refl _) _).setCell (Nat.le_refl _) _).setCell (Nat.le_refl _) _).setCell (Nat.le_refl _) _).setCell (Nat.le_refl _) _).setCell (Nat.le_refl _) _).setCell (Nat.le_refl _) _)
end Go.Proofs.YtbbfcbodhmeanaaGreatDoor



namespace Go.Proofs.YtbbfcbodhmeanaaGreatDoor
open Go.RowKit
theorem cutAt_of (d:UInt8) (l:List UInt8):CutAt1 (bar l) (bar (cutO d l).1) (bar (cutO d l).2.1) (cutO d l).2.2 (whereB d l):=by
 unfold cutO whereB
 cases h:cutB d l with
 | none=>exact Or.inl ⟨rfl,rfl,rfl,rfl⟩
 | some x =>
  obtain ⟨e,_⟩:=cutB_some d l x.1 x.2 h
  refine Or.inr ⟨rfl,x.1.length,rfl,?_,?_,?_⟩
  ·rw [bar_size,e];simp
  ·rw [ext_take,e];simp
  ·rw [ext_drop,e];simp
theorem where_end:∀ l:List UInt8,whereB 47 (l ++ [47]) = ((cutH l).1.length:Int)
 | []=>rfl
 | c::l=>by
  have ih:=where_end l
  unfold whereB cutH at ih ⊢
  rw [List.cons_append,cutB,cutB]
  by_cases hc:c = 47
  ·rw [if_pos hc,if_pos hc]
   first | done | rfl
  ·rw [if_neg hc,if_neg hc]
   cases h1:cutB 47 (l ++ [47]) with
   | none=>rw [h1] at ih;cases h2:cutB 47 l <;> rw [h2] at ih <;> simp at ih <;> omega
   | some x =>
    rw [h1] at ih
    cases h2:cutB 47 l with
    | none=>rw [h2] at ih;simp at ih ⊢;omega
    | some y=>rw [h2] at ih;simp at ih ⊢;omega
theorem cutC_of:∀ l:List UInt8,match cutC l with
  | none=>whereB 58 (cutH l).1 = -1
  | some x=>whereB 58 (cutH l).1 = (x.1.length:Int)∧l = x.1 ++ 58::x.2
 | []=>rfl
 | c::l=>by
  have ih:=cutC_of l
  have hH:(cutH (c::l)).1 = if c = 47 then [] else c::(cutH l).1:=by
   unfold cutH
   rw [cutB]
   by_cases hc:c = 47
   ·rw [if_pos hc,if_pos hc]
   ·rw [if_neg hc,if_neg hc]
    cases cutB 47 l <;> rfl
  rw [hH,cutC]
  by_cases h1:c = 58
  ·subst h1
   exact ⟨rfl,rfl⟩
  ·rw [if_neg h1]
   by_cases h2:c = 47
   ·rw [if_pos h2,if_pos h2]
    first | done | rfl
   ·rw [if_neg h2,if_neg h2]
    unfold whereB at ih ⊢
    rw [cutB,if_neg h1]
    cases h3:cutC l with
    | none =>
     rw [h3] at ih
     cases h4:cutB 58 (cutH l).1 with
     | none=>rfl
     | some y=>rw [h4] at ih;simp at ih;try omega
    | some x =>
     rw [h3] at ih
     obtain ⟨i1,i2⟩:=ih
     cases h4:cutB 58 (cutH l).1 with
     | none=>rw [h4] at i1;simp at i1;try omega
     | some y =>
      rw [h4] at i1
      simp only [Option.map_some,List.length_cons,List.cons_append] at i1 ⊢
      exact ⟨by omega,by rw [← i2]⟩
theorem preSS_ext (l:List UInt8) (h:2≤l.length):(((bar l).extract 0 2).toList == [47,47]) = preSS l:=by
 rw [ext_take,ByteArray.toList_eq,bar_l]
 rcases l with _ | ⟨a,_ | ⟨b,l⟩⟩
 ·simp at h
 ·simp at h
 ·simp [preSS]
theorem preSS_short (l:List UInt8) (h:preSS l = true):2≤l.length:=by
 rcases l with _ | ⟨a,_ | ⟨b,l⟩⟩
 ·cases h
 ·cases h
 ·simp
theorem hostAt_of (l:List UInt8):HostAt (bar l) (bar (if preSS l then (cutH (l.drop 2)).2 else l)) (bar (cutH (l.drop 2)).1) (bar (if preSS l then smallU (cutH (l.drop 2)).1 else [])) (preSS l) (cutH (l.drop 2)).1.length:=by
 cases h:preSS l with
 | false =>
  refine Or.inl ⟨rfl,rfl,rfl,?_⟩
  rw [bar_size]
  by_cases h2:2≤l.length
  ·exact Or.inr ⟨h2,by rw [preSS_ext l h2,h]⟩
  ·exact Or.inl (by omega)
 | true =>
  have h2:=preSS_short l h
  have ha:=cutH_app (l.drop 2)
  have hlen:(cutH (l.drop 2)).1.length≤(l.drop 2).length:=by
   have:=congrArg List.length ha
   rw [List.length_append] at this
   omega
  rw [List.length_drop] at hlen
  refine Or.inr ⟨rfl,by rw [bar_size];exact h2,by rw [preSS_ext l h2,h],by rw [bar_size];omega,?_,?_⟩
  ·have:(bar l).extract 2 (2 + (cutH (l.drop 2)).1.length) = bar ((l.drop 2).take (cutH (l.drop 2)).1.length):=by
    apply ba_inj
    rw [bar_l]
    simp [bar,List.extract_eq_take_drop]
   rw [this]
   congr 1
   have:=congrArg (List.take (cutH (l.drop 2)).1.length) ha
   rw [← this];simp
  ·rw [ext_drop,← List.drop_drop]
   congr 1
   have:=congrArg (List.drop (cutH (l.drop 2)).1.length) ha
   rw [← this];simp
end Go.Proofs.YtbbfcbodhmeanaaGreatDoor


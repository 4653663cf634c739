
import Derived.Test.YtbbfcbodhmeanaaGreatDoorXrewritesays51
namespace Go.Proofs.YtbbfcbodhmeanaaGreatDoor
open Go.RowKit
def Three (w:World) (t:TypeId) (a b c:Array Value) (W:World):Prop:=Below w.heap.size w W∧W.heap[w.heap.size]? = some (.cells a t)∧W.heap[w.heap.size + 1]? = some (.cells b t)∧W.heap[w.heap.size + 1 + 1]? = some (.cells c t)
theorem Three.below {w W W':World} {t:TypeId} {a b c:Array Value} (h:Three w t a b c W) (hb:Below W.heap.size W W'):Three w t a b c W' :=
 ⟨h.1.trans (hb.mono h.1.size),kept_on h.2.1 hb,kept_on h.2.2.1 hb,kept_on h.2.2.2 hb⟩
theorem Three.drew {w W:World} {t:TypeId} {a b c:Array Value} (h:Three w t a b c W):Three w t a b c W.drew:=⟨h.1.drew,h.2.1,h.2.2.1,h.2.2.2⟩
theorem Three.set {w W:World} {t:TypeId} {a b c:Array Value} (h:Three w t a b c W) (i:Nat) (v:Value):Three w t a (b.setIfInBounds i v) c (W.setCell ⟨w.heap.size + 1,i,none⟩ v):=by
 have h2:Two w t a b W:=⟨h.1,h.2.1,h.2.2.1⟩
 obtain ⟨k1,k2,k3⟩:=h2.set i v
 refine ⟨k1,k2,k3,?_⟩
 rw [Below.heap_setCell _ _ _ _ (by simp)]
 exact h.2.2.2
theorem Three.set0 {w W:World} {t:TypeId} {a c:Array Value} {v0 v1 v2 v3 v4 v5 v6 v7:Value} (h:Three w t a #[v0,v1,v2,v3,v4,v5,v6,v7] c W) (x:Value):Three w t a #[x,v1,v2,v3,v4,v5,v6,v7] c (W.setCell ⟨w.heap.size + 1,0,none⟩ x):=Three.set h 0 x
theorem Three.set1 {w W:World} {t:TypeId} {a c:Array Value} {v0 v1 v2 v3 v4 v5 v6 v7:Value} (h:Three w t a #[v0,v1,v2,v3,v4,v5,v6,v7] c W) (x:Value):Three w t a #[v0,x,v2,v3,v4,v5,v6,v7] c (W.setCell ⟨w.heap.size + 1,1,none⟩ x):=Three.set h 1 x
theorem Three.set2 {w W:World} {t:TypeId} {a c:Array Value} {v0 v1 v2 v3 v4 v5 v6 v7:Value} (h:Three w t a #[v0,v1,v2,v3,v4,v5,v6,v7] c W) (x:Value):Three w t a #[v0,v1,x,v3,v4,v5,v6,v7] c (W.setCell ⟨w.heap.size + 1,2,none⟩ x):=Three.set h 2 x
theorem Three.set3 {w W:World} {t:TypeId} {a c:Array Value} {v0 v1 v2 v3 v4 v5 v6 v7:Value} (h:Three w t a #[v0,v1,v2,v3,v4,v5,v6,v7] c W) (x:Value):Three w t a #[v0,v1,v2,x,v4,v5,v6,v7] c (W.setCell ⟨w.heap.size + 1,3,none⟩ x):=Three.set h 3 x
theorem Three.set4 {w W:World} {t:TypeId} {a c:Array Value} {v0 v1 v2 v3 v4 v5 v6 v7:Value} (h:Three w t a #[v0,v1,v2,v3,v4,v5,v6,v7] c W) (x:Value):Three w t a #[v0,v1,v2,v3,x,v5,v6,v7] c (W.setCell ⟨w.heap.size + 1,4,none⟩ x):=Three.set h 4 x
theorem Three.set5 {w W:World} {t:TypeId} {a c:Array Value} {v0 v1 v2 v3 v4 v5 v6 v7:Value} (h:Three w t a #[v0,v1,v2,v3,v4,v5,v6,v7] c W) (x:Value):Three w t a #[v0,v1,v2,v3,v4,x,v6,v7] c (W.setCell ⟨w.heap.size + 1,5,none⟩ x):=Three.set h 5 x
theorem Three.set6 {w W:World} {t:TypeId} {a c:Array Value} {v0 v1 v2 v3 v4 v5 v6 v7:Value} (h:Three w t a #[v0,v1,v2,v3,v4,v5,v6,v7] c W) (x:Value):Three w t a #[v0,v1,v2,v3,v4,v5,x,v7] c (W.setCell ⟨w.heap.size + 1,6,none⟩ x):=Three.set h 6 x
theorem Three.set7 {w W:World} {t:TypeId} {a c:Array Value} {v0 v1 v2 v3 v4 v5 v6 v7:Value} (h:Three w t a #[v0,v1,v2,v3,v4,v5,v6,v7] c W) (x:Value):Three w t a #[v0,v1,v2,v3,v4,v5,v6,x] c (W.setCell ⟨w.heap.size + 1,7,none⟩ x):=Three.set h 7 x
theorem three_n (w:World) (t:TypeId) (a b c:Array Value):Three w t a b c (((w.alloc (.cells a t)).alloc (.cells b t)).alloc (.cells c t)):=by
 obtain ⟨k1,k2,k3⟩:=two_new w t a b
 refine ⟨k1.alloc k1.size _,kept_alloc k2,kept_alloc k3,?_⟩
 show (((w.heap.push _).push _).push _)[w.heap.size + 1 + 1]? = _
 rw [Array.getElem?_push,if_pos (by simp)]
set_option maxHeartbeats 1000000 in
theorem lbad_any (n:Int) (w:World) :
  Calls Tryz.prog 103 #[.int .i64 n] w fun e w'=>e = .returned (.tuple #[zeroU,.int .i64 n])∧Below w.heap.size w w':=by
 go_enter Tryz.func103,Tryz.ntmps103
 go_wp2
 refine bodyPost_ret (v:=.tuple #[zeroU,.int .i64 n]) ?_ rfl ⟨rfl,?_⟩
 ·rw [results_cell_tmp rfl]
  go_simp
 ·exact (Below.refl _ _).alloc (Nat.le_refl _) _
def FillAt (bs bh bp bq us uh up uq s1 h1 p1 q1 D:ByteArray) (bhh bhq uhh uhq hh1 hq1 pu:Bool):Prop :=
 (us.data.toList ≠ []∧us = s1∧uhh = hh1∧uh = h1∧up = p1∧uhq = hq1∧uq = q1) ∨
 (us.data.toList = []∧bs = s1∧uhh = true∧hh1 = true∧uh = h1∧up = p1∧uhq = hq1∧uq = q1) ∨
 (us.data.toList = []∧bs = s1∧uhh = false∧bhh = hh1∧bh = h1∧up.data.toList = []∧bp = p1∧uhq = true∧hq1 = true∧uq = q1) ∨
 (us.data.toList = []∧bs = s1∧uhh = false∧bhh = hh1∧bh = h1∧up.data.toList = []∧bp = p1∧uhq = false∧bhq = hq1∧bq = q1) ∨
 (us.data.toList = []∧bs = s1∧uhh = false∧bhh = hh1∧bh = h1∧up.data.toList ≠ []∧pu = true∧up = p1∧uhq = hq1∧uq = q1) ∨
 (us.data.toList = []∧bs = s1∧uhh = false∧bhh = hh1∧bh = h1∧up.data.toList ≠ []∧pu = false∧p1 = D ++ up∧uhq = hq1∧uq = q1)
theorem bempty_t (s:ByteArray) (h:s.data.toList = []):s.toList.isEmpty = true:=by
 rw [ByteArray.toList_eq,h]
 rfl
set_option maxHeartbeats 8000000 in
set_option maxRecDepth 100000 in
theorem rled_walk (bs bh bp bq bf us uh up uq uf s1 h1 p1 q1 D p2:ByteArray) (bhh bhq bhf uhh uhq uhf hh1 hq1 pu pp ss:Bool) (k:Int) (RV:Value) (RN n:Nat) (w:World)
  (hbs:bs.data.toList ≠ [])
  (XF:Hid (FillAt bs bh bp bq us uh up uq s1 h1 p1 q1 D bhh bhq uhh uhq hh1 hq1 pu))
  (XD:Hid (pu = false→(bhh = true∧bp.data.toList = []∧k = -1∧D = ⟨#[47]⟩) ∨ ((bhh = false ∨ (bhh = true∧bp.data.toList ≠ []))∧((k = -1∧D = E0) ∨ ∃ m:Nat,k = (m:Int)∧m < bp.size∧bp.extract 0 (m + 1) = D)))) (hbp:bp.size≤120) (hup:up.size≤120) (hD:D.size≤200)
  (CL:Hid (∀ W,Calls Tryz.prog 104 #[.string bp,.string ⟨#[47]⟩] W fun e w'=>e = .returned (.int .i64 k)∧w' = W))
  (CB:Hid (∀ W,Below w.heap.size w W→Calls Tryz.prog 102 #[.agg (cellsU bs bhh bh bp bhq bq bhf bf)] W fun e w'=>e = .returned (.int .i64 0)∧Below W.heap.size W w'))
  (CU:Hid (∀ W,Below w.heap.size w W→Calls Tryz.prog 102 #[.agg (cellsU us uhh uh up uhq uq uhf uf)] W fun e w'=>e = .returned (.int .i64 0)∧Below W.heap.size W w'))
  (CP:Hid (∀ W,Calls Tryz.prog 59 #[.string up,.string ⟨#[47]⟩] W fun e w'=>e = .returned (.bool pu)∧w' = W))
  (CQ:Hid ((hh1 = true∧∀ W,Below w.heap.size w W→Calls Tryz.prog 105 #[.string p1] W fun e w'=>e = .returned (.string p2)∧Below W.heap.size W w') ∨ (hh1 = false∧pp = true∧∀ W,Below w.heap.size w W→Calls Tryz.prog 105 #[.string p1] W fun e w'=>e = .returned (.string p2)∧Below W.heap.size W w') ∨ (hh1 = false∧pp = false∧p1 = p2)))
  (CG:Hid (∀ W,Calls Tryz.prog 59 #[.string p1,.string ⟨#[47]⟩] W fun e w'=>e = .returned (.bool pp)∧w' = W))
  (CE:Hid (∀ W,Below w.heap.size w W→Calls Tryz.prog 102 #[.agg (cellsU s1 hh1 h1 p2 hq1 q1 uhf uf)] W fun e w'=>e = .returned (.int .i64 (n:Int))∧Below W.heap.size W w'))
  (CS:Hid (∀ W,Calls Tryz.prog 59 #[.string p2,.string ⟨#[47,47]⟩] W fun e w'=>e = .returned (.bool ss)∧w' = W))
  (HR:Hid ((n = 0∧RV = .agg (cellsU s1 hh1 h1 p2 hq1 q1 uhf uf)∧RN = 0) ∨ (n ≠ 0∧RV = zeroU∧RN = if (!hh1 && ss) = true then 4 else n))) :
  Calls Tryz.prog 54 #[.agg (cellsU bs bhh bh bp bhq bq bhf bf),.agg (cellsU us uhh uh up uhq uq uhf uf)] w fun e w'=>e = .returned (.tuple #[RV,.int .i64 (RN:Int)])∧Below w.heap.size w w':=by
 have P0:=three_n w 85 (cellsU bs bhh bh bp bhq bq bhf bf) (cellsU us uhh uh up uhq uq uhf uf) (cellsU E0 false E0 E0 false E0 false E0)
 have hbe:=bempty_no bs hbs
 go_enter Tryz.func54,Tryz.ntmps54
 go_wp2_with fail
 obtain ⟨W0,hW0⟩:∃ W,W = ((w.alloc (.cells (cellsU bs bhh bh bp bhq bq bhf bf) 85)).alloc (.cells (cellsU us uhh uh up uhq uq uhf uf) 85)).alloc (.cells (cellsU E0 false E0 E0 false E0 false E0) 85):=⟨_,rfl⟩
 rw [← hW0] at P0
 rw [← hW0]
 clear hW0
 refine (CB.out _ P0.1).mono ?_
 rintro e w1 ⟨rfl,hb1⟩
 have P1:=P0.below hb1
 clear CB hb1 P0
 obtain ⟨c0,c1,c2,c3,c4,c5,c6,c7,cf⟩:=cells_8 P1.2.2.1
 go_wp2_with fail
 refine (CU.out _ P1.1).mono ?_
 rintro e w2 ⟨rfl,hb2⟩
 have P2:=P1.below hb2
 clear CU hb2 P1 c0 c1 c2 c3 c4 c5 c6 c7 cf
 obtain ⟨c0,c1,c2,c3,c4,c5,c6,c7,cf⟩:=cells_8 P2.2.2.1
 obtain ⟨d0,d1,d2,d3,d4,d5,d6,d7,df⟩:=cells_8 P2.2.1
 go_upto_if 39 with fail
 go_cut [] (fun wx=>Three w 85 (cellsU bs bhh bh bp bhq bq bhf bf) (cellsU s1 hh1 h1 p1 hq1 q1 uhf uf) (cellsU E0 false E0 E0 false E0 false E0) wx)
 case first =>
  rcases XF.out with ⟨x1,rfl,rfl,rfl,rfl,rfl,rfl⟩ | ⟨x1,rfl,rfl,rfl,rfl,rfl,rfl,rfl⟩ | ⟨x1,rfl,rfl,rfl,rfl,x2,rfl,rfl,rfl,rfl⟩ | ⟨x1,rfl,rfl,rfl,rfl,x2,rfl,rfl,rfl,rfl⟩ | ⟨x1,rfl,rfl,rfl,rfl,x2,rfl,rfl,rfl,rfl⟩ | ⟨x1,rfl,rfl,rfl,rfl,x2,rfl,rfl,rfl,rfl⟩
  ·have he:=bempty_no us x1
   rw [he]
   clear XF XD CP CL
   go_wp2_with fail
   go_meet
   exact P2
  ·have he:=bempty_t us x1
   rw [he]
   clear XF XD CP CL
   go_wp2_with fail
   go_meet
   exact P2.set0 _
  ·have he:=bempty_t us x1
   rw [he]
   have hue:=bempty_t up x2
   clear XF XD CP CL
   go_upto_region 13 with fail
   clear c0 c1 c2 c3 c4 c5 c6 c7 cf d0 d1 d2 d3 d4 d5 d6 d7 df
   obtain ⟨W3,hW3⟩:∃ W,W = w2.setCell ⟨w.heap.size + 1,0,none⟩ (.string bs):=⟨_,rfl⟩
   have P3:=P2.set0 (.string bs)
   rw [← hW3] at P3
   rw [← hW3]
   clear hW3 P2
   obtain ⟨c0,c1,c2,c3,c4,c5,c6,c7,cf⟩:=cells_8 P3.2.2.1
   obtain ⟨d0,d1,d2,d3,d4,d5,d6,d7,df⟩:=cells_8 P3.2.1
   go_region
   clear c0 c1 c2 c3 c4 c5 c6 c7 cf d0 d1 d2 d3 d4 d5 d6 d7 df
   obtain ⟨W4,hW4⟩:∃ W,W = ((W3.setCell ⟨w.heap.size + 1,1,none⟩ (.bool bhh)).setCell ⟨w.heap.size + 1,2,none⟩ (.string bh)).drew:=⟨_,rfl⟩
   have P4:=((P3.set1 (.bool bhh)).set2 (.string bh)).drew
   rw [← hW4] at P4
   rw [← hW4]
   clear hW4 P3
   obtain ⟨c0,c1,c2,c3,c4,c5,c6,c7,cf⟩:=cells_8 P4.2.2.1
   obtain ⟨d0,d1,d2,d3,d4,d5,d6,d7,df⟩:=cells_8 P4.2.1
   go_wp2_with fail
   go_meet
   exact P4.set3 _
  ·have he:=bempty_t us x1
   rw [he]
   have hue:=bempty_t up x2
   clear XF XD CP CL
   go_upto_region 13 with fail
   clear c0 c1 c2 c3 c4 c5 c6 c7 cf d0 d1 d2 d3 d4 d5 d6 d7 df
   obtain ⟨W3,hW3⟩:∃ W,W = w2.setCell ⟨w.heap.size + 1,0,none⟩ (.string bs):=⟨_,rfl⟩
   have P3:=P2.set0 (.string bs)
   rw [← hW3] at P3
   rw [← hW3]
   clear hW3 P2
   obtain ⟨c0,c1,c2,c3,c4,c5,c6,c7,cf⟩:=cells_8 P3.2.2.1
   obtain ⟨d0,d1,d2,d3,d4,d5,d6,d7,df⟩:=cells_8 P3.2.1
   go_region
   clear c0 c1 c2 c3 c4 c5 c6 c7 cf d0 d1 d2 d3 d4 d5 d6 d7 df
   obtain ⟨W4,hW4⟩:∃ W,W = ((W3.setCell ⟨w.heap.size + 1,1,none⟩ (.bool bhh)).setCell ⟨w.heap.size + 1,2,none⟩ (.string bh)).drew:=⟨_,rfl⟩
   have P4:=((P3.set1 (.bool bhh)).set2 (.string bh)).drew
   rw [← hW4] at P4
   rw [← hW4]
   clear hW4 P3
   obtain ⟨c0,c1,c2,c3,c4,c5,c6,c7,cf⟩:=cells_8 P4.2.2.1
   obtain ⟨d0,d1,d2,d3,d4,d5,d6,d7,df⟩:=cells_8 P4.2.1
   go_upto_region 17 with fail
   clear c0 c1 c2 c3 c4 c5 c6 c7 cf d0 d1 d2 d3 d4 d5 d6 d7 df
   obtain ⟨W5,hW5⟩:∃ W,W = W4.setCell ⟨w.heap.size + 1,3,none⟩ (.string bp):=⟨_,rfl⟩
   have P5:=P4.set3 (.string bp)
   rw [← hW5] at P5
   rw [← hW5]
   clear hW5 P4
   obtain ⟨c0,c1,c2,c3,c4,c5,c6,c7,cf⟩:=cells_8 P5.2.2.1
   obtain ⟨d0,d1,d2,d3,d4,d5,d6,d7,df⟩:=cells_8 P5.2.1
   go_region
   go_wp2_with fail
   go_meet
   exact ((P5.set4 _).set5 _).drew
  ·have he:=bempty_t us x1
   rw [he]
   have hue:=bempty_no up x2
   clear XF XD CL
   go_upto_region 13 with fail
   clear c0 c1 c2 c3 c4 c5 c6 c7 cf d0 d1 d2 d3 d4 d5 d6 d7 df
   obtain ⟨W3,hW3⟩:∃ W,W = w2.setCell ⟨w.heap.size + 1,0,none⟩ (.string bs):=⟨_,rfl⟩
   have P3:=P2.set0 (.string bs)
   rw [← hW3] at P3
   rw [← hW3]
   clear hW3 P2
   obtain ⟨c0,c1,c2,c3,c4,c5,c6,c7,cf⟩:=cells_8 P3.2.2.1
   obtain ⟨d0,d1,d2,d3,d4,d5,d6,d7,df⟩:=cells_8 P3.2.1
   go_region
   clear c0 c1 c2 c3 c4 c5 c6 c7 cf d0 d1 d2 d3 d4 d5 d6 d7 df
   obtain ⟨W4,hW4⟩:∃ W,W = ((W3.setCell ⟨w.heap.size + 1,1,none⟩ (.bool bhh)).setCell ⟨w.heap.size + 1,2,none⟩ (.string bh)).drew:=⟨_,rfl⟩
   have P4:=((P3.set1 (.bool bhh)).set2 (.string bh)).drew
   rw [← hW4] at P4
   rw [← hW4]
   clear hW4 P3
   obtain ⟨c0,c1,c2,c3,c4,c5,c6,c7,cf⟩:=cells_8 P4.2.2.1
   obtain ⟨d0,d1,d2,d3,d4,d5,d6,d7,df⟩:=cells_8 P4.2.1
   go_wp2_with fail
   refine (CP.out _).mono ?_
   rintro e w5 ⟨rfl,rfl⟩
   clear CP
   go_wp2_with fail
   go_meet
   exact P4
  ·rcases XD.out rfl with ⟨rfl,y,rfl,rfl⟩ | ⟨rfl | ⟨rfl,y⟩,⟨rfl,rfl⟩ | ⟨m,rfl,hm,hx⟩⟩
   ·have he:=bempty_t us x1
    rw [he]
    have hue:=bempty_no up x2
    clear XF XD
    go_upto_region 13 with fail
    clear c0 c1 c2 c3 c4 c5 c6 c7 cf d0 d1 d2 d3 d4 d5 d6 d7 df
    obtain ⟨W3,hW3⟩:∃ W,W = w2.setCell ⟨w.heap.size + 1,0,none⟩ (.string bs):=⟨_,rfl⟩
    have P3:=P2.set0 (.string bs)
    rw [← hW3] at P3
    rw [← hW3]
    clear hW3 P2
    obtain ⟨c0,c1,c2,c3,c4,c5,c6,c7,cf⟩:=cells_8 P3.2.2.1
    obtain ⟨d0,d1,d2,d3,d4,d5,d6,d7,df⟩:=cells_8 P3.2.1
    go_region
    clear c0 c1 c2 c3 c4 c5 c6 c7 cf d0 d1 d2 d3 d4 d5 d6 d7 df
    obtain ⟨W4,hW4⟩:∃ W,W = ((W3.setCell ⟨w.heap.size + 1,1,none⟩ (.bool true)).setCell ⟨w.heap.size + 1,2,none⟩ (.string bh)).drew:=⟨_,rfl⟩
    have P4:=((P3.set1 (.bool true)).set2 (.string bh)).drew
    rw [← hW4] at P4
    rw [← hW4]
    clear hW4 P3
    obtain ⟨c0,c1,c2,c3,c4,c5,c6,c7,cf⟩:=cells_8 P4.2.2.1
    obtain ⟨d0,d1,d2,d3,d4,d5,d6,d7,df⟩:=cells_8 P4.2.1
    go_wp2_with fail
    refine (CP.out _).mono ?_
    rintro e w5 ⟨rfl,rfl⟩
    clear CP
    go_wp2_with fail
    refine (CL.out _).mono ?_
    rintro e w6 ⟨rfl,rfl⟩
    clear CL
    have hbp0:=bempty_t bp y
    go_wp2_with fail
    go_meet
    exact P4.set3 _
   ·have he:=bempty_t us x1
    rw [he]
    have hue:=bempty_no up x2
    clear XF XD
    go_upto_region 13 with fail
    clear c0 c1 c2 c3 c4 c5 c6 c7 cf d0 d1 d2 d3 d4 d5 d6 d7 df
    obtain ⟨W3,hW3⟩:∃ W,W = w2.setCell ⟨w.heap.size + 1,0,none⟩ (.string bs):=⟨_,rfl⟩
    have P3:=P2.set0 (.string bs)
    rw [← hW3] at P3
    rw [← hW3]
    clear hW3 P2
    obtain ⟨c0,c1,c2,c3,c4,c5,c6,c7,cf⟩:=cells_8 P3.2.2.1
    obtain ⟨d0,d1,d2,d3,d4,d5,d6,d7,df⟩:=cells_8 P3.2.1
    go_region
    clear c0 c1 c2 c3 c4 c5 c6 c7 cf d0 d1 d2 d3 d4 d5 d6 d7 df
    obtain ⟨W4,hW4⟩:∃ W,W = ((W3.setCell ⟨w.heap.size + 1,1,none⟩ (.bool false)).setCell ⟨w.heap.size + 1,2,none⟩ (.string bh)).drew:=⟨_,rfl⟩
    have P4:=((P3.set1 (.bool false)).set2 (.string bh)).drew
    rw [← hW4] at P4
    rw [← hW4]
    clear hW4 P3
    obtain ⟨c0,c1,c2,c3,c4,c5,c6,c7,cf⟩:=cells_8 P4.2.2.1
    obtain ⟨d0,d1,d2,d3,d4,d5,d6,d7,df⟩:=cells_8 P4.2.1
    go_wp2_with fail
    refine (CP.out _).mono ?_
    rintro e w5 ⟨rfl,rfl⟩
    clear CP
    go_wp2_with fail
    refine (CL.out _).mono ?_
    rintro e w6 ⟨rfl,rfl⟩
    clear CL
    go_wp2_with fail
    go_meet
    exact P4.set3 _
   ·have he:=bempty_t us x1
    rw [he]
    have hue:=bempty_no up x2
    clear XF XD
    go_upto_region 13 with fail
    clear c0 c1 c2 c3 c4 c5 c6 c7 cf d0 d1 d2 d3 d4 d5 d6 d7 df
    obtain ⟨W3,hW3⟩:∃ W,W = w2.setCell ⟨w.heap.size + 1,0,none⟩ (.string bs):=⟨_,rfl⟩
    have P3:=P2.set0 (.string bs)
    rw [← hW3] at P3
    rw [← hW3]
    clear hW3 P2
    obtain ⟨c0,c1,c2,c3,c4,c5,c6,c7,cf⟩:=cells_8 P3.2.2.1
    obtain ⟨d0,d1,d2,d3,d4,d5,d6,d7,df⟩:=cells_8 P3.2.1
    go_region
    clear c0 c1 c2 c3 c4 c5 c6 c7 cf d0 d1 d2 d3 d4 d5 d6 d7 df
    obtain ⟨W4,hW4⟩:∃ W,W = ((W3.setCell ⟨w.heap.size + 1,1,none⟩ (.bool false)).setCell ⟨w.heap.size + 1,2,none⟩ (.string bh)).drew:=⟨_,rfl⟩
    have P4:=((P3.set1 (.bool false)).set2 (.string bh)).drew
    rw [← hW4] at P4
    rw [← hW4]
    clear hW4 P3
    obtain ⟨c0,c1,c2,c3,c4,c5,c6,c7,cf⟩:=cells_8 P4.2.2.1
    obtain ⟨d0,d1,d2,d3,d4,d5,d6,d7,df⟩:=cells_8 P4.2.1
    go_wp2_with fail
    refine (CP.out _).mono ?_
    rintro e w5 ⟨rfl,rfl⟩
    clear CP
    go_wp2_with fail
    refine (CL.out _).mono ?_
    rintro e w6 ⟨rfl,rfl⟩
    clear CL
    go_wp2_with fail
    go_meet
    rw [← hx]
    exact P4.set3 _
   ·have he:=bempty_t us x1
    rw [he]
    have hue:=bempty_no up x2
    clear XF XD
    go_upto_region 13 with fail
    clear c0 c1 c2 c3 c4 c5 c6 c7 cf d0 d1 d2 d3 d4 d5 d6 d7 df
    obtain ⟨W3,hW3⟩:∃ W,W = w2.setCell ⟨w.heap.size + 1,0,none⟩ (.string bs):=⟨_,rfl⟩
    have P3:=P2.set0 (.string bs)
    rw [← hW3] at P3
    rw [← hW3]
    clear hW3 P2
    obtain ⟨c0,c1,c2,c3,c4,c5,c6,c7,cf⟩:=cells_8 P3.2.2.1
    obtain ⟨d0,d1,d2,d3,d4,d5,d6,d7,df⟩:=cells_8 P3.2.1
    go_region
    clear c0 c1 c2 c3 c4 c5 c6 c7 cf d0 d1 d2 d3 d4 d5 d6 d7 df
    obtain ⟨W4,hW4⟩:∃ W,W = ((W3.setCell ⟨w.heap.size + 1,1,none⟩ (.bool true)).setCell ⟨w.heap.size + 1,2,none⟩ (.string bh)).drew:=⟨_,rfl⟩
    have P4:=((P3.set1 (.bool true)).set2 (.string bh)).drew
    rw [← hW4] at P4
    rw [← hW4]
    clear hW4 P3
    obtain ⟨c0,c1,c2,c3,c4,c5,c6,c7,cf⟩:=cells_8 P4.2.2.1
    obtain ⟨d0,d1,d2,d3,d4,d5,d6,d7,df⟩:=cells_8 P4.2.1
    go_wp2_with fail
    refine (CP.out _).mono ?_
    rintro e w5 ⟨rfl,rfl⟩
    clear CP
    go_wp2_with fail
    refine (CL.out _).mono ?_
    rintro e w6 ⟨rfl,rfl⟩
    clear CL
    have hbp0:=bempty_no bp y
    go_wp2_with fail
    go_meet
    exact P4.set3 _
   ·have he:=bempty_t us x1
    rw [he]
    have hue:=bempty_no up x2
    clear XF XD
    go_upto_region 13 with fail
    clear c0 c1 c2 c3 c4 c5 c6 c7 cf d0 d1 d2 d3 d4 d5 d6 d7 df
    obtain ⟨W3,hW3⟩:∃ W,W = w2.setCell ⟨w.heap.size + 1,0,none⟩ (.string bs):=⟨_,rfl⟩
    have P3:=P2.set0 (.string bs)
    rw [← hW3] at P3
    rw [← hW3]
    clear hW3 P2
    obtain ⟨c0,c1,c2,c3,c4,c5,c6,c7,cf⟩:=cells_8 P3.2.2.1
    obtain ⟨d0,d1,d2,d3,d4,d5,d6,d7,df⟩:=cells_8 P3.2.1
    go_region
    clear c0 c1 c2 c3 c4 c5 c6 c7 cf d0 d1 d2 d3 d4 d5 d6 d7 df
    obtain ⟨W4,hW4⟩:∃ W,W = ((W3.setCell ⟨w.heap.size + 1,1,none⟩ (.bool true)).setCell ⟨w.heap.size + 1,2,none⟩ (.string bh)).drew:=⟨_,rfl⟩
    have P4:=((P3.set1 (.bool true)).set2 (.string bh)).drew
    rw [← hW4] at P4
    rw [← hW4]
    clear hW4 P3
    obtain ⟨c0,c1,c2,c3,c4,c5,c6,c7,cf⟩:=cells_8 P4.2.2.1
    obtain ⟨d0,d1,d2,d3,d4,d5,d6,d7,df⟩:=cells_8 P4.2.1
    go_wp2_with fail
    refine (CP.out _).mono ?_
    rintro e w5 ⟨rfl,rfl⟩
    clear CP
    go_wp2_with fail
    refine (CL.out _).mono ?_
    rintro e w6 ⟨rfl,rfl⟩
    clear CL
    have hbp0:=bempty_no bp y
    go_wp2_with fail
    go_meet
    rw [← hx]
    exact P4.set3 _
 case rest =>
  have P3:=hcut
  clear hcut
  clear XF XD CL CP d0 d1 d2 d3 d4 d5 d6 d7 df c0 c1 c2 c3 c4 c5 c6 c7 cf P2
  obtain ⟨c0,c1,c2,c3,c4,c5,c6,c7,cf⟩:=cells_8 P3.2.2.1
  rcases CQ.out with ⟨rfl,CD⟩ | ⟨rfl,rfl,CD⟩ | ⟨rfl,rfl,rfl⟩
  ·clear CQ CG CS
   go_wp2_with fail
   refine (CD _ P3.1).mono ?_
   rintro e w4 ⟨rfl,hb4⟩
   have P4:=P3.below hb4
   clear CD hb4 P3 c0 c1 c2 c3 c4 c5 c6 c7 cf
   obtain ⟨c0,c1,c2,c3,c4,c5,c6,c7,cf⟩:=cells_8 P4.2.2.1
   go_wp2_with fail
   obtain ⟨W5,hW5⟩:∃ W,W = w4.setCell ⟨w.heap.size + 1,3,none⟩ (.string p2):=⟨_,rfl⟩
   have P5:=P4.set3 (.string p2)
   rw [← hW5] at P5
   rw [← hW5]
   clear hW5 P4
   refine (CE.out _ P5.1).mono ?_
   rintro e w7 ⟨rfl,hb7⟩
   have P7:=P5.below hb7
   clear CE hb7 P5 c0 c1 c2 c3 c4 c5 c6 c7 cf
   obtain ⟨c0,c1,c2,c3,c4,c5,c6,c7,cf⟩:=cells_8 P7.2.2.1
   rcases HR.out with ⟨rfl,rfl,rfl⟩ | ⟨hn,rfl,hRN⟩
   ·clear HR
    obtain ⟨r0,r1,r2,r3,r4,r5,r6,r7,rf⟩:=cells_8 P7.2.2.2
    go_wp2
    refine bodyPost_ret (v:=.tuple #[.agg (cellsU s1 true h1 p2 hq1 q1 uhf uf),.int .i64 0]) ?_ rfl ⟨rfl,?_⟩
    ·rw [results_cell_tmp rfl]
     go_simp
    ·exact ((((((((P7.1.setCell (Nat.le_add_right w.heap.size 2) _).setCell (Nat.le_add_right w.heap.size 2) _).setCell (Nat.le_add_right w.heap.size 2) _).setCell (Nat.le_add_right w.heap.size 2) _).setCell (Nat.le_add_right w.heap.size 2) _).setCell (Nat.le_add_right w.heap.size 2) _).setCell (Nat.le_add_right w.heap.size 2) _).setCell (Nat.le_add_right w.heap.size 2) _)
   ·have hn0:((n:Int) == 0) = false:=by rw [beq_eq_false_iff_ne];omega
    have hn1:¬ (n:Int) = 0:=by omega
    clear HR
    go_wp2_with fail
    refine (lbad_any _ _).mono ?_
    rintro e w9 ⟨rfl,hb9⟩
    have P9:=P7.below hb9
    clear hb9 P7 c0 c1 c2 c3 c4 c5 c6 c7 cf
    obtain ⟨r0,r1,r2,r3,r4,r5,r6,r7,rf⟩:=cells_8 P9.2.2.2
    go_wp2
    refine bodyPost_ret (v:=.tuple #[zeroU,.int .i64 (n:Int)]) ?_ rfl ⟨by rw [hRN];simp,?_⟩
    ·rw [results_cell_tmp rfl]
     go_simp
    ·exact ((((((((P9.1.setCell (Nat.le_add_right w.heap.size 2) _).setCell (Nat.le_add_right w.heap.size 2) _).setCell (Nat.le_add_right w.heap.size 2) _).setCell (Nat.le_add_right w.heap.size 2) _).setCell (Nat.le_add_right w.heap.size 2) _).setCell (Nat.le_add_right w.heap.size 2) _).setCell (Nat.le_add_right w.heap.size 2) _).setCell (Nat.le_add_right w.heap.size 2) _)
  ·clear CQ
   go_wp2_with fail
   refine (CG.out _).mono ?_
   rintro e w3 ⟨rfl,rfl⟩
   clear CG
   go_wp2_with fail
   refine (CD _ P3.1).mono ?_
   rintro e w4 ⟨rfl,hb4⟩
   have P4:=P3.below hb4
   clear CD hb4 P3 c0 c1 c2 c3 c4 c5 c6 c7 cf
   obtain ⟨c0,c1,c2,c3,c4,c5,c6,c7,cf⟩:=cells_8 P4.2.2.1
   go_wp2_with fail
   obtain ⟨W5,hW5⟩:∃ W,W = w4.setCell ⟨w.heap.size + 1,3,none⟩ (.string p2):=⟨_,rfl⟩
   have P5:=P4.set3 (.string p2)
   rw [← hW5] at P5
   rw [← hW5]
   clear hW5 P4
   refine (CE.out _ P5.1).mono ?_
   rintro e w7 ⟨rfl,hb7⟩
   have P7:=P5.below hb7
   clear CE hb7 P5 c0 c1 c2 c3 c4 c5 c6 c7 cf
   obtain ⟨c0,c1,c2,c3,c4,c5,c6,c7,cf⟩:=cells_8 P7.2.2.1
   rcases HR.out with ⟨rfl,rfl,rfl⟩ | ⟨hn,rfl,hRN⟩
   ·clear HR
    obtain ⟨r0,r1,r2,r3,r4,r5,r6,r7,rf⟩:=cells_8 P7.2.2.2
    go_wp2
    refine bodyPost_ret (v:=.tuple #[.agg (cellsU s1 false h1 p2 hq1 q1 uhf uf),.int .i64 0]) ?_ rfl ⟨rfl,?_⟩
    ·rw [results_cell_tmp rfl]
     go_simp
    ·exact ((((((((P7.1.setCell (Nat.le_add_right w.heap.size 2) _).setCell (Nat.le_add_right w.heap.size 2) _).setCell (Nat.le_add_right w.heap.size 2) _).setCell (Nat.le_add_right w.heap.size 2) _).setCell (Nat.le_add_right w.heap.size 2) _).setCell (Nat.le_add_right w.heap.size 2) _).setCell (Nat.le_add_right w.heap.size 2) _).setCell (Nat.le_add_right w.heap.size 2) _)
   ·have hn0:((n:Int) == 0) = false:=by rw [beq_eq_false_iff_ne];omega
    have hn1:¬ (n:Int) = 0:=by omega
    clear HR
    go_wp2_with fail
    refine (CS.out _).mono ?_
    rintro e w8 ⟨rfl,rfl⟩
    clear CS
    cases ss with
    | true =>
     go_wp2_with fail
     refine (lbad_any _ _).mono ?_
     rintro e w9 ⟨rfl,hb9⟩
     have P9:=P7.below hb9
     clear hb9 P7 c0 c1 c2 c3 c4 c5 c6 c7 cf
     obtain ⟨r0,r1,r2,r3,r4,r5,r6,r7,rf⟩:=cells_8 P9.2.2.2
     go_wp2
     refine bodyPost_ret (v:=.tuple #[zeroU,.int .i64 4]) ?_ rfl ⟨by rw [hRN];simp,?_⟩
     ·rw [results_cell_tmp rfl]
      go_simp
     ·exact ((((((((P9.1.setCell (Nat.le_add_right w.heap.size 2) _).setCell (Nat.le_add_right w.heap.size 2) _).setCell (Nat.le_add_right w.heap.size 2) _).setCell (Nat.le_add_right w.heap.size 2) _).setCell (Nat.le_add_right w.heap.size 2) _).setCell (Nat.le_add_right w.heap.size 2) _).setCell (Nat.le_add_right w.heap.size 2) _).setCell (Nat.le_add_right w.heap.size 2) _)
    | false =>
     go_wp2_with fail
     refine (lbad_any _ _).mono ?_
     rintro e w9 ⟨rfl,hb9⟩
     have P9:=P7.below hb9
     clear hb9 P7 c0 c1 c2 c3 c4 c5 c6 c7 cf
     obtain ⟨r0,r1,r2,r3,r4,r5,r6,r7,rf⟩:=cells_8 P9.2.2.2
     go_wp2
     refine bodyPost_ret (v:=.tuple #[zeroU,.int .i64 (n:Int)]) ?_ rfl ⟨by rw [hRN];simp,?_⟩
     ·rw [results_cell_tmp rfl]
      go_simp
     ·exact ((((((((P9.1.setCell (Nat.le_add_right w.heap.size 2) _).setCell (Nat.le_add_right w.heap.size 2) _).setCell (Nat.le_add_right w.heap.size 2) _).setCell (Nat.le_add_right w.heap.size 2) _).setCell (Nat.le_add_right w.heap.size 2) _).setCell (Nat.le_add_right w.heap.size 2) _).setCell (Nat.le_add_right w.heap.size 2) _).setCell (Nat.le_add_right w.heap.size 2) _)
  ·clear CQ
   go_wp2_with fail
   refine (CG.out _).mono ?_
   rintro e w3 ⟨rfl,rfl⟩
   clear CG
   go_wp2_with fail
   refine (CE.out _ P3.1).mono ?_
   rintro e w7 ⟨rfl,hb7⟩
   have P7:=P3.below hb7
   clear CE hb7 P3 c0 c1 c2 c3 c4 c5 c6 c7 cf
   obtain ⟨c0,c1,c2,c3,c4,c5,c6,c7,cf⟩:=cells_8 P7.2.2.1
   rcases HR.out with ⟨rfl,rfl,rfl⟩ | ⟨hn,rfl,hRN⟩
   ·clear HR
    obtain ⟨r0,r1,r2,r3,r4,r5,r6,r7,rf⟩:=cells_8 P7.2.2.2
    go_wp2
    refine bodyPost_ret (v:=.tuple #[.agg (cellsU s1 false h1 p1 hq1 q1 uhf uf),.int .i64 0]) ?_ rfl ⟨rfl,?_⟩
    ·rw [results_cell_tmp rfl]
     go_simp
    ·exact ((((((((P7.1.setCell (Nat.le_add_right w.heap.size 2) _).setCell (Nat.le_add_right w.heap.size 2) _).setCell (Nat.le_add_right w.heap.size 2) _).setCell (Nat.le_add_right w.heap.size 2) _).setCell (Nat.le_add_right w.heap.size 2) _).setCell (Nat.le_add_right w.heap.size 2) _).setCell (Nat.le_add_right w.heap.size 2) _).setCell (Nat.le_add_right w.heap.size 2) _)
   ·have hn0:((n:Int) == 0) = false:=by rw [beq_eq_false_iff_ne];omega
    have hn1:¬ (n:Int) = 0:=by omega
    clear HR
    go_wp2_with fail
    refine (CS.out _).mono ?_
    rintro e w8 ⟨rfl,rfl⟩
    clear CS
    cases ss with
    | true =>
     go_wp2_with fail
     refine (lbad_any _ _).mono ?_
     rintro e w9 ⟨rfl,hb9⟩
     have P9:=P7.below hb9
     clear hb9 P7 c0 c1 c2 c3 c4 c5 c6 c7 cf
     obtain ⟨r0,r1,r2,r3,r4,r5,r6,r7,rf⟩:=cells_8 P9.2.2.2
     go_wp2
     refine bodyPost_ret (v:=.tuple #[zeroU,.int .i64 4]) ?_ rfl ⟨by rw [hRN];simp,?_⟩
     ·rw [results_cell_tmp rfl]
      go_simp
     ·exact ((((((((P9.1.setCell (Nat.le_add_right w.heap.size 2) _).setCell (Nat.le_add_right w.heap.size 2) _).setCell (Nat.le_add_right w.heap.size 2) _).setCell (Nat.le_add_right w.heap.size 2) _).setCell (Nat.le_add_right w.heap.size 2) _).setCell (Nat.le_add_right w.heap.size 2) _).setCell (Nat.le_add_right w.heap.size 2) _).setCell (Nat.le_add_right w.heap.size 2) _)
    | false =>
     go_wp2_with fail
     refine (lbad_any _ _).mono ?_
     rintro e w9 ⟨rfl,hb9⟩
     have P9:=P7.below hb9
     clear hb9 P7 c0 c1 c2 c3 c4 c5 c6 c7 cf
     obtain ⟨r0,r1,r2,r3,r4,r5,r6,r7,rf⟩:=cells_8 P9.2.2.2
     go_wp2
     refine bodyPost_ret (v:=.tuple #[zeroU,.int .i64 (n:Int)]) ?_ rfl ⟨by rw [hRN];simp,?_⟩
     ·rw [results_cell_tmp rfl]
      go_simp
     ·exact ((((((((P9.1.setCell (Nat.le_add_right w.heap.size 2) _).setCell (Nat.le_add_right w.heap.size 2) _).setCell (Nat.le_add_right w.heap.size 2) _).setCell (Nat.le_add_right w.heap.size 2) _).setCell (Nat.le_add_right w.heap.size 2) _).setCell (Nat.le_add_right w.heap.size 2) _).setCell (Nat.le_add_right w.heap.size 2) _).setCell (Nat.le_add_right w.heap.size 2) _)
end Go.Proofs.YtbbfcbodhmeanaaGreatDoor


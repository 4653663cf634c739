
import Derived.Test.YtbbfcbodhmeanaaGreatDoorXrewritesays22
namespace Go.Proofs.YtbbfcbodhmeanaaGreatDoor
open Go.RowKit
def Two (w:World) (t:TypeId) (a b:Array Value) (W:World):Prop:=Below w.heap.size w W∧W.heap[w.heap.size]? = some (.cells a t)∧W.heap[w.heap.size + 1]? = some (.cells b t)
theorem Two.lt {w W:World} {t:TypeId} {a b:Array Value} (h:Two w t a b W):w.heap.size + 1 < W.heap.size:=(Array.getElem?_eq_some_iff.1 h.2.2).1
theorem Two.below {w W W':World} {t:TypeId} {a b:Array Value} (h:Two w t a b W) (hb:Below W.heap.size W W'):Two w t a b W':=by
 have hl:=h.lt
 exact ⟨h.1.trans (hb.mono (by omega)),by rw [hb.block _ (by omega)];exact h.2.1,by rw [hb.block _ (by omega)];exact h.2.2⟩
theorem Two.drew {w W:World} {t:TypeId} {a b:Array Value} (h:Two w t a b W):Two w t a b W.drew:=⟨h.1.drew,h.2.1,h.2.2⟩
theorem Two.set {w W:World} {t:TypeId} {a b:Array Value} (h:Two w t a b W) (i:Nat) (v:Value):Two w t a (b.setIfInBounds i v) (W.setCell ⟨w.heap.size + 1,i,none⟩ v):=by
 refine ⟨h.1.setCell (Nat.le_succ _) _,?_,?_⟩
 ·rw [Below.heap_setCell _ _ _ _ (by simp)];exact h.2.1
 ·simp only [World.setCell,Array.getElem?_modify,if_true,h.2.2]
  rfl
theorem Two.first {w W:World} {t:TypeId} {a b:Array Value} (h:Two w t a b W) (i:Nat) (v:Value):Two w t (a.setIfInBounds i v) b (W.setCell ⟨w.heap.size,i,none⟩ v):=by
 refine ⟨h.1.setCell (Nat.le_refl _) _,?_,?_⟩
 ·simp only [World.setCell,Array.getElem?_modify,if_true,h.2.1]
  rfl
 ·rw [Below.heap_setCell _ _ _ _ (by simp)];exact h.2.2
theorem blk_cell {W:World} {k:Nat} {c:Array Value} {t:TypeId} (h:W.heap[k]? = some (.cells c t)) (i:Nat):W.cell? ⟨k,i,none⟩ = c[i]?:=by
 simp [World.cell?,h]
theorem blk_frozen {W:World} {k:Nat} {c:Array Value} {t:TypeId} (h:W.heap[k]? = some (.cells c t)) (i:Nat):W.frozen? ⟨k,i,none⟩ = false:=by
 simp [World.frozen?,h]
theorem Two.cells {w W:World} {t:TypeId} {a:Array Value} {v0 v1 v2 v3 v4 v5 v6 v7:Value} (h:Two w t a #[v0,v1,v2,v3,v4,v5,v6,v7] W) :
  W.cell? ⟨w.heap.size + 1,0,none⟩ = some v0∧W.cell? ⟨w.heap.size + 1,1,none⟩ = some v1∧W.cell? ⟨w.heap.size + 1,2,none⟩ = some v2∧W.cell? ⟨w.heap.size + 1,3,none⟩ = some v3 ∧
  W.cell? ⟨w.heap.size + 1,4,none⟩ = some v4∧W.cell? ⟨w.heap.size + 1,5,none⟩ = some v5∧W.cell? ⟨w.heap.size + 1,6,none⟩ = some v6∧W.cell? ⟨w.heap.size + 1,7,none⟩ = some v7∧∀ i,W.frozen? ⟨w.heap.size + 1,i,none⟩ = false :=
 ⟨blk_cell h.2.2 0,blk_cell h.2.2 1,blk_cell h.2.2 2,blk_cell h.2.2 3,blk_cell h.2.2 4,blk_cell h.2.2 5,blk_cell h.2.2 6,blk_cell h.2.2 7,blk_frozen h.2.2⟩
theorem Two.cells' {w W:World} {t:TypeId} {b:Array Value} {v0 v1 v2 v3 v4 v5 v6 v7:Value} (h:Two w t #[v0,v1,v2,v3,v4,v5,v6,v7] b W) :
  W.cell? ⟨w.heap.size,0,none⟩ = some v0∧W.cell? ⟨w.heap.size,1,none⟩ = some v1∧W.cell? ⟨w.heap.size,2,none⟩ = some v2∧W.cell? ⟨w.heap.size,3,none⟩ = some v3 ∧
  W.cell? ⟨w.heap.size,4,none⟩ = some v4∧W.cell? ⟨w.heap.size,5,none⟩ = some v5∧W.cell? ⟨w.heap.size,6,none⟩ = some v6∧W.cell? ⟨w.heap.size,7,none⟩ = some v7∧∀ i,W.frozen? ⟨w.heap.size,i,none⟩ = false :=
 ⟨blk_cell h.2.1 0,blk_cell h.2.1 1,blk_cell h.2.1 2,blk_cell h.2.1 3,blk_cell h.2.1 4,blk_cell h.2.1 5,blk_cell h.2.1 6,blk_cell h.2.1 7,blk_frozen h.2.1⟩
theorem two_new (w:World) (t:TypeId) (a b:Array Value):Two w t a b ((w.alloc (.cells a t)).alloc (.cells b t)):=by
 refine ⟨((Below.refl _ _).alloc (Nat.le_refl _) _).alloc (by simp) _,?_,?_⟩
 ·rw [Below.heap_alloc _ _ _ (by simp)]
  show (w.heap.push _)[w.heap.size]? = _
  simp
 ·show ((w.heap.push _).push _)[w.heap.size + 1]? = _
  rw [Array.getElem?_push,if_pos (by simp)]
theorem Two.set0 {w W:World} {t:TypeId} {a:Array Value} {v0 v1 v2 v3 v4 v5 v6 v7:Value} (h:Two w t a #[v0,v1,v2,v3,v4,v5,v6,v7] W) (x:Value):Two w t a #[x,v1,v2,v3,v4,v5,v6,v7] (W.setCell ⟨w.heap.size + 1,0,none⟩ x):=Two.set h 0 x
theorem Two.set1 {w W:World} {t:TypeId} {a:Array Value} {v0 v1 v2 v3 v4 v5 v6 v7:Value} (h:Two w t a #[v0,v1,v2,v3,v4,v5,v6,v7] W) (x:Value):Two w t a #[v0,x,v2,v3,v4,v5,v6,v7] (W.setCell ⟨w.heap.size + 1,1,none⟩ x):=Two.set h 1 x
theorem Two.set2 {w W:World} {t:TypeId} {a:Array Value} {v0 v1 v2 v3 v4 v5 v6 v7:Value} (h:Two w t a #[v0,v1,v2,v3,v4,v5,v6,v7] W) (x:Value):Two w t a #[v0,v1,x,v3,v4,v5,v6,v7] (W.setCell ⟨w.heap.size + 1,2,none⟩ x):=Two.set h 2 x
theorem Two.set3 {w W:World} {t:TypeId} {a:Array Value} {v0 v1 v2 v3 v4 v5 v6 v7:Value} (h:Two w t a #[v0,v1,v2,v3,v4,v5,v6,v7] W) (x:Value):Two w t a #[v0,v1,v2,x,v4,v5,v6,v7] (W.setCell ⟨w.heap.size + 1,3,none⟩ x):=Two.set h 3 x
theorem Two.set4 {w W:World} {t:TypeId} {a:Array Value} {v0 v1 v2 v3 v4 v5 v6 v7:Value} (h:Two w t a #[v0,v1,v2,v3,v4,v5,v6,v7] W) (x:Value):Two w t a #[v0,v1,v2,v3,x,v5,v6,v7] (W.setCell ⟨w.heap.size + 1,4,none⟩ x):=Two.set h 4 x
theorem Two.set5 {w W:World} {t:TypeId} {a:Array Value} {v0 v1 v2 v3 v4 v5 v6 v7:Value} (h:Two w t a #[v0,v1,v2,v3,v4,v5,v6,v7] W) (x:Value):Two w t a #[v0,v1,v2,v3,v4,x,v6,v7] (W.setCell ⟨w.heap.size + 1,5,none⟩ x):=Two.set h 5 x
theorem Two.set6 {w W:World} {t:TypeId} {a:Array Value} {v0 v1 v2 v3 v4 v5 v6 v7:Value} (h:Two w t a #[v0,v1,v2,v3,v4,v5,v6,v7] W) (x:Value):Two w t a #[v0,v1,v2,v3,v4,v5,x,v7] (W.setCell ⟨w.heap.size + 1,6,none⟩ x):=Two.set h 6 x
theorem Two.set7 {w W:World} {t:TypeId} {a:Array Value} {v0 v1 v2 v3 v4 v5 v6 v7:Value} (h:Two w t a #[v0,v1,v2,v3,v4,v5,v6,v7] W) (x:Value):Two w t a #[v0,v1,v2,v3,v4,v5,v6,x] (W.setCell ⟨w.heap.size + 1,7,none⟩ x):=Two.set h 7 x
theorem ucut_any (d:UInt8) (s A R:ByteArray) (F:Bool) (h:cutO d s.data.toList = (A.data.toList,R.data.toList,F)) (hs:s.size≤1000000000) (w:World) :
  Calls Tryz.prog 89 #[.string s,.string ⟨#[d]⟩] w fun e w'=>e = .returned (.tuple #[.string A,.string R,.bool F])∧Below w.heap.size w w':=by
 unfold cutO at h
 cases hc:cutB d s.data.toList with
 | none =>
  rw [hc] at h
  simp only [Prod.mk.injEq] at h
  obtain ⟨e1,e2,e3⟩:=h
  have:=ba_inj e1
  subst this
  have:=bempty_yes R e2.symm
  subst this e3
  exact cut_none d s w hc
 | some x =>
  rw [hc] at h
  simp only [Prod.mk.injEq] at h
  obtain ⟨e1,e2,e3⟩:=h
  subst e3
  exact cut_some d s A R w hs (by rw [hc,← e1,← e2])
set_option maxHeartbeats 4000000 in
set_option maxRecDepth 100000 in
theorem parse_long (s:ByteArray) (hs:s.size≤maxLen) (h:120 < s.size) (w:World) :
  Calls Tryz.prog 50 #[.string s] w fun e w'=>e = .returned (.tuple #[.agg #[.string ⟨#[]⟩,.bool false,.string ⟨#[]⟩,.string ⟨#[]⟩,.bool false,.string ⟨#[]⟩,.bool false,.string ⟨#[]⟩],.int .i64 2])∧Below w.heap.size w w':=by
 unfold maxLen at hs
 have hi:(120:Int) < (s.size:Int):=by omega
 go_enter Tryz.func50,Tryz.ntmps50
 go_wp2
 refine bodyPost_ret (v:=.tuple #[.agg #[.string ⟨#[]⟩,.bool false,.string ⟨#[]⟩,.string ⟨#[]⟩,.bool false,.string ⟨#[]⟩,.bool false,.string ⟨#[]⟩],.int .i64 2]) ?_ rfl ⟨rfl,(Below.refl _ _).alloc (Nat.le_refl _) _⟩
 rw [results_cell_tmp rfl]
 go_simp
set_option maxHeartbeats 8000000 in
set_option maxRecDepth 100000 in
theorem parse_NN (s A1 R1 A2 R2 X:ByteArray) (F1 F2:Bool) (n:Nat) (w:World) (hs:s.size≤120)
  (CU1:Hid (∀ W,Calls Tryz.prog 89 #[.string s,.string ⟨#[35]⟩] W fun e w'=>e = .returned (.tuple #[.string A1,.string R1,.bool F1])∧Below W.heap.size W w'))
  (CU2:Hid (∀ W,Calls Tryz.prog 89 #[.string A1,.string ⟨#[63]⟩] W fun e w'=>e = .returned (.tuple #[.string A2,.string R2,.bool F2])∧Below W.heap.size W w'))
  (CO:Hid (∀ W,Calls Tryz.prog 90 #[.string A2] W fun e w'=>e = .returned (.int .i64 (-1))∧Below W.heap.size W w'))
  (CP:Hid (∀ W,Calls Tryz.prog 81 #[.string A2,.string ⟨#[47,47]⟩] W fun e w'=>e = .returned (.tuple #[.string X,.bool false])∧w' = W))
  (CK:Hid (∀ W,Calls Tryz.prog 94 #[.agg #[.string ⟨#[]⟩,.bool false,.string ⟨#[]⟩,.string X,.bool F2,.string R2,.bool F1,.string R1]] W fun e w'=>e = .returned (.int .i64 (n:Int))∧Below W.heap.size W w')) :
  Calls Tryz.prog 50 #[.string s] w fun e w'=>e = .returned (.tuple #[if n = 0 then .agg #[.string ⟨#[]⟩,.bool false,.string ⟨#[]⟩,.string X,.bool F2,.string R2,.bool F1,.string R1] else .agg #[.string ⟨#[]⟩,.bool false,.string ⟨#[]⟩,.string ⟨#[]⟩,.bool false,.string ⟨#[]⟩,.bool false,.string ⟨#[]⟩],.int .i64 (n:Int)])∧Below w.heap.size w w':=by
 have hi:¬ (120:Int) < (s.size:Int):=by omega
 have P0:=two_new w 85 #[.string ⟨#[]⟩,.bool false,.string ⟨#[]⟩,.string ⟨#[]⟩,.bool false,.string ⟨#[]⟩,.bool false,.string ⟨#[]⟩] #[.string ⟨#[]⟩,.bool false,.string ⟨#[]⟩,.string ⟨#[]⟩,.bool false,.string ⟨#[]⟩,.bool false,.string ⟨#[]⟩]
 go_enter Tryz.func50,Tryz.ntmps50
 go_wp2_with fail
 refine (CU1.out _).mono ?_
 rintro e w1 ⟨rfl,hb1⟩
 have P1:=P0.below hb1
 clear CU1 hb1 P0
 obtain ⟨c0a,c1a,c2a,c3a,c4a,c5a,c6a,c7a,cfa⟩:=P1.cells
 go_wp2_with fail
 have P2:=(P1.set7 (.string R1)).set6 (.bool F1)
 refine (CU2.out _).mono ?_
 rintro e w2 ⟨rfl,hb2⟩
 have P3:=P2.below hb2
 clear CU2 hb2 P1 P2
 clear c0a c1a c2a c3a c4a c5a c6a c7a cfa
 obtain ⟨c0b,c1b,c2b,c3b,c4b,c5b,c6b,c7b,cfb⟩:=P3.cells
 go_wp2_with fail
 have P4:=(P3.set5 (.string R2)).set4 (.bool F2)
 refine (CO.out _).mono ?_
 rintro e w3 ⟨rfl,hb3⟩
 have P5:=P4.below hb3
 clear CO hb3 P3 P4
 clear c0b c1b c2b c3b c4b c5b c6b c7b cfb
 obtain ⟨c0c,c1c,c2c,c3c,c4c,c5c,c6c,c7c,cfc⟩:=P5.cells
 go_wp2_with fail
 refine (CP.out _).mono ?_
 rintro e w' ⟨rfl,hw'⟩
 have hw'':=hw'.symm
 subst hw''
 clear CP
 go_wp2_with fail
 have Q1:=(P5.set1 (.bool false)).set3 (.string X)
 refine (CK.out _).mono ?_
 rintro e w8 ⟨rfl,hb8⟩
 have Q2:=Q1.below hb8
 clear hb8 Q1
 clear c0c c1c c2c c3c c4c c5c c6c c7c cfc
 obtain ⟨c0x,c1x,c2x,c3x,c4x,c5x,c6x,c7x,cfx⟩:=Q2.cells
 obtain ⟨r0x,r1x,r2x,r3x,r4x,r5x,r6x,r7x,rfx⟩:=Q2.cells'
 clear CK
 by_cases h0:n = 0
 ·subst h0
  go_wp2
  refine bodyPost_ret (v:=.tuple #[.agg #[.string ⟨#[]⟩,.bool false,.string ⟨#[]⟩,.string X,.bool F2,.string R2,.bool F1,.string R1],.int .i64 0]) ?_ rfl ⟨rfl,?_⟩
  ·rw [results_cell_tmp rfl]
   go_simp
  ·exact ((((((((Q2.1.setCell (Nat.le_refl _) _).setCell (Nat.le_refl _) _).setCell (Nat.le_refl _) _).setCell (Nat.le_refl _) _).setCell (Nat.le_refl _) _).setCell (Nat.le_refl _) _).setCell (Nat.le_refl _) _).setCell (Nat.le_refl _) _)
 ·have hn0:((n:Int) == 0) = false:=by rw [beq_eq_false_iff_ne];omega
  go_wp2
  refine bodyPost_ret (v:=.tuple #[.agg #[.string ⟨#[]⟩,.bool false,.string ⟨#[]⟩,.string ⟨#[]⟩,.bool false,.string ⟨#[]⟩,.bool false,.string ⟨#[]⟩],.int .i64 (n:Int)]) ?_ rfl ⟨by first | rfl | rw [if_neg h0],?_⟩
  ·rw [results_cell_tmp rfl]
   go_simp
  ·exact ((((((((Q2.1.setCell (Nat.le_refl _) _).setCell (Nat.le_refl _) _).setCell (Nat.le_refl _) _).setCell (Nat.le_refl _) _).setCell (Nat.le_refl _) _).setCell (Nat.le_refl _) _).setCell (Nat.le_refl _) _).setCell (Nat.le_refl _) _)
set_option maxHeartbeats 8000000 in
set_option maxRecDepth 100000 in
theorem parse_NS (s A1 R1 A2 R2 X H0 H PT:ByteArray) (F1 F2:Bool) (j:Nat) (n:Nat) (w:World) (hs:s.size≤120)
  (CU1:Hid (∀ W,Calls Tryz.prog 89 #[.string s,.string ⟨#[35]⟩] W fun e w'=>e = .returned (.tuple #[.string A1,.string R1,.bool F1])∧Below W.heap.size W w'))
  (CU2:Hid (∀ W,Calls Tryz.prog 89 #[.string A1,.string ⟨#[63]⟩] W fun e w'=>e = .returned (.tuple #[.string A2,.string R2,.bool F2])∧Below W.heap.size W w'))
  (CO:Hid (∀ W,Calls Tryz.prog 90 #[.string A2] W fun e w'=>e = .returned (.int .i64 (-1))∧Below W.heap.size W w'))
  (CP:Hid (∀ W,Calls Tryz.prog 81 #[.string A2,.string ⟨#[47,47]⟩] W fun e w'=>e = .returned (.tuple #[.string X,.bool true])∧w' = W))
  (hX:X.size≤120) (CI:Hid (∀ W,Calls Tryz.prog 93 #[.string X,.int .u8 47] W fun e w'=>e = .returned (.int .i64 (j:Int))∧w' = W))
  (hj:j≤X.size) (hH0:X.extract 0 j = H0) (hPT:X.extract j X.size = PT)
  (CSH:Hid (∀ W,Calls Tryz.prog 91 #[.string H0] W fun e w'=>e = .returned (.string H)∧Below W.heap.size W w'))
  (CK:Hid (∀ W,Calls Tryz.prog 94 #[.agg #[.string ⟨#[]⟩,.bool true,.string H,.string PT,.bool F2,.string R2,.bool F1,.string R1]] W fun e w'=>e = .returned (.int .i64 (n:Int))∧Below W.heap.size W w')) :
  Calls Tryz.prog 50 #[.string s] w fun e w'=>e = .returned (.tuple #[if n = 0 then .agg #[.string ⟨#[]⟩,.bool true,.string H,.string PT,.bool F2,.string R2,.bool F1,.string R1] else .agg #[.string ⟨#[]⟩,.bool false,.string ⟨#[]⟩,.string ⟨#[]⟩,.bool false,.string ⟨#[]⟩,.bool false,.string ⟨#[]⟩],.int .i64 (n:Int)])∧Below w.heap.size w w':=by
 have hi:¬ (120:Int) < (s.size:Int):=by omega
 have P0:=two_new w 85 #[.string ⟨#[]⟩,.bool false,.string ⟨#[]⟩,.string ⟨#[]⟩,.bool false,.string ⟨#[]⟩,.bool false,.string ⟨#[]⟩] #[.string ⟨#[]⟩,.bool false,.string ⟨#[]⟩,.string ⟨#[]⟩,.bool false,.string ⟨#[]⟩,.bool false,.string ⟨#[]⟩]
 go_enter Tryz.func50,Tryz.ntmps50
 go_wp2_with fail
 refine (CU1.out _).mono ?_
 rintro e w1 ⟨rfl,hb1⟩
 have P1:=P0.below hb1
 clear CU1 hb1 P0
 obtain ⟨c0a,c1a,c2a,c3a,c4a,c5a,c6a,c7a,cfa⟩:=P1.cells
 go_wp2_with fail
 have P2:=(P1.set7 (.string R1)).set6 (.bool F1)
 refine (CU2.out _).mono ?_
 rintro e w2 ⟨rfl,hb2⟩
 have P3:=P2.below hb2
 clear CU2 hb2 P1 P2
 clear c0a c1a c2a c3a c4a c5a c6a c7a cfa
 obtain ⟨c0b,c1b,c2b,c3b,c4b,c5b,c6b,c7b,cfb⟩:=P3.cells
 go_wp2_with fail
 have P4:=(P3.set5 (.string R2)).set4 (.bool F2)
 refine (CO.out _).mono ?_
 rintro e w3 ⟨rfl,hb3⟩
 have P5:=P4.below hb3
 clear CO hb3 P3 P4
 clear c0b c1b c2b c3b c4b c5b c6b c7b cfb
 obtain ⟨c0c,c1c,c2c,c3c,c4c,c5c,c6c,c7c,cfc⟩:=P5.cells
 go_wp2_with fail
 refine (CP.out _).mono ?_
 rintro e w' ⟨rfl,hw'⟩
 have hw'':=hw'.symm
 subst hw''
 clear CP
 go_wp2_with fail
 have Q0:=P5.set1 (.bool true)
 have hXi:(X.size:Int)≤120:=by omega
 refine (CI.out _).mono ?_
 rintro e w' ⟨rfl,hw'⟩
 have hw'':=hw'.symm
 subst hw''
 clear CI
 clear c0c c1c c2c c3c c4c c5c c6c c7c cfc
 obtain ⟨c0e,c1e,c2e,c3e,c4e,c5e,c6e,c7e,cfe⟩:=Q0.cells
 have hji:(j:Int)≤(X.size:Int):=by omega
 go_wp2_with fail
 go_region_with (go_at_call 91;refine (CSH.out _).mono ?_;rintro e w6 ⟨rfl,hb6⟩;have Q3:=(Q0.drew).below hb6;obtain ⟨c0g,c1g,c2g,c3g,c4g,c5g,c6g,c7g,cfg⟩:=Q3.cells)
 all_goals (
  have Q4:=Q3.set2 (.string H)
  clear CSH hb6
  go_wp2_with fail
  have Q5:=Q4.set3 (.string PT)
  refine (CK.out _).mono ?_
  rintro e w8 ⟨rfl,hb8⟩
  have Q6:=Q5.below hb8
  clear hb8 Q5 Q4 Q3 Q0
  clear c0g c1g c2g c3g c4g c5g c6g c7g cfg
  obtain ⟨c0x,c1x,c2x,c3x,c4x,c5x,c6x,c7x,cfx⟩:=Q6.cells
  obtain ⟨r0x,r1x,r2x,r3x,r4x,r5x,r6x,r7x,rfx⟩:=Q6.cells'
  clear CK
  by_cases h0:n = 0
  ·subst h0
   go_wp2
   refine bodyPost_ret (v:=.tuple #[.agg #[.string ⟨#[]⟩,.bool true,.string H,.string PT,.bool F2,.string R2,.bool F1,.string R1],.int .i64 0]) ?_ rfl ⟨rfl,?_⟩
   ·rw [results_cell_tmp rfl]
    go_simp
   ·exact ((((((((Q6.1.setCell (Nat.le_refl _) _).setCell (Nat.le_refl _) _).setCell (Nat.le_refl _) _).setCell (Nat.le_refl _) _).setCell (Nat.le_refl _) _).setCell (Nat.le_refl _) _).setCell (Nat.le_refl _) _).setCell (Nat.le_refl _) _)
  ·have hn0:((n:Int) == 0) = false:=by rw [beq_eq_false_iff_ne];omega
   go_wp2
   refine bodyPost_ret (v:=.tuple #[.agg #[.string ⟨#[]⟩,.bool false,.string ⟨#[]⟩,.string ⟨#[]⟩,.bool false,.string ⟨#[]⟩,.bool false,.string ⟨#[]⟩],.int .i64 (n:Int)]) ?_ rfl ⟨by first | rfl | rw [if_neg h0],?_⟩
   ·rw [results_cell_tmp rfl]
    go_simp
   ·exact ((((((((Q6.1.setCell (Nat.le_refl _) _).setCell (Nat.le_refl _) _).setCell (Nat.le_refl _) _).setCell (Nat.le_refl _) _).setCell (Nat.le_refl _) _).setCell (Nat.le_refl _) _).setCell (Nat.le_refl _) _).setCell (Nat.le_refl _) _))
set_option maxHeartbeats 8000000 in
set_option maxRecDepth 100000 in
theorem parse_NE (s A1 R1 A2 R2 X H:ByteArray) (F1 F2:Bool) (n:Nat) (w:World) (hs:s.size≤120)
  (CU1:Hid (∀ W,Calls Tryz.prog 89 #[.string s,.string ⟨#[35]⟩] W fun e w'=>e = .returned (.tuple #[.string A1,.string R1,.bool F1])∧Below W.heap.size W w'))
  (CU2:Hid (∀ W,Calls Tryz.prog 89 #[.string A1,.string ⟨#[63]⟩] W fun e w'=>e = .returned (.tuple #[.string A2,.string R2,.bool F2])∧Below W.heap.size W w'))
  (CO:Hid (∀ W,Calls Tryz.prog 90 #[.string A2] W fun e w'=>e = .returned (.int .i64 (-1))∧Below W.heap.size W w'))
  (CP:Hid (∀ W,Calls Tryz.prog 81 #[.string A2,.string ⟨#[47,47]⟩] W fun e w'=>e = .returned (.tuple #[.string X,.bool true])∧w' = W))
  (hX:X.size≤120) (CI:Hid (∀ W,Calls Tryz.prog 93 #[.string X,.int .u8 47] W fun e w'=>e = .returned (.int .i64 (-1))∧w' = W))
  (CSH:Hid (∀ W,Calls Tryz.prog 91 #[.string X] W fun e w'=>e = .returned (.string H)∧Below W.heap.size W w'))
  (CK:Hid (∀ W,Calls Tryz.prog 94 #[.agg #[.string ⟨#[]⟩,.bool true,.string H,.string ⟨#[]⟩,.bool F2,.string R2,.bool F1,.string R1]] W fun e w'=>e = .returned (.int .i64 (n:Int))∧Below W.heap.size W w')) :
  Calls Tryz.prog 50 #[.string s] w fun e w'=>e = .returned (.tuple #[if n = 0 then .agg #[.string ⟨#[]⟩,.bool true,.string H,.string ⟨#[]⟩,.bool F2,.string R2,.bool F1,.string R1] else .agg #[.string ⟨#[]⟩,.bool false,.string ⟨#[]⟩,.string ⟨#[]⟩,.bool false,.string ⟨#[]⟩,.bool false,.string ⟨#[]⟩],.int .i64 (n:Int)])∧Below w.heap.size w w':=by
 have hi:¬ (120:Int) < (s.size:Int):=by omega
 have P0:=two_new w 85 #[.string ⟨#[]⟩,.bool false,.string ⟨#[]⟩,.string ⟨#[]⟩,.bool false,.string ⟨#[]⟩,.bool false,.string ⟨#[]⟩] #[.string ⟨#[]⟩,.bool false,.string ⟨#[]⟩,.string ⟨#[]⟩,.bool false,.string ⟨#[]⟩,.bool false,.string ⟨#[]⟩]
 go_enter Tryz.func50,Tryz.ntmps50
 go_wp2_with fail
 refine (CU1.out _).mono ?_
 rintro e w1 ⟨rfl,hb1⟩
 have P1:=P0.below hb1
 clear CU1 hb1 P0
 obtain ⟨c0a,c1a,c2a,c3a,c4a,c5a,c6a,c7a,cfa⟩:=P1.cells
 go_wp2_with fail
 have P2:=(P1.set7 (.string R1)).set6 (.bool F1)
 refine (CU2.out _).mono ?_
 rintro e w2 ⟨rfl,hb2⟩
 have P3:=P2.below hb2
 clear CU2 hb2 P1 P2
 clear c0a c1a c2a c3a c4a c5a c6a c7a cfa
 obtain ⟨c0b,c1b,c2b,c3b,c4b,c5b,c6b,c7b,cfb⟩:=P3.cells
 go_wp2_with fail
 have P4:=(P3.set5 (.string R2)).set4 (.bool F2)
 refine (CO.out _).mono ?_
 rintro e w3 ⟨rfl,hb3⟩
 have P5:=P4.below hb3
 clear CO hb3 P3 P4
 clear c0b c1b c2b c3b c4b c5b c6b c7b cfb
 obtain ⟨c0c,c1c,c2c,c3c,c4c,c5c,c6c,c7c,cfc⟩:=P5.cells
 go_wp2_with fail
 refine (CP.out _).mono ?_
 rintro e w' ⟨rfl,hw'⟩
 have hw'':=hw'.symm
 subst hw''
 clear CP
 go_wp2_with fail
 have Q0:=P5.set1 (.bool true)
 have hXi:(X.size:Int)≤120:=by omega
 refine (CI.out _).mono ?_
 rintro e w' ⟨rfl,hw'⟩
 have hw'':=hw'.symm
 subst hw''
 clear CI
 clear c0c c1c c2c c3c c4c c5c c6c c7c cfc
 obtain ⟨c0e,c1e,c2e,c3e,c4e,c5e,c6e,c7e,cfe⟩:=Q0.cells
 go_wp2_with fail
 go_region_with (go_at_call 91;refine (CSH.out _).mono ?_;rintro e w6 ⟨rfl,hb6⟩;have Q3:=(Q0.drew).below hb6;obtain ⟨c0g,c1g,c2g,c3g,c4g,c5g,c6g,c7g,cfg⟩:=Q3.cells)
 all_goals (
  have Q4:=Q3.set2 (.string H)
  clear CSH hb6
  go_wp2_with fail
  have Q5:=Q4.set3 (.string ⟨#[]⟩)
  refine (CK.out _).mono ?_
  rintro e w8 ⟨rfl,hb8⟩
  have Q6:=Q5.below hb8
  clear hb8 Q5 Q4 Q3 Q0
  clear c0g c1g c2g c3g c4g c5g c6g c7g cfg
  obtain ⟨c0x,c1x,c2x,c3x,c4x,c5x,c6x,c7x,cfx⟩:=Q6.cells
  obtain ⟨r0x,r1x,r2x,r3x,r4x,r5x,r6x,r7x,rfx⟩:=Q6.cells'
  clear CK
  by_cases h0:n = 0
  ·subst h0
   go_wp2
   refine bodyPost_ret (v:=.tuple #[.agg #[.string ⟨#[]⟩,.bool true,.string H,.string ⟨#[]⟩,.bool F2,.string R2,.bool F1,.string R1],.int .i64 0]) ?_ rfl ⟨rfl,?_⟩
   ·rw [results_cell_tmp rfl]
    go_simp
   ·exact ((((((((Q6.1.setCell (Nat.le_refl _) _).setCell (Nat.le_refl _) _).setCell (Nat.le_refl _) _).setCell (Nat.le_refl _) _).setCell (Nat.le_refl _) _).setCell (Nat.le_refl _) _).setCell (Nat.le_refl _) _).setCell (Nat.le_refl _) _)
  ·have hn0:((n:Int) == 0) = false:=by rw [beq_eq_false_iff_ne];omega
   go_wp2
   refine bodyPost_ret (v:=.tuple #[.agg #[.string ⟨#[]⟩,.bool false,.string ⟨#[]⟩,.string ⟨#[]⟩,.bool false,.string ⟨#[]⟩,.bool false,.string ⟨#[]⟩],.int .i64 (n:Int)]) ?_ rfl ⟨by first | rfl | rw [if_neg h0],?_⟩
   ·rw [results_cell_tmp rfl]
    go_simp
   ·exact ((((((((Q6.1.setCell (Nat.le_refl _) _).setCell (Nat.le_refl _) _).setCell (Nat.le_refl _) _).setCell (Nat.le_refl _) _).setCell (Nat.le_refl _) _).setCell (Nat.le_refl _) _).setCell (Nat.le_refl _) _).setCell (Nat.le_refl _) _))
set_option maxHeartbeats 8000000 in
set_option maxRecDepth 100000 in
theorem parse_YB (s A1 R1 A2 R2 SA SB SC:ByteArray) (F1 F2:Bool) (k:Nat) (w:World) (hs:s.size≤120)
  (CU1:Hid (∀ W,Calls Tryz.prog 89 #[.string s,.string ⟨#[35]⟩] W fun e w'=>e = .returned (.tuple #[.string A1,.string R1,.bool F1])∧Below W.heap.size W w'))
  (CU2:Hid (∀ W,Calls Tryz.prog 89 #[.string A1,.string ⟨#[63]⟩] W fun e w'=>e = .returned (.tuple #[.string A2,.string R2,.bool F2])∧Below W.heap.size W w'))
  (CO:Hid (∀ W,Calls Tryz.prog 90 #[.string A2] W fun e w'=>e = .returned (.int .i64 (k:Int))∧Below W.heap.size W w'))
  (hA2:A2.size≤120) (hk:k + 1≤A2.size) (hSA:A2.extract 0 k = SA) (hSB:A2.extract (k + 1) A2.size = SB)
  (CSM:Hid (∀ W,Calls Tryz.prog 91 #[.string SA] W fun e w'=>e = .returned (.string SC)∧Below W.heap.size W w'))
  (CSC:Hid (∀ W,Calls Tryz.prog 92 #[.string SC] W fun e w'=>e = .returned (.bool false)∧w' = W)) :
  Calls Tryz.prog 50 #[.string s] w fun e w'=>e = .returned (.tuple #[.agg #[.string ⟨#[]⟩,.bool false,.string ⟨#[]⟩,.string ⟨#[]⟩,.bool false,.string ⟨#[]⟩,.bool false,.string ⟨#[]⟩],.int .i64 1])∧Below w.heap.size w w':=by
 have hi:¬ (120:Int) < (s.size:Int):=by omega
 have P0:=two_new w 85 #[.string ⟨#[]⟩,.bool false,.string ⟨#[]⟩,.string ⟨#[]⟩,.bool false,.string ⟨#[]⟩,.bool false,.string ⟨#[]⟩] #[.string ⟨#[]⟩,.bool false,.string ⟨#[]⟩,.string ⟨#[]⟩,.bool false,.string ⟨#[]⟩,.bool false,.string ⟨#[]⟩]
 go_enter Tryz.func50,Tryz.ntmps50
 go_wp2_with fail
 refine (CU1.out _).mono ?_
 rintro e w1 ⟨rfl,hb1⟩
 have P1:=P0.below hb1
 clear CU1 hb1 P0
 obtain ⟨c0a,c1a,c2a,c3a,c4a,c5a,c6a,c7a,cfa⟩:=P1.cells
 go_wp2_with fail
 have P2:=(P1.set7 (.string R1)).set6 (.bool F1)
 refine (CU2.out _).mono ?_
 rintro e w2 ⟨rfl,hb2⟩
 have P3:=P2.below hb2
 clear CU2 hb2 P1 P2
 clear c0a c1a c2a c3a c4a c5a c6a c7a cfa
 obtain ⟨c0b,c1b,c2b,c3b,c4b,c5b,c6b,c7b,cfb⟩:=P3.cells
 go_wp2_with fail
 have P4:=(P3.set5 (.string R2)).set4 (.bool F2)
 refine (CO.out _).mono ?_
 rintro e w3 ⟨rfl,hb3⟩
 have P5:=P4.below hb3
 clear CO hb3 P3 P4
 clear c0b c1b c2b c3b c4b c5b c6b c7b cfb
 obtain ⟨c0c,c1c,c2c,c3c,c4c,c5c,c6c,c7c,cfc⟩:=P5.cells
 go_wp2_with fail
 have hki1:(k:Int) < (A2.size:Int):=by omega
 have hki2:(k:Int) + 1≤(A2.size:Int):=by omega
 have hAi:(A2.size:Int)≤120:=by omega
 have hA9:A2.size≤9223372036854775807:=by omega
 have hsl:∀ W:World,(Instr.slice 9 (.string A2) (some (.int .i64 ((k:Int) + 1))) none none).run Tryz.prog W = .ok (.string SB) W:=fun W=>by
  rw [run_slice_string_l W 9 A2 Tryz.underlying9 .i64 ((k:Int) + 1) (by omega) hki2,show ((k:Int) + 1).toNat = k + 1 from by omega,hSB]
 have hkw:IntKind.i64.wrap ((k:Int) + 1) = (k:Int) + 1:=wrap_small _ (by omega) (by omega)
 have hkn1:k≤A2.size:=by omega
 have hkn2:k < A2.size:=by omega
 clear hA2 hAi
 go_region_with (go_at_call 91;refine (CSM.out _).mono ?_;rintro e w4 ⟨rfl,hb4⟩;have P6:=(P5.drew).below hb4;obtain ⟨c0d,c1d,c2d,c3d,c4d,c5d,c6d,c7d,cfd⟩:=P6.cells)
 clear c0c c1c c2c c3c c4c c5c c6c c7c cfc
 all_goals (
  have P7:=P6.set0 (.string SC)
  clear CSM hb4
  clear c0d c1d c2d c3d c4d c5d c6d c7d cfd
  obtain ⟨c0h,c1h,c2h,c3h,c4h,c5h,c6h,c7h,cfh⟩:=P7.cells
  go_wp2_with fail
  refine (CSC.out _).mono ?_
  rintro e w' ⟨rfl,hw'⟩
  have hw'':=hw'.symm
  subst hw''
  clear CSC
  obtain ⟨r0x,r1x,r2x,r3x,r4x,r5x,r6x,r7x,rfx⟩:=P7.cells'
  go_wp2
  refine bodyPost_ret (v:=.tuple #[.agg #[.string ⟨#[]⟩,.bool false,.string ⟨#[]⟩,.string ⟨#[]⟩,.bool false,.string ⟨#[]⟩,.bool false,.string ⟨#[]⟩],.int .i64 1]) ?_ rfl ⟨rfl,?_⟩
  ·rw [results_cell_tmp rfl]
   go_simp
  ·exact ((((((((P7.1.setCell (Nat.le_refl _) _).setCell (Nat.le_refl _) _).setCell (Nat.le_refl _) _).setCell (Nat.le_refl _) _).setCell (Nat.le_refl _) _).setCell (Nat.le_refl _) _).setCell (Nat.le_refl _) _).setCell (Nat.le_refl _) _))
set_option maxHeartbeats 8000000 in
set_option maxRecDepth 100000 in
theorem parse_YN (s A1 R1 A2 R2 SA SB SC X:ByteArray) (F1 F2:Bool) (k:Nat) (n:Nat) (w:World) (hs:s.size≤120)
  (CU1:Hid (∀ W,Calls Tryz.prog 89 #[.string s,.string ⟨#[35]⟩] W fun e w'=>e = .returned (.tuple #[.string A1,.string R1,.bool F1])∧Below W.heap.size W w'))
  (CU2:Hid (∀ W,Calls Tryz.prog 89 #[.string A1,.string ⟨#[63]⟩] W fun e w'=>e = .returned (.tuple #[.string A2,.string R2,.bool F2])∧Below W.heap.size W w'))
  (CO:Hid (∀ W,Calls Tryz.prog 90 #[.string A2] W fun e w'=>e = .returned (.int .i64 (k:Int))∧Below W.heap.size W w'))
  (hA2:A2.size≤120) (hk:k + 1≤A2.size) (hSA:A2.extract 0 k = SA) (hSB:A2.extract (k + 1) A2.size = SB)
  (CSM:Hid (∀ W,Calls Tryz.prog 91 #[.string SA] W fun e w'=>e = .returned (.string SC)∧Below W.heap.size W w'))
  (CSC:Hid (∀ W,Calls Tryz.prog 92 #[.string SC] W fun e w'=>e = .returned (.bool true)∧w' = W))
  (CP:Hid (∀ W,Calls Tryz.prog 81 #[.string SB,.string ⟨#[47,47]⟩] W fun e w'=>e = .returned (.tuple #[.string X,.bool false])∧w' = W))
  (CK:Hid (∀ W,Calls Tryz.prog 94 #[.agg #[.string SC,.bool false,.string ⟨#[]⟩,.string X,.bool F2,.string R2,.bool F1,.string R1]] W fun e w'=>e = .returned (.int .i64 (n:Int))∧Below W.heap.size W w')) :
  Calls Tryz.prog 50 #[.string s] w fun e w'=>e = .returned (.tuple #[if n = 0 then .agg #[.string SC,.bool false,.string ⟨#[]⟩,.string X,.bool F2,.string R2,.bool F1,.string R1] else .agg #[.string ⟨#[]⟩,.bool false,.string ⟨#[]⟩,.string ⟨#[]⟩,.bool false,.string ⟨#[]⟩,.bool false,.string ⟨#[]⟩],.int .i64 (n:Int)])∧Below w.heap.size w w':=by
 have hi:¬ (120:Int) < (s.size:Int):=by omega
 have P0:=two_new w 85 #[.string ⟨#[]⟩,.bool false,.string ⟨#[]⟩,.string ⟨#[]⟩,.bool false,.string ⟨#[]⟩,.bool false,.string ⟨#[]⟩] #[.string ⟨#[]⟩,.bool false,.string ⟨#[]⟩,.string ⟨#[]⟩,.bool false,.string ⟨#[]⟩,.bool false,.string ⟨#[]⟩]
 go_enter Tryz.func50,Tryz.ntmps50
 go_wp2_with fail
 refine (CU1.out _).mono ?_
 rintro e w1 ⟨rfl,hb1⟩
 have P1:=P0.below hb1
 clear CU1 hb1 P0
 obtain ⟨c0a,c1a,c2a,c3a,c4a,c5a,c6a,c7a,cfa⟩:=P1.cells
 go_wp2_with fail
 have P2:=(P1.set7 (.string R1)).set6 (.bool F1)
 refine (CU2.out _).mono ?_
 rintro e w2 ⟨rfl,hb2⟩
 have P3:=P2.below hb2
 clear CU2 hb2 P1 P2
 clear c0a c1a c2a c3a c4a c5a c6a c7a cfa
 obtain ⟨c0b,c1b,c2b,c3b,c4b,c5b,c6b,c7b,cfb⟩:=P3.cells
 go_wp2_with fail
 have P4:=(P3.set5 (.string R2)).set4 (.bool F2)
 refine (CO.out _).mono ?_
 rintro e w3 ⟨rfl,hb3⟩
 have P5:=P4.below hb3
 clear CO hb3 P3 P4
 clear c0b c1b c2b c3b c4b c5b c6b c7b cfb
 obtain ⟨c0c,c1c,c2c,c3c,c4c,c5c,c6c,c7c,cfc⟩:=P5.cells
 go_wp2_with fail
 have hki1:(k:Int) < (A2.size:Int):=by omega
 have hki2:(k:Int) + 1≤(A2.size:Int):=by omega
 have hAi:(A2.size:Int)≤120:=by omega
 have hA9:A2.size≤9223372036854775807:=by omega
 have hsl:∀ W:World,(Instr.slice 9 (.string A2) (some (.int .i64 ((k:Int) + 1))) none none).run Tryz.prog W = .ok (.string SB) W:=fun W=>by
  rw [run_slice_string_l W 9 A2 Tryz.underlying9 .i64 ((k:Int) + 1) (by omega) hki2,show ((k:Int) + 1).toNat = k + 1 from by omega,hSB]
 have hkw:IntKind.i64.wrap ((k:Int) + 1) = (k:Int) + 1:=wrap_small _ (by omega) (by omega)
 have hkn1:k≤A2.size:=by omega
 have hkn2:k < A2.size:=by omega
 clear hA2 hAi
 go_region_with (go_at_call 91;refine (CSM.out _).mono ?_;rintro e w4 ⟨rfl,hb4⟩;have P6:=(P5.drew).below hb4;obtain ⟨c0d,c1d,c2d,c3d,c4d,c5d,c6d,c7d,cfd⟩:=P6.cells)
 clear c0c c1c c2c c3c c4c c5c c6c c7c cfc
 all_goals (
  have P7:=P6.set0 (.string SC)
  clear CSM hb4
  clear c0d c1d c2d c3d c4d c5d c6d c7d cfd
  obtain ⟨c0h,c1h,c2h,c3h,c4h,c5h,c6h,c7h,cfh⟩:=P7.cells
  go_wp2_with fail
  refine (CSC.out _).mono ?_
  rintro e w' ⟨rfl,hw'⟩
  have hw'':=hw'.symm
  subst hw''
  clear CSC
  go_wp2_with fail
  refine (CP.out _).mono ?_
  rintro e w' ⟨rfl,hw'⟩
  have hw'':=hw'.symm
  subst hw''
  clear CP
  go_wp2_with fail
  have Q1:=(P7.set1 (.bool false)).set3 (.string X)
  refine (CK.out _).mono ?_
  rintro e w8 ⟨rfl,hb8⟩
  have Q2:=Q1.below hb8
  clear hb8 Q1
  clear c0h c1h c2h c3h c4h c5h c6h c7h cfh
  obtain ⟨c0x,c1x,c2x,c3x,c4x,c5x,c6x,c7x,cfx⟩:=Q2.cells
  obtain ⟨r0x,r1x,r2x,r3x,r4x,r5x,r6x,r7x,rfx⟩:=Q2.cells'
  clear CK
  by_cases h0:n = 0
  ·subst h0
   go_wp2
   refine bodyPost_ret (v:=.tuple #[.agg #[.string SC,.bool false,.string ⟨#[]⟩,.string X,.bool F2,.string R2,.bool F1,.string R1],.int .i64 0]) ?_ rfl ⟨rfl,?_⟩
   ·rw [results_cell_tmp rfl]
    go_simp
   ·exact ((((((((Q2.1.setCell (Nat.le_refl _) _).setCell (Nat.le_refl _) _).setCell (Nat.le_refl _) _).setCell (Nat.le_refl _) _).setCell (Nat.le_refl _) _).setCell (Nat.le_refl _) _).setCell (Nat.le_refl _) _).setCell (Nat.le_refl _) _)
  ·have hn0:((n:Int) == 0) = false:=by rw [beq_eq_false_iff_ne];omega
   go_wp2
   refine bodyPost_ret (v:=.tuple #[.agg #[.string ⟨#[]⟩,.bool false,.string ⟨#[]⟩,.string ⟨#[]⟩,.bool false,.string ⟨#[]⟩,.bool false,.string ⟨#[]⟩],.int .i64 (n:Int)]) ?_ rfl ⟨by first | rfl | rw [if_neg h0],?_⟩
   ·rw [results_cell_tmp rfl]
    go_simp
   ·exact ((((((((Q2.1.setCell (Nat.le_refl _) _).setCell (Nat.le_refl _) _).setCell (Nat.le_refl _) _).setCell (Nat.le_refl _) _).setCell (Nat.le_refl _) _).setCell (Nat.le_refl _) _).setCell (Nat.le_refl _) _).setCell (Nat.le_refl _) _))
set_option maxHeartbeats 8000000 in
set_option maxRecDepth 100000 in
theorem parse_YS (s A1 R1 A2 R2 SA SB SC X H0 H PT:ByteArray) (F1 F2:Bool) (k:Nat) (j:Nat) (n:Nat) (w:World) (hs:s.size≤120)
  (CU1:Hid (∀ W,Calls Tryz.prog 89 #[.string s,.string ⟨#[35]⟩] W fun e w'=>e = .returned (.tuple #[.string A1,.string R1,.bool F1])∧Below W.heap.size W w'))
  (CU2:Hid (∀ W,Calls Tryz.prog 89 #[.string A1,.string ⟨#[63]⟩] W fun e w'=>e = .returned (.tuple #[.string A2,.string R2,.bool F2])∧Below W.heap.size W w'))
  (CO:Hid (∀ W,Calls Tryz.prog 90 #[.string A2] W fun e w'=>e = .returned (.int .i64 (k:Int))∧Below W.heap.size W w'))
  (hA2:A2.size≤120) (hk:k + 1≤A2.size) (hSA:A2.extract 0 k = SA) (hSB:A2.extract (k + 1) A2.size = SB)
  (CSM:Hid (∀ W,Calls Tryz.prog 91 #[.string SA] W fun e w'=>e = .returned (.string SC)∧Below W.heap.size W w'))
  (CSC:Hid (∀ W,Calls Tryz.prog 92 #[.string SC] W fun e w'=>e = .returned (.bool true)∧w' = W))
  (CP:Hid (∀ W,Calls Tryz.prog 81 #[.string SB,.string ⟨#[47,47]⟩] W fun e w'=>e = .returned (.tuple #[.string X,.bool true])∧w' = W))
  (hX:X.size≤120) (CI:Hid (∀ W,Calls Tryz.prog 93 #[.string X,.int .u8 47] W fun e w'=>e = .returned (.int .i64 (j:Int))∧w' = W))
  (hj:j≤X.size) (hH0:X.extract 0 j = H0) (hPT:X.extract j X.size = PT)
  (CSH:Hid (∀ W,Calls Tryz.prog 91 #[.string H0] W fun e w'=>e = .returned (.string H)∧Below W.heap.size W w'))
  (CK:Hid (∀ W,Calls Tryz.prog 94 #[.agg #[.string SC,.bool true,.string H,.string PT,.bool F2,.string R2,.bool F1,.string R1]] W fun e w'=>e = .returned (.int .i64 (n:Int))∧Below W.heap.size W w')) :
  Calls Tryz.prog 50 #[.string s] w fun e w'=>e = .returned (.tuple #[if n = 0 then .agg #[.string SC,.bool true,.string H,.string PT,.bool F2,.string R2,.bool F1,.string R1] else .agg #[.string ⟨#[]⟩,.bool false,.string ⟨#[]⟩,.string ⟨#[]⟩,.bool false,.string ⟨#[]⟩,.bool false,.string ⟨#[]⟩],.int .i64 (n:Int)])∧Below w.heap.size w w':=by
 have hi:¬ (120:Int) < (s.size:Int):=by omega
 have P0:=two_new w 85 #[.string ⟨#[]⟩,.bool false,.string ⟨#[]⟩,.string ⟨#[]⟩,.bool false,.string ⟨#[]⟩,.bool false,.string ⟨#[]⟩] #[.string ⟨#[]⟩,.bool false,.string ⟨#[]⟩,.string ⟨#[]⟩,.bool false,.string ⟨#[]⟩,.bool false,.string ⟨#[]⟩]
 go_enter Tryz.func50,Tryz.ntmps50
 go_wp2_with fail
 refine (CU1.out _).mono ?_
 rintro e w1 ⟨rfl,hb1⟩
 have P1:=P0.below hb1
 clear CU1 hb1 P0
 obtain ⟨c0a,c1a,c2a,c3a,c4a,c5a,c6a,c7a,cfa⟩:=P1.cells
 go_wp2_with fail
 have P2:=(P1.set7 (.string R1)).set6 (.bool F1)
 refine (CU2.out _).mono ?_
 rintro e w2 ⟨rfl,hb2⟩
 have P3:=P2.below hb2
 clear CU2 hb2 P1 P2
 clear c0a c1a c2a c3a c4a c5a c6a c7a cfa
 obtain ⟨c0b,c1b,c2b,c3b,c4b,c5b,c6b,c7b,cfb⟩:=P3.cells
 go_wp2_with fail
 have P4:=(P3.set5 (.string R2)).set4 (.bool F2)
 refine (CO.out _).mono ?_
 rintro e w3 ⟨rfl,hb3⟩
 have P5:=P4.below hb3
 clear CO hb3 P3 P4
 clear c0b c1b c2b c3b c4b c5b c6b c7b cfb
 obtain ⟨c0c,c1c,c2c,c3c,c4c,c5c,c6c,c7c,cfc⟩:=P5.cells
 go_wp2_with fail
 have hki1:(k:Int) < (A2.size:Int):=by omega
 have hki2:(k:Int) + 1≤(A2.size:Int):=by omega
 have hAi:(A2.size:Int)≤120:=by omega
 have hA9:A2.size≤9223372036854775807:=by omega
 have hsl:∀ W:World,(Instr.slice 9 (.string A2) (some (.int .i64 ((k:Int) + 1))) none none).run Tryz.prog W = .ok (.string SB) W:=fun W=>by
  rw [run_slice_string_l W 9 A2 Tryz.underlying9 .i64 ((k:Int) + 1) (by omega) hki2,show ((k:Int) + 1).toNat = k + 1 from by omega,hSB]
 have hkw:IntKind.i64.wrap ((k:Int) + 1) = (k:Int) + 1:=wrap_small _ (by omega) (by omega)
 have hkn1:k≤A2.size:=by omega
 have hkn2:k < A2.size:=by omega
 clear hA2 hAi
 go_region_with (go_at_call 91;refine (CSM.out _).mono ?_;rintro e w4 ⟨rfl,hb4⟩;have P6:=(P5.drew).below hb4;obtain ⟨c0d,c1d,c2d,c3d,c4d,c5d,c6d,c7d,cfd⟩:=P6.cells)
 clear c0c c1c c2c c3c c4c c5c c6c c7c cfc
 all_goals (
  have P7:=P6.set0 (.string SC)
  clear CSM hb4
  clear c0d c1d c2d c3d c4d c5d c6d c7d cfd
  obtain ⟨c0h,c1h,c2h,c3h,c4h,c5h,c6h,c7h,cfh⟩:=P7.cells
  go_wp2_with fail
  refine (CSC.out _).mono ?_
  rintro e w' ⟨rfl,hw'⟩
  have hw'':=hw'.symm
  subst hw''
  clear CSC
  go_wp2_with fail
  refine (CP.out _).mono ?_
  rintro e w' ⟨rfl,hw'⟩
  have hw'':=hw'.symm
  subst hw''
  clear CP
  go_wp2_with fail
  have Q0:=P7.set1 (.bool true)
  have hXi:(X.size:Int)≤120:=by omega
  refine (CI.out _).mono ?_
  rintro e w' ⟨rfl,hw'⟩
  have hw'':=hw'.symm
  subst hw''
  clear CI
  clear c0h c1h c2h c3h c4h c5h c6h c7h cfh
  obtain ⟨c0e,c1e,c2e,c3e,c4e,c5e,c6e,c7e,cfe⟩:=Q0.cells
  have hji:(j:Int)≤(X.size:Int):=by omega
  go_wp2_with fail
  go_region_with (go_at_call 91;refine (CSH.out _).mono ?_;rintro e w6 ⟨rfl,hb6⟩;have Q3:=(Q0.drew).below hb6;obtain ⟨c0g,c1g,c2g,c3g,c4g,c5g,c6g,c7g,cfg⟩:=Q3.cells)
  all_goals (
   have Q4:=Q3.set2 (.string H)
   clear CSH hb6
   go_wp2_with fail
   have Q5:=Q4.set3 (.string PT)
   refine (CK.out _).mono ?_
   rintro e w8 ⟨rfl,hb8⟩
   have Q6:=Q5.below hb8
   clear hb8 Q5 Q4 Q3 Q0
   clear c0g c1g c2g c3g c4g c5g c6g c7g cfg
   obtain ⟨c0x,c1x,c2x,c3x,c4x,c5x,c6x,c7x,cfx⟩:=Q6.cells
   obtain ⟨r0x,r1x,r2x,r3x,r4x,r5x,r6x,r7x,rfx⟩:=Q6.cells'
   clear CK
   by_cases h0:n = 0
   ·subst h0
    go_wp2
    refine bodyPost_ret (v:=.tuple #[.agg #[.string SC,.bool true,.string H,.string PT,.bool F2,.string R2,.bool F1,.string R1],.int .i64 0]) ?_ rfl ⟨rfl,?_⟩
    ·rw [results_cell_tmp rfl]
     go_simp
    ·exact ((((((((Q6.1.setCell (Nat.le_refl _) _).setCell (Nat.le_refl _) _).setCell (Nat.le_refl _) _).setCell (Nat.le_refl _) _).setCell (Nat.le_refl _) _).setCell (Nat.le_refl _) _).setCell (Nat.le_refl _) _).setCell (Nat.le_refl _) _)
   ·have hn0:((n:Int) == 0) = false:=by rw [beq_eq_false_iff_ne];omega
    go_wp2
    refine bodyPost_ret (v:=.tuple #[.agg #[.string ⟨#[]⟩,.bool false,.string ⟨#[]⟩,.string ⟨#[]⟩,.bool false,.string ⟨#[]⟩,.bool false,.string ⟨#[]⟩],.int .i64 (n:Int)]) ?_ rfl ⟨by first | rfl | rw [if_neg h0],?_⟩
    ·rw [results_cell_tmp rfl]
     go_simp
    ·exact ((((((((Q6.1.setCell (Nat.le_refl _) _).setCell (Nat.le_refl _) _).setCell (Nat.le_refl _) _).setCell (Nat.le_refl _) _).setCell (Nat.le_refl _) _).setCell (Nat.le_refl _) _).setCell (Nat.le_refl _) _).setCell (Nat.le_refl _) _)))
set_option maxHeartbeats 8000000 in
set_option maxRecDepth 100000 in
theorem parse_YE (s A1 R1 A2 R2 SA SB SC X H:ByteArray) (F1 F2:Bool) (k:Nat) (n:Nat) (w:World) (hs:s.size≤120)
  (CU1:Hid (∀ W,Calls Tryz.prog 89 #[.string s,.string ⟨#[35]⟩] W fun e w'=>e = .returned (.tuple #[.string A1,.string R1,.bool F1])∧Below W.heap.size W w'))
  (CU2:Hid (∀ W,Calls Tryz.prog 89 #[.string A1,.string ⟨#[63]⟩] W fun e w'=>e = .returned (.tuple #[.string A2,.string R2,.bool F2])∧Below W.heap.size W w'))
  (CO:Hid (∀ W,Calls Tryz.prog 90 #[.string A2] W fun e w'=>e = .returned (.int .i64 (k:Int))∧Below W.heap.size W w'))
  (hA2:A2.size≤120) (hk:k + 1≤A2.size) (hSA:A2.extract 0 k = SA) (hSB:A2.extract (k + 1) A2.size = SB)
  (CSM:Hid (∀ W,Calls Tryz.prog 91 #[.string SA] W fun e w'=>e = .returned (.string SC)∧Below W.heap.size W w'))
  (CSC:Hid (∀ W,Calls Tryz.prog 92 #[.string SC] W fun e w'=>e = .returned (.bool true)∧w' = W))
  (CP:Hid (∀ W,Calls Tryz.prog 81 #[.string SB,.string ⟨#[47,47]⟩] W fun e w'=>e = .returned (.tuple #[.string X,.bool true])∧w' = W))
  (hX:X.size≤120) (CI:Hid (∀ W,Calls Tryz.prog 93 #[.string X,.int .u8 47] W fun e w'=>e = .returned (.int .i64 (-1))∧w' = W))
  (CSH:Hid (∀ W,Calls Tryz.prog 91 #[.string X] W fun e w'=>e = .returned (.string H)∧Below W.heap.size W w'))
  (CK:Hid (∀ W,Calls Tryz.prog 94 #[.agg #[.string SC,.bool true,.string H,.string ⟨#[]⟩,.bool F2,.string R2,.bool F1,.string R1]] W fun e w'=>e = .returned (.int .i64 (n:Int))∧Below W.heap.size W w')) :
  Calls Tryz.prog 50 #[.string s] w fun e w'=>e = .returned (.tuple #[if n = 0 then .agg #[.string SC,.bool true,.string H,.string ⟨#[]⟩,.bool F2,.string R2,.bool F1,.string R1] else .agg #[.string ⟨#[]⟩,.bool false,.string ⟨#[]⟩,.string ⟨#[]⟩,.bool false,.string ⟨#[]⟩,.bool false,.string ⟨#[]⟩],.int .i64 (n:Int)])∧Below w.heap.size w w':=by
 have hi:¬ (120:Int) < (s.size:Int):=by omega
 have P0:=two_new w 85 #[.string ⟨#[]⟩,.bool false,.string ⟨#[]⟩,.string ⟨#[]⟩,.bool false,.string ⟨#[]⟩,.bool false,.string ⟨#[]⟩] #[.string ⟨#[]⟩,.bool false,.string ⟨#[]⟩,.string ⟨#[]⟩,.bool false,.string ⟨#[]⟩,.bool false,.string ⟨#[]⟩]
 go_enter Tryz.func50,Tryz.ntmps50
 go_wp2_with fail
 refine (CU1.out _).mono ?_
 rintro e w1 ⟨rfl,hb1⟩
 have P1:=P0.below hb1
 clear CU1 hb1 P0
 obtain ⟨c0a,c1a,c2a,c3a,c4a,c5a,c6a,c7a,cfa⟩:=P1.cells
 go_wp2_with fail
 have P2:=(P1.set7 (.string R1)).set6 (.bool F1)
 refine (CU2.out _).mono ?_
 rintro e w2 ⟨rfl,hb2⟩
 have P3:=P2.below hb2
 clear CU2 hb2 P1 P2
 clear c0a c1a c2a c3a c4a c5a c6a c7a cfa
 obtain ⟨c0b,c1b,c2b,c3b,c4b,c5b,c6b,c7b,cfb⟩:=P3.cells
 go_wp2_with fail
 have P4:=(P3.set5 (.string R2)).set4 (.bool F2)
 refine (CO.out _).mono ?_
 rintro e w3 ⟨rfl,hb3⟩
 have P5:=P4.below hb3
 clear CO hb3 P3 P4
 clear c0b c1b c2b c3b c4b c5b c6b c7b cfb
 obtain ⟨c0c,c1c,c2c,c3c,c4c,c5c,c6c,c7c,cfc⟩:=P5.cells
 go_wp2_with fail
 have hki1:(k:Int) < (A2.size:Int):=by omega
 have hki2:(k:Int) + 1≤(A2.size:Int):=by omega
 have hAi:(A2.size:Int)≤120:=by omega
 have hA9:A2.size≤9223372036854775807:=by omega
 have hsl:∀ W:World,(Instr.slice 9 (.string A2) (some (.int .i64 ((k:Int) + 1))) none none).run Tryz.prog W = .ok (.string SB) W:=fun W=>by
  rw [run_slice_string_l W 9 A2 Tryz.underlying9 .i64 ((k:Int) + 1) (by omega) hki2,show ((k:Int) + 1).toNat = k + 1 from by omega,hSB]
 have hkw:IntKind.i64.wrap ((k:Int) + 1) = (k:Int) + 1:=wrap_small _ (by omega) (by omega)
 have hkn1:k≤A2.size:=by omega
 have hkn2:k < A2.size:=by omega
 clear hA2 hAi
 go_region_with (go_at_call 91;refine (CSM.out _).mono ?_;rintro e w4 ⟨rfl,hb4⟩;have P6:=(P5.drew).below hb4;obtain ⟨c0d,c1d,c2d,c3d,c4d,c5d,c6d,c7d,cfd⟩:=P6.cells)
 clear c0c c1c c2c c3c c4c c5c c6c c7c cfc
 all_goals (
  have P7:=P6.set0 (.string SC)
  clear CSM hb4
  clear c0d c1d c2d c3d c4d c5d c6d c7d cfd
  obtain ⟨c0h,c1h,c2h,c3h,c4h,c5h,c6h,c7h,cfh⟩:=P7.cells
  go_wp2_with fail
  refine (CSC.out _).mono ?_
  rintro e w' ⟨rfl,hw'⟩
  have hw'':=hw'.symm
  subst hw''
  clear CSC
  go_wp2_with fail
  refine (CP.out _).mono ?_
  rintro e w' ⟨rfl,hw'⟩
  have hw'':=hw'.symm
  subst hw''
  clear CP
  go_wp2_with fail
  have Q0:=P7.set1 (.bool true)
  have hXi:(X.size:Int)≤120:=by omega
  refine (CI.out _).mono ?_
  rintro e w' ⟨rfl,hw'⟩
  have hw'':=hw'.symm
  subst hw''
  clear CI
  clear c0h c1h c2h c3h c4h c5h c6h c7h cfh
  obtain ⟨c0e,c1e,c2e,c3e,c4e,c5e,c6e,c7e,cfe⟩:=Q0.cells
  go_wp2_with fail
  go_region_with (go_at_call 91;refine (CSH.out _).mono ?_;rintro e w6 ⟨rfl,hb6⟩;have Q3:=(Q0.drew).below hb6;obtain ⟨c0g,c1g,c2g,c3g,c4g,c5g,c6g,c7g,cfg⟩:=Q3.cells)
  all_goals (
   have Q4:=Q3.set2 (.string H)
   clear CSH hb6
   go_wp2_with fail
   have Q5:=Q4.set3 (.string ⟨#[]⟩)
   refine (CK.out _).mono ?_
   rintro e w8 ⟨rfl,hb8⟩
   have Q6:=Q5.below hb8
   clear hb8 Q5 Q4 Q3 Q0
   clear c0g c1g c2g c3g c4g c5g c6g c7g cfg
   obtain ⟨c0x,c1x,c2x,c3x,c4x,c5x,c6x,c7x,cfx⟩:=Q6.cells
   obtain ⟨r0x,r1x,r2x,r3x,r4x,r5x,r6x,r7x,rfx⟩:=Q6.cells'
   clear CK
   by_cases h0:n = 0
   ·subst h0
    go_wp2
    refine bodyPost_ret (v:=.tuple #[.agg #[.string SC,.bool true,.string H,.string ⟨#[]⟩,.bool F2,.string R2,.bool F1,.string R1],.int .i64 0]) ?_ rfl ⟨rfl,?_⟩
    ·rw [results_cell_tmp rfl]
     go_simp
    ·exact ((((((((Q6.1.setCell (Nat.le_refl _) _).setCell (Nat.le_refl _) _).setCell (Nat.le_refl _) _).setCell (Nat.le_refl _) _).setCell (Nat.le_refl _) _).setCell (Nat.le_refl _) _).setCell (Nat.le_refl _) _).setCell (Nat.le_refl _) _)
   ·have hn0:((n:Int) == 0) = false:=by rw [beq_eq_false_iff_ne];omega
    go_wp2
    refine bodyPost_ret (v:=.tuple #[.agg #[.string ⟨#[]⟩,.bool false,.string ⟨#[]⟩,.string ⟨#[]⟩,.bool false,.string ⟨#[]⟩,.bool false,.string ⟨#[]⟩],.int .i64 (n:Int)]) ?_ rfl ⟨by first | rfl | rw [if_neg h0],?_⟩
    ·rw [results_cell_tmp rfl]
     go_simp
    ·exact ((((((((Q6.1.setCell (Nat.le_refl _) _).setCell (Nat.le_refl _) _).setCell (Nat.le_refl _) _).setCell (Nat.le_refl _) _).setCell (Nat.le_refl _) _).setCell (Nat.le_refl _) _).setCell (Nat.le_refl _) _).setCell (Nat.le_refl _) _)))
end Go.Proofs.YtbbfcbodhmeanaaGreatDoor


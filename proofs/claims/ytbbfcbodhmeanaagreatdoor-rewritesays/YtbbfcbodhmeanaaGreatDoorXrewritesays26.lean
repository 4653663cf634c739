
import Derived.Test.YtbbfcbodhmeanaaGreatDoorXrewritesays25
namespace Go.Proofs.YtbbfcbodhmeanaaGreatDoor
open Go.RowKit
def Tri (w:World) (t:TypeId) (a b c:Array Value) (W:World):Prop:=Below w.heap.size w W∧W.heap[w.heap.size]? = some (.cells a t)∧W.heap[w.heap.size + 1]? = some (.cells b t)∧W.heap[w.heap.size + 1 + 1]? = some (.cells c t)
theorem Tri.lt {w W:World} {t:TypeId} {a b c:Array Value} (h:Tri w t a b c W):w.heap.size + 1 + 1 < W.heap.size:=(Array.getElem?_eq_some_iff.1 h.2.2.2).1
theorem Tri.below {w W W':World} {t:TypeId} {a b c:Array Value} (h:Tri w t a b c W) (hb:Below W.heap.size W W'):Tri w t a b c W':=by
 have hl:=h.lt
 exact ⟨h.1.trans (hb.mono (by omega)),by rw [hb.block _ (by omega)];exact h.2.1,by rw [hb.block _ (by omega)];exact h.2.2.1,by rw [hb.block _ (by omega)];exact h.2.2.2⟩
theorem Tri.alloc {w W:World} {t:TypeId} {a b c:Array Value} (h:Tri w t a b c W) (o:Obj):Tri w t a b c (W.alloc o):=h.below ((Below.refl _ _).alloc (Nat.le_refl _) _)
theorem Tri.set {w W:World} {t:TypeId} {a b c:Array Value} (h:Tri w t a b c W) (i:Nat) (v:Value):Tri w t a (b.setIfInBounds i v) c (W.setCell ⟨w.heap.size + 1,i,none⟩ v):=by
 refine ⟨h.1.setCell (Nat.le_succ _) _,?_,?_,?_⟩
 ·rw [Below.heap_setCell _ _ _ _ (by simp)];exact h.2.1
 ·simp only [World.setCell,Array.getElem?_modify,if_true,h.2.2.1]
  rfl
 ·rw [Below.heap_setCell _ _ _ _ (by simp)];exact h.2.2.2
theorem tri_new (w:World) (t:TypeId) (a b c:Array Value):Tri w t a b c (((w.alloc (.cells a t)).alloc (.cells b t)).alloc (.cells c t)):=by
 have:=three_new w t a b c
 exact ⟨(((Below.refl _ _).alloc (Nat.le_refl _) _).alloc (by simp) _).alloc (by simp;omega) _,this.1,this.2.1,this.2.2⟩
theorem le_two (n:Nat):n≤n + 1 + 1:=by omega
theorem Tri.set0 {w W:World} {t:TypeId} {a c:Array Value} {v0 v1 v2 v3 v4 v5 v6 v7:Value} (h:Tri w t a #[v0,v1,v2,v3,v4,v5,v6,v7] c W) (x:Value):Tri w t a #[x,v1,v2,v3,v4,v5,v6,v7] c (W.setCell ⟨w.heap.size + 1,0,none⟩ x):=Tri.set h 0 x
theorem Tri.set1 {w W:World} {t:TypeId} {a c:Array Value} {v0 v1 v2 v3 v4 v5 v6 v7:Value} (h:Tri w t a #[v0,v1,v2,v3,v4,v5,v6,v7] c W) (x:Value):Tri w t a #[v0,x,v2,v3,v4,v5,v6,v7] c (W.setCell ⟨w.heap.size + 1,1,none⟩ x):=Tri.set h 1 x
theorem Tri.set2 {w W:World} {t:TypeId} {a c:Array Value} {v0 v1 v2 v3 v4 v5 v6 v7:Value} (h:Tri w t a #[v0,v1,v2,v3,v4,v5,v6,v7] c W) (x:Value):Tri w t a #[v0,v1,x,v3,v4,v5,v6,v7] c (W.setCell ⟨w.heap.size + 1,2,none⟩ x):=Tri.set h 2 x
theorem Tri.set3 {w W:World} {t:TypeId} {a c:Array Value} {v0 v1 v2 v3 v4 v5 v6 v7:Value} (h:Tri w t a #[v0,v1,v2,v3,v4,v5,v6,v7] c W) (x:Value):Tri w t a #[v0,v1,v2,x,v4,v5,v6,v7] c (W.setCell ⟨w.heap.size + 1,3,none⟩ x):=Tri.set h 3 x
theorem Tri.set4 {w W:World} {t:TypeId} {a c:Array Value} {v0 v1 v2 v3 v4 v5 v6 v7:Value} (h:Tri w t a #[v0,v1,v2,v3,v4,v5,v6,v7] c W) (x:Value):Tri w t a #[v0,v1,v2,v3,x,v5,v6,v7] c (W.setCell ⟨w.heap.size + 1,4,none⟩ x):=Tri.set h 4 x
theorem Tri.set5 {w W:World} {t:TypeId} {a c:Array Value} {v0 v1 v2 v3 v4 v5 v6 v7:Value} (h:Tri w t a #[v0,v1,v2,v3,v4,v5,v6,v7] c W) (x:Value):Tri w t a #[v0,v1,v2,v3,v4,x,v6,v7] c (W.setCell ⟨w.heap.size + 1,5,none⟩ x):=Tri.set h 5 x
theorem Tri.set6 {w W:World} {t:TypeId} {a c:Array Value} {v0 v1 v2 v3 v4 v5 v6 v7:Value} (h:Tri w t a #[v0,v1,v2,v3,v4,v5,v6,v7] c W) (x:Value):Tri w t a #[v0,v1,v2,v3,v4,v5,x,v7] c (W.setCell ⟨w.heap.size + 1,6,none⟩ x):=Tri.set h 6 x
theorem Tri.set7 {w W:World} {t:TypeId} {a c:Array Value} {v0 v1 v2 v3 v4 v5 v6 v7:Value} (h:Tri w t a #[v0,v1,v2,v3,v4,v5,v6,v7] c W) (x:Value):Tri w t a #[v0,v1,v2,v3,v4,v5,v6,x] c (W.setCell ⟨w.heap.size + 1,7,none⟩ x):=Tri.set h 7 x
theorem Tri.base {w W:World} {t:TypeId} {b c:Array Value} {v0 v1 v2 v3 v4 v5 v6 v7:Value} (h:Tri w t #[v0,v1,v2,v3,v4,v5,v6,v7] b c W):W.cell? ⟨w.heap.size,0,none⟩ = some v0∧W.cell? ⟨w.heap.size,1,none⟩ = some v1∧W.cell? ⟨w.heap.size,2,none⟩ = some v2∧W.cell? ⟨w.heap.size,3,none⟩ = some v3∧W.cell? ⟨w.heap.size,4,none⟩ = some v4∧W.cell? ⟨w.heap.size,5,none⟩ = some v5∧W.cell? ⟨w.heap.size,6,none⟩ = some v6∧W.cell? ⟨w.heap.size,7,none⟩ = some v7∧∀ i,W.frozen? ⟨w.heap.size,i,none⟩ = false:=⟨blk_cell h.2.1 0,blk_cell h.2.1 1,blk_cell h.2.1 2,blk_cell h.2.1 3,blk_cell h.2.1 4,blk_cell h.2.1 5,blk_cell h.2.1 6,blk_cell h.2.1 7,blk_frozen h.2.1⟩
theorem Tri.cells {w W:World} {t:TypeId} {a c:Array Value} {v0 v1 v2 v3 v4 v5 v6 v7:Value} (h:Tri w t a #[v0,v1,v2,v3,v4,v5,v6,v7] c W):W.cell? ⟨w.heap.size + 1,0,none⟩ = some v0∧W.cell? ⟨w.heap.size + 1,1,none⟩ = some v1∧W.cell? ⟨w.heap.size + 1,2,none⟩ = some v2∧W.cell? ⟨w.heap.size + 1,3,none⟩ = some v3∧W.cell? ⟨w.heap.size + 1,4,none⟩ = some v4∧W.cell? ⟨w.heap.size + 1,5,none⟩ = some v5∧W.cell? ⟨w.heap.size + 1,6,none⟩ = some v6∧W.cell? ⟨w.heap.size + 1,7,none⟩ = some v7∧∀ i,W.frozen? ⟨w.heap.size + 1,i,none⟩ = false:=⟨blk_cell h.2.2.1 0,blk_cell h.2.2.1 1,blk_cell h.2.2.1 2,blk_cell h.2.2.1 3,blk_cell h.2.2.1 4,blk_cell h.2.2.1 5,blk_cell h.2.2.1 6,blk_cell h.2.2.1 7,blk_frozen h.2.2.1⟩
theorem Tri.res {w W:World} {t:TypeId} {a b:Array Value} {v0 v1 v2 v3 v4 v5 v6 v7:Value} (h:Tri w t a b #[v0,v1,v2,v3,v4,v5,v6,v7] W):W.cell? ⟨w.heap.size + 1 + 1,0,none⟩ = some v0∧W.cell? ⟨w.heap.size + 1 + 1,1,none⟩ = some v1∧W.cell? ⟨w.heap.size + 1 + 1,2,none⟩ = some v2∧W.cell? ⟨w.heap.size + 1 + 1,3,none⟩ = some v3∧W.cell? ⟨w.heap.size + 1 + 1,4,none⟩ = some v4∧W.cell? ⟨w.heap.size + 1 + 1,5,none⟩ = some v5∧W.cell? ⟨w.heap.size + 1 + 1,6,none⟩ = some v6∧W.cell? ⟨w.heap.size + 1 + 1,7,none⟩ = some v7∧∀ i,W.frozen? ⟨w.heap.size + 1 + 1,i,none⟩ = false:=⟨blk_cell h.2.2.2 0,blk_cell h.2.2.2 1,blk_cell h.2.2.2 2,blk_cell h.2.2.2 3,blk_cell h.2.2.2 4,blk_cell h.2.2.2 5,blk_cell h.2.2.2 6,blk_cell h.2.2.2 7,blk_frozen h.2.2.2⟩
set_option maxHeartbeats 4000000 in
set_option maxRecDepth 100000 in
theorem lead_b (bs bh bp bq bf us uh up uq uf:ByteArray) (bhh bhq bhf uhh uhq uhf:Bool) (nb:Nat) (hnb:nb ≠ 0) (w:World)
  (CB:Hid (∀ W,Calls Tryz.prog 94 #[.agg #[.string bs,.bool bhh,.string bh,.string bp,.bool bhq,.string bq,.bool bhf,.string bf]] W fun e w'=>e = .returned (.int .i64 (nb:Int))∧Below W.heap.size W w')) :
  Calls Tryz.prog 51 #[.agg #[.string bs,.bool bhh,.string bh,.string bp,.bool bhq,.string bq,.bool bhf,.string bf],.agg #[.string us,.bool uhh,.string uh,.string up,.bool uhq,.string uq,.bool uhf,.string uf]] w fun e w'=>e = .returned (.tuple #[.agg #[.string ⟨#[]⟩,.bool false,.string ⟨#[]⟩,.string ⟨#[]⟩,.bool false,.string ⟨#[]⟩,.bool false,.string ⟨#[]⟩],.int .i64 (nb:Int)])∧Below w.heap.size w w':=by
 have hn0:((nb:Int) == 0) = false:=by rw [beq_eq_false_iff_ne];omega
 go_enter Tryz.func51,Tryz.ntmps51
 go_wp2
 go_loopw [13] (fun iv wr=>∃ k:Nat,k≤0∧iv = .int .i64 k∧Tri w 85 #[.string bs,.bool bhh,.string bh,.string bp,.bool bhq,.string bq,.bool bhf,.string bf] #[.string us,.bool uhh,.string uh,.string up,.bool uhq,.string uq,.bool uhf,.string uf] #[.string ⟨#[]⟩,.bool false,.string ⟨#[]⟩,.string ⟨#[]⟩,.bool false,.string ⟨#[]⟩,.bool false,.string ⟨#[]⟩] wr) (fun iv _=>2 - (intOf iv).toNat)
 case atStart=>exact ⟨0,Nat.zero_le _,rfl,tri_new _ _ _ _ _⟩
 case round =>
  obtain ⟨k,hk,rfl,P0⟩:=hrel
  obtain rfl:k = 0:=by omega
  have hix:∀ W:World,(Instr.index 86 (.agg #[.string bs,.bool bhh,.string bh,.string bp,.bool bhq,.string bq,.bool bhf,.string bf,.string us,.bool uhh,.string uh,.string up,.bool uhq,.string uq,.bool uhf,.string uf]) (.int .i64 0)).run Tryz.prog W = .ok (.agg #[.string bs,.bool bhh,.string bh,.string bp,.bool bhq,.string bq,.bool bhf,.string bf]) W:=fun W=>by kernel_rfl
  go_wp2_with fail
  refine (CB.out _).mono ?_
  rintro e w1 ⟨rfl,hb1⟩
  have P1:=(P0.alloc _).below hb1
  clear hb1
  obtain ⟨r0,r1,r2,r3,r4,r5,r6,r7,rf⟩:=P1.res
  go_wp2
  refine bodyPost_ret (v:=.tuple #[.agg #[.string ⟨#[]⟩,.bool false,.string ⟨#[]⟩,.string ⟨#[]⟩,.bool false,.string ⟨#[]⟩,.bool false,.string ⟨#[]⟩],.int .i64 (nb:Int)]) ?_ rfl ⟨rfl,?_⟩
  ·rw [results_cell_tmp rfl]
   go_simp
  ·exact ((((((((P1.1.setCell (le_two _) _).setCell (le_two _) _).setCell (le_two _) _).setCell (le_two _) _).setCell (le_two _) _).setCell (le_two _) _).setCell (le_two _) _).setCell (le_two _) _)
set_option maxHeartbeats 4000000 in
set_option maxRecDepth 100000 in
theorem lead_u (bs bh bp bq bf us uh up uq uf:ByteArray) (bhh bhq bhf uhh uhq uhf:Bool) (nu:Nat) (hnu:nu ≠ 0) (w:World)
  (CB:Hid (∀ W,Calls Tryz.prog 94 #[.agg #[.string bs,.bool bhh,.string bh,.string bp,.bool bhq,.string bq,.bool bhf,.string bf]] W fun e w'=>e = .returned (.int .i64 0)∧Below W.heap.size W w'))
  (CU:Hid (∀ W,Calls Tryz.prog 94 #[.agg #[.string us,.bool uhh,.string uh,.string up,.bool uhq,.string uq,.bool uhf,.string uf]] W fun e w'=>e = .returned (.int .i64 (nu:Int))∧Below W.heap.size W w')) :
  Calls Tryz.prog 51 #[.agg #[.string bs,.bool bhh,.string bh,.string bp,.bool bhq,.string bq,.bool bhf,.string bf],.agg #[.string us,.bool uhh,.string uh,.string up,.bool uhq,.string uq,.bool uhf,.string uf]] w fun e w'=>e = .returned (.tuple #[.agg #[.string ⟨#[]⟩,.bool false,.string ⟨#[]⟩,.string ⟨#[]⟩,.bool false,.string ⟨#[]⟩,.bool false,.string ⟨#[]⟩],.int .i64 (nu:Int)])∧Below w.heap.size w w':=by
 have hn0:((nu:Int) == 0) = false:=by rw [beq_eq_false_iff_ne];omega
 go_enter Tryz.func51,Tryz.ntmps51
 go_wp2
 go_loopw [13] (fun iv wr=>∃ k:Nat,k≤1∧iv = .int .i64 k∧Tri w 85 #[.string bs,.bool bhh,.string bh,.string bp,.bool bhq,.string bq,.bool bhf,.string bf] #[.string us,.bool uhh,.string uh,.string up,.bool uhq,.string uq,.bool uhf,.string uf] #[.string ⟨#[]⟩,.bool false,.string ⟨#[]⟩,.string ⟨#[]⟩,.bool false,.string ⟨#[]⟩,.bool false,.string ⟨#[]⟩] wr) (fun iv _=>2 - (intOf iv).toNat)
 case atStart=>exact ⟨0,Nat.zero_le _,rfl,tri_new _ _ _ _ _⟩
 case round =>
  obtain ⟨k,hk,rfl,P0⟩:=hrel
  rcases (show k = 0 ∨ k = 1 by omega) with rfl | rfl
  ·have hix:∀ W:World,(Instr.index 86 (.agg #[.string bs,.bool bhh,.string bh,.string bp,.bool bhq,.string bq,.bool bhf,.string bf,.string us,.bool uhh,.string uh,.string up,.bool uhq,.string uq,.bool uhf,.string uf]) (.int .i64 0)).run Tryz.prog W = .ok (.agg #[.string bs,.bool bhh,.string bh,.string bp,.bool bhq,.string bq,.bool bhf,.string bf]) W:=fun W=>by kernel_rfl
   go_wp2_with fail
   refine (CB.out _).mono ?_
   rintro e w1 ⟨rfl,hb1⟩
   have P1:=(P0.alloc _).below hb1
   clear hb1
   go_wp2_with fail
   go_roundw
   case rel=>exact ⟨1,by omega,by go_num,P1⟩
   case measure=>simp [intOf]
  ·have hix:∀ W:World,(Instr.index 86 (.agg #[.string bs,.bool bhh,.string bh,.string bp,.bool bhq,.string bq,.bool bhf,.string bf,.string us,.bool uhh,.string uh,.string up,.bool uhq,.string uq,.bool uhf,.string uf]) (.int .i64 1)).run Tryz.prog W = .ok (.agg #[.string us,.bool uhh,.string uh,.string up,.bool uhq,.string uq,.bool uhf,.string uf]) W:=fun W=>by kernel_rfl
   go_wp2_with fail
   refine (CU.out _).mono ?_
   rintro e w1 ⟨rfl,hb1⟩
   have P1:=(P0.alloc _).below hb1
   clear hb1
   obtain ⟨r0,r1,r2,r3,r4,r5,r6,r7,rf⟩:=P1.res
   go_wp2
   refine bodyPost_ret (v:=.tuple #[.agg #[.string ⟨#[]⟩,.bool false,.string ⟨#[]⟩,.string ⟨#[]⟩,.bool false,.string ⟨#[]⟩,.bool false,.string ⟨#[]⟩],.int .i64 (nu:Int)]) ?_ rfl ⟨rfl,?_⟩
   ·rw [results_cell_tmp rfl]
    go_simp
   ·exact ((((((((P1.1.setCell (le_two _) _).setCell (le_two _) _).setCell (le_two _) _).setCell (le_two _) _).setCell (le_two _) _).setCell (le_two _) _).setCell (le_two _) _).setCell (le_two _) _)
set_option maxHeartbeats 4000000 in
set_option maxRecDepth 100000 in
theorem lead_S (bh bp bq bf us uh up uq uf:ByteArray) (bhh bhq bhf uhh uhq uhf:Bool)  (w:World)
  (CB:Hid (∀ W,Calls Tryz.prog 94 #[.agg #[.string ⟨#[]⟩,.bool bhh,.string bh,.string bp,.bool bhq,.string bq,.bool bhf,.string bf]] W fun e w'=>e = .returned (.int .i64 0)∧Below W.heap.size W w'))
  (CU:Hid (∀ W,Calls Tryz.prog 94 #[.agg #[.string us,.bool uhh,.string uh,.string up,.bool uhq,.string uq,.bool uhf,.string uf]] W fun e w'=>e = .returned (.int .i64 0)∧Below W.heap.size W w')) :
  Calls Tryz.prog 51 #[.agg #[.string ⟨#[]⟩,.bool bhh,.string bh,.string bp,.bool bhq,.string bq,.bool bhf,.string bf],.agg #[.string us,.bool uhh,.string uh,.string up,.bool uhq,.string uq,.bool uhf,.string uf]] w fun e w'=>e = .returned (.tuple #[.agg #[.string ⟨#[]⟩,.bool false,.string ⟨#[]⟩,.string ⟨#[]⟩,.bool false,.string ⟨#[]⟩,.bool false,.string ⟨#[]⟩],.int .i64 4])∧Below w.heap.size w w':=by
 go_enter Tryz.func51,Tryz.ntmps51
 go_wp2
 go_loopw [13] (fun iv wr=>∃ k:Nat,k≤2∧iv = .int .i64 k∧Tri w 85 #[.string ⟨#[]⟩,.bool bhh,.string bh,.string bp,.bool bhq,.string bq,.bool bhf,.string bf] #[.string us,.bool uhh,.string uh,.string up,.bool uhq,.string uq,.bool uhf,.string uf] #[.string ⟨#[]⟩,.bool false,.string ⟨#[]⟩,.string ⟨#[]⟩,.bool false,.string ⟨#[]⟩,.bool false,.string ⟨#[]⟩] wr) (fun iv _=>2 - (intOf iv).toNat)
 case atStart=>exact ⟨0,Nat.zero_le _,rfl,tri_new _ _ _ _ _⟩
 case round =>
  obtain ⟨k,hk,rfl,P0⟩:=hrel
  rcases (show k = 0 ∨ k = 1 ∨ k = 2 by omega) with rfl | rfl | rfl
  ·have hix:∀ W:World,(Instr.index 86 (.agg #[.string ⟨#[]⟩,.bool bhh,.string bh,.string bp,.bool bhq,.string bq,.bool bhf,.string bf,.string us,.bool uhh,.string uh,.string up,.bool uhq,.string uq,.bool uhf,.string uf]) (.int .i64 0)).run Tryz.prog W = .ok (.agg #[.string ⟨#[]⟩,.bool bhh,.string bh,.string bp,.bool bhq,.string bq,.bool bhf,.string bf]) W:=fun W=>by kernel_rfl
   go_wp2_with fail
   refine (CB.out _).mono ?_
   rintro e w1 ⟨rfl,hb1⟩
   have P1:=(P0.alloc _).below hb1
   clear hb1
   go_wp2_with fail
   go_roundw
   case rel=>exact ⟨1,by omega,by go_num,P1⟩
   case measure=>simp [intOf]
  ·have hix:∀ W:World,(Instr.index 86 (.agg #[.string ⟨#[]⟩,.bool bhh,.string bh,.string bp,.bool bhq,.string bq,.bool bhf,.string bf,.string us,.bool uhh,.string uh,.string up,.bool uhq,.string uq,.bool uhf,.string uf]) (.int .i64 1)).run Tryz.prog W = .ok (.agg #[.string us,.bool uhh,.string uh,.string up,.bool uhq,.string uq,.bool uhf,.string uf]) W:=fun W=>by kernel_rfl
   go_wp2_with fail
   refine (CU.out _).mono ?_
   rintro e w1 ⟨rfl,hb1⟩
   have P1:=(P0.alloc _).below hb1
   clear hb1
   go_wp2_with fail
   go_roundw
   case rel=>exact ⟨2,by omega,by go_num,P1⟩
   case measure=>simp [intOf]
  ·clear CB CU
   obtain ⟨a0,a1,a2,a3,a4,a5,a6,a7,af⟩:=P0.base
   obtain ⟨c0,c1,c2,c3,c4,c5,c6,c7,cf⟩:=P0.cells
   obtain ⟨r0,r1,r2,r3,r4,r5,r6,r7,rf⟩:=P0.res
   go_wp2
   refine bodyPost_ret (v:=.tuple #[.agg #[.string ⟨#[]⟩,.bool false,.string ⟨#[]⟩,.string ⟨#[]⟩,.bool false,.string ⟨#[]⟩,.bool false,.string ⟨#[]⟩],.int .i64 4]) ?_ rfl ⟨rfl,?_⟩
   ·rw [results_cell_tmp rfl]
    go_simp
   ·exact ((((((((P0.1.setCell (le_two _) _).setCell (le_two _) _).setCell (le_two _) _).setCell (le_two _) _).setCell (le_two _) _).setCell (le_two _) _).setCell (le_two _) _).setCell (le_two _) _)
set_option maxHeartbeats 4000000 in
set_option maxRecDepth 100000 in
theorem lead_KH (bs bh bp bq bf us uh up uq uf p2:ByteArray) (bhh bhq bhf uhq uhf:Bool) (hbe:bs.data.toList ≠ []) (hue:us.data.toList ≠ []) (L:Bool) (n:Nat) (w:World)
  (CB:Hid (∀ W,Calls Tryz.prog 94 #[.agg #[.string bs,.bool bhh,.string bh,.string bp,.bool bhq,.string bq,.bool bhf,.string bf]] W fun e w'=>e = .returned (.int .i64 0)∧Below W.heap.size W w'))
  (CU:Hid (∀ W,Calls Tryz.prog 94 #[.agg #[.string us,.bool true,.string uh,.string up,.bool uhq,.string uq,.bool uhf,.string uf]] W fun e w'=>e = .returned (.int .i64 0)∧Below W.heap.size W w'))
  (CD:Hid (∀ W,Below w.heap.size w W→Calls Tryz.prog 96 #[.string up] W fun e w'=>e = .returned (.string p2)∧Below W.heap.size W w'))
  (CL:Hid (∀ W,Calls Tryz.prog 97 #[.agg #[.string us,.bool true,.string uh,.string p2,.bool uhq,.string uq,.bool uhf,.string uf]] W fun e w'=>e = .returned (.bool L)∧Below W.heap.size W w'))
  (CK:Hid (∀ W,Calls Tryz.prog 94 #[.agg #[.string us,.bool true,.string uh,.string p2,.bool uhq,.string uq,.bool uhf,.string uf]] W fun e w'=>e = .returned (.int .i64 (n:Int))∧Below W.heap.size W w')) :
  Calls Tryz.prog 51 #[.agg #[.string bs,.bool bhh,.string bh,.string bp,.bool bhq,.string bq,.bool bhf,.string bf],.agg #[.string us,.bool true,.string uh,.string up,.bool uhq,.string uq,.bool uhf,.string uf]] w fun e w'=>e = .returned (.tuple #[if L = true then .agg #[.string ⟨#[]⟩,.bool false,.string ⟨#[]⟩,.string ⟨#[]⟩,.bool false,.string ⟨#[]⟩,.bool false,.string ⟨#[]⟩] else if n = 0 then .agg #[.string us,.bool true,.string uh,.string p2,.bool uhq,.string uq,.bool uhf,.string uf] else .agg #[.string ⟨#[]⟩,.bool false,.string ⟨#[]⟩,.string ⟨#[]⟩,.bool false,.string ⟨#[]⟩,.bool false,.string ⟨#[]⟩],.int .i64 (if L = true then 4 else (n:Int))])∧Below w.heap.size w w':=by
 have hbE:=bempty_no bs hbe
 have huE:=bempty_no us hue
 clear hbe
 clear hue
 go_enter Tryz.func51,Tryz.ntmps51
 go_wp2
 go_loopw [13] (fun iv wr=>∃ k:Nat,k≤2∧iv = .int .i64 k∧Tri w 85 #[.string bs,.bool bhh,.string bh,.string bp,.bool bhq,.string bq,.bool bhf,.string bf] #[.string us,.bool true,.string uh,.string up,.bool uhq,.string uq,.bool uhf,.string uf] #[.string ⟨#[]⟩,.bool false,.string ⟨#[]⟩,.string ⟨#[]⟩,.bool false,.string ⟨#[]⟩,.bool false,.string ⟨#[]⟩] wr) (fun iv _=>2 - (intOf iv).toNat)
 case atStart=>exact ⟨0,Nat.zero_le _,rfl,tri_new _ _ _ _ _⟩
 case round =>
  obtain ⟨k,hk,rfl,P0⟩:=hrel
  rcases (show k = 0 ∨ k = 1 ∨ k = 2 by omega) with rfl | rfl | rfl
  ·have hix:∀ W:World,(Instr.index 86 (.agg #[.string bs,.bool bhh,.string bh,.string bp,.bool bhq,.string bq,.bool bhf,.string bf,.string us,.bool true,.string uh,.string up,.bool uhq,.string uq,.bool uhf,.string uf]) (.int .i64 0)).run Tryz.prog W = .ok (.agg #[.string bs,.bool bhh,.string bh,.string bp,.bool bhq,.string bq,.bool bhf,.string bf]) W:=fun W=>by kernel_rfl
   go_wp2_with fail
   refine (CB.out _).mono ?_
   rintro e w1 ⟨rfl,hb1⟩
   have P1:=(P0.alloc _).below hb1
   clear hb1
   go_wp2_with fail
   go_roundw
   case rel=>exact ⟨1,by omega,by go_num,P1⟩
   case measure=>simp [intOf]
  ·have hix:∀ W:World,(Instr.index 86 (.agg #[.string bs,.bool bhh,.string bh,.string bp,.bool bhq,.string bq,.bool bhf,.string bf,.string us,.bool true,.string uh,.string up,.bool uhq,.string uq,.bool uhf,.string uf]) (.int .i64 1)).run Tryz.prog W = .ok (.agg #[.string us,.bool true,.string uh,.string up,.bool uhq,.string uq,.bool uhf,.string uf]) W:=fun W=>by kernel_rfl
   go_wp2_with fail
   refine (CU.out _).mono ?_
   rintro e w1 ⟨rfl,hb1⟩
   have P1:=(P0.alloc _).below hb1
   clear hb1
   go_wp2_with fail
   go_roundw
   case rel=>exact ⟨2,by omega,by go_num,P1⟩
   case measure=>simp [intOf]
  ·clear CB CU
   obtain ⟨a0,a1,a2,a3,a4,a5,a6,a7,af⟩:=P0.base
   obtain ⟨c0,c1,c2,c3,c4,c5,c6,c7,cf⟩:=P0.cells
   go_wp2_with fail
   refine (CD.out _ P0.1).mono ?_
   rintro e w4 ⟨rfl,hb4⟩
   have P4:=P0.below hb4
   clear CD hb4 P0
   clear c0 c1 c2 c3 c4 c5 c6 c7 cf
   obtain ⟨e0,e1,e2,e3,e4,e5,e6,e7,ef⟩:=P4.cells
   have P5:=P4.set3 (.string p2)
   go_wp2_with fail
   refine (CL.out _).mono ?_
   rintro e w6 ⟨rfl,hb6⟩
   have P6:=P5.below hb6
   clear CL hb6 P5
   clear e0 e1 e2 e3 e4 e5 e6 e7 ef
   obtain ⟨g0,g1,g2,g3,g4,g5,g6,g7,gf⟩:=P6.cells
   obtain ⟨r0,r1,r2,r3,r4,r5,r6,r7,rf⟩:=P6.res
   cases L with
   | true =>
    clear CK
    go_wp2
    refine bodyPost_ret (v:=.tuple #[.agg #[.string ⟨#[]⟩,.bool false,.string ⟨#[]⟩,.string ⟨#[]⟩,.bool false,.string ⟨#[]⟩,.bool false,.string ⟨#[]⟩],.int .i64 4]) ?_ rfl ⟨rfl,?_⟩
    ·rw [results_cell_tmp rfl]
     go_simp
    ·exact ((((((((P6.1.setCell (le_two _) _).setCell (le_two _) _).setCell (le_two _) _).setCell (le_two _) _).setCell (le_two _) _).setCell (le_two _) _).setCell (le_two _) _).setCell (le_two _) _)
   | false =>
    go_wp2_with fail
    refine (CK.out _).mono ?_
    rintro e w7 ⟨rfl,hb7⟩
    have P7:=P6.below hb7
    clear CK hb7 P6
    clear g0 g1 g2 g3 g4 g5 g6 g7 gf
    clear r0 r1 r2 r3 r4 r5 r6 r7 rf
    obtain ⟨z0,z1,z2,z3,z4,z5,z6,z7,zf⟩:=P7.cells
    obtain ⟨r0,r1,r2,r3,r4,r5,r6,r7,rf⟩:=P7.res
    by_cases h0:n = 0
    ·subst h0
     go_wp2
     refine bodyPost_ret (v:=.tuple #[.agg #[.string us,.bool true,.string uh,.string p2,.bool uhq,.string uq,.bool uhf,.string uf],.int .i64 0]) ?_ rfl ⟨rfl,?_⟩
     ·rw [results_cell_tmp rfl]
      go_simp
     ·exact ((((((((P7.1.setCell (le_two _) _).setCell (le_two _) _).setCell (le_two _) _).setCell (le_two _) _).setCell (le_two _) _).setCell (le_two _) _).setCell (le_two _) _).setCell (le_two _) _)
    ·have hn0:((n:Int) == 0) = false:=by rw [beq_eq_false_iff_ne];omega
     go_wp2
     refine bodyPost_ret (v:=.tuple #[.agg #[.string ⟨#[]⟩,.bool false,.string ⟨#[]⟩,.string ⟨#[]⟩,.bool false,.string ⟨#[]⟩,.bool false,.string ⟨#[]⟩],.int .i64 (n:Int)]) ?_ rfl ⟨by first | rfl | simp [h0],?_⟩
     ·rw [results_cell_tmp rfl]
      go_simp
     ·exact ((((((((P7.1.setCell (le_two _) _).setCell (le_two _) _).setCell (le_two _) _).setCell (le_two _) _).setCell (le_two _) _).setCell (le_two _) _).setCell (le_two _) _).setCell (le_two _) _)
set_option maxHeartbeats 4000000 in
set_option maxRecDepth 100000 in
theorem lead_KP (bs bh bp bq bf us uh up uq uf p2:ByteArray) (bhh bhq bhf uhq uhf:Bool) (hbe:bs.data.toList ≠ []) (hue:us.data.toList ≠ []) (L:Bool) (n:Nat) (w:World)
  (CB:Hid (∀ W,Calls Tryz.prog 94 #[.agg #[.string bs,.bool bhh,.string bh,.string bp,.bool bhq,.string bq,.bool bhf,.string bf]] W fun e w'=>e = .returned (.int .i64 0)∧Below W.heap.size W w'))
  (CU:Hid (∀ W,Calls Tryz.prog 94 #[.agg #[.string us,.bool false,.string uh,.string up,.bool uhq,.string uq,.bool uhf,.string uf]] W fun e w'=>e = .returned (.int .i64 0)∧Below W.heap.size W w'))
  (CP:Hid (∀ W,Calls Tryz.prog 59 #[.string up,.string ⟨#[47]⟩] W fun e w'=>e = .returned (.bool true)∧w' = W))
  (CD:Hid (∀ W,Below w.heap.size w W→Calls Tryz.prog 96 #[.string up] W fun e w'=>e = .returned (.string p2)∧Below W.heap.size W w'))
  (CL:Hid (∀ W,Calls Tryz.prog 97 #[.agg #[.string us,.bool false,.string uh,.string p2,.bool uhq,.string uq,.bool uhf,.string uf]] W fun e w'=>e = .returned (.bool L)∧Below W.heap.size W w'))
  (CK:Hid (∀ W,Calls Tryz.prog 94 #[.agg #[.string us,.bool false,.string uh,.string p2,.bool uhq,.string uq,.bool uhf,.string uf]] W fun e w'=>e = .returned (.int .i64 (n:Int))∧Below W.heap.size W w')) :
  Calls Tryz.prog 51 #[.agg #[.string bs,.bool bhh,.string bh,.string bp,.bool bhq,.string bq,.bool bhf,.string bf],.agg #[.string us,.bool false,.string uh,.string up,.bool uhq,.string uq,.bool uhf,.string uf]] w fun e w'=>e = .returned (.tuple #[if L = true then .agg #[.string ⟨#[]⟩,.bool false,.string ⟨#[]⟩,.string ⟨#[]⟩,.bool false,.string ⟨#[]⟩,.bool false,.string ⟨#[]⟩] else if n = 0 then .agg #[.string us,.bool false,.string uh,.string p2,.bool uhq,.string uq,.bool uhf,.string uf] else .agg #[.string ⟨#[]⟩,.bool false,.string ⟨#[]⟩,.string ⟨#[]⟩,.bool false,.string ⟨#[]⟩,.bool false,.string ⟨#[]⟩],.int .i64 (if L = true then 4 else (n:Int))])∧Below w.heap.size w w':=by
 have hbE:=bempty_no bs hbe
 have huE:=bempty_no us hue
 clear hbe
 clear hue
 go_enter Tryz.func51,Tryz.ntmps51
 go_wp2
 go_loopw [13] (fun iv wr=>∃ k:Nat,k≤2∧iv = .int .i64 k∧Tri w 85 #[.string bs,.bool bhh,.string bh,.string bp,.bool bhq,.string bq,.bool bhf,.string bf] #[.string us,.bool false,.string uh,.string up,.bool uhq,.string uq,.bool uhf,.string uf] #[.string ⟨#[]⟩,.bool false,.string ⟨#[]⟩,.string ⟨#[]⟩,.bool false,.string ⟨#[]⟩,.bool false,.string ⟨#[]⟩] wr) (fun iv _=>2 - (intOf iv).toNat)
 case atStart=>exact ⟨0,Nat.zero_le _,rfl,tri_new _ _ _ _ _⟩
 case round =>
  obtain ⟨k,hk,rfl,P0⟩:=hrel
  rcases (show k = 0 ∨ k = 1 ∨ k = 2 by omega) with rfl | rfl | rfl
  ·have hix:∀ W:World,(Instr.index 86 (.agg #[.string bs,.bool bhh,.string bh,.string bp,.bool bhq,.string bq,.bool bhf,.string bf,.string us,.bool false,.string uh,.string up,.bool uhq,.string uq,.bool uhf,.string uf]) (.int .i64 0)).run Tryz.prog W = .ok (.agg #[.string bs,.bool bhh,.string bh,.string bp,.bool bhq,.string bq,.bool bhf,.string bf]) W:=fun W=>by kernel_rfl
   go_wp2_with fail
   refine (CB.out _).mono ?_
   rintro e w1 ⟨rfl,hb1⟩
   have P1:=(P0.alloc _).below hb1
   clear hb1
   go_wp2_with fail
   go_roundw
   case rel=>exact ⟨1,by omega,by go_num,P1⟩
   case measure=>simp [intOf]
  ·have hix:∀ W:World,(Instr.index 86 (.agg #[.string bs,.bool bhh,.string bh,.string bp,.bool bhq,.string bq,.bool bhf,.string bf,.string us,.bool false,.string uh,.string up,.bool uhq,.string uq,.bool uhf,.string uf]) (.int .i64 1)).run Tryz.prog W = .ok (.agg #[.string us,.bool false,.string uh,.string up,.bool uhq,.string uq,.bool uhf,.string uf]) W:=fun W=>by kernel_rfl
   go_wp2_with fail
   refine (CU.out _).mono ?_
   rintro e w1 ⟨rfl,hb1⟩
   have P1:=(P0.alloc _).below hb1
   clear hb1
   go_wp2_with fail
   go_roundw
   case rel=>exact ⟨2,by omega,by go_num,P1⟩
   case measure=>simp [intOf]
  ·clear CB CU
   obtain ⟨a0,a1,a2,a3,a4,a5,a6,a7,af⟩:=P0.base
   obtain ⟨c0,c1,c2,c3,c4,c5,c6,c7,cf⟩:=P0.cells
   go_wp2_with fail
   refine (CP.out _).mono ?_
   rintro e w' ⟨rfl,hw'⟩
   have hw'':=hw'.symm
   subst hw''
   clear CP
   go_wp2_with fail
   refine (CD.out _ P0.1).mono ?_
   rintro e w4 ⟨rfl,hb4⟩
   have P4:=P0.below hb4
   clear CD hb4 P0
   clear c0 c1 c2 c3 c4 c5 c6 c7 cf
   obtain ⟨e0,e1,e2,e3,e4,e5,e6,e7,ef⟩:=P4.cells
   have P5:=P4.set3 (.string p2)
   go_wp2_with fail
   refine (CL.out _).mono ?_
   rintro e w6 ⟨rfl,hb6⟩
   have P6:=P5.below hb6
   clear CL hb6 P5
   clear e0 e1 e2 e3 e4 e5 e6 e7 ef
   obtain ⟨g0,g1,g2,g3,g4,g5,g6,g7,gf⟩:=P6.cells
   obtain ⟨r0,r1,r2,r3,r4,r5,r6,r7,rf⟩:=P6.res
   cases L with
   | true =>
    clear CK
    go_wp2
    refine bodyPost_ret (v:=.tuple #[.agg #[.string ⟨#[]⟩,.bool false,.string ⟨#[]⟩,.string ⟨#[]⟩,.bool false,.string ⟨#[]⟩,.bool false,.string ⟨#[]⟩],.int .i64 4]) ?_ rfl ⟨rfl,?_⟩
    ·rw [results_cell_tmp rfl]
     go_simp
    ·exact ((((((((P6.1.setCell (le_two _) _).setCell (le_two _) _).setCell (le_two _) _).setCell (le_two _) _).setCell (le_two _) _).setCell (le_two _) _).setCell (le_two _) _).setCell (le_two _) _)
   | false =>
    go_wp2_with fail
    refine (CK.out _).mono ?_
    rintro e w7 ⟨rfl,hb7⟩
    have P7:=P6.below hb7
    clear CK hb7 P6
    clear g0 g1 g2 g3 g4 g5 g6 g7 gf
    clear r0 r1 r2 r3 r4 r5 r6 r7 rf
    obtain ⟨z0,z1,z2,z3,z4,z5,z6,z7,zf⟩:=P7.cells
    obtain ⟨r0,r1,r2,r3,r4,r5,r6,r7,rf⟩:=P7.res
    by_cases h0:n = 0
    ·subst h0
     go_wp2
     refine bodyPost_ret (v:=.tuple #[.agg #[.string us,.bool false,.string uh,.string p2,.bool uhq,.string uq,.bool uhf,.string uf],.int .i64 0]) ?_ rfl ⟨rfl,?_⟩
     ·rw [results_cell_tmp rfl]
      go_simp
     ·exact ((((((((P7.1.setCell (le_two _) _).setCell (le_two _) _).setCell (le_two _) _).setCell (le_two _) _).setCell (le_two _) _).setCell (le_two _) _).setCell (le_two _) _).setCell (le_two _) _)
    ·have hn0:((n:Int) == 0) = false:=by rw [beq_eq_false_iff_ne];omega
     go_wp2
     refine bodyPost_ret (v:=.tuple #[.agg #[.string ⟨#[]⟩,.bool false,.string ⟨#[]⟩,.string ⟨#[]⟩,.bool false,.string ⟨#[]⟩,.bool false,.string ⟨#[]⟩],.int .i64 (n:Int)]) ?_ rfl ⟨by first | rfl | simp [h0],?_⟩
     ·rw [results_cell_tmp rfl]
      go_simp
     ·exact ((((((((P7.1.setCell (le_two _) _).setCell (le_two _) _).setCell (le_two _) _).setCell (le_two _) _).setCell (le_two _) _).setCell (le_two _) _).setCell (le_two _) _).setCell (le_two _) _)
set_option maxHeartbeats 4000000 in
set_option maxRecDepth 100000 in
theorem lead_KN (bs bh bp bq bf us uh up uq uf:ByteArray) (bhh bhq bhf uhq uhf:Bool) (hbe:bs.data.toList ≠ []) (hue:us.data.toList ≠ []) (L:Bool) (n:Nat) (w:World)
  (CB:Hid (∀ W,Calls Tryz.prog 94 #[.agg #[.string bs,.bool bhh,.string bh,.string bp,.bool bhq,.string bq,.bool bhf,.string bf]] W fun e w'=>e = .returned (.int .i64 0)∧Below W.heap.size W w'))
  (CU:Hid (∀ W,Calls Tryz.prog 94 #[.agg #[.string us,.bool false,.string uh,.string up,.bool uhq,.string uq,.bool uhf,.string uf]] W fun e w'=>e = .returned (.int .i64 0)∧Below W.heap.size W w'))
  (CP:Hid (∀ W,Calls Tryz.prog 59 #[.string up,.string ⟨#[47]⟩] W fun e w'=>e = .returned (.bool false)∧w' = W))
  (CL:Hid (∀ W,Calls Tryz.prog 97 #[.agg #[.string us,.bool false,.string uh,.string up,.bool uhq,.string uq,.bool uhf,.string uf]] W fun e w'=>e = .returned (.bool L)∧Below W.heap.size W w'))
  (CK:Hid (∀ W,Calls Tryz.prog 94 #[.agg #[.string us,.bool false,.string uh,.string up,.bool uhq,.string uq,.bool uhf,.string uf]] W fun e w'=>e = .returned (.int .i64 (n:Int))∧Below W.heap.size W w')) :
  Calls Tryz.prog 51 #[.agg #[.string bs,.bool bhh,.string bh,.string bp,.bool bhq,.string bq,.bool bhf,.string bf],.agg #[.string us,.bool false,.string uh,.string up,.bool uhq,.string uq,.bool uhf,.string uf]] w fun e w'=>e = .returned (.tuple #[if L = true then .agg #[.string ⟨#[]⟩,.bool false,.string ⟨#[]⟩,.string ⟨#[]⟩,.bool false,.string ⟨#[]⟩,.bool false,.string ⟨#[]⟩] else if n = 0 then .agg #[.string us,.bool false,.string uh,.string up,.bool uhq,.string uq,.bool uhf,.string uf] else .agg #[.string ⟨#[]⟩,.bool false,.string ⟨#[]⟩,.string ⟨#[]⟩,.bool false,.string ⟨#[]⟩,.bool false,.string ⟨#[]⟩],.int .i64 (if L = true then 4 else (n:Int))])∧Below w.heap.size w w':=by
 have hbE:=bempty_no bs hbe
 have huE:=bempty_no us hue
 clear hbe
 clear hue
 go_enter Tryz.func51,Tryz.ntmps51
 go_wp2
 go_loopw [13] (fun iv wr=>∃ k:Nat,k≤2∧iv = .int .i64 k∧Tri w 85 #[.string bs,.bool bhh,.string bh,.string bp,.bool bhq,.string bq,.bool bhf,.string bf] #[.string us,.bool false,.string uh,.string up,.bool uhq,.string uq,.bool uhf,.string uf] #[.string ⟨#[]⟩,.bool false,.string ⟨#[]⟩,.string ⟨#[]⟩,.bool false,.string ⟨#[]⟩,.bool false,.string ⟨#[]⟩] wr) (fun iv _=>2 - (intOf iv).toNat)
 case atStart=>exact ⟨0,Nat.zero_le _,rfl,tri_new _ _ _ _ _⟩
 case round =>
  obtain ⟨k,hk,rfl,P0⟩:=hrel
  rcases (show k = 0 ∨ k = 1 ∨ k = 2 by omega) with rfl | rfl | rfl
  ·have hix:∀ W:World,(Instr.index 86 (.agg #[.string bs,.bool bhh,.string bh,.string bp,.bool bhq,.string bq,.bool bhf,.string bf,.string us,.bool false,.string uh,.string up,.bool uhq,.string uq,.bool uhf,.string uf]) (.int .i64 0)).run Tryz.prog W = .ok (.agg #[.string bs,.bool bhh,.string bh,.string bp,.bool bhq,.string bq,.bool bhf,.string bf]) W:=fun W=>by kernel_rfl
   go_wp2_with fail
   refine (CB.out _).mono ?_
   rintro e w1 ⟨rfl,hb1⟩
   have P1:=(P0.alloc _).below hb1
   clear hb1
   go_wp2_with fail
   go_roundw
   case rel=>exact ⟨1,by omega,by go_num,P1⟩
   case measure=>simp [intOf]
  ·have hix:∀ W:World,(Instr.index 86 (.agg #[.string bs,.bool bhh,.string bh,.string bp,.bool bhq,.string bq,.bool bhf,.string bf,.string us,.bool false,.string uh,.string up,.bool uhq,.string uq,.bool uhf,.string uf]) (.int .i64 1)).run Tryz.prog W = .ok (.agg #[.string us,.bool false,.string uh,.string up,.bool uhq,.string uq,.bool uhf,.string uf]) W:=fun W=>by kernel_rfl
   go_wp2_with fail
   refine (CU.out _).mono ?_
   rintro e w1 ⟨rfl,hb1⟩
   have P1:=(P0.alloc _).below hb1
   clear hb1
   go_wp2_with fail
   go_roundw
   case rel=>exact ⟨2,by omega,by go_num,P1⟩
   case measure=>simp [intOf]
  ·clear CB CU
   obtain ⟨a0,a1,a2,a3,a4,a5,a6,a7,af⟩:=P0.base
   obtain ⟨c0,c1,c2,c3,c4,c5,c6,c7,cf⟩:=P0.cells
   go_wp2_with fail
   refine (CP.out _).mono ?_
   rintro e w' ⟨rfl,hw'⟩
   have hw'':=hw'.symm
   subst hw''
   clear CP
   go_wp2_with fail
   refine (CL.out _).mono ?_
   rintro e w6 ⟨rfl,hb6⟩
   have P6:=P0.below hb6
   clear CL hb6 P0
   clear c0 c1 c2 c3 c4 c5 c6 c7 cf
   obtain ⟨g0,g1,g2,g3,g4,g5,g6,g7,gf⟩:=P6.cells
   obtain ⟨r0,r1,r2,r3,r4,r5,r6,r7,rf⟩:=P6.res
   cases L with
   | true =>
    clear CK
    go_wp2
    refine bodyPost_ret (v:=.tuple #[.agg #[.string ⟨#[]⟩,.bool false,.string ⟨#[]⟩,.string ⟨#[]⟩,.bool false,.string ⟨#[]⟩,.bool false,.string ⟨#[]⟩],.int .i64 4]) ?_ rfl ⟨rfl,?_⟩
    ·rw [results_cell_tmp rfl]
     go_simp
    ·exact ((((((((P6.1.setCell (le_two _) _).setCell (le_two _) _).setCell (le_two _) _).setCell (le_two _) _).setCell (le_two _) _).setCell (le_two _) _).setCell (le_two _) _).setCell (le_two _) _)
   | false =>
    go_wp2_with fail
    refine (CK.out _).mono ?_
    rintro e w7 ⟨rfl,hb7⟩
    have P7:=P6.below hb7
    clear CK hb7 P6
    clear g0 g1 g2 g3 g4 g5 g6 g7 gf
    clear r0 r1 r2 r3 r4 r5 r6 r7 rf
    obtain ⟨z0,z1,z2,z3,z4,z5,z6,z7,zf⟩:=P7.cells
    obtain ⟨r0,r1,r2,r3,r4,r5,r6,r7,rf⟩:=P7.res
    by_cases h0:n = 0
    ·subst h0
     go_wp2
     refine bodyPost_ret (v:=.tuple #[.agg #[.string us,.bool false,.string uh,.string up,.bool uhq,.string uq,.bool uhf,.string uf],.int .i64 0]) ?_ rfl ⟨rfl,?_⟩
     ·rw [results_cell_tmp rfl]
      go_simp
     ·exact ((((((((P7.1.setCell (le_two _) _).setCell (le_two _) _).setCell (le_two _) _).setCell (le_two _) _).setCell (le_two _) _).setCell (le_two _) _).setCell (le_two _) _).setCell (le_two _) _)
    ·have hn0:((n:Int) == 0) = false:=by rw [beq_eq_false_iff_ne];omega
     go_wp2
     refine bodyPost_ret (v:=.tuple #[.agg #[.string ⟨#[]⟩,.bool false,.string ⟨#[]⟩,.string ⟨#[]⟩,.bool false,.string ⟨#[]⟩,.bool false,.string ⟨#[]⟩],.int .i64 (n:Int)]) ?_ rfl ⟨by first | rfl | simp [h0],?_⟩
     ·rw [results_cell_tmp rfl]
      go_simp
     ·exact ((((((((P7.1.setCell (le_two _) _).setCell (le_two _) _).setCell (le_two _) _).setCell (le_two _) _).setCell (le_two _) _).setCell (le_two _) _).setCell (le_two _) _).setCell (le_two _) _)
set_option maxHeartbeats 4000000 in
set_option maxRecDepth 100000 in
theorem lead_CH (bs bh bp bq bf uh up uq uf s1 h1 p1 q1 f1 p2:ByteArray) (bhh bhq bhf uhh uhq uhf hq1 hf1:Bool) (hbe:bs.data.toList ≠ []) (L:Bool) (n:Nat) (w:World)
  (CB:Hid (∀ W,Calls Tryz.prog 94 #[.agg #[.string bs,.bool bhh,.string bh,.string bp,.bool bhq,.string bq,.bool bhf,.string bf]] W fun e w'=>e = .returned (.int .i64 0)∧Below W.heap.size W w'))
  (CU:Hid (∀ W,Calls Tryz.prog 94 #[.agg #[.string ⟨#[]⟩,.bool uhh,.string uh,.string up,.bool uhq,.string uq,.bool uhf,.string uf]] W fun e w'=>e = .returned (.int .i64 0)∧Below W.heap.size W w'))
  (CC:Hid (∀ W,Calls Tryz.prog 95 #[.agg #[.string bs,.bool bhh,.string bh,.string bp,.bool bhq,.string bq,.bool bhf,.string bf],.agg #[.string ⟨#[]⟩,.bool uhh,.string uh,.string up,.bool uhq,.string uq,.bool uhf,.string uf]] W fun e w'=>e = .returned (.agg #[.string s1,.bool true,.string h1,.string p1,.bool hq1,.string q1,.bool hf1,.string f1])∧Below W.heap.size W w'))
  (CD:Hid (∀ W,Below w.heap.size w W→Calls Tryz.prog 96 #[.string p1] W fun e w'=>e = .returned (.string p2)∧Below W.heap.size W w'))
  (CL:Hid (∀ W,Calls Tryz.prog 97 #[.agg #[.string s1,.bool true,.string h1,.string p2,.bool hq1,.string q1,.bool hf1,.string f1]] W fun e w'=>e = .returned (.bool L)∧Below W.heap.size W w'))
  (CK:Hid (∀ W,Calls Tryz.prog 94 #[.agg #[.string s1,.bool true,.string h1,.string p2,.bool hq1,.string q1,.bool hf1,.string f1]] W fun e w'=>e = .returned (.int .i64 (n:Int))∧Below W.heap.size W w')) :
  Calls Tryz.prog 51 #[.agg #[.string bs,.bool bhh,.string bh,.string bp,.bool bhq,.string bq,.bool bhf,.string bf],.agg #[.string ⟨#[]⟩,.bool uhh,.string uh,.string up,.bool uhq,.string uq,.bool uhf,.string uf]] w fun e w'=>e = .returned (.tuple #[if L = true then .agg #[.string ⟨#[]⟩,.bool false,.string ⟨#[]⟩,.string ⟨#[]⟩,.bool false,.string ⟨#[]⟩,.bool false,.string ⟨#[]⟩] else if n = 0 then .agg #[.string s1,.bool true,.string h1,.string p2,.bool hq1,.string q1,.bool hf1,.string f1] else .agg #[.string ⟨#[]⟩,.bool false,.string ⟨#[]⟩,.string ⟨#[]⟩,.bool false,.string ⟨#[]⟩,.bool false,.string ⟨#[]⟩],.int .i64 (if L = true then 4 else (n:Int))])∧Below w.heap.size w w':=by
 have hbE:=bempty_no bs hbe
 clear hbe
 go_enter Tryz.func51,Tryz.ntmps51
 go_wp2
 go_loopw [13] (fun iv wr=>∃ k:Nat,k≤2∧iv = .int .i64 k∧Tri w 85 #[.string bs,.bool bhh,.string bh,.string bp,.bool bhq,.string bq,.bool bhf,.string bf] #[.string ⟨#[]⟩,.bool uhh,.string uh,.string up,.bool uhq,.string uq,.bool uhf,.string uf] #[.string ⟨#[]⟩,.bool false,.string ⟨#[]⟩,.string ⟨#[]⟩,.bool false,.string ⟨#[]⟩,.bool false,.string ⟨#[]⟩] wr) (fun iv _=>2 - (intOf iv).toNat)
 case atStart=>exact ⟨0,Nat.zero_le _,rfl,tri_new _ _ _ _ _⟩
 case round =>
  obtain ⟨k,hk,rfl,P0⟩:=hrel
  rcases (show k = 0 ∨ k = 1 ∨ k = 2 by omega) with rfl | rfl | rfl
  ·have hix:∀ W:World,(Instr.index 86 (.agg #[.string bs,.bool bhh,.string bh,.string bp,.bool bhq,.string bq,.bool bhf,.string bf,.string ⟨#[]⟩,.bool uhh,.string uh,.string up,.bool uhq,.string uq,.bool uhf,.string uf]) (.int .i64 0)).run Tryz.prog W = .ok (.agg #[.string bs,.bool bhh,.string bh,.string bp,.bool bhq,.string bq,.bool bhf,.string bf]) W:=fun W=>by kernel_rfl
   go_wp2_with fail
   refine (CB.out _).mono ?_
   rintro e w1 ⟨rfl,hb1⟩
   have P1:=(P0.alloc _).below hb1
   clear hb1
   go_wp2_with fail
   go_roundw
   case rel=>exact ⟨1,by omega,by go_num,P1⟩
   case measure=>simp [intOf]
  ·have hix:∀ W:World,(Instr.index 86 (.agg #[.string bs,.bool bhh,.string bh,.string bp,.bool bhq,.string bq,.bool bhf,.string bf,.string ⟨#[]⟩,.bool uhh,.string uh,.string up,.bool uhq,.string uq,.bool uhf,.string uf]) (.int .i64 1)).run Tryz.prog W = .ok (.agg #[.string ⟨#[]⟩,.bool uhh,.string uh,.string up,.bool uhq,.string uq,.bool uhf,.string uf]) W:=fun W=>by kernel_rfl
   go_wp2_with fail
   refine (CU.out _).mono ?_
   rintro e w1 ⟨rfl,hb1⟩
   have P1:=(P0.alloc _).below hb1
   clear hb1
   go_wp2_with fail
   go_roundw
   case rel=>exact ⟨2,by omega,by go_num,P1⟩
   case measure=>simp [intOf]
  ·clear CB CU
   obtain ⟨a0,a1,a2,a3,a4,a5,a6,a7,af⟩:=P0.base
   obtain ⟨c0,c1,c2,c3,c4,c5,c6,c7,cf⟩:=P0.cells
   go_wp2_with fail
   refine (CC.out _).mono ?_
   rintro e w2 ⟨rfl,hb2⟩
   have P2:=P0.below hb2
   clear CC hb2 P0
   clear a0 a1 a2 a3 a4 a5 a6 a7 af
   clear c0 c1 c2 c3 c4 c5 c6 c7 cf
   obtain ⟨d0,d1,d2,d3,d4,d5,d6,d7,df⟩:=P2.cells
   have P3:=(((((((P2.set0 (.string s1)).set1 (.bool true)).set2 (.string h1)).set3 (.string p1)).set4 (.bool hq1)).set5 (.string q1)).set6 (.bool hf1)).set7 (.string f1)
   go_wp2_with fail
   refine (CD.out _ P3.1).mono ?_
   rintro e w4 ⟨rfl,hb4⟩
   have P4:=P3.below hb4
   clear CD hb4 P3
   clear d0 d1 d2 d3 d4 d5 d6 d7 df
   obtain ⟨e0,e1,e2,e3,e4,e5,e6,e7,ef⟩:=P4.cells
   have P5:=P4.set3 (.string p2)
   go_wp2_with fail
   refine (CL.out _).mono ?_
   rintro e w6 ⟨rfl,hb6⟩
   have P6:=P5.below hb6
   clear CL hb6 P5
   clear e0 e1 e2 e3 e4 e5 e6 e7 ef
   obtain ⟨g0,g1,g2,g3,g4,g5,g6,g7,gf⟩:=P6.cells
   obtain ⟨r0,r1,r2,r3,r4,r5,r6,r7,rf⟩:=P6.res
   cases L with
   | true =>
    clear CK
    go_wp2
    refine bodyPost_ret (v:=.tuple #[.agg #[.string ⟨#[]⟩,.bool false,.string ⟨#[]⟩,.string ⟨#[]⟩,.bool false,.string ⟨#[]⟩,.bool false,.string ⟨#[]⟩],.int .i64 4]) ?_ rfl ⟨rfl,?_⟩
    ·rw [results_cell_tmp rfl]
     go_simp
    ·exact ((((((((P6.1.setCell (le_two _) _).setCell (le_two _) _).setCell (le_two _) _).setCell (le_two _) _).setCell (le_two _) _).setCell (le_two _) _).setCell (le_two _) _).setCell (le_two _) _)
   | false =>
    go_wp2_with fail
    refine (CK.out _).mono ?_
    rintro e w7 ⟨rfl,hb7⟩
    have P7:=P6.below hb7
    clear CK hb7 P6
    clear g0 g1 g2 g3 g4 g5 g6 g7 gf
    clear r0 r1 r2 r3 r4 r5 r6 r7 rf
    obtain ⟨z0,z1,z2,z3,z4,z5,z6,z7,zf⟩:=P7.cells
    obtain ⟨r0,r1,r2,r3,r4,r5,r6,r7,rf⟩:=P7.res
    by_cases h0:n = 0
    ·subst h0
     go_wp2
     refine bodyPost_ret (v:=.tuple #[.agg #[.string s1,.bool true,.string h1,.string p2,.bool hq1,.string q1,.bool hf1,.string f1],.int .i64 0]) ?_ rfl ⟨rfl,?_⟩
     ·rw [results_cell_tmp rfl]
      go_simp
     ·exact ((((((((P7.1.setCell (le_two _) _).setCell (le_two _) _).setCell (le_two _) _).setCell (le_two _) _).setCell (le_two _) _).setCell (le_two _) _).setCell (le_two _) _).setCell (le_two _) _)
    ·have hn0:((n:Int) == 0) = false:=by rw [beq_eq_false_iff_ne];omega
     go_wp2
     refine bodyPost_ret (v:=.tuple #[.agg #[.string ⟨#[]⟩,.bool false,.string ⟨#[]⟩,.string ⟨#[]⟩,.bool false,.string ⟨#[]⟩,.bool false,.string ⟨#[]⟩],.int .i64 (n:Int)]) ?_ rfl ⟨by first | rfl | simp [h0],?_⟩
     ·rw [results_cell_tmp rfl]
      go_simp
     ·exact ((((((((P7.1.setCell (le_two _) _).setCell (le_two _) _).setCell (le_two _) _).setCell (le_two _) _).setCell (le_two _) _).setCell (le_two _) _).setCell (le_two _) _).setCell (le_two _) _)
set_option maxHeartbeats 4000000 in
set_option maxRecDepth 100000 in
theorem lead_CP (bs bh bp bq bf uh up uq uf s1 h1 p1 q1 f1 p2:ByteArray) (bhh bhq bhf uhh uhq uhf hq1 hf1:Bool) (hbe:bs.data.toList ≠ []) (L:Bool) (n:Nat) (w:World)
  (CB:Hid (∀ W,Calls Tryz.prog 94 #[.agg #[.string bs,.bool bhh,.string bh,.string bp,.bool bhq,.string bq,.bool bhf,.string bf]] W fun e w'=>e = .returned (.int .i64 0)∧Below W.heap.size W w'))
  (CU:Hid (∀ W,Calls Tryz.prog 94 #[.agg #[.string ⟨#[]⟩,.bool uhh,.string uh,.string up,.bool uhq,.string uq,.bool uhf,.string uf]] W fun e w'=>e = .returned (.int .i64 0)∧Below W.heap.size W w'))
  (CC:Hid (∀ W,Calls Tryz.prog 95 #[.agg #[.string bs,.bool bhh,.string bh,.string bp,.bool bhq,.string bq,.bool bhf,.string bf],.agg #[.string ⟨#[]⟩,.bool uhh,.string uh,.string up,.bool uhq,.string uq,.bool uhf,.string uf]] W fun e w'=>e = .returned (.agg #[.string s1,.bool false,.string h1,.string p1,.bool hq1,.string q1,.bool hf1,.string f1])∧Below W.heap.size W w'))
  (CP:Hid (∀ W,Calls Tryz.prog 59 #[.string p1,.string ⟨#[47]⟩] W fun e w'=>e = .returned (.bool true)∧w' = W))
  (CD:Hid (∀ W,Below w.heap.size w W→Calls Tryz.prog 96 #[.string p1] W fun e w'=>e = .returned (.string p2)∧Below W.heap.size W w'))
  (CL:Hid (∀ W,Calls Tryz.prog 97 #[.agg #[.string s1,.bool false,.string h1,.string p2,.bool hq1,.string q1,.bool hf1,.string f1]] W fun e w'=>e = .returned (.bool L)∧Below W.heap.size W w'))
  (CK:Hid (∀ W,Calls Tryz.prog 94 #[.agg #[.string s1,.bool false,.string h1,.string p2,.bool hq1,.string q1,.bool hf1,.string f1]] W fun e w'=>e = .returned (.int .i64 (n:Int))∧Below W.heap.size W w')) :
  Calls Tryz.prog 51 #[.agg #[.string bs,.bool bhh,.string bh,.string bp,.bool bhq,.string bq,.bool bhf,.string bf],.agg #[.string ⟨#[]⟩,.bool uhh,.string uh,.string up,.bool uhq,.string uq,.bool uhf,.string uf]] w fun e w'=>e = .returned (.tuple #[if L = true then .agg #[.string ⟨#[]⟩,.bool false,.string ⟨#[]⟩,.string ⟨#[]⟩,.bool false,.string ⟨#[]⟩,.bool false,.string ⟨#[]⟩] else if n = 0 then .agg #[.string s1,.bool false,.string h1,.string p2,.bool hq1,.string q1,.bool hf1,.string f1] else .agg #[.string ⟨#[]⟩,.bool false,.string ⟨#[]⟩,.string ⟨#[]⟩,.bool false,.string ⟨#[]⟩,.bool false,.string ⟨#[]⟩],.int .i64 (if L = true then 4 else (n:Int))])∧Below w.heap.size w w':=by
 have hbE:=bempty_no bs hbe
 clear hbe
 go_enter Tryz.func51,Tryz.ntmps51
 go_wp2
 go_loopw [13] (fun iv wr=>∃ k:Nat,k≤2∧iv = .int .i64 k∧Tri w 85 #[.string bs,.bool bhh,.string bh,.string bp,.bool bhq,.string bq,.bool bhf,.string bf] #[.string ⟨#[]⟩,.bool uhh,.string uh,.string up,.bool uhq,.string uq,.bool uhf,.string uf] #[.string ⟨#[]⟩,.bool false,.string ⟨#[]⟩,.string ⟨#[]⟩,.bool false,.string ⟨#[]⟩,.bool false,.string ⟨#[]⟩] wr) (fun iv _=>2 - (intOf iv).toNat)
 case atStart=>exact ⟨0,Nat.zero_le _,rfl,tri_new _ _ _ _ _⟩
 case round =>
  obtain ⟨k,hk,rfl,P0⟩:=hrel
  rcases (show k = 0 ∨ k = 1 ∨ k = 2 by omega) with rfl | rfl | rfl
  ·have hix:∀ W:World,(Instr.index 86 (.agg #[.string bs,.bool bhh,.string bh,.string bp,.bool bhq,.string bq,.bool bhf,.string bf,.string ⟨#[]⟩,.bool uhh,.string uh,.string up,.bool uhq,.string uq,.bool uhf,.string uf]) (.int .i64 0)).run Tryz.prog W = .ok (.agg #[.string bs,.bool bhh,.string bh,.string bp,.bool bhq,.string bq,.bool bhf,.string bf]) W:=fun W=>by kernel_rfl
   go_wp2_with fail
   refine (CB.out _).mono ?_
   rintro e w1 ⟨rfl,hb1⟩
   have P1:=(P0.alloc _).below hb1
   clear hb1
   go_wp2_with fail
   go_roundw
   case rel=>exact ⟨1,by omega,by go_num,P1⟩
   case measure=>simp [intOf]
  ·have hix:∀ W:World,(Instr.index 86 (.agg #[.string bs,.bool bhh,.string bh,.string bp,.bool bhq,.string bq,.bool bhf,.string bf,.string ⟨#[]⟩,.bool uhh,.string uh,.string up,.bool uhq,.string uq,.bool uhf,.string uf]) (.int .i64 1)).run Tryz.prog W = .ok (.agg #[.string ⟨#[]⟩,.bool uhh,.string uh,.string up,.bool uhq,.string uq,.bool uhf,.string uf]) W:=fun W=>by kernel_rfl
   go_wp2_with fail
   refine (CU.out _).mono ?_
   rintro e w1 ⟨rfl,hb1⟩
   have P1:=(P0.alloc _).below hb1
   clear hb1
   go_wp2_with fail
   go_roundw
   case rel=>exact ⟨2,by omega,by go_num,P1⟩
   case measure=>simp [intOf]
  ·clear CB CU
   obtain ⟨a0,a1,a2,a3,a4,a5,a6,a7,af⟩:=P0.base
   obtain ⟨c0,c1,c2,c3,c4,c5,c6,c7,cf⟩:=P0.cells
   go_wp2_with fail
   refine (CC.out _).mono ?_
   rintro e w2 ⟨rfl,hb2⟩
   have P2:=P0.below hb2
   clear CC hb2 P0
   clear a0 a1 a2 a3 a4 a5 a6 a7 af
   clear c0 c1 c2 c3 c4 c5 c6 c7 cf
   obtain ⟨d0,d1,d2,d3,d4,d5,d6,d7,df⟩:=P2.cells
   have P3:=(((((((P2.set0 (.string s1)).set1 (.bool false)).set2 (.string h1)).set3 (.string p1)).set4 (.bool hq1)).set5 (.string q1)).set6 (.bool hf1)).set7 (.string f1)
   go_wp2_with fail
   refine (CP.out _).mono ?_
   rintro e w' ⟨rfl,hw'⟩
   have hw'':=hw'.symm
   subst hw''
   clear CP
   go_wp2_with fail
   refine (CD.out _ P3.1).mono ?_
   rintro e w4 ⟨rfl,hb4⟩
   have P4:=P3.below hb4
   clear CD hb4 P3
   clear d0 d1 d2 d3 d4 d5 d6 d7 df
   obtain ⟨e0,e1,e2,e3,e4,e5,e6,e7,ef⟩:=P4.cells
   have P5:=P4.set3 (.string p2)
   go_wp2_with fail
   refine (CL.out _).mono ?_
   rintro e w6 ⟨rfl,hb6⟩
   have P6:=P5.below hb6
   clear CL hb6 P5
   clear e0 e1 e2 e3 e4 e5 e6 e7 ef
   obtain ⟨g0,g1,g2,g3,g4,g5,g6,g7,gf⟩:=P6.cells
   obtain ⟨r0,r1,r2,r3,r4,r5,r6,r7,rf⟩:=P6.res
   cases L with
   | true =>
    clear CK
    go_wp2
    refine bodyPost_ret (v:=.tuple #[.agg #[.string ⟨#[]⟩,.bool false,.string ⟨#[]⟩,.string ⟨#[]⟩,.bool false,.string ⟨#[]⟩,.bool false,.string ⟨#[]⟩],.int .i64 4]) ?_ rfl ⟨rfl,?_⟩
    ·rw [results_cell_tmp rfl]
     go_simp
    ·exact ((((((((P6.1.setCell (le_two _) _).setCell (le_two _) _).setCell (le_two _) _).setCell (le_two _) _).setCell (le_two _) _).setCell (le_two _) _).setCell (le_two _) _).setCell (le_two _) _)
   | false =>
    go_wp2_with fail
    refine (CK.out _).mono ?_
    rintro e w7 ⟨rfl,hb7⟩
    have P7:=P6.below hb7
    clear CK hb7 P6
    clear g0 g1 g2 g3 g4 g5 g6 g7 gf
    clear r0 r1 r2 r3 r4 r5 r6 r7 rf
    obtain ⟨z0,z1,z2,z3,z4,z5,z6,z7,zf⟩:=P7.cells
    obtain ⟨r0,r1,r2,r3,r4,r5,r6,r7,rf⟩:=P7.res
    by_cases h0:n = 0
    ·subst h0
     go_wp2
     refine bodyPost_ret (v:=.tuple #[.agg #[.string s1,.bool false,.string h1,.string p2,.bool hq1,.string q1,.bool hf1,.string f1],.int .i64 0]) ?_ rfl ⟨rfl,?_⟩
     ·rw [results_cell_tmp rfl]
      go_simp
     ·exact ((((((((P7.1.setCell (le_two _) _).setCell (le_two _) _).setCell (le_two _) _).setCell (le_two _) _).setCell (le_two _) _).setCell (le_two _) _).setCell (le_two _) _).setCell (le_two _) _)
    ·have hn0:((n:Int) == 0) = false:=by rw [beq_eq_false_iff_ne];omega
     go_wp2
     refine bodyPost_ret (v:=.tuple #[.agg #[.string ⟨#[]⟩,.bool false,.string ⟨#[]⟩,.string ⟨#[]⟩,.bool false,.string ⟨#[]⟩,.bool false,.string ⟨#[]⟩],.int .i64 (n:Int)]) ?_ rfl ⟨by first | rfl | simp [h0],?_⟩
     ·rw [results_cell_tmp rfl]
      go_simp
     ·exact ((((((((P7.1.setCell (le_two _) _).setCell (le_two _) _).setCell (le_two _) _).setCell (le_two _) _).setCell (le_two _) _).setCell (le_two _) _).setCell (le_two _) _).setCell (le_two _) _)
set_option maxHeartbeats 4000000 in
set_option maxRecDepth 100000 in
theorem lead_CN (bs bh bp bq bf uh up uq uf s1 h1 p1 q1 f1:ByteArray) (bhh bhq bhf uhh uhq uhf hq1 hf1:Bool) (hbe:bs.data.toList ≠ []) (L:Bool) (n:Nat) (w:World)
  (CB:Hid (∀ W,Calls Tryz.prog 94 #[.agg #[.string bs,.bool bhh,.string bh,.string bp,.bool bhq,.string bq,.bool bhf,.string bf]] W fun e w'=>e = .returned (.int .i64 0)∧Below W.heap.size W w'))
  (CU:Hid (∀ W,Calls Tryz.prog 94 #[.agg #[.string ⟨#[]⟩,.bool uhh,.string uh,.string up,.bool uhq,.string uq,.bool uhf,.string uf]] W fun e w'=>e = .returned (.int .i64 0)∧Below W.heap.size W w'))
  (CC:Hid (∀ W,Calls Tryz.prog 95 #[.agg #[.string bs,.bool bhh,.string bh,.string bp,.bool bhq,.string bq,.bool bhf,.string bf],.agg #[.string ⟨#[]⟩,.bool uhh,.string uh,.string up,.bool uhq,.string uq,.bool uhf,.string uf]] W fun e w'=>e = .returned (.agg #[.string s1,.bool false,.string h1,.string p1,.bool hq1,.string q1,.bool hf1,.string f1])∧Below W.heap.size W w'))
  (CP:Hid (∀ W,Calls Tryz.prog 59 #[.string p1,.string ⟨#[47]⟩] W fun e w'=>e = .returned (.bool false)∧w' = W))
  (CL:Hid (∀ W,Calls Tryz.prog 97 #[.agg #[.string s1,.bool false,.string h1,.string p1,.bool hq1,.string q1,.bool hf1,.string f1]] W fun e w'=>e = .returned (.bool L)∧Below W.heap.size W w'))
  (CK:Hid (∀ W,Calls Tryz.prog 94 #[.agg #[.string s1,.bool false,.string h1,.string p1,.bool hq1,.string q1,.bool hf1,.string f1]] W fun e w'=>e = .returned (.int .i64 (n:Int))∧Below W.heap.size W w')) :
  Calls Tryz.prog 51 #[.agg #[.string bs,.bool bhh,.string bh,.string bp,.bool bhq,.string bq,.bool bhf,.string bf],.agg #[.string ⟨#[]⟩,.bool uhh,.string uh,.string up,.bool uhq,.string uq,.bool uhf,.string uf]] w fun e w'=>e = .returned (.tuple #[if L = true then .agg #[.string ⟨#[]⟩,.bool false,.string ⟨#[]⟩,.string ⟨#[]⟩,.bool false,.string ⟨#[]⟩,.bool false,.string ⟨#[]⟩] else if n = 0 then .agg #[.string s1,.bool false,.string h1,.string p1,.bool hq1,.string q1,.bool hf1,.string f1] else .agg #[.string ⟨#[]⟩,.bool false,.string ⟨#[]⟩,.string ⟨#[]⟩,.bool false,.string ⟨#[]⟩,.bool false,.string ⟨#[]⟩],.int .i64 (if L = true then 4 else (n:Int))])∧Below w.heap.size w w':=by
 have hbE:=bempty_no bs hbe
 clear hbe
 go_enter Tryz.func51,Tryz.ntmps51
 go_wp2
 go_loopw [13] (fun iv wr=>∃ k:Nat,k≤2∧iv = .int .i64 k∧Tri w 85 #[.string bs,.bool bhh,.string bh,.string bp,.bool bhq,.string bq,.bool bhf,.string bf] #[.string ⟨#[]⟩,.bool uhh,.string uh,.string up,.bool uhq,.string uq,.bool uhf,.string uf] #[.string ⟨#[]⟩,.bool false,.string ⟨#[]⟩,.string ⟨#[]⟩,.bool false,.string ⟨#[]⟩,.bool false,.string ⟨#[]⟩] wr) (fun iv _=>2 - (intOf iv).toNat)
 case atStart=>exact ⟨0,Nat.zero_le _,rfl,tri_new _ _ _ _ _⟩
 case round =>
  obtain ⟨k,hk,rfl,P0⟩:=hrel
  rcases (show k = 0 ∨ k = 1 ∨ k = 2 by omega) with rfl | rfl | rfl
  ·have hix:∀ W:World,(Instr.index 86 (.agg #[.string bs,.bool bhh,.string bh,.string bp,.bool bhq,.string bq,.bool bhf,.string bf,.string ⟨#[]⟩,.bool uhh,.string uh,.string up,.bool uhq,.string uq,.bool uhf,.string uf]) (.int .i64 0)).run Tryz.prog W = .ok (.agg #[.string bs,.bool bhh,.string bh,.string bp,.bool bhq,.string bq,.bool bhf,.string bf]) W:=fun W=>by kernel_rfl
   go_wp2_with fail
   refine (CB.out _).mono ?_
   rintro e w1 ⟨rfl,hb1⟩
   have P1:=(P0.alloc _).below hb1
   clear hb1
   go_wp2_with fail
   go_roundw
   case rel=>exact ⟨1,by omega,by go_num,P1⟩
   case measure=>simp [intOf]
  ·have hix:∀ W:World,(Instr.index 86 (.agg #[.string bs,.bool bhh,.string bh,.string bp,.bool bhq,.string bq,.bool bhf,.string bf,.string ⟨#[]⟩,.bool uhh,.string uh,.string up,.bool uhq,.string uq,.bool uhf,.string uf]) (.int .i64 1)).run Tryz.prog W = .ok (.agg #[.string ⟨#[]⟩,.bool uhh,.string uh,.string up,.bool uhq,.string uq,.bool uhf,.string uf]) W:=fun W=>by kernel_rfl
   go_wp2_with fail
   refine (CU.out _).mono ?_
   rintro e w1 ⟨rfl,hb1⟩
   have P1:=(P0.alloc _).below hb1
   clear hb1
   go_wp2_with fail
   go_roundw
   case rel=>exact ⟨2,by omega,by go_num,P1⟩
   case measure=>simp [intOf]
  ·clear CB CU
   obtain ⟨a0,a1,a2,a3,a4,a5,a6,a7,af⟩:=P0.base
   obtain ⟨c0,c1,c2,c3,c4,c5,c6,c7,cf⟩:=P0.cells
   go_wp2_with fail
   refine (CC.out _).mono ?_
   rintro e w2 ⟨rfl,hb2⟩
   have P2:=P0.below hb2
   clear CC hb2 P0
   clear a0 a1 a2 a3 a4 a5 a6 a7 af
   clear c0 c1 c2 c3 c4 c5 c6 c7 cf
   obtain ⟨d0,d1,d2,d3,d4,d5,d6,d7,df⟩:=P2.cells
   have P3:=(((((((P2.set0 (.string s1)).set1 (.bool false)).set2 (.string h1)).set3 (.string p1)).set4 (.bool hq1)).set5 (.string q1)).set6 (.bool hf1)).set7 (.string f1)
   go_wp2_with fail
   refine (CP.out _).mono ?_
   rintro e w' ⟨rfl,hw'⟩
   have hw'':=hw'.symm
   subst hw''
   clear CP
   go_wp2_with fail
   refine (CL.out _).mono ?_
   rintro e w6 ⟨rfl,hb6⟩
   have P6:=P3.below hb6
   clear CL hb6 P3
   clear d0 d1 d2 d3 d4 d5 d6 d7 df
   obtain ⟨g0,g1,g2,g3,g4,g5,g6,g7,gf⟩:=P6.cells
   obtain ⟨r0,r1,r2,r3,r4,r5,r6,r7,rf⟩:=P6.res
   cases L with
   | true =>
    clear CK
    go_wp2
    refine bodyPost_ret (v:=.tuple #[.agg #[.string ⟨#[]⟩,.bool false,.string ⟨#[]⟩,.string ⟨#[]⟩,.bool false,.string ⟨#[]⟩,.bool false,.string ⟨#[]⟩],.int .i64 4]) ?_ rfl ⟨rfl,?_⟩
    ·rw [results_cell_tmp rfl]
     go_simp
    ·exact ((((((((P6.1.setCell (le_two _) _).setCell (le_two _) _).setCell (le_two _) _).setCell (le_two _) _).setCell (le_two _) _).setCell (le_two _) _).setCell (le_two _) _).setCell (le_two _) _)
   | false =>
    go_wp2_with fail
    refine (CK.out _).mono ?_
    rintro e w7 ⟨rfl,hb7⟩
    have P7:=P6.below hb7
    clear CK hb7 P6
    clear g0 g1 g2 g3 g4 g5 g6 g7 gf
    clear r0 r1 r2 r3 r4 r5 r6 r7 rf
    obtain ⟨z0,z1,z2,z3,z4,z5,z6,z7,zf⟩:=P7.cells
    obtain ⟨r0,r1,r2,r3,r4,r5,r6,r7,rf⟩:=P7.res
    by_cases h0:n = 0
    ·subst h0
     go_wp2
     refine bodyPost_ret (v:=.tuple #[.agg #[.string s1,.bool false,.string h1,.string p1,.bool hq1,.string q1,.bool hf1,.string f1],.int .i64 0]) ?_ rfl ⟨rfl,?_⟩
     ·rw [results_cell_tmp rfl]
      go_simp
     ·exact ((((((((P7.1.setCell (le_two _) _).setCell (le_two _) _).setCell (le_two _) _).setCell (le_two _) _).setCell (le_two _) _).setCell (le_two _) _).setCell (le_two _) _).setCell (le_two _) _)
    ·have hn0:((n:Int) == 0) = false:=by rw [beq_eq_false_iff_ne];omega
     go_wp2
     refine bodyPost_ret (v:=.tuple #[.agg #[.string ⟨#[]⟩,.bool false,.string ⟨#[]⟩,.string ⟨#[]⟩,.bool false,.string ⟨#[]⟩,.bool false,.string ⟨#[]⟩],.int .i64 (n:Int)]) ?_ rfl ⟨by first | rfl | simp [h0],?_⟩
     ·rw [results_cell_tmp rfl]
      go_simp
     ·exact ((((((((P7.1.setCell (le_two _) _).setCell (le_two _) _).setCell (le_two _) _).setCell (le_two _) _).setCell (le_two _) _).setCell (le_two _) _).setCell (le_two _) _).setCell (le_two _) _)
end Go.Proofs.YtbbfcbodhmeanaaGreatDoor


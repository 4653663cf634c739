
import Derived.Test.YtbbfcbodhmeanaaGreatDoorXrewritesays12
import Derived.Deep.AppendLies
import Derived.Lib.SliceRun
import Derived.Deep.MidRow
namespace Go.Proofs.YtbbfcbodhmeanaaGreatDoor
open Go.RowKit
set_option maxHeartbeats 1000000 in
theorem bfrag_any (s:ByteArray) (hs:s.size≤maxLen) (w:World) :
  Calls Tryz.prog 80 #[.string s] w fun e w'=>e = .returned (.string ⟨(noFr s.data.toList).toArray⟩)∧Below w.heap.size w w':=by
 unfold noFr
 cases h:cutB 35 s.data.toList with
 | none =>
  have C:Hid (Calls Tryz.prog 89 #[.string s,.string ⟨#[35]⟩] w fun e w'=>e = .returned (.tuple #[.string s,.string ⟨#[]⟩,.bool false])∧Below w.heap.size w w'):=cut_none 35 s w h
  clear h
  go_enter Tryz.func80,Tryz.ntmps80
  go_wp2_with fail
  refine C.out.mono ?_
  rintro e w1 ⟨rfl,hb⟩
  clear C
  go_wp2_with fail
  go_ret
  exact ⟨rfl,hb⟩
 | some x =>
  obtain ⟨a,r,rfl,-⟩:=cut_parts h
  have C:Hid (Calls Tryz.prog 89 #[.string s,.string ⟨#[35]⟩] w fun e w'=>e = .returned (.tuple #[.string a,.string r,.bool true])∧Below w.heap.size w w'):=cut_someW 35 s a r w (by unfold maxLen at hs;omega) h
  clear h
  go_enter Tryz.func80,Tryz.ntmps80
  go_wp2_with fail
  refine C.out.mono ?_
  rintro e w1 ⟨rfl,hb⟩
  clear C
  go_wp2_with fail
  go_ret
  exact ⟨rfl,hb⟩
theorem set_same {W:World} {r i:Nat} {c:Array Value} {t:TypeId} (h:W.heap[r]? = some (.cells c t)) (v:Value):(W.setCell ⟨r,i,none⟩ v).heap[r]? = some (.cells (c.setIfInBounds i v) t):=heap_setCell_same W r i c t v h
abbrev fill8 (W:World) (r o:Nat) (v0 v1 v2 v3 v4 v5 v6 v7:Value):World:=(((((((W.setCell ⟨r,o,none⟩ v0).setCell ⟨r,o + 1,none⟩ v1).setCell ⟨r,o + 2,none⟩ v2).setCell ⟨r,o + 3,none⟩ v3).setCell ⟨r,o + 4,none⟩ v4).setCell ⟨r,o + 5,none⟩ v5).setCell ⟨r,o + 6,none⟩ v6).setCell ⟨r,o + 7,none⟩ v7
theorem fill8_heap {W:World} {r o:Nat} {c:Array Value} {t:TypeId} (h:W.heap[r]? = some (.cells c t)) (v0 v1 v2 v3 v4 v5 v6 v7:Value) :
  (fill8 W r o v0 v1 v2 v3 v4 v5 v6 v7).heap[r]? = some (.cells ((((((((c.setIfInBounds o v0).setIfInBounds (o + 1) v1).setIfInBounds (o + 2) v2).setIfInBounds (o + 3) v3).setIfInBounds (o + 4) v4).setIfInBounds (o + 5) v5).setIfInBounds (o + 6) v6).setIfInBounds (o + 7) v7) t) :=
 set_same (set_same (set_same (set_same (set_same (set_same (set_same (set_same h v0) v1) v2) v3) v4) v5) v6) v7
theorem fill_lo {W:World} {r:Nat} {t:TypeId} {c0 c1 c2 c3 c4 c5 c6 c7 c8 c9 c10 c11 c12 c13 c14 c15:Value} (h:W.heap[r]? = some (.cells #[c0,c1,c2,c3,c4,c5,c6,c7,c8,c9,c10,c11,c12,c13,c14,c15] t)) (v0 v1 v2 v3 v4 v5 v6 v7:Value) :
  (fill8 W r 0 v0 v1 v2 v3 v4 v5 v6 v7).heap[r]? = some (.cells #[v0,v1,v2,v3,v4,v5,v6,v7,c8,c9,c10,c11,c12,c13,c14,c15] t):=(fill8_heap h v0 v1 v2 v3 v4 v5 v6 v7).trans (by simp)
theorem fill_hi {W:World} {r:Nat} {t:TypeId} {c0 c1 c2 c3 c4 c5 c6 c7 c8 c9 c10 c11 c12 c13 c14 c15:Value} (h:W.heap[r]? = some (.cells #[c0,c1,c2,c3,c4,c5,c6,c7,c8,c9,c10,c11,c12,c13,c14,c15] t)) (v0 v1 v2 v3 v4 v5 v6 v7:Value) :
  (fill8 W r 8 v0 v1 v2 v3 v4 v5 v6 v7).heap[r]? = some (.cells #[c0,c1,c2,c3,c4,c5,c6,c7,v0,v1,v2,v3,v4,v5,v6,v7] t):=(fill8_heap h v0 v1 v2 v3 v4 v5 v6 v7).trans (by simp)
theorem fill8_below {w W:World} (h:Below w.heap.size w W) {r:Nat} (hr:w.heap.size≤r) (o:Nat) (v0 v1 v2 v3 v4 v5 v6 v7:Value):Below w.heap.size w (fill8 W r o v0 v1 v2 v3 v4 v5 v6 v7) :=
 (((((((h.setCell (p:=⟨r,o,none⟩) hr v0).setCell (p:=⟨r,o + 1,none⟩) hr v1).setCell (p:=⟨r,o + 2,none⟩) hr v2).setCell (p:=⟨r,o + 3,none⟩) hr v3).setCell (p:=⟨r,o + 4,none⟩) hr v4).setCell (p:=⟨r,o + 5,none⟩) hr v5).setCell (p:=⟨r,o + 6,none⟩) hr v6).setCell (p:=⟨r,o + 7,none⟩) hr v7
theorem blk_c {W:World} {k:Nat} {c:Array Value} {t:TypeId} (h:W.heap[k]? = some (.cells c t)) (i:Nat):W.cell? ⟨k,i,none⟩ = c[i]?:=by
 simp [World.cell?,h]
theorem blk_f {W:World} {k:Nat} {c:Array Value} {t:TypeId} (h:W.heap[k]? = some (.cells c t)) (i:Nat):W.frozen? ⟨k,i,none⟩ = false:=by
 simp [World.frozen?,h]
theorem blk_on {W W':World} {k:Nat} {o:Obj} (h:W.heap[k]? = some o) (hb:Below W.heap.size W W'):W'.heap[k]? = some o:=by
 rw [hb.block _ (Array.getElem?_eq_some_iff.1 h).1];exact h
theorem blk_new (W:World) (o:Obj):(W.alloc o).heap[W.heap.size]? = some o:=by
 show (W.heap.push _)[W.heap.size]? = _
 simp
set_option maxHeartbeats 8000000 in
set_option maxRecDepth 100000 in
theorem bled_walk (w:World) (a b bs bh bp bq bf us uh up uq uf xs xh xp xq xf S:ByteArray) (bhh bhq bhf uhh uhq uhf xhh xhq xhf:Bool) (e1 e2 e3 e4:Nat)
  (CP:Hid (∀ W,Calls Tryz.prog 50 #[.string a] W fun e w'=>e = .returned (.tuple #[.agg #[.string bs,.bool bhh,.string bh,.string bp,.bool bhq,.string bq,.bool bhf,.string bf],.int .i64 (e1:Int)])∧Below W.heap.size W w'))
  (CQ:Hid (∀ W,Calls Tryz.prog 50 #[.string b] W fun e w'=>e = .returned (.tuple #[.agg #[.string us,.bool uhh,.string uh,.string up,.bool uhq,.string uq,.bool uhf,.string uf],.int .i64 (e2:Int)])∧Below W.heap.size W w'))
  (CL:Hid (∀ W,Below w.heap.size w W→Calls Tryz.prog 51 #[.agg #[.string bs,.bool bhh,.string bh,.string bp,.bool bhq,.string bq,.bool bhf,.string bf],.agg #[.string us,.bool uhh,.string uh,.string up,.bool uhq,.string uq,.bool uhf,.string uf]] W fun e w'=>e = .returned (.tuple #[.agg #[.string xs,.bool xhh,.string xh,.string xp,.bool xhq,.string xq,.bool xhf,.string xf],.int .i64 (e3:Int)])∧Below W.heap.size W w'))
  (CR:Hid (∀ W,Calls Tryz.prog 52 #[.agg #[.string xs,.bool xhh,.string xh,.string xp,.bool xhq,.string xq,.bool xhf,.string xf]] W fun e w'=>e = .returned (.tuple #[.string S,.int .i64 (e4:Int)])∧Below W.heap.size W w')) :
  Calls Tryz.prog 12 #[.string a,.string b] w fun e w'=>e = .returned (.string (if e1 ≠ 0 then ⟨#[]⟩ else if e2 ≠ 0 then ⟨#[]⟩ else if e3 ≠ 0 then ⟨#[]⟩ else S))∧Below w.heap.size w w':=by
 have hix0:∀ W,(Instr.index 87 (.agg #[.string a,.string b]) (.int .i64 0)).run Tryz.prog W = .ok (.string a) W:=fun W=>by kernel_rfl
 have hix1:∀ W,(Instr.index 87 (.agg #[.string a,.string b]) (.int .i64 1)).run Tryz.prog W = .ok (.string b) W:=fun W=>by kernel_rfl
 obtain ⟨R,hR⟩:∃ R,(if e1 ≠ 0 then ⟨#[]⟩ else if e2 ≠ 0 then ⟨#[]⟩ else if e3 ≠ 0 then ⟨#[]⟩ else S) = R:=⟨_,rfl⟩
 rw [hR]
 have HR:Hid ((if e1 ≠ 0 then ⟨#[]⟩ else if e2 ≠ 0 then ⟨#[]⟩ else if e3 ≠ 0 then ⟨#[]⟩ else S) = R):=hR
 clear hR
 go_enter Tryz.func12,Tryz.ntmps12
 go_wp2_with fail
 refine wp_loop_rounds 3 ?_
 rw [rounds_succ]
 go_wp2_with fail
 refine (CP.out _).mono ?_
 rintro e W1 ⟨rfl,hb1⟩
 clear CP
 have hk1:W1.heap[w.heap.size]? = some (.cells #[.string ⟨#[]⟩,.bool false,.string ⟨#[]⟩,.string ⟨#[]⟩,.bool false,.string ⟨#[]⟩,.bool false,.string ⟨#[]⟩,.string ⟨#[]⟩,.bool false,.string ⟨#[]⟩,.string ⟨#[]⟩,.bool false,.string ⟨#[]⟩,.bool false,.string ⟨#[]⟩] 86):=blk_on (blk_new w _) hb1
 have hbe1:Below w.heap.size w W1:=((Below.refl _ w).alloc (Nat.le_refl _) _).trans (hb1.mono (by simp))
 clear hb1
 have hf1:=blk_f hk1
 have z0:W1.cell? ⟨w.heap.size,0,none⟩ = some (.string ⟨#[]⟩):=(blk_c hk1 0).trans rfl
 have z1:W1.cell? ⟨w.heap.size,1,none⟩ = some (.bool false):=(blk_c hk1 1).trans rfl
 have z2:W1.cell? ⟨w.heap.size,2,none⟩ = some (.string ⟨#[]⟩):=(blk_c hk1 2).trans rfl
 have z3:W1.cell? ⟨w.heap.size,3,none⟩ = some (.string ⟨#[]⟩):=(blk_c hk1 3).trans rfl
 have z4:W1.cell? ⟨w.heap.size,4,none⟩ = some (.bool false):=(blk_c hk1 4).trans rfl
 have z5:W1.cell? ⟨w.heap.size,5,none⟩ = some (.string ⟨#[]⟩):=(blk_c hk1 5).trans rfl
 have z6:W1.cell? ⟨w.heap.size,6,none⟩ = some (.bool false):=(blk_c hk1 6).trans rfl
 have z7:W1.cell? ⟨w.heap.size,7,none⟩ = some (.string ⟨#[]⟩):=(blk_c hk1 7).trans rfl
 by_cases h1:e1 = 0
 ·subst h1
  have HR1:Hid ((if e2 ≠ 0 then ⟨#[]⟩ else if e3 ≠ 0 then ⟨#[]⟩ else S) = R):=by unfold Hid;have h:=HR.out;rw [if_neg (show ¬ (0:Nat) ≠ 0 by simp)] at h;exact h
  clear HR
  go_wp2_with fail
  rw [rounds_succ]
  go_wp2_with fail
  have hk2:=fill_lo hk1 (.string bs) (.bool bhh) (.string bh) (.string bp) (.bool bhq) (.string bq) (.bool bhf) (.string bf)
  have hbe2:=fill8_below hbe1 (Nat.le_refl _) 0 (.string bs) (.bool bhh) (.string bh) (.string bp) (.bool bhq) (.string bq) (.bool bhf) (.string bf)
  obtain ⟨V2,hV2⟩:∃ W,W = (((((((W1.setCell ⟨w.heap.size,0,none⟩ (.string bs)).setCell ⟨w.heap.size,1,none⟩ (.bool bhh)).setCell ⟨w.heap.size,2,none⟩ (.string bh)).setCell ⟨w.heap.size,3,none⟩ (.string bp)).setCell ⟨w.heap.size,4,none⟩ (.bool bhq)).setCell ⟨w.heap.size,5,none⟩ (.string bq)).setCell ⟨w.heap.size,6,none⟩ (.bool bhf)).setCell ⟨w.heap.size,7,none⟩ (.string bf):=⟨_,rfl⟩
  have hV2':fill8 W1 w.heap.size 0 (.string bs) (.bool bhh) (.string bh) (.string bp) (.bool bhq) (.string bq) (.bool bhf) (.string bf) = V2:=hV2.symm
  rw [hV2'] at hk2 hbe2
  rw [← hV2]
  clear hV2 hV2'
  refine (CQ.out _).mono ?_
  rintro e W2 ⟨rfl,hb2⟩
  clear CQ
  have hk3:=blk_on hk2 hb2
  have hbe3:Below w.heap.size w W2:=hbe2.trans (hb2.mono hbe2.size)
  clear hb2 hk2 hbe2 hk1 hbe1 hf1 z0 z1 z2 z3 z4 z5 z6 z7
  have hf1:=blk_f hk3
  have z8:W2.cell? ⟨w.heap.size,8,none⟩ = some (.string ⟨#[]⟩):=(blk_c hk3 8).trans rfl
  have z9:W2.cell? ⟨w.heap.size,9,none⟩ = some (.bool false):=(blk_c hk3 9).trans rfl
  have z10:W2.cell? ⟨w.heap.size,10,none⟩ = some (.string ⟨#[]⟩):=(blk_c hk3 10).trans rfl
  have z11:W2.cell? ⟨w.heap.size,11,none⟩ = some (.string ⟨#[]⟩):=(blk_c hk3 11).trans rfl
  have z12:W2.cell? ⟨w.heap.size,12,none⟩ = some (.bool false):=(blk_c hk3 12).trans rfl
  have z13:W2.cell? ⟨w.heap.size,13,none⟩ = some (.string ⟨#[]⟩):=(blk_c hk3 13).trans rfl
  have z14:W2.cell? ⟨w.heap.size,14,none⟩ = some (.bool false):=(blk_c hk3 14).trans rfl
  have z15:W2.cell? ⟨w.heap.size,15,none⟩ = some (.string ⟨#[]⟩):=(blk_c hk3 15).trans rfl
  by_cases h2:e2 = 0
  ·subst h2
   have HR2:Hid ((if e3 ≠ 0 then ⟨#[]⟩ else S) = R):=by unfold Hid;have h:=HR1.out;rw [if_neg (show ¬ (0:Nat) ≠ 0 by simp)] at h;exact h
   clear HR1
   go_wp2_with fail
   rw [rounds_succ]
   have hk4:=fill_hi hk3 (.string us) (.bool uhh) (.string uh) (.string up) (.bool uhq) (.string uq) (.bool uhf) (.string uf)
   have hbe4:=fill8_below hbe3 (Nat.le_refl _) 8 (.string us) (.bool uhh) (.string uh) (.string up) (.bool uhq) (.string uq) (.bool uhf) (.string uf)
   obtain ⟨W3,hW3⟩:∃ W,W = (((((((W2.setCell ⟨w.heap.size,8,none⟩ (.string us)).setCell ⟨w.heap.size,9,none⟩ (.bool uhh)).setCell ⟨w.heap.size,10,none⟩ (.string uh)).setCell ⟨w.heap.size,11,none⟩ (.string up)).setCell ⟨w.heap.size,12,none⟩ (.bool uhq)).setCell ⟨w.heap.size,13,none⟩ (.string uq)).setCell ⟨w.heap.size,14,none⟩ (.bool uhf)).setCell ⟨w.heap.size,15,none⟩ (.string uf):=⟨_,rfl⟩
   have hW3':fill8 W2 w.heap.size 8 (.string us) (.bool uhh) (.string uh) (.string up) (.bool uhq) (.string uq) (.bool uhf) (.string uf) = W3:=hW3.symm
   rw [hW3'] at hk4 hbe4
   rw [← hW3]
   clear hW3'
   clear hW3 hk3 hbe3 hf1 z8 z9 z10 z11 z12 z13 z14 z15
   have hc:=blk_c hk4
   have hf:=blk_f hk4
   have k0:W3.cell? ⟨w.heap.size,0,none⟩ = some (.string bs):=hc 0
   have k1:W3.cell? ⟨w.heap.size,1,none⟩ = some (.bool bhh):=hc 1
   have k2:W3.cell? ⟨w.heap.size,2,none⟩ = some (.string bh):=hc 2
   have k3:W3.cell? ⟨w.heap.size,3,none⟩ = some (.string bp):=hc 3
   have k4:W3.cell? ⟨w.heap.size,4,none⟩ = some (.bool bhq):=hc 4
   have k5:W3.cell? ⟨w.heap.size,5,none⟩ = some (.string bq):=hc 5
   have k6:W3.cell? ⟨w.heap.size,6,none⟩ = some (.bool bhf):=hc 6
   have k7:W3.cell? ⟨w.heap.size,7,none⟩ = some (.string bf):=hc 7
   have k8:W3.cell? ⟨w.heap.size,8,none⟩ = some (.string us):=hc 8
   have k9:W3.cell? ⟨w.heap.size,9,none⟩ = some (.bool uhh):=hc 9
   have k10:W3.cell? ⟨w.heap.size,10,none⟩ = some (.string uh):=hc 10
   have k11:W3.cell? ⟨w.heap.size,11,none⟩ = some (.string up):=hc 11
   have k12:W3.cell? ⟨w.heap.size,12,none⟩ = some (.bool uhq):=hc 12
   have k13:W3.cell? ⟨w.heap.size,13,none⟩ = some (.string uq):=hc 13
   have k14:W3.cell? ⟨w.heap.size,14,none⟩ = some (.bool uhf):=hc 14
   have k15:W3.cell? ⟨w.heap.size,15,none⟩ = some (.string uf):=hc 15
   clear hk4 hc
   go_wp2_with fail
   refine (CL.out _ hbe4).mono ?_
   rintro e W4 ⟨rfl,hb4⟩
   clear CL
   have hbe5:Below w.heap.size w W4:=hbe4.trans (hb4.mono hbe4.size)
   clear hb4 hbe4 k0 k1 k2 k3 k4 k5 k6 k7 k8 k9 k10 k11 k12 k13 k14 k15 hf
   by_cases h3:e3 = 0
   ·subst h3
    have HR3:Hid (R = S):=by unfold Hid;have h:=HR2.out;rw [if_neg (show ¬ (0:Nat) ≠ 0 by simp)] at h;exact h.symm
    clear HR2
    go_wp2_with fail
    refine (CR.out _).mono ?_
    rintro e W5 ⟨rfl,hb5⟩
    clear CR
    have hbe6:Below w.heap.size w W5:=(hbe5.alloc hbe5.size _).trans (hb5.mono (by have:=hbe5.size;simp;omega))
    clear hb5 hbe5
    go_wp2_with fail
    go_ret
    exact ⟨by rw [HR3.out];rfl,hbe6⟩
   ·have HN:Hid (R = ⟨#[]⟩):=by unfold Hid;rw [← HR2.out,if_pos h3]
    clear HR2
    have h3z:((e3:Int) == 0) = false:=by rw [beq_eq_false_iff_ne];omega
    go_wp2_with fail
    go_ret
    exact ⟨by rw [HN.out];rfl,hbe5.alloc hbe5.size _⟩
  ·have HN:Hid (R = ⟨#[]⟩):=by unfold Hid;rw [← HR1.out,if_pos h2]
   clear HR1
   have h2z:((e2:Int) == 0) = false:=by rw [beq_eq_false_iff_ne];omega
   go_wp2_with fail
   go_ret
   exact ⟨by rw [HN.out];rfl,fill8_below hbe3 (Nat.le_refl _) 8 _ _ _ _ _ _ _ _⟩
 ·have HN:Hid (R = ⟨#[]⟩):=by unfold Hid;rw [← HR.out,if_pos h1]
  clear HR
  have h1z:((e1:Int) == 0) = false:=by rw [beq_eq_false_iff_ne];omega
  go_wp2_with fail
  go_ret
  exact ⟨by rw [HN.out];rfl,fill8_below hbe1 (Nat.le_refl _) 0 _ _ _ _ _ _ _ _⟩
end Go.Proofs.YtbbfcbodhmeanaaGreatDoor



namespace Go.Proofs.YtbbfcbodhmeanaaGreatDoor
open Go.RowKit
theorem o_cells {W:World} {k:Nat} {t:TypeId} {v0 v1 v2 v3 v4 v5 v6:Value} (h:W.heap[k]? = some (.cells #[v0,v1,v2,v3,v4,v5,v6] t)) :
  W.cell? ⟨k,0,none⟩ = some v0∧W.cell? ⟨k,1,none⟩ = some v1∧W.cell? ⟨k,2,none⟩ = some v2∧W.cell? ⟨k,3,none⟩ = some v3∧W.cell? ⟨k,4,none⟩ = some v4∧W.cell? ⟨k,5,none⟩ = some v5∧W.cell? ⟨k,6,none⟩ = some v6∧∀ i,W.frozen? ⟨k,i,none⟩ = false :=
 ⟨(blk_c h 0).trans rfl,(blk_c h 1).trans rfl,(blk_c h 2).trans rfl,(blk_c h 3).trans rfl,(blk_c h 4).trans rfl,(blk_c h 5).trans rfl,(blk_c h 6).trans rfl,fun i=>blk_f h i⟩
theorem set_blk {W:World} {A t:Nat} {c:Array Value} (h:W.heap[A]? = some (.cells c t)) (k:Nat) (x:Value):(W.setCell ⟨A,k,none⟩ x).heap[A]? = some (.cells (c.setIfInBounds k x) t):=by
 show (W.heap.modify A _)[A]? = _
 rw [Array.getElem?_modify,if_pos rfl,h]
 rfl
abbrev put8 (W:World) (A r:Nat) (x v0 v1 v2 v3 v4 v5 v6:Value):World:=(((((((W.setCell ⟨A,6,none⟩ x).setCell ⟨r,0,none⟩ v0).setCell ⟨r,1,none⟩ v1).setCell ⟨r,2,none⟩ v2).setCell ⟨r,3,none⟩ v3).setCell ⟨r,4,none⟩ v4).setCell ⟨r,5,none⟩ v5).setCell ⟨r,6,none⟩ v6
theorem put8_block (W:World) (A r:Nat) (x v0 v1 v2 v3 v4 v5 v6:Value) (b:Nat) (hA:b ≠ A) (hr:b ≠ r):(put8 W A r x v0 v1 v2 v3 v4 v5 v6).heap[b]? = W.heap[b]?:=by
 unfold put8
 rw [Below.heap_setCell _ _ _ _ hr,Below.heap_setCell _ _ _ _ hr,Below.heap_setCell _ _ _ _ hr,Below.heap_setCell _ _ _ _ hr,Below.heap_setCell _ _ _ _ hr,Below.heap_setCell _ _ _ _ hr,Below.heap_setCell _ _ _ _ hr,Below.heap_setCell _ _ _ _ hA]
theorem put8_size (W:World) (A r:Nat) (x v0 v1 v2 v3 v4 v5 v6:Value):(put8 W A r x v0 v1 v2 v3 v4 v5 v6).heap.size = W.heap.size:=by
 unfold put8
 simp [World.setCell]
end Go.Proofs.YtbbfcbodhmeanaaGreatDoor



namespace Go.Proofs.YtbbfcbodhmeanaaGreatDoor
open Go.RowKit
abbrev PY3:=PZ × Nat × Nat
def BK (X:Nat→Prop) (lo hi:Nat) (a:Option Addr) (l:List PT) (b:Nat):Prop:=(lo≤b∧b < hi∧(l ≠ []→∀ g,a = some ⟨g,0,none⟩→b < g)) ∨ X b
theorem BK.out {X:Nat→Prop} {lo hi:Nat} {a:Option Addr} {l:List PT} {b:Nat} (h:BK X lo hi a l b):(lo≤b∧b < hi) ∨ X b:=by
 rcases h with h | h
 ·exact .inl ⟨h.1,h.2.1⟩
 ·exact .inr h
def RT (w:World) (X:Nat→Prop):Nat→Nat→Nat→Option Addr→Nat→List PT→Prop
 | 0,_,_,_,_,l=>l = []
 | f + 1,lo,hi,a,c,l=>l ≠ []→∃ (g:Nat) (Y:List PY3),a = some ⟨g,0,none⟩∧lo≤g∧g < hi∧Y.map (·.1.1) = l∧w.ownsRow lo 25 7 (.slice a l.length c) l.length (pzv (Y.map (·.1)))∧Y.Pairwise (fun x y=>x.2.2≤y.2.1) ∧
   ∀ y ∈ Y,g < y.2.1∧y.2.1≤y.2.2∧y.2.2≤hi∧InB (BK X y.2.1 y.2.2 y.1.2.2.1 y.1.1.kids) y.1.2.1.1∧PHeldK (fun a l=>RT w X f y.2.1 y.2.2 a y.1.2.2.2 l) w y.1.1 y.1.2.1.1 y.1.2.1.2 y.1.2.2.1 y.1.2.2.2
theorem RT.nil (w:World) (X:Nat→Prop) (f lo hi:Nat) (a:Option Addr) (c:Nat):RT w X f lo hi a c []:=by
 cases f with
 | zero=>rfl
 | succ f=>exact fun h=>absurd rfl h
theorem owns_move {w w':World} {B e s n:Nat} {v:Value} {xs:List Value} (h:w.ownsRow B e s v n xs) (hm:∀ g,v.ownBlock = some g→w'.heap[g]? = w.heap[g]?):w'.ownsRow B e s v n xs:=by
 refine ⟨h.1,?_⟩
 rcases h.2 with h | ⟨g,cap,cur,e1,e2,e3,r⟩
 ·exact .inl h
 ·exact .inr ⟨g,cap,cur,e1,e2,by rw [hm g (by rw [e1];rfl)];exact e3,r⟩
theorem RT.move {w w':World} {X:Nat→Prop}:∀ (f lo hi:Nat) (a:Option Addr) (c:Nat) (l:List PT),(∀ b,(lo≤b∧b < hi) ∨ X b→b < w.heap.size→w'.heap[b]? = w.heap[b]?)→RT w X f lo hi a c l→RT w' X f lo hi a c l
 | 0,_,_,_,_,_,_,h=>h
 | f + 1,lo,hi,a,c,l,hm,h=>fun hne=>by
  obtain ⟨g,Y,e,h1,h2,h3,h4,h5,h6⟩:=h hne
  refine ⟨g,Y,e,h1,h2,h3,owns_move h4 (fun b hb=>?_),h5,fun y hy=>?_⟩
  ·have:b = g:=by rw [e] at hb;simpa [Value.ownBlock] using hb.symm
   subst this
   exact hm b (.inl ⟨h1,h2⟩) (h4.lt b hb).2
  ·obtain ⟨k1,k2,k3,k4,p1,p2,p3,p4,p5⟩:=h6 y hy
   have hs:∀ b,(y.2.1≤b∧b < y.2.2) ∨ X b→b < w.heap.size→w'.heap[b]? = w.heap[b]?:=fun b hb hl=>hm b (by rcases hb with hb | hb;exact .inl ⟨by omega,by omega⟩;exact .inr hb) hl
   exact ⟨k1,k2,k3,k4,p1,p2,BRow.move hs p3 (fun a ha=>(k4 a ha).out),p4,RT.move f _ _ _ _ _ hs p5⟩
theorem RT.below {w w':World} {X:Nat→Prop} {f lo hi:Nat} {a:Option Addr} {c:Nat} {l:List PT} (h:RT w X f lo hi a c l) (hb:Below w.heap.size w w'):RT w' X f lo hi a c l:=RT.move f lo hi a c l (fun b _ hl=>hb.block b hl) h
theorem RT.at {w:World} {X:Nat→Prop}:∀ (f lo hi:Nat) (a:Option Addr) (c:Nat) (l:List PT),RT w X f lo hi a c l→KAt w f a l
 | 0,_,_,_,_,_,h=>h
 | f + 1,lo,hi,a,c,l,h=>by
  by_cases hne:l = []
  ·rw [hne];exact KAt.nil _ _ _
  ·obtain ⟨g,Y,e,h1,h2,h3,h4,h5,h6⟩:=h hne
   have hz:KAt w (f + 1) a ((Y.map (·.1)).map (·.1)):=by
    obtain ⟨q,c',hv,_,_,_,hc⟩:=owned_cells h4
    cases hv
    refine KAt.of_list hc (fun z hz=>?_)
    obtain ⟨y,hy,rfl⟩:=List.mem_map.1 hz
    obtain ⟨k1,k2,k3,k4,p1,p2,p3,p4,p5⟩:=h6 y hy
    exact ⟨p1,p2,p3,p4,RT.at f _ _ _ _ _ p5⟩
   have e2:(Y.map (·.1)).map (·.1) = l:=by rw [List.map_map,← h3];rfl
   rw [e2] at hz
   exact hz
theorem RT.kind {w:World} {X X':Nat→Prop} (hX:∀ b,X b→X' b):∀ (f lo hi:Nat) (a:Option Addr) (c:Nat) (l:List PT),RT w X f lo hi a c l→RT w X' f lo hi a c l
 | 0,_,_,_,_,_,h=>h
 | f + 1,lo,hi,a,c,l,h=>fun hne=>by
  obtain ⟨g,Y,e,h1,h2,h3,h4,h5,h6⟩:=h hne
  refine ⟨g,Y,e,h1,h2,h3,h4,h5,fun y hy=>?_⟩
  obtain ⟨k1,k2,k3,k4,p1,p2,p3,p4,p5⟩:=h6 y hy
  exact ⟨k1,k2,k3,(fun a ha=>Or.imp_right (hX _) (k4 a ha)),p1,p2,p3,p4,RT.kind hX f _ _ _ _ _ p5⟩
theorem empty_ownP (w:World) (B:Nat) (h:B≤w.heap.size):(w.alloc (.cells #[] 25)).ownsRow B 25 7 (.slice (some ⟨w.heap.size,0,none⟩) 0 0) 0 (pzv []) :=
 ⟨rfl,.inr ⟨w.heap.size,0,#[],rfl,h,heap_alloc_new w _,Nat.le_refl _,by decide,rfl,rfl⟩⟩
set_option maxHeartbeats 1000000 in
set_option maxRecDepth 100000 in
theorem pclone_any (a:Option Addr) (n c:Nat) (Z:List PZ) (en:n = Z.length) (hn:n≤1000) (w:World) (hc:Cells w a (pzv Z)) (ha:a = none→n = 0∧c = 0) :
  Calls Tryz.prog 115 #[.slice a n c] w fun e w'=>∃ q c',e = .returned (.slice q n c')∧w'.ownsRow w.heap.size 25 7 (.slice q n c') n (pzv Z)∧Below w.heap.size w w':=by
 cases a with
 | none =>
  obtain ⟨rfl,rfl⟩:=ha rfl
  have hZ:Z = []:=List.length_eq_zero_iff.1 en.symm
  subst hZ
  clear hc ha en
  have hnil:=Lib.run_eql_slice_nil (P:=Tryz.prog) w 23 25 none 0 0 0 0 Tryz.underlying23
  go_enter Tryz.func115,Tryz.ntmps115
  go_wp2
  go_ret
  exact ⟨none,0,rfl,World.ownsRow_nil _ _ _ _,Below.refl _ _⟩
 | some ad =>
  have HZ:Hid (Cells (w.alloc (.cells #[] 25)) (some ad) (pzv Z)):=hc.below ((Below.refl _ _).alloc (Nat.le_refl _) _)
  have HL:Hid ((pzv Z).length = n * 7):=by unfold Hid;rw [pzv_length,en]
  clear hc ha en
  have hnil:=Lib.run_eql_slice_nil (P:=Tryz.prog) w 23 25 (some ad) n c 0 0 Tryz.underlying23
  go_enter Tryz.func115,Tryz.ntmps115
  go_wp2_with (at_builtin;obtain ⟨i0,hi,hz0,hz1,hz2⟩:=info_parts info_part;refine wpList_append_own _ rfl (.tmp 5) (.tmp 6) 23 rfl w.heap.size 25 i0 (.agg #[.string ⟨#[]⟩,.string ⟨#[]⟩,.string ⟨#[]⟩,.string ⟨#[]⟩,.int .i64 0,.slice none 0 0,.slice none 0 0]) 7 120 Tryz.underlying23 hi hz0 hz1 hz2 rfl (by decide) _ _ _ rfl (empty_ownP w w.heap.size (Nat.le_refl _)) ad n c (pzv Z) rfl HL.out ?c1 (pzv_one Z) ?c3 ?c4 ?c5 ?_)
  case c1 =>
   intro j u hj
   obtain ⟨b,o,e,hcl⟩:=HZ.out (fun e=>by rw [e] at hj;simp at hj)
   obtain rfl:=Option.some.inj e
   rw [Addr.add_lit]
   exact hcl j u hj
  case c3=>unfold maxLen;omega
  case c4=>omega
  case c5=>simp
  intro v9 w9 hown9 hg9 _
  have hown:w9.ownsRow w.heap.size 25 7 v9 n (pzv Z):=by
   have e2:pzv [] ++ pzv Z = pzv Z:=rfl
   rw [e2] at hown9
   exact hown9
  have hb9:Below w.heap.size w w9:=((Below.refl _ _).alloc (Nat.le_refl _) _).grown hg9 (by simp) (fun k hk=>by cases hk;exact Nat.le_refl _)
  obtain ⟨q,c',rfl⟩:=owned_slice hown
  have HO:Hid (w9.ownsRow w.heap.size 25 7 (.slice q n c') n (pzv Z)):=hown
  clear hown9 hg9 hown
  go_wp2_with fail
  go_ret
  exact ⟨q,c',rfl,HO.out,hb9⟩
end Go.Proofs.YtbbfcbodhmeanaaGreatDoor



namespace Go.Proofs.YtbbfcbodhmeanaaGreatDoor
open Go.RowKit
def regsOf:Code→List Code
 | .region i o d=>[.region i o d]
 | .cond _ a b=>regsOf a ++ regsOf b
 | .loop c=>regsOf c
 | .seq a b=>regsOf a ++ regsOf b
 | .block _ c=>regsOf c
 | .scope c=>regsOf c
 | _=>[]
def regAt (f:Func) (k:Nat):Code:=((f.body.map regsOf).getD []).getD k .skip
def loopsOf:Code→List Code
 | .loop c=>c::loopsOf c
 | .seq a b=>loopsOf a ++ loopsOf b
 | .block _ c=>loopsOf c
 | .scope c=>loopsOf c
 | .cond _ a b=>loopsOf a ++ loopsOf b
 | _=>[]
def loopAt (f:Func) (k:Nat):Code:=((f.body.map loopsOf).getD []).getD k .skip
end Go.Proofs.YtbbfcbodhmeanaaGreatDoor



namespace Go.Proofs.YtbbfcbodhmeanaaGreatDoor
open Go.RowKit
theorem setCells_block (b:Nat):∀ (vs:List Value) (o:Nat) (w:World) (j:Nat),j ≠ b→(w.setCells b o vs).heap[j]? = w.heap[j]?
 | [],_,_,_,_=>rfl
 | v::r,o,w,j,h=>by rw [World.setCells,setCells_block b r (o + 1) _ j h,Below.heap_setCell _ _ _ _ h]
theorem setCells_size (b:Nat):∀ (vs:List Value) (o:Nat) (w:World),(w.setCells b o vs).heap.size = w.heap.size
 | [],_,_=>rfl
 | v::r,o,w=>by rw [World.setCells,setCells_size b r (o + 1)];simp [World.setCell]
theorem setCells_below {B b:Nat} {w W:World} (hB:B≤b):∀ (vs:List Value) (o:Nat) (W:World),Below B w W→Below B w (W.setCells b o vs)
 | [],_,_,h=>h
 | v::r,o,_,h=>setCells_below (W:=W) hB r (o + 1) _ (Below.setCell (p:=⟨b,o,none⟩) h hB v)
theorem seven_all (s0 s1 s2 s3:ByteArray) (h:Int) (a:Option Addr) (n c:Nat) (a':Option Addr) (n' c':Nat):(#[Value.string s0,.string s1,.string s2,.string s3,.int .i64 h,.slice a n c,.slice a' n' c']:Array Value).all (·.oneCell') = true :=
 all_oneCell_toArray (cs:=[Value.string s0,.string s1,.string s2,.string s3,.int .i64 h,.slice a n c,.slice a' n' c']) (by
  intro u hu
  simp at hu
  rcases hu with rfl | rfl | rfl | rfl | rfl | rfl | rfl <;> rfl)
theorem owns_there {w:World} {B n c k g:Nat} {xs:List Value} (h:w.ownsRow B 25 7 (.slice (some ⟨g,0,none⟩) n c) n xs) (hk:k < n):w.there g (k * 7) 7:=by
 intro j hj
 refine ⟨?_,h.frozenAt _⟩
 rw [h.cellAt (k * 7 + j) (by omega)]
 have hl:xs.length = n * 7:=by
  rcases h.2 with ⟨e,_⟩ | ⟨g',cap,cur,e1,_,_,h1,h2,h3,h4⟩
  ·cases e
  ·rw [← h4,List.length_take,Array.length_toList,h3]
   have:n * 7≤cap * 7:=Nat.mul_le_mul_right 7 h1
   omega
 rw [List.getElem?_eq_getElem (by omega)]
 rfl
theorem pz_seven (A B:List PZ) (z y:PZ):((((((((pzv (A ++ z::B)).set (A.length * 7) (.string y.1.ty)).set (A.length * 7 + 1) (.string y.1.cs)).set (A.length * 7 + 2) (.string y.1.id)).set (A.length * 7 + 3) (.string y.1.loc)).set (A.length * 7 + 4) (.int .i64 y.1.how)).set (A.length * 7 + 5) (.slice y.2.1.1 y.1.body.length y.2.1.2)).set (A.length * 7 + 6) (.slice y.2.2.1 y.1.kids.length y.2.2.2)) = pzv (A ++ y::B):=by
 have e1:∀ z:PZ,pzv (A ++ z::B) = pzv A ++ (pzc z ++ pzv B):=fun z=>by rw [pzv_append];simp [pzv]
 have hl:(pzv A).length = A.length * 7:=pzv_length A
 have st:∀ (j:Nat) (u:Value) (r:List Value),(pzv A ++ r).set (A.length * 7 + j) u = pzv A ++ r.set j u:=fun j u r=>by
  rw [List.set_append_right _ _ (by rw [hl];omega),hl,Nat.add_sub_cancel_left]
 have s0:=fun u r=>st 0 u r
 simp only [Nat.add_zero] at s0
 rw [e1,e1,s0,st,st,st,st,st,st]
 rfl
theorem owns_seven {w:World} {B n c g:Nat} {A R:List PZ} {z:PZ} (y:PZ) (h:w.ownsRow B 25 7 (.slice (some ⟨g,0,none⟩) n c) n (pzv (A ++ z::R))):(w.setCells g (A.length * 7) [.string y.1.ty,.string y.1.cs,.string y.1.id,.string y.1.loc,.int .i64 y.1.how,.slice y.2.1.1 y.1.body.length y.2.1.2,.slice y.2.2.1 y.1.kids.length y.2.2.2]).ownsRow B 25 7 (.slice (some ⟨g,0,none⟩) n c) n (pzv (A ++ y::R)):=by
 have h0:=(h.stored (A.length * 7) (.string y.1.ty)).1
 have h1:=(h0.stored (A.length * 7 + 1) (.string y.1.cs)).1
 have h2:=(h1.stored (A.length * 7 + 2) (.string y.1.id)).1
 have h3:=(h2.stored (A.length * 7 + 3) (.string y.1.loc)).1
 have h4:=(h3.stored (A.length * 7 + 4) (.int .i64 y.1.how)).1
 have h5:=(h4.stored (A.length * 7 + 5) (.slice y.2.1.1 y.1.body.length y.2.1.2)).1
 have h6:=(h5.stored (A.length * 7 + 6) (.slice y.2.2.1 y.1.kids.length y.2.2.2)).1
 rw [pz_seven] at h6
 exact h6
set_option maxRecDepth 1000000 in
set_option maxHeartbeats 4000000 in
theorem lwR6 (W:World) (A E g k n cc:Nat) (PAC:Array Value) (x:PT) (xb:Option Addr) (x1 xcb:Nat) (xk:Option Addr) (x2 xck:Nat) (PX:Option Addr→Nat→Option Addr→Nat→World→Prop) (CW:Calls Tryz.prog 62 #[.agg #[.string x.ty,.string x.cs,.string x.id,.string x.loc,.int .i64 x.how,.slice xb x1 xcb,.slice xk x2 xck]] W.drew fun e w'=>∃ yb ycb yk yck,e = .returned (.agg #[.string x.ty,.string x.cs,.string x.id,.string x.loc,.int .i64 x.how,.slice yb x1 ycb,.slice yk x2 yck])∧Below W.heap.size W w'∧PX yb ycb yk yck w') (xs:List Value) (B:Nat) (hO:W.ownsRow B 25 7 (.slice (some ⟨g,0,none⟩) n cc) n xs) (hk:k < n) (kA:W.heap[A]? = some (.cells PAC 25)) (a6:PAC[6]? = some (.slice (some ⟨g,0,none⟩) n cc)) (kE:W.heap[E]? = some (.cells #[.string x.ty,.string x.cs,.string x.id,.string x.loc,.int .i64 x.how,.slice xb x1 xcb,.slice xk x2 xck] 25)) (hgA:A ≠ g) (hgE:E ≠ g) (c0 c2 c5 c6 c7 c8 c9 c10 c11 c12 c13 c14 c15 c16 c17 c18 c19 c20 c21 c22 c23 c24 c25 c26 c27 c28:Value) (Q:Exit→Act→World→Prop)
  (hexit:∀ u21 u22 u23 u24 u25 u26:Value,∀ (yb:Option Addr) (ycb:Nat) (yk:Option Addr) (yck:Nat) (w4:World),Below W.heap.size W w4→PX yb ycb yk yck w4→Q .normal ⟨(c0::.pointer (some ⟨A,0,none⟩)::c2::.int .i64 (k:Int)::.pointer (some ⟨E,0,none⟩)::c5::c6::c7::c8::c9::c10::c11::c12::c13::c14::c15::c16::c17::c18::c19::c20::u21::u22::u23::u24::u25::u26::c27::c28::[]).toArray,[]⟩ (w4.setCells g (k * 7) [.string x.ty,.string x.cs,.string x.id,.string x.loc,.int .i64 x.how,.slice yb x1 ycb,.slice yk x2 yck])) :
  Code.wp Tryz.prog (regAt Tryz.f62 6) Q ⟨(c0::.pointer (some ⟨A,0,none⟩)::c2::.int .i64 (k:Int)::.pointer (some ⟨E,0,none⟩)::c5::c6::c7::c8::c9::c10::c11::c12::c13::c14::c15::c16::c17::c18::c19::c20::c21::c22::c23::c24::c25::c26::c27::c28::[]).toArray,[]⟩ W:=by
 have HX:Hid _:=hexit
 clear hexit
 conv=>arg 2;whnf
 have hki:(k:Int) < (n:Int):=by omega
 have hk0:(0:Int)≤(k:Int):=by omega
 have HCL:Hid (∀ V:World,(V.heap[A]? = some (.cells PAC 25)∧V.heap[E]? = some (.cells #[.string x.ty,.string x.cs,.string x.id,.string x.loc,.int .i64 x.how,.slice xb x1 xcb,.slice xk x2 xck] 25))→V.cell? ⟨A,6,none⟩ = some (.slice (some ⟨g,0,none⟩) n cc)∧V.cell? ⟨E,0,none⟩ = some (.string x.ty)∧V.cell? ⟨E,1,none⟩ = some (.string x.cs)∧V.cell? ⟨E,2,none⟩ = some (.string x.id)∧V.cell? ⟨E,3,none⟩ = some (.string x.loc)∧V.cell? ⟨E,4,none⟩ = some (.int .i64 x.how)∧V.cell? ⟨E,5,none⟩ = some (.slice xb x1 xcb)∧V.cell? ⟨E,6,none⟩ = some (.slice xk x2 xck)):=fun V h=>by
  obtain ⟨h0,h1,h2,h3,h4,h5,h6,_⟩:=o_cells h.2
  exact ⟨(blk_c h.1 6).trans a6,h0,h1,h2,h3,h4,h5,h6⟩
 have HCW:Hid (Calls Tryz.prog 62 #[.agg #[.string x.ty,.string x.cs,.string x.id,.string x.loc,.int .i64 x.how,.slice xb x1 xcb,.slice xk x2 xck]] W.drew fun e w'=>∃ yb ycb yk yck,e = .returned (.agg #[.string x.ty,.string x.cs,.string x.id,.string x.loc,.int .i64 x.how,.slice yb x1 ycb,.slice yk x2 yck])∧Below W.heap.size W w'∧PX yb ycb yk yck w'):=CW
 have HO:Hid (W.ownsRow B 25 7 (.slice (some ⟨g,0,none⟩) n cc) n xs):=hO
 have HKA:Hid (W.heap[A]? = some (.cells PAC 25)):=kA
 have HKE:Hid (W.heap[E]? = some (.cells #[.string x.ty,.string x.cs,.string x.id,.string x.loc,.int .i64 x.how,.slice xb x1 xcb,.slice xk x2 xck] 25)):=kE
 have hS0:W.drew.heap[A]? = some (.cells PAC 25)∧W.drew.heap[E]? = some (.cells #[.string x.ty,.string x.cs,.string x.id,.string x.loc,.int .i64 x.how,.slice xb x1 xcb,.slice xk x2 xck] 25):=⟨kA,kE⟩
 clear CW hO kA kE a6
 refine wp_region_noPanic ?_
 refine wp_region_held_drew (S:=fun V=>V.heap[A]? = some (.cells PAC 25)∧V.heap[E]? = some (.cells #[.string x.ty,.string x.cs,.string x.id,.string x.loc,.int .i64 x.how,.slice xb x1 xcb,.slice xk x2 xck] 25)) (by kernel_rfl) hS0 (fun hHeld=>?_)
 refine wpAnyH_take (i:=0) (oi:={ dst:=some 21,op:=Op.fieldAddr 25 (.tmp 1) 6,type:=_,pos:=_,after:=_,guard:=_ }) (v:=.pointer (some ⟨A,6,none⟩)) rfl (by kernel_rfl) (by kernel_rfl) (by kernel_rfl) (fun _ _ _ h=>h) (Or.inl ⟨by rfl,?_⟩) (by assumption) ?_
 ·intro W' hSW
  obtain ⟨a6,b0,b1,b2,b3,b4,b5,b6⟩:=HCL.out W' hSW
  clear hSW
  go_simp
 try simp only [Act.put,List.setIfInBounds_toArray,List.set_cons_zero,List.set_cons_succ]
 refine wpAnyH_take (i:=1) (oi:={ dst:=some 22,op:=Op.load 23 (.tmp 21),type:=_,pos:=_,after:=_,guard:=_ }) (v:=.slice (some ⟨g,0,none⟩) n cc) rfl (by kernel_rfl) (by kernel_rfl) (by kernel_rfl) (fun _ _ _ h=>h) (Or.inl ⟨by rfl,?_⟩) (by assumption) ?_
 ·intro W' hSW
  obtain ⟨a6,b0,b1,b2,b3,b4,b5,b6⟩:=HCL.out W' hSW
  clear hSW
  go_simp
 try simp only [Act.put,List.setIfInBounds_toArray,List.set_cons_zero,List.set_cons_succ]
 refine wpAnyH_take (i:=2) (oi:={ dst:=some 23,op:=Op.move (.tmp 3),type:=_,pos:=_,after:=_,guard:=_ }) (v:=.int .i64 (k:Int)) rfl (by kernel_rfl) (by kernel_rfl) (by kernel_rfl) (fun _ _ _ h=>h) (Or.inl ⟨by rfl,?_⟩) (by assumption) ?_
 ·intro W' hSW
  obtain ⟨a6,b0,b1,b2,b3,b4,b5,b6⟩:=HCL.out W' hSW
  clear hSW
  go_simp
 try simp only [Act.put,List.setIfInBounds_toArray,List.set_cons_zero,List.set_cons_succ]
 refine wpAnyH_take (i:=3) (oi:={ dst:=some 24,op:=Op.load 25 (.tmp 4),type:=_,pos:=_,after:=_,guard:=_ }) (v:=.agg #[.string x.ty,.string x.cs,.string x.id,.string x.loc,.int .i64 x.how,.slice xb x1 xcb,.slice xk x2 xck]) rfl (by kernel_rfl) (by kernel_rfl) (by kernel_rfl) (fun _ _ _ h=>h) (Or.inl ⟨by rfl,?_⟩) (by assumption) ?_
 ·intro W' hSW
  obtain ⟨a6,b0,b1,b2,b3,b4,b5,b6⟩:=HCL.out W' hSW
  clear hSW
  go_simp
 try simp only [Act.put,List.setIfInBounds_toArray,List.set_cons_zero,List.set_cons_succ]
 refine wpAnyH_ready (rs:=[4]) (by kernel_rfl) (by simp) (AllReadyH.cons (o:={ dst:=some 25,op:=Op.call _,type:=_,pos:=_,after:=_,guard:=_ }) rfl (fun K hK=>?_) AllReadyH.nil)
 clear hHeld hS0
 go_simp
 go_at_call 62
 refine HCW.out.mono ?_
 rintro e w4 ⟨yb,ycb,yk,yck,rfl,hb4,hpx⟩
 have HB4:Hid (Below W.heap.size W w4):=hb4
 have HPX:Hid (PX yb ycb yk yck w4):=hpx
 have hA4:=blk_on HKA.out hb4
 have hE4:=blk_on HKE.out hb4
 have HS4:Hid (w4.heap[A]? = some (.cells PAC 25)∧w4.heap[E]? = some (.cells #[.string x.ty,.string x.cs,.string x.id,.string x.loc,.int .i64 x.how,.slice xb x1 xcb,.slice xk x2 xck] 25)):=⟨hA4,hE4⟩
 have HTH:Hid (w4.there g (k * 7) 7):=owns_there (ownsRow_below HO.out hb4) hk
 clear hb4 hpx hA4 hE4
 go_wp2_with fail
 refine hK.out _ _ HS4.out (fun hHeld=>?_)
 clear hK K
 try simp only [Act.put,List.setIfInBounds_toArray,List.set_cons_zero,List.set_cons_succ]
 refine wpAnyH_take (i:=5) (oi:={ dst:=some 26,op:=Op.indexAddr 23 (.tmp 22) (.tmp 23),type:=_,pos:=_,after:=_,guard:=_ }) (v:=.pointer (some ⟨g,k * 7,none⟩)) rfl (by kernel_rfl) (by kernel_rfl) (by kernel_rfl) (fun _ _ _ h=>h) (Or.inl ⟨by rfl,?_⟩) (by assumption) ?_
 ·intro W' hSW
  obtain ⟨a6,b0,b1,b2,b3,b4,b5,b6⟩:=HCL.out W' hSW
  clear hSW
  go_simp
 try simp only [Act.put,List.setIfInBounds_toArray,List.set_cons_zero,List.set_cons_succ]
 clear hHeld HCL
 refine wpAnyH_ready (rs:=[6]) (by kernel_rfl) (by simp) (AllReadyH.cons (o:={ dst:=none,op:=Op.store 25 (.tmp 26) (.tmp 25),type:=_,pos:=_,after:=_,guard:=_ }) rfl (fun K hK=>?_) AllReadyH.nil)
 rw [if_pos (by rfl)]
 refine wp_store_mid _ _ _ rfl g (k * 7) #[.string x.ty,.string x.cs,.string x.id,.string x.loc,.int .i64 x.how,.slice yb x1 ycb,.slice yk x2 yck] rfl rfl HTH.out (by kernel_rfl) (seven_all _ _ _ _ _ _ _ _ _ _ _) ?_
 refine hK.out _ _ ⟨by rw [setCells_block g _ _ _ A hgA];exact HS4.out.1,by rw [setCells_block g _ _ _ E hgE];exact HS4.out.2⟩ (fun hHeld=>?_)
 clear hK K
 try simp only [Act.put]
 refine wpAnyH_done (by kernel_rfl) ?_ _
 refine NoPanic.normal ?_
 exact HX.out _ _ _ _ _ _ yb ycb yk yck w4 HB4.out HPX.out
end Go.Proofs.YtbbfcbodhmeanaaGreatDoor



import Derived.Test.YtbbfcbodhmeanaaGreatDoorXbundlesays1
import Derived.Test.YtbbfcbodhmeanaaGreatDoorXbundlesays2
namespace Go.Proofs.YtbbfcbodhmeanaaGreatDoor
open Go.RowKit
def whereB (d:UInt8) (l:List UInt8):Int:=match cutB d l with | none=>-1 | some x=>(x.1.length:Int)
theorem whereB_none {d:UInt8} {l:List UInt8} (h:cutB d l = none):whereB d l = -1:=by rw [whereB,h]
theorem whereB_some {d:UInt8} {l:List UInt8} {x:List UInt8 × List UInt8} (h:cutB d l = some x):whereB d l = (x.1.length:Int):=by rw [whereB,h]
theorem indexByte_where (d:UInt8):∀ l:List UInt8,Lib.indexByte l d = whereB d l
 | []=>rfl
 | b::l=>by
  rw [Lib.indexByte,indexByte_where d l]
  by_cases h:b = d
  ·subst h;simp [whereB,cutB]
  ·rw [if_neg (by simpa using h)]
   cases hc:cutB d l with
   | none=>simp [whereB,cutB,h,hc]
   | some x =>
    have h1:¬ ((x.1.length:Int) == -1) = true:=by rw [beq_iff_eq];omega
    simp only [whereB,cutB,hc,h,if_false,Option.map_some,List.length_cons]
    rw [if_neg h1]
    omega
theorem ba_cut (d:UInt8) (X:ByteArray) (n v:List UInt8) (h:X.data.toList = n ++ d::v):∃ NM VL:ByteArray,X.extract 0 n.length = NM∧X.extract (n.length + 1) X.size = VL∧NM.data.toList = n∧VL.data.toList = v∧X.size = n.length + 1 + v.length:=by
 have hl:X.size = n.length + 1 + v.length:=by rw [Lib.size_eq,h];simp;omega
 have e1:(X.extract 0 n.length).data.toList = n:=by rw [Lib.extract_data,h];simp
 have e2:(X.extract (n.length + 1) X.size).data.toList = v:=by
  rw [Lib.extract_data,h,hl,show n.length + 1 + v.length - (n.length + 1) = v.length from by omega,← List.drop_drop]
  simp
 exact ⟨_,_,rfl,rfl,e1,e2,hl⟩
theorem ba_inj {a b:ByteArray} (h:a.data.toList = b.data.toList):a = b:=ByteArray.ext (Array.toList_inj.1 h)
theorem lite_none (d:UInt8) (s:ByteArray) (w:World) (h:cutB d s.data.toList = none) :
  Calls Tryz.prog 138 #[.string s,.string ⟨#[d]⟩] w fun e w'=>e = .returned (.tuple #[.string s,.string ⟨#[]⟩,.bool false])∧w' = w:=by
 have C:=Tryz.stringslite_Index_one s d w
 rw [indexByte_where,whereB_none h] at C
 clear h
 have HC:Hid (Calls Tryz.prog 135 #[.string s,.string ⟨#[d]⟩] w fun e w'=>e = .returned (.int .i64 (-1))∧w' = w):=C
 clear C
 go_enter Tryz.func138,Tryz.ntmps138
 go_wp2_with fail
 refine HC.out.mono ?_
 rintro e w' ⟨rfl,hw'⟩
 have hw'':=hw'.symm
 subst hw''
 clear HC
 go_wp2
 go_ret3
 exact ⟨rfl,rfl⟩
set_option maxHeartbeats 1000000 in
theorem lite_someW (d:UInt8) (s a r:ByteArray) (w:World) (hs:s.size≤9223372036854775807) (h:cutB d s.data.toList = some (a.data.toList,r.data.toList)) :
  Calls Tryz.prog 138 #[.string s,.string ⟨#[d]⟩] w fun e w'=>e = .returned (.tuple #[.string a,.string r,.bool true])∧Below w.heap.size w w':=by
 have C:=Tryz.stringslite_Index_one s d w
 rw [indexByte_where,whereB_some h] at C
 simp only at C
 obtain ⟨A,R,h1,h2,h3,h4,h5⟩:=ba_cut d s _ _ (cutB_some d _ _ _ h).1
 have hA:=ba_inj h3
 have hR:=ba_inj h4
 subst hA hR
 obtain ⟨I,hI⟩:∃ I,I = A.data.toList.length:=⟨_,rfl⟩
 rw [← hI] at C h1 h2 h5
 have hI1:(I:Int) < (s.size:Int):=by omega
 have hI2:(I:Int) + 1≤(s.size:Int):=by omega
 have HC:Hid (Calls Tryz.prog 135 #[.string s,.string ⟨#[d]⟩] w fun e w'=>e = .returned (.int .i64 (I:Int))∧w' = w):=C
 clear C h h3 h4 h5 hI
 go_enter Tryz.func138,Tryz.ntmps138
 go_wp2_with fail
 refine HC.out.mono ?_
 rintro e w' ⟨rfl,hw'⟩
 have hw'':=hw'.symm
 subst hw''
 clear HC
 go_wp2
 go_region
 go_wp2
 go_ret3
 exact ⟨rfl,(Below.refl _ _).drew⟩
theorem cut_none (d:UInt8) (s:ByteArray) (w:World) (h:cutB d s.data.toList = none) :
  Calls Tryz.prog 89 #[.string s,.string ⟨#[d]⟩] w fun e w'=>e = .returned (.tuple #[.string s,.string ⟨#[]⟩,.bool false])∧Below w.heap.size w w':=by
 have HC:Hid (Calls Tryz.prog 138 #[.string s,.string ⟨#[d]⟩] w fun e w'=>e = .returned (.tuple #[.string s,.string ⟨#[]⟩,.bool false])∧w' = w):=lite_none d s w h
 clear h
 go_enter Tryz.func89,Tryz.ntmps89
 go_wp2_with fail
 refine HC.out.mono ?_
 rintro e w' ⟨rfl,hw'⟩
 have hw'':=hw'.symm
 subst hw''
 clear HC
 go_wp2
 go_ret3
 exact ⟨rfl,Below.refl _ _⟩
theorem cut_someW (d:UInt8) (s a r:ByteArray) (w:World) (hs:s.size≤9223372036854775807) (h:cutB d s.data.toList = some (a.data.toList,r.data.toList)) :
  Calls Tryz.prog 89 #[.string s,.string ⟨#[d]⟩] w fun e w'=>e = .returned (.tuple #[.string a,.string r,.bool true])∧Below w.heap.size w w':=by
 have HC:Hid (Calls Tryz.prog 138 #[.string s,.string ⟨#[d]⟩] w fun e w'=>e = .returned (.tuple #[.string a,.string r,.bool true])∧Below w.heap.size w w'):=lite_someW d s a r w hs h
 clear h
 go_enter Tryz.func89,Tryz.ntmps89
 go_wp2_with fail
 refine HC.out.mono ?_
 rintro e w' ⟨rfl,hb⟩
 clear HC
 go_wp2
 go_ret3
 exact ⟨rfl,hb⟩
theorem cut_some (d:UInt8) (s a r:ByteArray) (w:World) (hs:s.size≤1000000000) (h:cutB d s.data.toList = some (a.data.toList,r.data.toList)) :
  Calls Tryz.prog 89 #[.string s,.string ⟨#[d]⟩] w fun e w'=>e = .returned (.tuple #[.string a,.string r,.bool true])∧Below w.heap.size w w' :=
 cut_someW d s a r w (by omega) h
theorem cut_parts {d:UInt8} {s:ByteArray} {x:List UInt8 × List UInt8} (h:cutB d s.data.toList = some x):∃ a r:ByteArray,x = (a.data.toList,r.data.toList)∧s.size = a.size + 1 + r.size:=by
 refine ⟨⟨x.1.toArray⟩,⟨x.2.toArray⟩,rfl,?_⟩
 have e:=(cutB_some d s.data.toList x.1 x.2 h).1
 rw [Lib.size_eq,e,Lib.size_eq,Lib.size_eq]
 simp only [List.length_append,List.length_cons]
 omega
end Go.Proofs.YtbbfcbodhmeanaaGreatDoor



namespace Go.Proofs.YtbbfcbodhmeanaaGreatDoor
open Go.RowKit
set_option maxHeartbeats 1000000 in
theorem bfrag_any (s:ByteArray) (hs:s.size≤maxLen) (w:World) :
  Calls Tryz.prog 80 #[.string s] w fun e w'=>e = .returned (.string ⟨(noFr s.data.toList).toArray⟩)∧Below w.heap.size w w':=by
 unfold noFr
 cases h:cutB 35 s.data.toList with
 | none =>
  have C:Hid (Calls Tryz.prog 89 #[.string s,.string ⟨#[35]⟩] w fun e w'=>e = .returned (.tuple #[.string s,.string ⟨#[]⟩,.bool false])∧Below w.heap.size w w'):=cut_none 35 s w h
  clear h
  go_enter Tryz.func80,Tryz.ntmps80
  go_wp2_with fail
  refine C.out.mono ?_
  rintro e w1 ⟨rfl,hb⟩
  clear C
  go_wp2_with fail
  go_ret
  exact ⟨rfl,hb⟩
 | some x =>
  obtain ⟨a,r,rfl,-⟩:=cut_parts h
  have C:Hid (Calls Tryz.prog 89 #[.string s,.string ⟨#[35]⟩] w fun e w'=>e = .returned (.tuple #[.string a,.string r,.bool true])∧Below w.heap.size w w'):=cut_someW 35 s a r w (by unfold maxLen at hs;omega) h
  clear h
  go_enter Tryz.func80,Tryz.ntmps80
  go_wp2_with fail
  refine C.out.mono ?_
  rintro e w1 ⟨rfl,hb⟩
  clear C
  go_wp2_with fail
  go_ret
  exact ⟨rfl,hb⟩
theorem set_same {W:World} {r i:Nat} {c:Array Value} {t:TypeId} (h:W.heap[r]? = some (.cells c t)) (v:Value):(W.setCell ⟨r,i,none⟩ v).heap[r]? = some (.cells (c.setIfInBounds i v) t):=heap_setCell_same W r i c t v h
abbrev fill8 (W:World) (r o:Nat) (v0 v1 v2 v3 v4 v5 v6 v7:Value):World:=(((((((W.setCell ⟨r,o,none⟩ v0).setCell ⟨r,o + 1,none⟩ v1).setCell ⟨r,o + 2,none⟩ v2).setCell ⟨r,o + 3,none⟩ v3).setCell ⟨r,o + 4,none⟩ v4).setCell ⟨r,o + 5,none⟩ v5).setCell ⟨r,o + 6,none⟩ v6).setCell ⟨r,o + 7,none⟩ v7
theorem fill8_heap {W:World} {r o:Nat} {c:Array Value} {t:TypeId} (h:W.heap[r]? = some (.cells c t)) (v0 v1 v2 v3 v4 v5 v6 v7:Value) :
  (fill8 W r o v0 v1 v2 v3 v4 v5 v6 v7).heap[r]? = some (.cells ((((((((c.setIfInBounds o v0).setIfInBounds (o + 1) v1).setIfInBounds (o + 2) v2).setIfInBounds (o + 3) v3).setIfInBounds (o + 4) v4).setIfInBounds (o + 5) v5).setIfInBounds (o + 6) v6).setIfInBounds (o + 7) v7) t) :=
 set_same (set_same (set_same (set_same (set_same (set_same (set_same (set_same h v0) v1) v2) v3) v4) v5) v6) v7
theorem fill_lo {W:World} {r:Nat} {t:TypeId} {c0 c1 c2 c3 c4 c5 c6 c7 c8 c9 c10 c11 c12 c13 c14 c15:Value} (h:W.heap[r]? = some (.cells #[c0,c1,c2,c3,c4,c5,c6,c7,c8,c9,c10,c11,c12,c13,c14,c15] t)) (v0 v1 v2 v3 v4 v5 v6 v7:Value) :
  (fill8 W r 0 v0 v1 v2 v3 v4 v5 v6 v7).heap[r]? = some (.cells #[v0,v1,v2,v3,v4,v5,v6,v7,c8,c9,c10,c11,c12,c13,c14,c15] t):=(fill8_heap h v0 v1 v2 v3 v4 v5 v6 v7).trans (by simp)
theorem fill_hi {W:World} {r:Nat} {t:TypeId} {c0 c1 c2 c3 c4 c5 c6 c7 c8 c9 c10 c11 c12 c13 c14 c15:Value} (h:W.heap[r]? = some (.cells #[c0,c1,c2,c3,c4,c5,c6,c7,c8,c9,c10,c11,c12,c13,c14,c15] t)) (v0 v1 v2 v3 v4 v5 v6 v7:Value) :
  (fill8 W r 8 v0 v1 v2 v3 v4 v5 v6 v7).heap[r]? = some (.cells #[c0,c1,c2,c3,c4,c5,c6,c7,v0,v1,v2,v3,v4,v5,v6,v7] t):=(fill8_heap h v0 v1 v2 v3 v4 v5 v6 v7).trans (by simp)
theorem fill8_below {w W:World} (h:Below w.heap.size w W) {r:Nat} (hr:w.heap.size≤r) (o:Nat) (v0 v1 v2 v3 v4 v5 v6 v7:Value):Below w.heap.size w (fill8 W r o v0 v1 v2 v3 v4 v5 v6 v7) :=
 (((((((h.setCell (p:=⟨r,o,none⟩) hr v0).setCell (p:=⟨r,o + 1,none⟩) hr v1).setCell (p:=⟨r,o + 2,none⟩) hr v2).setCell (p:=⟨r,o + 3,none⟩) hr v3).setCell (p:=⟨r,o + 4,none⟩) hr v4).setCell (p:=⟨r,o + 5,none⟩) hr v5).setCell (p:=⟨r,o + 6,none⟩) hr v6).setCell (p:=⟨r,o + 7,none⟩) hr v7
theorem blk_c {W:World} {k:Nat} {c:Array Value} {t:TypeId} (h:W.heap[k]? = some (.cells c t)) (i:Nat):W.cell? ⟨k,i,none⟩ = c[i]?:=by
 simp [World.cell?,h]
theorem blk_f {W:World} {k:Nat} {c:Array Value} {t:TypeId} (h:W.heap[k]? = some (.cells c t)) (i:Nat):W.frozen? ⟨k,i,none⟩ = false:=by
 simp [World.frozen?,h]
theorem blk_on {W W':World} {k:Nat} {o:Obj} (h:W.heap[k]? = some o) (hb:Below W.heap.size W W'):W'.heap[k]? = some o:=by
 rw [hb.block _ (Array.getElem?_eq_some_iff.1 h).1];exact h
theorem blk_new (W:World) (o:Obj):(W.alloc o).heap[W.heap.size]? = some o:=by
 show (W.heap.push _)[W.heap.size]? = _
 simp
set_option maxHeartbeats 8000000 in
set_option maxRecDepth 100000 in
theorem bled_walk (w:World) (a b bs bh bp bq bf us uh up uq uf xs xh xp xq xf S:ByteArray) (bhh bhq bhf uhh uhq uhf xhh xhq xhf:Bool) (e1 e2 e3 e4:Nat)
  (CP:Hid (∀ W,Calls Tryz.prog 50 #[.string a] W fun e w'=>e = .returned (.tuple #[.agg #[.string bs,.bool bhh,.string bh,.string bp,.bool bhq,.string bq,.bool bhf,.string bf],.int .i64 (e1:Int)])∧Below W.heap.size W w'))
  (CQ:Hid (∀ W,Calls Tryz.prog 50 #[.string b] W fun e w'=>e = .returned (.tuple #[.agg #[.string us,.bool uhh,.string uh,.string up,.bool uhq,.string uq,.bool uhf,.string uf],.int .i64 (e2:Int)])∧Below W.heap.size W w'))
  (CL:Hid (∀ W,Below w.heap.size w W→Calls Tryz.prog 51 #[.agg #[.string bs,.bool bhh,.string bh,.string bp,.bool bhq,.string bq,.bool bhf,.string bf],.agg #[.string us,.bool uhh,.string uh,.string up,.bool uhq,.string uq,.bool uhf,.string uf]] W fun e w'=>e = .returned (.tuple #[.agg #[.string xs,.bool xhh,.string xh,.string xp,.bool xhq,.string xq,.bool xhf,.string xf],.int .i64 (e3:Int)])∧Below W.heap.size W w'))
  (CR:Hid (∀ W,Calls Tryz.prog 52 #[.agg #[.string xs,.bool xhh,.string xh,.string xp,.bool xhq,.string xq,.bool xhf,.string xf]] W fun e w'=>e = .returned (.tuple #[.string S,.int .i64 (e4:Int)])∧Below W.heap.size W w')) :
  Calls Tryz.prog 12 #[.string a,.string b] w fun e w'=>e = .returned (.string (if e1 ≠ 0 then ⟨#[]⟩ else if e2 ≠ 0 then ⟨#[]⟩ else if e3 ≠ 0 then ⟨#[]⟩ else S))∧Below w.heap.size w w':=by
 have hix0:∀ W,(Instr.index 87 (.agg #[.string a,.string b]) (.int .i64 0)).run Tryz.prog W = .ok (.string a) W:=fun W=>by kernel_rfl
 have hix1:∀ W,(Instr.index 87 (.agg #[.string a,.string b]) (.int .i64 1)).run Tryz.prog W = .ok (.string b) W:=fun W=>by kernel_rfl
 obtain ⟨R,hR⟩:∃ R,(if e1 ≠ 0 then ⟨#[]⟩ else if e2 ≠ 0 then ⟨#[]⟩ else if e3 ≠ 0 then ⟨#[]⟩ else S) = R:=⟨_,rfl⟩
 rw [hR]
 have HR:Hid ((if e1 ≠ 0 then ⟨#[]⟩ else if e2 ≠ 0 then ⟨#[]⟩ else if e3 ≠ 0 then ⟨#[]⟩ else S) = R):=hR
 clear hR
 go_enter Tryz.func12,Tryz.ntmps12
 go_wp2_with fail
 refine wp_loop_rounds 3 ?_
 rw [rounds_succ]
 go_wp2_with fail
 refine (CP.out _).mono ?_
 rintro e W1 ⟨rfl,hb1⟩
 clear CP
 have hk1:W1.heap[w.heap.size]? = some (.cells #[.string ⟨#[]⟩,.bool false,.string ⟨#[]⟩,.string ⟨#[]⟩,.bool false,.string ⟨#[]⟩,.bool false,.string ⟨#[]⟩,.string ⟨#[]⟩,.bool false,.string ⟨#[]⟩,.string ⟨#[]⟩,.bool false,.string ⟨#[]⟩,.bool false,.string ⟨#[]⟩] 86):=blk_on (blk_new w _) hb1
 have hbe1:Below w.heap.size w W1:=((Below.refl _ w).alloc (Nat.le_refl _) _).trans (hb1.mono (by simp))
 clear hb1
 have hf1:=blk_f hk1
 have z0:W1.cell? ⟨w.heap.size,0,none⟩ = some (.string ⟨#[]⟩):=(blk_c hk1 0).trans rfl
 have z1:W1.cell? ⟨w.heap.size,1,none⟩ = some (.bool false):=(blk_c hk1 1).trans rfl
 have z2:W1.cell? ⟨w.heap.size,2,none⟩ = some (.string ⟨#[]⟩):=(blk_c hk1 2).trans rfl
 have z3:W1.cell? ⟨w.heap.size,3,none⟩ = some (.string ⟨#[]⟩):=(blk_c hk1 3).trans rfl
 have z4:W1.cell? ⟨w.heap.size,4,none⟩ = some (.bool false):=(blk_c hk1 4).trans rfl
 have z5:W1.cell? ⟨w.heap.size,5,none⟩ = some (.string ⟨#[]⟩):=(blk_c hk1 5).trans rfl
 have z6:W1.cell? ⟨w.heap.size,6,none⟩ = some (.bool false):=(blk_c hk1 6).trans rfl
 have z7:W1.cell? ⟨w.heap.size,7,none⟩ = some (.string ⟨#[]⟩):=(blk_c hk1 7).trans rfl
 by_cases h1:e1 = 0
 ·subst h1
  have HR1:Hid ((if e2 ≠ 0 then ⟨#[]⟩ else if e3 ≠ 0 then ⟨#[]⟩ else S) = R):=by unfold Hid;have h:=HR.out;rw [if_neg (show ¬ (0:Nat) ≠ 0 by simp)] at h;exact h
  clear HR
  go_wp2_with fail
  rw [rounds_succ]
  go_wp2_with fail
  have hk2:=fill_lo hk1 (.string bs) (.bool bhh) (.string bh) (.string bp) (.bool bhq) (.string bq) (.bool bhf) (.string bf)
  have hbe2:=fill8_below hbe1 (Nat.le_refl _) 0 (.string bs) (.bool bhh) (.string bh) (.string bp) (.bool bhq) (.string bq) (.bool bhf) (.string bf)
  obtain ⟨V2,hV2⟩:∃ W,W = (((((((W1.setCell ⟨w.heap.size,0,none⟩ (.string bs)).setCell ⟨w.heap.size,1,none⟩ (.bool bhh)).setCell ⟨w.heap.size,2,none⟩ (.string bh)).setCell ⟨w.heap.size,3,none⟩ (.string bp)).setCell ⟨w.heap.size,4,none⟩ (.bool bhq)).setCell ⟨w.heap.size,5,none⟩ (.string bq)).setCell ⟨w.heap.size,6,none⟩ (.bool bhf)).setCell ⟨w.heap.size,7,none⟩ (.string bf):=⟨_,rfl⟩
  have hV2':fill8 W1 w.heap.size 0 (.string bs) (.bool bhh) (.string bh) (.string bp) (.bool bhq) (.string bq) (.bool bhf) (.string bf) = V2:=hV2.symm
  rw [hV2'] at hk2 hbe2
  rw [← hV2]
  clear hV2 hV2'
  refine (CQ.out _).mono ?_
  rintro e W2 ⟨rfl,hb2⟩
  clear CQ
  have hk3:=blk_on hk2 hb2
  have hbe3:Below w.heap.size w W2:=hbe2.trans (hb2.mono hbe2.size)
  clear hb2 hk2 hbe2 hk1 hbe1 hf1 z0 z1 z2 z3 z4 z5 z6 z7
  have hf1:=blk_f hk3
  have z8:W2.cell? ⟨w.heap.size,8,none⟩ = some (.string ⟨#[]⟩):=(blk_c hk3 8).trans rfl
  have z9:W2.cell? ⟨w.heap.size,9,none⟩ = some (.bool false):=(blk_c hk3 9).trans rfl
  have z10:W2.cell? ⟨w.heap.size,10,none⟩ = some (.string ⟨#[]⟩):=(blk_c hk3 10).trans rfl
  have z11:W2.cell? ⟨w.heap.size,11,none⟩ = some (.string ⟨#[]⟩):=(blk_c hk3 11).trans rfl
  have z12:W2.cell? ⟨w.heap.size,12,none⟩ = some (.bool false):=(blk_c hk3 12).trans rfl
  have z13:W2.cell? ⟨w.heap.size,13,none⟩ = some (.string ⟨#[]⟩):=(blk_c hk3 13).trans rfl
  have z14:W2.cell? ⟨w.heap.size,14,none⟩ = some (.bool false):=(blk_c hk3 14).trans rfl
  have z15:W2.cell? ⟨w.heap.size,15,none⟩ = some (.string ⟨#[]⟩):=(blk_c hk3 15).trans rfl
  by_cases h2:e2 = 0
  ·subst h2
   have HR2:Hid ((if e3 ≠ 0 then ⟨#[]⟩ else S) = R):=by unfold Hid;have h:=HR1.out;rw [if_neg (show ¬ (0:Nat) ≠ 0 by simp)] at h;exact h
   clear HR1
   go_wp2_with fail
   rw [rounds_succ]
   have hk4:=fill_hi hk3 (.string us) (.bool uhh) (.string uh) (.string up) (.bool uhq) (.string uq) (.bool uhf) (.string uf)
   have hbe4:=fill8_below hbe3 (Nat.le_refl _) 8 (.string us) (.bool uhh) (.string uh) (.string up) (.bool uhq) (.string uq) (.bool uhf) (.string uf)
   obtain ⟨W3,hW3⟩:∃ W,W = (((((((W2.setCell ⟨w.heap.size,8,none⟩ (.string us)).setCell ⟨w.heap.size,9,none⟩ (.bool uhh)).setCell ⟨w.heap.size,10,none⟩ (.string uh)).setCell ⟨w.heap.size,11,none⟩ (.string up)).setCell ⟨w.heap.size,12,none⟩ (.bool uhq)).setCell ⟨w.heap.size,13,none⟩ (.string uq)).setCell ⟨w.heap.size,14,none⟩ (.bool uhf)).setCell ⟨w.heap.size,15,none⟩ (.string uf):=⟨_,rfl⟩
   have hW3':fill8 W2 w.heap.size 8 (.string us) (.bool uhh) (.string uh) (.string up) (.bool uhq) (.string uq) (.bool uhf) (.string uf) = W3:=hW3.symm
   rw [hW3'] at hk4 hbe4
   rw [← hW3]
   clear hW3'
   clear hW3 hk3 hbe3 hf1 z8 z9 z10 z11 z12 z13 z14 z15
   have hc:=blk_c hk4
   have hf:=blk_f hk4
   have k0:W3.cell? ⟨w.heap.size,0,none⟩ = some (.string bs):=hc 0
   have k1:W3.cell? ⟨w.heap.size,1,none⟩ = some (.bool bhh):=hc 1
   have k2:W3.cell? ⟨w.heap.size,2,none⟩ = some (.string bh):=hc 2
   have k3:W3.cell? ⟨w.heap.size,3,none⟩ = some (.string bp):=hc 3
   have k4:W3.cell? ⟨w.heap.size,4,none⟩ = some (.bool bhq):=hc 4
   have k5:W3.cell? ⟨w.heap.size,5,none⟩ = some (.string bq):=hc 5
   have k6:W3.cell? ⟨w.heap.size,6,none⟩ = some (.bool bhf):=hc 6
   have k7:W3.cell? ⟨w.heap.size,7,none⟩ = some (.string bf):=hc 7
   have k8:W3.cell? ⟨w.heap.size,8,none⟩ = some (.string us):=hc 8
   have k9:W3.cell? ⟨w.heap.size,9,none⟩ = some (.bool uhh):=hc 9
   have k10:W3.cell? ⟨w.heap.size,10,none⟩ = some (.string uh):=hc 10
   have k11:W3.cell? ⟨w.heap.size,11,none⟩ = some (.string up):=hc 11
   have k12:W3.cell? ⟨w.heap.size,12,none⟩ = some (.bool uhq):=hc 12
   have k13:W3.cell? ⟨w.heap.size,13,none⟩ = some (.string uq):=hc 13
   have k14:W3.cell? ⟨w.heap.size,14,none⟩ = some (.bool uhf):=hc 14
   have k15:W3.cell? ⟨w.heap.size,15,none⟩ = some (.string uf):=hc 15
   clear hk4 hc
   go_wp2_with fail
   refine (CL.out _ hbe4).mono ?_
   rintro e W4 ⟨rfl,hb4⟩
   clear CL
   have hbe5:Below w.heap.size w W4:=hbe4.trans (hb4.mono hbe4.size)
   clear hb4 hbe4 k0 k1 k2 k3 k4 k5 k6 k7 k8 k9 k10 k11 k12 k13 k14 k15 hf
   by_cases h3:e3 = 0
   ·subst h3
    have HR3:Hid (R = S):=by unfold Hid;have h:=HR2.out;rw [if_neg (show ¬ (0:Nat) ≠ 0 by simp)] at h;exact h.symm
    clear HR2
    go_wp2_with fail
    refine (CR.out _).mono ?_
    rintro e W5 ⟨rfl,hb5⟩
    clear CR
    have hbe6:Below w.heap.size w W5:=(hbe5.alloc hbe5.size _).trans (hb5.mono (by have:=hbe5.size;simp;omega))
    clear hb5 hbe5
    go_wp2_with fail
    go_ret
    exact ⟨by rw [HR3.out];rfl,hbe6⟩
   ·have HN:Hid (R = ⟨#[]⟩):=by unfold Hid;rw [← HR2.out,if_pos h3]
    clear HR2
    have h3z:((e3:Int) == 0) = false:=by rw [beq_eq_false_iff_ne];omega
    go_wp2_with fail
    go_ret
    exact ⟨by rw [HN.out];rfl,hbe5.alloc hbe5.size _⟩
  ·have HN:Hid (R = ⟨#[]⟩):=by unfold Hid;rw [← HR1.out,if_pos h2]
   clear HR1
   have h2z:((e2:Int) == 0) = false:=by rw [beq_eq_false_iff_ne];omega
   go_wp2_with fail
   go_ret
   exact ⟨by rw [HN.out];rfl,fill8_below hbe3 (Nat.le_refl _) 8 _ _ _ _ _ _ _ _⟩
 ·have HN:Hid (R = ⟨#[]⟩):=by unfold Hid;rw [← HR.out,if_pos h1]
  clear HR
  have h1z:((e1:Int) == 0) = false:=by rw [beq_eq_false_iff_ne];omega
  go_wp2_with fail
  go_ret
  exact ⟨by rw [HN.out];rfl,fill8_below hbe1 (Nat.le_refl _) 0 _ _ _ _ _ _ _ _⟩
end Go.Proofs.YtbbfcbodhmeanaaGreatDoor



namespace Go.Proofs.YtbbfcbodhmeanaaGreatDoor
open Go.RowKit
def PCells (w:World) (b o:Nat) (p:PT) (pb:Option Addr) (cb:Nat) (pk:Option Addr) (ck:Nat):Prop :=
 w.cell? ⟨b,o,none⟩ = some (.string p.ty)∧w.cell? ⟨b,o + 1,none⟩ = some (.string p.cs)∧w.cell? ⟨b,o + 2,none⟩ = some (.string p.id)∧w.cell? ⟨b,o + 3,none⟩ = some (.string p.loc) ∧
 w.cell? ⟨b,o + 4,none⟩ = some (.int .i64 p.how)∧w.cell? ⟨b,o + 5,none⟩ = some (.slice pb p.body.length cb)∧w.cell? ⟨b,o + 6,none⟩ = some (.slice pk p.kids.length ck)
def PLen (p:PT):Prop :=
 p.ty.size≤maxLen∧p.cs.size≤maxLen∧p.id.size≤maxLen∧p.loc.size≤maxLen∧-9223372036854775808≤p.how∧p.how≤9223372036854775807∧p.body.length≤maxLen∧p.kids.length≤maxLen
def PHeldK (K:Option Addr→List PT→Prop) (w:World) (p:PT) (pb:Option Addr) (cb:Nat) (pk:Option Addr) (ck:Nat):Prop :=
 PLen p∧(p.body.length≤cb∧cb≤maxLen∧(pb = none→cb = 0))∧BRow w pb p.body∧(p.kids.length≤ck∧ck≤maxLen∧(pk = none→ck = 0))∧K pk p.kids
def KAt (w:World):Nat→Option Addr→List PT→Prop
 | 0,_,l=>l = []
 | f + 1,a,l=>l ≠ []→∃ b o,a = some ⟨b,o,none⟩∧∀ i,i < l.length→∃ pb cb pk ck,PCells w b (o + i * 7) (l.getD i pt0) pb cb pk ck∧PHeldK (KAt w f) w (l.getD i pt0) pb cb pk ck
def PHeld (w:World) (f:Nat) (p:PT) (pb:Option Addr) (cb:Nat) (pk:Option Addr) (ck:Nat):Prop:=PHeldK (KAt w f) w p pb cb pk ck
def PAt (w:World) (f:Nat) (b o:Nat) (p:PT):Prop:=∃ pb cb pk ck,PCells w b o p pb cb pk ck∧PHeld w f p pb cb pk ck
theorem KAt.each {w:World} {f:Nat} {a:Option Addr} {l:List PT} (h:KAt w (f + 1) a l) (hne:l ≠ []):∃ b o,a = some ⟨b,o,none⟩∧∀ i,i < l.length→PAt w f b (o + i * 7) (l.getD i pt0):=by
 obtain ⟨b,o,e,hc⟩:=h hne
 exact ⟨b,o,e,fun i hi=>hc i hi⟩
theorem KAt.mk {w:World} {f b o:Nat} {l:List PT} (h:∀ i,i < l.length→PAt w f b (o + i * 7) (l.getD i pt0)):KAt w (f + 1) (some ⟨b,o,none⟩) l:=fun _=>⟨b,o,rfl,fun i hi=>h i hi⟩
theorem KAt.nil (w:World) (f:Nat) (a:Option Addr):KAt w f a []:=by
 cases f with
 | zero=>rfl
 | succ f=>exact fun h=>absurd rfl h
theorem BRow.under {w w':World} {p:Option Addr} {l:List UInt8} (h:BRow w p l) (hb:Below w.heap.size w w'):BRow w' p l:=by
 intro hne
 obtain ⟨b,o,rfl,hc⟩:=h hne
 refine ⟨b,o,rfl,fun i hi=>?_⟩
 have:=hc i hi
 rw [hb.cell (p:=⟨b,o + i,none⟩) (World.block_lt_of_cell? w _ this)]
 exact this
theorem PCells.below {w w':World} {b o:Nat} {p:PT} {pb:Option Addr} {cb:Nat} {pk:Option Addr} {ck:Nat} (h:PCells w b o p pb cb pk ck) (hb:Below w.heap.size w w'):PCells w' b o p pb cb pk ck:=by
 obtain ⟨h0,h1,h2,h3,h4,h5,h6⟩:=h
 have hl:=World.block_lt_of_cell? w _ h0
 refine ⟨?_,?_,?_,?_,?_,?_,?_⟩
 ·rw [hb.cell (p:=⟨b,o,none⟩) hl];exact h0
 ·rw [hb.cell (p:=⟨b,o + 1,none⟩) hl];exact h1
 ·rw [hb.cell (p:=⟨b,o + 2,none⟩) hl];exact h2
 ·rw [hb.cell (p:=⟨b,o + 3,none⟩) hl];exact h3
 ·rw [hb.cell (p:=⟨b,o + 4,none⟩) hl];exact h4
 ·rw [hb.cell (p:=⟨b,o + 5,none⟩) hl];exact h5
 ·rw [hb.cell (p:=⟨b,o + 6,none⟩) hl];exact h6
theorem PHeldK.mono {K K':Option Addr→List PT→Prop} {w w':World} {p:PT} {pb:Option Addr} {cb:Nat} {pk:Option Addr} {ck:Nat} (h:PHeldK K w p pb cb pk ck) (hb:Below w.heap.size w w') (hK:∀ a l,K a l→K' a l):PHeldK K' w' p pb cb pk ck :=
 ⟨h.1,h.2.1,h.2.2.1.under hb,h.2.2.2.1,hK _ _ h.2.2.2.2⟩
theorem KAt.below {w w':World} (hb:Below w.heap.size w w'):∀ (f:Nat) (a:Option Addr) (l:List PT),KAt w f a l→KAt w' f a l
 | 0,_,_,h=>h
 | f + 1,a,l,h=>fun hne=>by
  obtain ⟨b,o,e,hc⟩:=h hne
  refine ⟨b,o,e,fun i hi=>?_⟩
  obtain ⟨pb,cb,pk,ck,h1,h2⟩:=hc i hi
  exact ⟨pb,cb,pk,ck,h1.below hb,h2.mono hb (KAt.below hb f)⟩
theorem PHeld.below {w w':World} {f:Nat} {p:PT} {pb:Option Addr} {cb:Nat} {pk:Option Addr} {ck:Nat} (h:PHeld w f p pb cb pk ck) (hb:Below w.heap.size w w'):PHeld w' f p pb cb pk ck:=PHeldK.mono h hb (KAt.below hb f)
theorem PAt.below {w w':World} {f b o:Nat} {p:PT} (h:PAt w f b o p) (hb:Below w.heap.size w w'):PAt w' f b o p:=by
 obtain ⟨pb,cb,pk,ck,h1,h2⟩:=h
 exact ⟨pb,cb,pk,ck,h1.below hb,h2.below hb⟩
theorem PAt.lt {w:World} {f b o:Nat} {p:PT} (h:PAt w f b o p):b < w.heap.size:=by
 obtain ⟨pb,cb,pk,ck,h1,h2⟩:=h
 exact World.block_lt_of_cell? w _ h1.1
end Go.Proofs.YtbbfcbodhmeanaaGreatDoor



namespace Go.Proofs.YtbbfcbodhmeanaaGreatDoor
open Go.RowKit
abbrev PX:=(Nat × Nat) × Int
def plv (X:List PX):List Value:=X.flatMap fun x=>[.pointer (some ⟨x.1.1,x.1.2,none⟩),.int .i64 x.2]
theorem plv_snoc (X:List PX) (x:PX):plv (X ++ [x]) = plv X ++ [.pointer (some ⟨x.1.1,x.1.2,none⟩),.int .i64 x.2]:=by simp [plv]
def PLs (w:World) (X:List PX) (L:List (PT × Int)):Prop :=
 X.length = L.length∧∀ (i:Nat) x q,X[i]? = some x→L[i]? = some q→x.2 = q.2∧∃ f,PAt w f x.1.1 x.1.2 q.1
theorem PLs.nil (w:World):PLs w [] []:=⟨rfl,fun i x q h=>by simp at h⟩
theorem PLs.snoc {w:World} {X:List PX} {L:List (PT × Int)} (h:PLs w X L) {b o:Nat} {p:PT} {k:Int} {f:Nat} (hp:PAt w f b o p):PLs w (X ++ [((b,o),k)]) (L ++ [(p,k)]):=by
 refine ⟨by rw [List.length_append,List.length_append,h.1];rfl,fun i x q hx hq=>?_⟩
 by_cases hi:i < X.length
 ·rw [List.getElem?_append_left hi] at hx
  rw [List.getElem?_append_left (by rw [← h.1];exact hi)] at hq
  exact h.2 i x q hx hq
 ·rw [List.getElem?_append_right (by omega)] at hx
  rw [List.getElem?_append_right (by rw [← h.1];omega),← h.1] at hq
  cases hd:i - X.length with
  | zero =>
   rw [hd] at hx hq
   obtain rfl:=Option.some.inj hx
   obtain rfl:=Option.some.inj hq
   exact ⟨rfl,f,hp⟩
  | succ n=>rw [hd] at hx;simp at hx
theorem info_place:(Tryz.prog.info? 117).map (fun i=>(i.zero,i.size,i.bytes)) = some (some (.agg #[.pointer none,.int .i64 0]),2,16):=by kernel_rfl
theorem owned_slice {w:World} {B e s n:Nat} {v:Value} {xs:List Value} (h:w.ownsRow B e s v n xs):∃ p c,v = .slice p n c:=by
 rcases h.2 with ⟨rfl,rfl⟩ | ⟨g,cap,cur,rfl,_⟩
 ·exact ⟨none,0,rfl⟩
 ·exact ⟨_,_,rfl⟩
def PlacesPost (w0:World) (r:Option (List (PT × Int))) (e:Ending) (w':World):Prop :=
 Below w0.heap.size w0 w'∧match r with
 | none=>e = .returned (.tuple #[.slice none 0 0,.bool false])
 | some M=>∃ v X,e = .returned (.tuple #[v,.bool true])∧w'.ownsRow w0.heap.size 117 2 v M.length (plv X)∧PLs w0 X M
set_option maxHeartbeats 1000000 in
set_option maxRecDepth 100000 in
theorem places_any (w0:World):∀ (f:Nat) (F:Nat) (lv:Value) (X:List PX) (L:List (PT × Int)) (b o:Nat) (p:PT) (depth:Nat) (dd inn:Int) (w:World),f≤3→f + depth = 4→dd = (depth:Int)→L.length≤12 →
  Below w0.heap.size w0 w→w.ownsRow w0.heap.size 117 2 lv L.length (plv X)→PLs w0 X L→PAt w0 F b o p →
  Calls Tryz.prog 128 #[lv,.pointer (some ⟨b,o,none⟩),.int .i64 dd,.int .i64 inn] w fun e w'=>PlacesPost w0 (put (f + 1) L p depth inn) e w':=by
 intro f
 induction f with
 | zero =>
  intro F lv X L b o p depth dd inn w _ hfd hdd hL hbel hown hX hP
  obtain ⟨q,c,rfl⟩:=owned_slice hown
  have HR:Hid (put (0 + 1) L p depth inn = none):=put_stop _ _ _ _ _ (.inr (by omega))
  have h3:(3:Int) < dd:=by omega
  generalize L.length = n at *
  clear hdd hown hX hP
  go_enter Tryz.func128,Tryz.ntmps128
  by_cases h12:n = 12
  ·subst h12
   go_wp2_with fail
   go_ret2
   show PlacesPost _ _ _ _
   rw [HR.out]
   exact ⟨hbel,rfl⟩
  ·have h12':((n:Int) == 12) = false:=by rw [beq_eq_false_iff_ne];omega
   go_wp2_with fail
   go_ret2
   show PlacesPost _ _ _ _
   rw [HR.out]
   exact ⟨hbel,rfl⟩
 | succ f ih =>
  intro F lv X L b o p depth dd inn w hf3 hfd hdd hL hbel hown hX hP
  by_cases h12:L.length = 12
  ·obtain ⟨q,c,rfl⟩:=owned_slice hown
   have HR:Hid (put (f + 1 + 1) L p depth inn = none):=put_stop _ _ _ _ _ (.inl h12)
   rw [h12]
   clear hdd hown hX hP ih h12
   go_enter Tryz.func128,Tryz.ntmps128
   go_wp2_with fail
   go_ret2
   show PlacesPost _ _ _ _
   rw [HR.out]
   exact ⟨hbel,rfl⟩
  ·have HR:Hid (put (f + 1 + 1) L p depth inn = putAll (f + 1) (depth + 1) L.length (L ++ [(p,inn)]) p.kids):=put_go _ _ _ _ _ (by omega)
   obtain ⟨i0,hi,hz0,hz1,hz2⟩:=info_parts info_place
   have hPw:=hP.below hbel
   obtain ⟨pb,cb,pk,ck,hC,hH⟩:=hPw
   obtain ⟨pb',cb',pk',ck',hC',hH'⟩:=hP
   have hsz:=hbel.size
   obtain ⟨q,c,rfl⟩:=owned_slice hown
   have h12':((L.length:Int) == 12) = false:=by rw [beq_eq_false_iff_ne];omega
   have h3:¬ ((3:Int) < dd):=by omega
   have hKl:p.kids.length≤9223372036854775807:=by have:=hH.1.2.2.2.2.2.2.2;unfold maxLen at this;exact this
   have HC:Hid (∀ w',Below w0.heap.size w0 w'→w'.cell? ⟨b,o + 6,none⟩ = some (.slice pk' p.kids.length ck')):=fun w' hb=>(hC'.below hb).2.2.2.2.2.2
   have HK:Hid (p.kids ≠ []→∃ F' b' o',F = F' + 1∧pk' = some ⟨b',o',none⟩∧∀ i,i < p.kids.length→PAt w0 F' b' (o' + i * 7) (p.kids.getD i pt0)):=fun hne=>by
    have hk:KAt w0 F pk' p.kids:=hH'.2.2.2.2
    cases F with
    | zero=>exact absurd hk hne
    | succ F' =>
     obtain ⟨b',o',e1,e2⟩:=hk.each hne
     exact ⟨F',b',o',rfl,e1,e2⟩
   have HX2:Hid (PLs w0 (X ++ [((b,o),inn)]) (L ++ [(p,inn)])):=hX.snoc ⟨pb',cb',pk',ck',hC',hH'⟩
   have IH:Hid (∀ (lv:Value) (X:List PX) (M:List (PT × Int)) (b o F:Nat) (k:PT) (w:World),M.length≤12→Below w0.heap.size w0 w→w.ownsRow w0.heap.size 117 2 lv M.length (plv X)→PLs w0 X M→PAt w0 F b o k →
     Calls Tryz.prog 128 #[lv,.pointer (some ⟨b,o,none⟩),.int .i64 (dd + 1),.int .i64 (L.length:Int)] w fun e w'=>PlacesPost w0 (put (f + 1) M k (depth + 1) (L.length:Int)) e w') :=
    fun lv X M b o F k w h1 h2 h3 h4 h5=>ih F lv X M b o k (depth + 1) (dd + 1) (L.length:Int) w (by omega) (by omega) (by omega) h1 h2 h3 h4 h5
   have hd4:dd≤3:=by omega
   have hd0:0≤dd:=by omega
   have HL12:Hid (L.length < 12):=by unfold Hid;omega
   generalize hRES:put (f + 1 + 1) L p depth inn = RES at *
   clear ih hC hH hC' hH' hX hdd hRES
   go_enter Tryz.func128,Tryz.ntmps128
   go_wp2_with (at_builtin;refine wpList_append_own _ rfl (.tmp 22) (.tmp 26) 113 rfl w0.heap.size 117 i0 (.agg #[.pointer none,.int .i64 0]) 2 16 Tryz.underlying113 hi hz0 hz1 hz2 rfl (by decide) _ _ _ rfl (hown.alloc _) ⟨w.heap.size,0,none⟩ 1 1 [.pointer (some ⟨b,o,none⟩),.int .i64 inn] rfl rfl (cell_two _ _ _ _) ?c2 ?c3 ?c4 ?c5 ?_)
   case c2=>first | exact ⟨rfl,rfl⟩ | (intro u hu;simp at hu;rcases hu with rfl | rfl <;> rfl)
   case c3=>unfold maxLen;omega
   case c4=>omega
   case c5=>first | omega | (simp;omega)
   intro v9 w9 hown9 hg9 _
   have hb9:Below w0.heap.size w0 w9:=(hbel.alloc hsz _).grown hg9 (by simp;omega) (fun j hj=>(hown.lt j hj).1)
   have R9:w9.ownsRow w0.heap.size 117 2 v9 (L ++ [(p,inn)]).length (plv (X ++ [((b,o),inn)])):=by rw [plv_snoc,List.length_append];exact hown9
   have HO:Hid (w9.ownsRow w0.heap.size 117 2 v9 (L ++ [(p,inn)]).length (plv (X ++ [((b,o),inn)]))):=R9
   have HM:Hid ((L ++ [(p,inn)]).length≤12):=by unfold Hid;rw [List.length_append];have:=HL12.out;simp;omega
   have c6:=HC.out w9 hb9
   have hBb:b < w9.heap.size:=World.block_lt_of_cell? w9 _ c6
   clear hg9 hown9 hown R9 hbel hsz hi hz0 hz1 hz2
   obtain ⟨M0,hM0⟩:∃ M0,L ++ [(p,inn)] = M0:=⟨_,rfl⟩
   obtain ⟨X0,hX0⟩:∃ X0,X ++ [((b,o),inn)] = X0:=⟨_,rfl⟩
   rw [hM0] at HR HX2 HO HM
   rw [hX0] at HX2 HO
   clear hM0 hX0 h12 h12' HL12
   obtain ⟨kids,hkids⟩:∃ kids,p.kids = kids:=⟨_,rfl⟩
   rw [hkids] at HR HC HK hKl c6
   clear hkids
   obtain ⟨nk,hnk⟩:∃ nk,kids.length = nk:=⟨_,rfl⟩
   have HNK:Hid (kids.length = nk):=hnk
   rw [hnk] at HC HK hKl c6
   clear hnk
   obtain ⟨own,hownn⟩:∃ own,L.length = own:=⟨_,rfl⟩
   rw [hownn] at HR IH
   simp only [hownn]
   clear hownn
   go_wp2_with fail
   go_loopw [0,33] (fun lvv iv wr=>∃ (k:Nat) (M:List (PT × Int)) (X:List PX) (q:Option Addr) (n c:Nat),k≤nk∧iv = .int .i64 k∧lvv = .slice q n c∧Below w0.heap.size w0 wr∧Hid (wr.ownsRow w0.heap.size 117 2 (.slice q n c) M.length (plv X))∧Hid (PLs w0 X M)∧Hid (M.length≤12)∧Hid (RES = putAll (f + 1) (depth + 1) own M (kids.drop k))) (fun _ iv _=>nk - (intOf iv).toNat)
   case atStart =>
    obtain ⟨q9,c9,rfl⟩:=owned_slice HO.out
    exact ⟨0,M0,X0,q9,M0.length,c9,Nat.zero_le _,rfl,rfl,hb9,HO,HX2,HM,HR⟩
   case round =>
    obtain ⟨k,M,X,q1,n1,c1,hk,rfl,rfl,hbr,HO,HX,HM,HR⟩:=hrel
    have c6r:=HC.out wr hbr
    by_cases hlt:k < nk
    ·have hlz:(k:Int) < (nk:Int):=by omega
     have hne:kids ≠ []:=fun e=>by have:=HNK.out;rw [e] at this;simp at this;omega
     obtain ⟨F',b',o',-,rfl,hPk⟩:=HK.out hne
     have HPk:Hid (PAt w0 F' b' (o' + k * 7) (kids.getD k pt0)):=hPk k hlt
     have hdr:kids.drop k = kids.getD k pt0::kids.drop (k + 1):=by
      have hkl:k < kids.length:=by rw [HNK.out];exact hlt
      rw [List.drop_eq_getElem_cons hkl]
      simp [List.getD_eq_getElem?_getD,List.getElem?_eq_getElem hkl]
     rw [hdr] at HR
     clear hdr hPk HK
     have CI:Hid (Calls Tryz.prog 128 #[.slice q1 n1 c1,.pointer (some ⟨b',o' + k * 7,none⟩),.int .i64 (dd + 1),.int .i64 (own:Int)] wr fun e w'=>PlacesPost w0 (put (f + 1) M (kids.getD k pt0) (depth + 1) (own:Int)) e w'):=IH.out _ X M b' (o' + k * 7) F' _ wr HM.out hbr HO.out HX.out HPk.out
     cases hput:put (f + 1) M (kids.getD k pt0) (depth + 1) (own:Int) with
     | none =>
      have HN:Hid (RES = none):=by unfold Hid;rw [HR.out,putAll_none _ _ _ _ _ _ hput]
      rw [hput] at CI
      clear hput HR HO HX HM HPk IH
      go_wp2_with fail
      refine CI.out.mono ?_
      rintro e w2 ⟨hb2,rfl⟩
      go_wp2_with fail
      go_ret2
      show PlacesPost _ _ _ _
      rw [HN.out]
      exact ⟨hb2,rfl⟩
     | some M2 =>
      have HN:Hid (RES = putAll (f + 1) (depth + 1) own M2 (kids.drop (k + 1))):=by unfold Hid;rw [HR.out,putAll_some _ _ _ _ _ _ _ hput]
      have HM2:Hid (M2.length≤12):=(put_length _ _ _ _ _ _ HM.out hput).2
      rw [hput] at CI
      clear hput HR HO HX HM HPk IH
      go_wp2_with fail
      refine CI.out.mono ?_
      rintro e w2 ⟨hb2,v2,X2,rfl,ho2,hx2⟩
      have HO2:Hid (w2.ownsRow w0.heap.size 117 2 v2 M2.length (plv X2)):=ho2
      have HX2:Hid (PLs w0 X2 M2):=hx2
      clear ho2 hx2 CI
      go_wp2_with fail
      go_roundw
      case rel =>
       obtain ⟨q2,c2,rfl⟩:=owned_slice HO2.out
       exact ⟨k + 1,M2,X2,q2,M2.length,c2,by omega,by go_num,rfl,hb2,HO2,HX2,HM2,HN⟩
      case measure=>simp [intOf];omega
    ·have hlz:¬ ((k:Int) < (nk:Int)):=by omega
     have HN:Hid (RES = some M):=by unfold Hid;rw [HR.out,List.drop_of_length_le (by rw [HNK.out];omega),putAll_nil]
     clear HR HK IH
     go_wp2_with fail
     go_ret2
     show PlacesPost _ _ _ _
     rw [HN.out]
     exact ⟨hbr,_,X,rfl,HO.out,HX.out⟩
end Go.Proofs.YtbbfcbodhmeanaaGreatDoor



namespace Go.Proofs.YtbbfcbodhmeanaaGreatDoor
open Go.RowKit
theorem dropB (s:ByteArray) (k:Nat) (h:k < s.size):s.data.toList.drop k = s[k]::s.data.toList.drop (k + 1):=by
 rw [List.drop_eq_getElem_cons (by simpa using h)];rfl
theorem ix_any (s:ByteArray) (l:List UInt8) (hs:s.data.toList = l) (c:UInt8) (cc:Int) (e:cc = (c.toNat:Int)) (w:World) :
  Calls Tryz.prog 93 #[.string s,.int .u8 cc] w fun e w'=>∃ i:Int,e = .returned (.int .i64 i)∧decide (0≤i) = l.contains c∧w' = w:=by
 subst e hs
 refine (Tryz.strings_IndexByte s (c.toNat:Int) w).mono ?_
 rintro e w' ⟨rfl,rfl⟩
 refine ⟨_,rfl,?_,rfl⟩
 rw [indexByte_mem]
 simp
end Go.Proofs.YtbbfcbodhmeanaaGreatDoor


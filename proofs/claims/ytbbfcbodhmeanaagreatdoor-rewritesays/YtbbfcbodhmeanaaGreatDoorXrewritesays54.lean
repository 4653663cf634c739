
import Derived.Test.YtbbfcbodhmeanaaGreatDoorXrewritesays53
namespace Go.Proofs.YtbbfcbodhmeanaaGreatDoor
open Go.RowKit
set_option maxHeartbeats 2000000 in
set_option maxRecDepth 100000 in
theorem rread_long (s:ByteArray) (hs:s.size≤maxLen) (h:120 < s.size) (w:World) :
  Calls Tryz.prog 53 #[.string s] w fun e w'=>e = .returned (.tuple #[zeroU,.int .i64 2])∧Below w.heap.size w w':=by
 unfold maxLen at hs
 have hi:(120:Int) < (s.size:Int):=by omega
 obtain ⟨W0,hW0⟩:∃ W,W = w.alloc (.cells (cellsU E0 false E0 E0 false E0 false E0) 85):=⟨_,rfl⟩
 have hb0:Below w.heap.size w W0:=by rw [hW0];exact (Below.refl _ _).alloc (Nat.le_refl _) _
 have hB0:W0.heap[w.heap.size]? = some (.cells (cellsU E0 false E0 E0 false E0 false E0) 85):=by rw [hW0];show (w.heap.push _)[w.heap.size]? = _;simp
 go_enter Tryz.func53,Tryz.ntmps53
 go_wp2_with fail
 rw [← hW0]
 clear hW0
 refine (rbad_any _ _).mono ?_
 rintro e w6 ⟨rfl,hb6⟩
 have hB6:=kept_on hB0 hb6
 have B6:Below w.heap.size w w6:=hb0.trans (hb6.mono hb0.size)
 clear hb6 hB0 hb0
 obtain ⟨r0,r1,r2,r3,r4,r5,r6,r7,rf⟩:=cells_8 hB6
 go_wp2
 refine bodyPost_ret (v:=.tuple #[zeroU,.int .i64 2]) ?_ rfl ⟨rfl,?_⟩
 ·rw [results_cell_tmp rfl]
  go_simp
 ·exact ((((((((B6.setCell (Nat.le_refl _) _).setCell (Nat.le_refl _) _).setCell (Nat.le_refl _) _).setCell (Nat.le_refl _) _).setCell (Nat.le_refl _) _).setCell (Nat.le_refl _) _).setCell (Nat.le_refl _) _).setCell (Nat.le_refl _) _)
theorem hostU_eq (sch l:List UInt8) (hq:Bool) (q:List UInt8) (hf:Bool) (f:List UInt8) :
  hostU sch l hq q hf f = ⟨sch,preSS l,if preSS l then smallU (cutH (l.drop 2)).1 else [],if preSS l then (cutH (l.drop 2)).2 else l,hq,q,hf,f⟩:=by
 unfold hostU
 cases preSS l <;> rfl
theorem rix (l:List UInt8) (d:UInt8) (W:World):Calls Tryz.prog 86 #[.string (bar l),.string ⟨#[d]⟩] W fun e w'=>e = .returned (.int .i64 (whereB d l))∧w' = W:=by
 have:=Tryz.strings_Index_one (bar l) d W
 rw [bar_l,indexByte_where] at this
 exact this
theorem bar_end (l:List UInt8):bar l ++ ⟨#[47]⟩ = bar (l ++ [47]):=by
 apply ba_inj
 rw [data_app,bar_l,bar_l]
theorem cutH_le (l:List UInt8):(cutH l).1.length≤l.length∧(cutH l).2.length≤l.length:=by
 have:=congrArg List.length (cutH_app l)
 rw [List.length_append] at this
 omega
theorem cutH_take (l:List UInt8):l.take (cutH l).1.length = (cutH l).1:=by
 have:=congrArg (List.take (cutH l).1.length) (cutH_app l)
 rw [← this];simp
theorem rread_any (s:ByteArray) (hs:s.size≤maxLen) (w:World) (hM:MaxAt w) :
  Calls Tryz.prog 53 #[.string s] w fun e w'=>UPost w (parseU s.data.toList) e w':=by
 by_cases hl:120 < s.size
 ·refine (rread_long s hs hl w).mono ?_
  rintro e w' ⟨rfl,hb⟩
  refine ⟨?_,hb⟩
  unfold parseU
  rw [if_pos (by rw [← Lib.size_eq];exact hl)]
  rfl
 ·have hl':s.size≤120:=by omega
  obtain ⟨l,hl0⟩:∃ l,l = s.data.toList:=⟨_,rfl⟩
  have hsl:s = bar l:=by rw [hl0];rfl
  rw [← hl0]
  subst hsl
  clear hl0
  have hll:l.length≤120:=by rw [← bar_size];exact hl'
  unfold parseU
  rw [if_neg (by omega)]
  obtain ⟨a1,a2⟩:=cutO_len 35 l
  have X1:=cutAt_of 35 l
  have I1:=rix l 35
  generalize (cutO 35 l).2.2 = F1 at *
  generalize (cutO 35 l).2.1 = R1 at *
  generalize (cutO 35 l).1 = A1 at *
  generalize whereB 35 l = k1 at *
  obtain ⟨b1,b2⟩:=cutO_len 63 A1
  have X2:=cutAt_of 63 A1
  have I2:=rix A1 63
  generalize (cutO 63 A1).2.2 = F2 at *
  generalize (cutO 63 A1).2.1 = R2 at *
  generalize (cutO 63 A1).1 = A2 at *
  generalize whereB 63 A1 = k2 at *
  have I3:=rix (A2 ++ [47]) 47
  rw [where_end,← bar_end] at I3
  have I4:=rix (cutH A2).1 58
  have hc:=cutC_of A2
  have hA2:=cutH_le A2
  have key:∀ (Xl SCl:List UInt8) (F3 okS:Bool) (RV:Value) (RN:Nat),Xl.length≤120→SCl.length≤120 →
    ((F3 = false∧whereB 58 (cutH A2).1 = -1∧bar Xl = bar A2∧bar SCl = E0) ∨ (F3 = true∧∃ m:Nat,whereB 58 (cutH A2).1 = (m:Int)∧m < (bar A2).size∧(bar A2).extract (m + 1) (bar A2).size = bar Xl ∧
     (∀ W,Calls Tryz.prog 100 #[.string ((bar A2).extract 0 m)] W fun e w'=>e = .returned (.string (bar SCl))∧Below W.heap.size W w')∧(okS = false→(bar SCl).data.toList = [] ∨ ((bar SCl).data.toList ≠ []∧∀ W,Calls Tryz.prog 101 #[.string (bar SCl)] W fun e w'=>e = .returned (.bool false)∧Below W.heap.size W w')) ∧
     (okS = true→(bar SCl).data.toList ≠ []∧∀ W,Calls Tryz.prog 101 #[.string (bar SCl)] W fun e w'=>e = .returned (.bool true)∧Below W.heap.size W w'))) →
    (F3 = true→okS = false→RV = zeroU∧RN = 1) →
    ((F3 = false ∨ okS = true)→RN = checkU (hostU SCl Xl F2 R2 F1 R1)∧RV = if checkU (hostU SCl Xl F2 R2 F1 R1) = 0 then (ofL (hostU SCl Xl F2 R2 F1 R1)).v else zeroU) →
    Calls Tryz.prog 53 #[.string (bar l)] w fun e w'=>e = .returned (.tuple #[RV,.int .i64 (RN:Int)])∧Below w.heap.size w w':=by
   intro Xl SCl F3 okS RV RN hX hSC h3 hB hG
   have hH:=cutH_le (Xl.drop 2)
   have hd:(Xl.drop 2).length≤120:=by rw [List.length_drop];omega
   refine rread_walk (bar l) (bar A1) (bar R1) (bar A2) (bar R2) (bar (cutH A2).1) (bar Xl) (bar SCl) (bar (if preSS Xl then (cutH (Xl.drop 2)).2 else Xl)) (bar (cutH (Xl.drop 2)).1) (bar (if preSS Xl then smallU (cutH (Xl.drop 2)).1 else [])) F1 F2 F3 okS (preSS Xl) k1 k2 (whereB 58 (cutH A2).1) (cutH A2).1.length (cutH (Xl.drop 2)).1.length (checkU (hostU SCl Xl F2 R2 F1 R1)) RV RN w hl' (by rw [bar_size];omega) (by rw [bar_size];omega) (by rw [bar_size];omega) (by rw [ext_take,cutH_take]) X1 X2 (hostAt_of Xl) (by rw [bar_size];omega) h3 hB ?_ I1 I2 I3 I4 ?_ ?_ ?_
   ·intro h
    obtain ⟨g1,g2⟩:=hG h
    refine ⟨g1,?_⟩
    rw [g2,hostU_eq]
    rfl
   ·intro hp W
    have:=rix (Xl.drop 2 ++ [47]) 47 W
    rw [where_end,← bar_end,← ext_drop] at this
    exact this
   ·intro hp W
    rw [hp,if_pos rfl]
    exact rsm_any (bar (cutH (Xl.drop 2)).1) W (by rw [bar_size];omega)
   ·intro W hW
    rw [hostU_eq]
    refine rchk_any (ofL ⟨SCl,preSS Xl,if preSS Xl then smallU (cutH (Xl.drop 2)).1 else [],if preSS Xl then (cutH (Xl.drop 2)).2 else Xl,F2,R2,F1,R1⟩) (short_of _ ?_ ?_ ?_ ?_ ?_) W (hM.below hW)
    ·show (bar SCl).size≤120;rw [bar_size];exact hSC
    ·show (bar (if preSS Xl then smallU (cutH (Xl.drop 2)).1 else [])).size≤120
     rw [bar_size]
     split
     ·rw [smallU_length];omega
     ·simp
    ·show (bar (if preSS Xl then (cutH (Xl.drop 2)).2 else Xl)).size≤120
     rw [bar_size]
     split <;> omega
    ·show (bar R2).size≤120;rw [bar_size];omega
    ·show (bar R1).size≤120;rw [bar_size];omega
  unfold parseA
  cases hC:cutC A2 with
  | none =>
   rw [hC] at hc
   refine (key A2 [] false true _ _ (by omega) (by simp) (Or.inl ⟨rfl,hc,rfl,rfl⟩) (fun h=>by cases h) (fun _=>⟨rfl,rfl⟩)).mono ?_
   rintro e w' h
   exact upost_end (ofL (hostU [] A2 F2 R2 F1 R1)) h
  | some x =>
   rw [hC] at hc
   obtain ⟨i1,i2⟩:=hc
   have hxl:=congrArg List.length i2
   rw [List.length_append,List.length_cons] at hxl
   have hsm:(smallU x.1).length = x.1.length:=smallU_length _
   have mid:∀ okS,schemeS (smallU x.1) = okS→_:=fun okS hok=>key x.2 (smallU x.1) true okS (if okS then (if checkU (hostU (smallU x.1) x.2 F2 R2 F1 R1) = 0 then (ofL (hostU (smallU x.1) x.2 F2 R2 F1 R1)).v else zeroU) else zeroU) (if okS then checkU (hostU (smallU x.1) x.2 F2 R2 F1 R1) else 1) (by omega) (by omega)
    (Or.inr ⟨rfl,x.1.length,i1,by rw [bar_size];omega,by rw [ext_drop,i2];simp,fun W=>by
     rw [ext_take,i2,show (x.1 ++ 58::x.2).take x.1.length = x.1 from by simp]
     exact rsm_any (bar x.1) W (by rw [bar_size];omega),fun h=>by
     subst h
     by_cases he:(bar (smallU x.1)).data.toList = []
     ·exact Or.inl he
     ·refine Or.inr ⟨he,fun W=>?_⟩
      have:=rscheme_any (bar (smallU x.1)) W (by rw [bar_size];omega)
      rw [isE_no _ he,Bool.false_or,bar_l,hok] at this
      exact this,fun h=>by
     subst h
     have he:(bar (smallU x.1)).data.toList ≠ []:=by
      rw [bar_l]
      intro h0
      rw [h0] at hok
      cases hok
     refine ⟨he,fun W=>?_⟩
     have:=rscheme_any (bar (smallU x.1)) W (by rw [bar_size];omega)
     rw [isE_no _ he,Bool.false_or,bar_l,hok] at this
     exact this⟩) (fun _ h=>by subst h;exact ⟨rfl,rfl⟩) (fun h=>by
     rcases h with h | h
     ·cases h
     ·subst h;exact ⟨rfl,rfl⟩)
   cases hok:schemeS (smallU x.1) with
   | false =>
    refine (mid false hok).mono ?_
    rintro e w' ⟨rfl,hb⟩
    show UPost w (if schemeS (smallU x.1) = false then (noUL,1) else checkedU (hostU (smallU x.1) x.2 F2 R2 F1 R1)) _ w'
    rw [if_pos hok]
    exact ⟨rfl,hb⟩
   | true =>
    refine (mid true hok).mono ?_
    rintro e w' h
    show UPost w (if schemeS (smallU x.1) = false then (noUL,1) else checkedU (hostU (smallU x.1) x.2 F2 R2 F1 R1)) e w'
    rw [if_neg (by rw [hok];simp)]
    exact upost_end (ofL (hostU (smallU x.1) x.2 F2 R2 F1 R1)) h
end Go.Proofs.YtbbfcbodhmeanaaGreatDoor



namespace Go.Proofs.YtbbfcbodhmeanaaGreatDoor
open Go.RowKit
set_option maxHeartbeats 4000000 in
set_option maxRecDepth 100000 in
theorem rledt_walk (w:World) (a b bs bh bp bq bf us uh up uq uf xs xh xp xq xf S:ByteArray) (bhh bhq bhf uhh uhq uhf xhh xhq xhf:Bool) (e1 e2 e3:Nat)
  (CP:Hid (∀ W,Below w.heap.size w W→Calls Tryz.prog 53 #[.string a] W fun e w'=>e = .returned (.tuple #[.agg #[.string bs,.bool bhh,.string bh,.string bp,.bool bhq,.string bq,.bool bhf,.string bf],.int .i64 (e1:Int)])∧Below W.heap.size W w'))
  (CQ:Hid (∀ W,Below w.heap.size w W→Calls Tryz.prog 53 #[.string b] W fun e w'=>e = .returned (.tuple #[.agg #[.string us,.bool uhh,.string uh,.string up,.bool uhq,.string uq,.bool uhf,.string uf],.int .i64 (e2:Int)])∧Below W.heap.size W w'))
  (CL:Hid (∀ W,Below w.heap.size w W→Calls Tryz.prog 54 #[.agg #[.string bs,.bool bhh,.string bh,.string bp,.bool bhq,.string bq,.bool bhf,.string bf],.agg #[.string us,.bool uhh,.string uh,.string up,.bool uhq,.string uq,.bool uhf,.string uf]] W fun e w'=>e = .returned (.tuple #[.agg #[.string xs,.bool xhh,.string xh,.string xp,.bool xhq,.string xq,.bool xhf,.string xf],.int .i64 (e3:Int)])∧Below W.heap.size W w'))
  (CR:Hid (e3 = 0→∀ W,Calls Tryz.prog 55 #[.agg #[.string xs,.bool xhh,.string xh,.string xp,.bool xhq,.string xq,.bool xhf,.string xf]] W fun e w'=>e = .returned (.string S)∧Below W.heap.size W w')) :
  Calls Tryz.prog 13 #[.string a,.string b] w fun e w'=>e = .returned (.string (if e1 ≠ 0 then ⟨#[]⟩ else if e2 ≠ 0 then ⟨#[]⟩ else if e3 ≠ 0 then ⟨#[]⟩ else S))∧Below w.heap.size w w':=by
 obtain ⟨R,hR⟩:∃ R,(if e1 ≠ 0 then ⟨#[]⟩ else if e2 ≠ 0 then ⟨#[]⟩ else if e3 ≠ 0 then ⟨#[]⟩ else S) = R:=⟨_,rfl⟩
 rw [hR]
 have HR:Hid ((if e1 ≠ 0 then ⟨#[]⟩ else if e2 ≠ 0 then ⟨#[]⟩ else if e3 ≠ 0 then ⟨#[]⟩ else S) = R):=hR
 clear hR
 go_enter Tryz.func13,Tryz.ntmps13
 go_wp2_with fail
 refine (CP.out _ (Below.refl _ _)).mono ?_
 rintro e W1 ⟨rfl,hb1⟩
 clear CP
 go_wp2_with fail
 obtain ⟨V1,hV1⟩:∃ W,W = W1.alloc (.cells #[.string bs,.bool bhh,.string bh,.string bp,.bool bhq,.string bq,.bool bhf,.string bf] 85):=⟨_,rfl⟩
 have k1:V1.heap[W1.heap.size]? = some (.cells #[.string bs,.bool bhh,.string bh,.string bp,.bool bhq,.string bq,.bool bhf,.string bf] 85):=by rw [hV1];exact blk_new W1 _
 have hv1:Below w.heap.size w V1:=by rw [hV1];exact hb1.alloc hb1.size _
 rw [← hV1]
 obtain ⟨q1,hq1⟩:∃ k,W1.heap.size = k:=⟨_,rfl⟩
 rw [hq1] at k1 ⊢
 clear hV1 hb1 hq1
 refine (CQ.out _ hv1).mono ?_
 rintro e W2 ⟨rfl,hb2⟩
 clear CQ
 have k2:=blk_on k1 hb2
 have hw2:Below w.heap.size w W2:=hv1.trans (hb2.mono hv1.size)
 have hlt:q1 < W2.heap.size:=(Array.getElem?_eq_some_iff.1 k2).1
 clear hb2 k1 hv1
 go_upto_region 3 with fail
 obtain ⟨V2,hV2⟩:∃ W,W = W2.alloc (.cells #[.string us,.bool uhh,.string uh,.string up,.bool uhq,.string uq,.bool uhf,.string uf] 85):=⟨_,rfl⟩
 have m2:V2.heap[W2.heap.size]? = some (.cells #[.string us,.bool uhh,.string uh,.string up,.bool uhq,.string uq,.bool uhf,.string uf] 85):=by rw [hV2];exact blk_new W2 _
 have k3:V2.heap[q1]? = some (.cells #[.string bs,.bool bhh,.string bh,.string bp,.bool bhq,.string bq,.bool bhf,.string bf] 85):=by rw [hV2,Below.heap_alloc _ _ _ hlt];exact k2
 have hv2:Below w.heap.size w V2:=by rw [hV2];exact hw2.alloc hw2.size _
 rw [← hV2]
 obtain ⟨q2,hq2⟩:∃ k,W2.heap.size = k:=⟨_,rfl⟩
 rw [hq2] at m2 ⊢
 clear hV2 hw2 hq2 k2 hlt
 by_cases h1:e1 = 0
 ·subst h1
  by_cases h2:e2 = 0
  ·subst h2
   have HR2:Hid ((if e3 ≠ 0 then ⟨#[]⟩ else S) = R):=HR.out
   clear HR
   have B0:V2.cell? ⟨q1,0,none⟩ = some (.string bs):=(blk_c k3 0).trans rfl
   have B1:V2.cell? ⟨q1,1,none⟩ = some (.bool bhh):=(blk_c k3 1).trans rfl
   have B2:V2.cell? ⟨q1,2,none⟩ = some (.string bh):=(blk_c k3 2).trans rfl
   have B3:V2.cell? ⟨q1,3,none⟩ = some (.string bp):=(blk_c k3 3).trans rfl
   have B4:V2.cell? ⟨q1,4,none⟩ = some (.bool bhq):=(blk_c k3 4).trans rfl
   have B5:V2.cell? ⟨q1,5,none⟩ = some (.string bq):=(blk_c k3 5).trans rfl
   have B6:V2.cell? ⟨q1,6,none⟩ = some (.bool bhf):=(blk_c k3 6).trans rfl
   have B7:V2.cell? ⟨q1,7,none⟩ = some (.string bf):=(blk_c k3 7).trans rfl
   have U0:V2.cell? ⟨q2,0,none⟩ = some (.string us):=(blk_c m2 0).trans rfl
   have U1:V2.cell? ⟨q2,1,none⟩ = some (.bool uhh):=(blk_c m2 1).trans rfl
   have U2:V2.cell? ⟨q2,2,none⟩ = some (.string uh):=(blk_c m2 2).trans rfl
   have U3:V2.cell? ⟨q2,3,none⟩ = some (.string up):=(blk_c m2 3).trans rfl
   have U4:V2.cell? ⟨q2,4,none⟩ = some (.bool uhq):=(blk_c m2 4).trans rfl
   have U5:V2.cell? ⟨q2,5,none⟩ = some (.string uq):=(blk_c m2 5).trans rfl
   have U6:V2.cell? ⟨q2,6,none⟩ = some (.bool uhf):=(blk_c m2 6).trans rfl
   have U7:V2.cell? ⟨q2,7,none⟩ = some (.string uf):=(blk_c m2 7).trans rfl
   clear k3 m2
   go_wp2_with fail
   refine (CL.out _ hv2).mono ?_
   rintro e W3 ⟨rfl,hb3⟩
   have hw3:Below w.heap.size w W3:=hv2.trans (hb3.mono hv2.size)
   clear CL hb3 hv2 B0 B1 B2 B3 B4 B5 B6 B7 U0 U1 U2 U3 U4 U5 U6 U7
   by_cases h3:e3 = 0
   ·subst h3
    have HR3:Hid (S = R):=HR2.out
    clear HR2
    go_upto_region 8 with fail
    obtain ⟨V3,hV3⟩:∃ W,W = W3.alloc (.cells #[.string xs,.bool xhh,.string xh,.string xp,.bool xhq,.string xq,.bool xhf,.string xf] 85):=⟨_,rfl⟩
    have m3:V3.heap[W3.heap.size]? = some (.cells #[.string xs,.bool xhh,.string xh,.string xp,.bool xhq,.string xq,.bool xhf,.string xf] 85):=by rw [hV3];exact blk_new W3 _
    have hv3:Below w.heap.size w V3:=by rw [hV3];exact hw3.alloc hw3.size _
    rw [← hV3]
    clear hV3
    obtain ⟨q3,hq3⟩:∃ k,W3.heap.size = k:=⟨_,rfl⟩
    rw [hq3] at m3 ⊢
    clear hq3 hw3
    have X0:V3.cell? ⟨q3,0,none⟩ = some (.string xs):=(blk_c m3 0).trans rfl
    have X1:V3.cell? ⟨q3,1,none⟩ = some (.bool xhh):=(blk_c m3 1).trans rfl
    have X2:V3.cell? ⟨q3,2,none⟩ = some (.string xh):=(blk_c m3 2).trans rfl
    have X3:V3.cell? ⟨q3,3,none⟩ = some (.string xp):=(blk_c m3 3).trans rfl
    have X4:V3.cell? ⟨q3,4,none⟩ = some (.bool xhq):=(blk_c m3 4).trans rfl
    have X5:V3.cell? ⟨q3,5,none⟩ = some (.string xq):=(blk_c m3 5).trans rfl
    have X6:V3.cell? ⟨q3,6,none⟩ = some (.bool xhf):=(blk_c m3 6).trans rfl
    have X7:V3.cell? ⟨q3,7,none⟩ = some (.string xf):=(blk_c m3 7).trans rfl
    clear m3
    go_wp2_with fail
    refine (CR.out (by first | rfl | trivial) _).mono ?_
    rintro e W4 ⟨rfl,hb4⟩
    have HB:Hid (Below w.heap.size w W4):=hv3.trans (hb4.mono hv3.size)
    clear hb4 hv3 X0 X1 X2 X3 X4 X5 X6 X7 CR
    go_wp2_with fail
    go_ret
    exact ⟨by rw [← HR3.out];rfl,HB.out⟩
   ·have h3':((e3:Int) != 0) = true:=by rw [bne_iff_ne];omega
    have HRE:Hid (⟨#[]⟩ = R):=by unfold Hid;have h:=HR2.out;rw [if_pos h3] at h;exact h
    have HB:Hid (Below w.heap.size w (W3.alloc (.cells #[.string xs,.bool xhh,.string xh,.string xp,.bool xhq,.string xq,.bool xhf,.string xf] 85))):=hw3.alloc hw3.size _
    clear HR2 CR hw3
    go_wp2_with fail
    go_ret
    exact ⟨by rw [← HRE.out];rfl,HB.out⟩
  ·have h2':((e2:Int) != 0) = true:=by rw [bne_iff_ne];omega
   have HRE:Hid (⟨#[]⟩ = R):=by unfold Hid;have h:=HR.out;rw [if_neg (by simp),if_pos h2] at h;exact h
   have HB:Hid (Below w.heap.size w V2):=hv2
   clear HR CR hv2 k3 m2
   go_wp2_with fail
   go_ret
   exact ⟨by rw [← HRE.out];rfl,HB.out⟩
 ·have h1':((e1:Int) != 0) = true:=by rw [bne_iff_ne];omega
  have HRE:Hid (⟨#[]⟩ = R):=by unfold Hid;have h:=HR.out;rw [if_pos h1] at h;exact h
  have HB:Hid (Below w.heap.size w V2):=hv2
  clear HR CR hv2 k3 m2
  go_wp2_with fail
  go_ret
  exact ⟨by rw [← HRE.out];rfl,HB.out⟩
theorem rledt_any (a b:ByteArray) (ha:a.size≤maxLen) (hb:b.size≤maxLen) (w:World) (hM:MaxAt w) :
  Calls Tryz.prog 13 #[.string a,.string b] w fun e w'=>e = .returned (.string (bar (ledU a.data.toList b.data.toList)))∧Below w.heap.size w w':=by
 have CP:=fun W (hW:Below w.heap.size w W)=>rread_any a ha W (hM.below hW)
 have CQ:=fun W (hW:Below w.heap.size w W)=>rread_any b hb W (hM.below hW)
 have hs1:=parseU_short a.data.toList
 have hs2:=parseU_short b.data.toList
 have CL:=fun W (hW:Below w.heap.size w W)=>rled_any (ofL (parseU a.data.toList).1) (ofL (parseU b.data.toList).1) hs1 hs2 W (hM.below hW)
 simp only [ofL_l] at CL
 unfold ledU
 generalize parseU a.data.toList = P at *
 generalize parseU b.data.toList = Q at *
 have hck:(leadU P.1 Q.1).2 = 0→checkU (leadU P.1 Q.1).1 = 0:=fun h=>(lead_keeps h).1
 generalize leadU P.1 Q.1 = L at *
 have CR:L.2 = 0→∀ W,Calls Tryz.prog 55 #[(ofL L.1).v] W fun e w'=>e = .returned (.string (bar (textU L.1)))∧Below W.heap.size W w':=fun h W =>
  rtext_any (ofL L.1) (checkU_short (u:=ofL L.1) (by rw [ofL_l];exact hck h)) (bar (textU L.1)) (by rw [ofL_l];rfl) W
 refine (rledt_walk w a b _ _ _ _ _ _ _ _ _ _ _ _ _ _ _ (bar (textU L.1)) _ _ _ _ _ _ _ _ _ P.2 Q.2 L.2 CP CQ CL CR).mono ?_
 rintro e w' ⟨rfl,hb'⟩
 refine ⟨?_,hb'⟩
 congr 2
 by_cases h1:P.2 ≠ 0
 ·rw [if_pos h1,if_pos h1];rfl
 ·rw [if_neg h1,if_neg h1]
  by_cases h2:Q.2 ≠ 0
  ·rw [if_pos h2,if_pos h2];rfl
  ·rw [if_neg h2,if_neg h2]
   by_cases h3:L.2 ≠ 0
   ·rw [if_pos h3,if_pos h3];rfl
   ·rw [if_neg h3,if_neg h3]
    have h4:=hck (by simpa using h3)
    unfold printU
    rw [if_pos h4]
end Go.Proofs.YtbbfcbodhmeanaaGreatDoor



namespace Go.Proofs.YtbbfcbodhmeanaaGreatDoor
open Go.RowKit
theorem six_all (a b c:Int) (s t:ByteArray) (d:Int):(#[Value.int .i64 a,.int .i64 b,.int .i64 c,.string s,.string t,.int .i64 d]:Array Value).all (·.oneCell') = true :=
 all_oneCell_toArray (cs:=[Value.int .i64 a,.int .i64 b,.int .i64 c,.string s,.string t,.int .i64 d]) (by
  intro u hu
  simp at hu
  rcases hu with rfl | rfl | rfl | rfl | rfl | rfl <;> rfl)
theorem there_goal {W:World} {G t:Nat} {a b c d e f:Value} (h:W.heap[G]? = some (.cells #[a,b,c,d,e,f] t)):W.there G 0 6:=by
 intro j hj
 refine ⟨?_,blk_f h _⟩
 rw [blk_c h (0 + j)]
 have:j = 0 ∨ j = 1 ∨ j = 2 ∨ j = 3 ∨ j = 4 ∨ j = 5:=by omega
 rcases this with rfl | rfl | rfl | rfl | rfl | rfl <;> rfl
theorem below_six {w W:World} (h:Below w.heap.size w W) (x0 x1 x2 x3 x4 x5:Value):Below w.heap.size w (W.setCells w.heap.size 0 [x0,x1,x2,x3,x4,x5]):=(Below.setCell (p:=⟨_,5,none⟩) (Below.setCell (p:=⟨_,4,none⟩) (Below.setCell (p:=⟨_,3,none⟩) (Below.setCell (p:=⟨_,2,none⟩) (Below.setCell (p:=⟨_,1,none⟩) (Below.setCell (p:=⟨_,0,none⟩) h (Nat.le_refl _) _) (Nat.le_refl _) _) (Nat.le_refl _) _) (Nat.le_refl _) _) (Nat.le_refl _) _) (Nat.le_refl _) _)
theorem zalloc_below (w:World) (o:Obj):Below w.heap.size w (w.alloc o).drew:=((Below.refl _ w).alloc (Nat.le_refl _) _).drew
theorem zalloc_blk (w:World) (o:Obj):(w.alloc o).drew.heap[w.heap.size]? = some o:=blk_new w o
theorem goal_fill {W:World} {G t:Nat} {a b c d e f:Value} (h:W.heap[G]? = some (.cells #[a,b,c,d,e,f] t)) (x0 x1 x2 x3 x4 x5:Value):(W.setCells G 0 [x0,x1,x2,x3,x4,x5]).heap[G]? = some (.cells #[x0,x1,x2,x3,x4,x5] t):=by
 have s:∀ (V:World) (k:Nat) (c:Array Value) (x:Value),V.heap[G]? = some (.cells c t)→(V.setCell ⟨G,k,none⟩ x).heap[G]? = some (.cells (c.setIfInBounds k x) t):=by
  intro V k c x hV
  show (V.heap.modify G _)[G]? = _
  rw [Array.getElem?_modify,if_pos rfl,hV]
  rfl
 exact s _ 5 _ x5 (s _ 4 _ x4 (s _ 3 _ x3 (s _ 2 _ x2 (s _ 1 _ x1 (s _ 0 _ x0 h)))))
set_option maxRecDepth 1000000 in
set_option maxHeartbeats 4000000 in
theorem lgR17 (w:World) (hM:∀ W,Below w.heap.size w W→MaxAt W) (Z k:Nat) (F0 T0:Int) (TX:ByteArray) (FR:List UInt8) (hFR:FR.length≤maxLen) (hTX:TX.size≤maxLen) (hZ:w.heap[Z]? = some (.cells #[.int .i64 F0,.int .i64 T0,.string TX] 40)) (c0 c1 c2 c3 c4 c5 c6 c7 c9 c10 c11 c13 c15 c16 c17 c18 c19 c20 c21 c22 c23 c24 c25 c26 c27 c28 c29 c30 c31 c32 c33 c34 c35 c36 c37 c38 c39 c40 c41 c42 c43 c44 c45 c46 c47 c48 c49 c50 c51 c52 c53 c54 c55 c56 c57 c58 c59 c60 c61 c62 c63 c64 c65 c66 c67 c68 c69 c70 c71 c72 c73 c74 c75 c76 c77 c78 c79 c80 c81 c82 c83 c84 c85 c86 c87 c88 c89 c90 c91 c92 c93 c94 c95 c96 c97 c98 c99 c100 c101 c102 c103 c104 c105 c106 c107 c108 c109 c110 c111 c112 c113 c114 c115 c116 c117 c118 c119 c120 c121 c122 c123 c124 c125 c126 c127 c128 c129 c130:Value) (Q:Exit→Act→World→Prop)
  (hexit:∀ u54 u55 u56 u57 u58 u59 u60:Value,∀ (G:Nat) (w':World),Below w.heap.size w w'→w.heap.size≤G→w'.heap[G]? = some (.cells #[.int .i64 (k:Int),.int .i64 F0,.int .i64 T0,.string TX,.string (tx8 (ledU FR TX.data.toList)),.int .i64 (-1)] 42)→Q .normal ⟨(c0::c1::c2::c3::c4::c5::c6::c7::.int .i64 (k:Int)::c9::c10::c11::.string (tx8 FR)::c13::.pointer (some ⟨Z,0,none⟩)::.pointer (some ⟨G,0,none⟩)::c16::c17::c18::c19::c20::c21::c22::c23::c24::c25::c26::c27::c28::c29::c30::c31::c32::c33::c34::c35::c36::c37::c38::c39::c40::c41::c42::c43::c44::c45::c46::c47::c48::c49::c50::c51::c52::c53::u54::u55::u56::u57::u58::u59::u60::c61::c62::c63::c64::c65::c66::c67::c68::c69::c70::c71::c72::c73::c74::c75::c76::c77::c78::c79::c80::c81::c82::c83::c84::c85::c86::c87::c88::c89::c90::c91::c92::c93::c94::c95::c96::c97::c98::c99::c100::c101::c102::c103::c104::c105::c106::c107::c108::c109::c110::c111::c112::c113::c114::c115::c116::c117::c118::c119::c120::c121::c122::c123::c124::c125::c126::c127::c128::c129::c130::[]).toArray,[]⟩ w') :
  Code.wp Tryz.prog (regAt Tryz.f14 17) Q ⟨(c0::c1::c2::c3::c4::c5::c6::c7::.int .i64 (k:Int)::c9::c10::c11::.string (tx8 FR)::c13::.pointer (some ⟨Z,0,none⟩)::c15::c16::c17::c18::c19::c20::c21::c22::c23::c24::c25::c26::c27::c28::c29::c30::c31::c32::c33::c34::c35::c36::c37::c38::c39::c40::c41::c42::c43::c44::c45::c46::c47::c48::c49::c50::c51::c52::c53::c54::c55::c56::c57::c58::c59::c60::c61::c62::c63::c64::c65::c66::c67::c68::c69::c70::c71::c72::c73::c74::c75::c76::c77::c78::c79::c80::c81::c82::c83::c84::c85::c86::c87::c88::c89::c90::c91::c92::c93::c94::c95::c96::c97::c98::c99::c100::c101::c102::c103::c104::c105::c106::c107::c108::c109::c110::c111::c112::c113::c114::c115::c116::c117::c118::c119::c120::c121::c122::c123::c124::c125::c126::c127::c128::c129::c130::[]).toArray,[]⟩ w:=by
 have HX:Hid _:=hexit
 clear hexit
 conv=>arg 2;whnf
 have CL:Hid (∀ W,Below w.heap.size w W→Calls Tryz.prog 13 #[.string (tx8 FR),.string TX] W fun e w'=>e = .returned (.string (tx8 (ledU FR TX.data.toList)))∧Below w.heap.size w w'):=fun W hW=>(rledt_any (tx8 FR) TX (by rw [tx8_size];omega) hTX W (hM W hW)).mono fun e w' h=>⟨h.1,hW.trans (h.2.mono hW.size)⟩
 have e0:∀ w',Below w.heap.size w w'→w'.cell? ⟨Z,0,none⟩ = some (.int .i64 F0):=fun w' hb=>(blk_c (blk_on hZ hb) 0).trans rfl
 have e1:∀ w',Below w.heap.size w w'→w'.cell? ⟨Z,1,none⟩ = some (.int .i64 T0):=fun w' hb=>(blk_c (blk_on hZ hb) 1).trans rfl
 have e2:∀ w',Below w.heap.size w w'→w'.cell? ⟨Z,2,none⟩ = some (.string TX):=fun w' hb=>(blk_c (blk_on hZ hb) 2).trans rfl
 have hb0:Below w.heap.size w w.drew:=(Below.refl _ _).drew
 have CZ0:∀ W,Below w.heap.size w W→W.heap[w.heap.size]? = some (.cells #[.int .i64 0,.int .i64 0,.int .i64 0,.string ⟨#[]⟩,.string ⟨#[]⟩,.int .i64 0] 42)→Calls Tryz.prog 13 #[.string (tx8 FR),.string TX] W fun e w'=>e = .returned (.string (tx8 (ledU FR TX.data.toList)))∧Below w.heap.size w w'∧w'.heap[w.heap.size]? = some (.cells #[.int .i64 0,.int .i64 0,.int .i64 0,.string ⟨#[]⟩,.string ⟨#[]⟩,.int .i64 0] 42):=fun W hW hz=>(rledt_any (tx8 FR) TX (by rw [tx8_size];omega) hTX W (hM W hW)).mono fun e w' h=>⟨h.1,hW.trans (h.2.mono hW.size),blk_on hz h.2⟩
 generalize tx8 (ledU FR TX.data.toList) = LE at *
 generalize tx8 FR = F at *
 clear hFR hTX hZ
 have CZ:Hid (∀ W,Below w.heap.size w W→W.heap[w.heap.size]? = some (.cells #[.int .i64 0,.int .i64 0,.int .i64 0,.string ⟨#[]⟩,.string ⟨#[]⟩,.int .i64 0] 42)→Calls Tryz.prog 13 #[.string F,.string TX] W fun e w'=>e = .returned (.string LE)∧Below w.heap.size w w'∧w'.heap[w.heap.size]? = some (.cells #[.int .i64 0,.int .i64 0,.int .i64 0,.string ⟨#[]⟩,.string ⟨#[]⟩,.int .i64 0] 42)):=CZ0
 clear CZ0
 refine wp_region_noPanic ?_
 refine wp_region_held_drew (S:=fun W=>Below w.heap.size w W) (by kernel_rfl) hb0 (fun hHeld=>?_)
 refine wpAnyH_take (i:=0) (oi:={ dst:=some 54,op:=Op.move (.tmp 8),type:=_,pos:=_,after:=_,guard:=_ }) (v:=.int .i64 (k:Int)) rfl (by kernel_rfl) (by kernel_rfl) (by kernel_rfl) (fun _ _ _ h=>h) (Or.inl ⟨by rfl,?_⟩) (by assumption) ?_
 ·intro W hSW
  try dsimp only at hSW
  go_simp
 try simp only [Act.put,List.setIfInBounds_toArray,List.set_cons_zero,List.set_cons_succ]
 refine wpAnyH_take (i:=1) (oi:={ dst:=some 55,op:=Op.load 40 (.tmp 14),type:=_,pos:=_,after:=_,guard:=_ }) (v:=.agg #[.int .i64 F0,.int .i64 T0,.string TX]) rfl (by kernel_rfl) (by kernel_rfl) (by kernel_rfl) (fun _ _ _ h=>h) (Or.inl ⟨by rfl,?_⟩) (by assumption) ?_
 ·intro W hSW
  try dsimp only at hSW
  go_simp
 try simp only [Act.put,List.setIfInBounds_toArray,List.set_cons_zero,List.set_cons_succ]
 refine wpAnyH_take (i:=2) (oi:={ dst:=some 56,op:=Op.move (.tmp 12),type:=_,pos:=_,after:=_,guard:=_ }) (v:=.string F) rfl (by kernel_rfl) (by kernel_rfl) (by kernel_rfl) (fun _ _ _ h=>h) (Or.inl ⟨by rfl,?_⟩) (by assumption) ?_
 ·intro W hSW
  try dsimp only at hSW
  go_simp
 try simp only [Act.put,List.setIfInBounds_toArray,List.set_cons_zero,List.set_cons_succ]
 refine wpAnyH_take (i:=3) (oi:={ dst:=some 57,op:=Op.fieldAddr 40 (.tmp 14) 2,type:=_,pos:=_,after:=_,guard:=_ }) (v:=.pointer (some ⟨Z,2,none⟩)) rfl (by kernel_rfl) (by kernel_rfl) (by kernel_rfl) (fun _ _ _ h=>h) (Or.inl ⟨by rfl,?_⟩) (by assumption) ?_
 ·intro W hSW
  try dsimp only at hSW
  go_simp
 try simp only [Act.put,List.setIfInBounds_toArray,List.set_cons_zero,List.set_cons_succ]
 refine wpAnyH_take (i:=4) (oi:={ dst:=some 58,op:=Op.load 9 (.tmp 57),type:=_,pos:=_,after:=_,guard:=_ }) (v:=.string TX) rfl (by kernel_rfl) (by kernel_rfl) (by kernel_rfl) (fun _ _ _ h=>h) (Or.inl ⟨by rfl,?_⟩) (by assumption) ?_
 ·intro W hSW
  try dsimp only at hSW
  go_simp
 try simp only [Act.put,List.setIfInBounds_toArray,List.set_cons_zero,List.set_cons_succ]
 clear e0 e1 e2
 refine wpAnyH_ready (rs:=[5,7]) (by kernel_rfl) (by simp) ?_
 refine AllReadyH.cons (o:={ dst:=some 59,op:=Op.call _,type:=_,pos:=_,after:=_,guard:=_ }) rfl (fun K hK=>?_) (AllReadyH.cons (o:={ dst:=some 15,op:=Op.alloc 42,type:=_,pos:=_,after:=_,guard:=_ }) rfl (fun K hK=>?_) AllReadyH.nil)
 ·go_simp
  go_at_call 13
  refine (CL.out w.drew hb0).mono ?_
  rintro e w2 ⟨rfl,hb2⟩
  go_wp2_with fail
  refine hK.out _ _ hb2 (fun hHeld=>?_)
  clear hK K
  try simp only [Act.put,List.setIfInBounds_toArray,List.set_cons_zero,List.set_cons_succ]
  clear CL CZ hb0
  refine wpAnyH_take (i:=6) (oi:={ dst:=some 60,op:=Op.build 42 _,type:=_,pos:=_,after:=_,guard:=_ }) (v:=.agg #[.int .i64 (k:Int),.int .i64 F0,.int .i64 T0,.string TX,.string LE,.int .i64 (-1)]) rfl (by kernel_rfl) (by kernel_rfl) (by kernel_rfl) (fun _ _ _ h=>h) (Or.inl ⟨by rfl,?_⟩) (by assumption) ?_
  ·intro W hSW
   try dsimp only at hSW
   go_simp
  try simp only [Act.put,List.setIfInBounds_toArray,List.set_cons_zero,List.set_cons_succ]
  refine wpAnyH_ready (rs:=[7]) (by kernel_rfl) (by simp) (AllReadyH.cons (o:={ dst:=some 15,op:=Op.alloc 42,type:=_,pos:=_,after:=_,guard:=_ }) rfl (fun K hK=>?_) AllReadyH.nil)
  go_simp
  refine hK.out _ _ (Below.alloc hb2 (Below.size hb2) _) (fun hHeld=>?_)
  clear hK K
  try simp only [Act.put,List.setIfInBounds_toArray,List.set_cons_zero,List.set_cons_succ]
  refine wpAnyH_ready (rs:=[8]) (by kernel_rfl) (by simp) (AllReadyH.cons (o:={ dst:=none,op:=Op.store 42 (.tmp 15) (.tmp 60),type:=_,pos:=_,after:=_,guard:=_ }) rfl (fun K hK=>?_) AllReadyH.nil)
  go_simp
  refine hK.out _ _ (Below.alloc hb2 (Below.size hb2) _) (fun hHeld=>?_)
  clear hK K
  try simp only [Act.put,List.setIfInBounds_toArray,List.set_cons_zero,List.set_cons_succ]
  refine wpAnyH_done (by kernel_rfl) ?_ _
  refine NoPanic.normal ?_
  exact HX.out _ _ _ _ _ _ _ _ _ (Below.alloc hb2 (Below.size hb2) _) (Below.size hb2) (blk_new _ _)
 ·go_simp
  refine hK.out _ _ (zalloc_below w _) (fun hHeld=>?_)
  clear hK K
  try simp only [Act.put,List.setIfInBounds_toArray,List.set_cons_zero,List.set_cons_succ]
  refine wpAnyH_ready (rs:=[5]) (by kernel_rfl) (by simp) (AllReadyH.cons (o:={ dst:=some 59,op:=Op.call _,type:=_,pos:=_,after:=_,guard:=_ }) rfl (fun K hK=>?_) AllReadyH.nil)
  go_simp
  go_at_call 13
  refine (CZ.out _ (zalloc_below w _) (zalloc_blk w _)).mono ?_
  rintro e w2 ⟨rfl,hb2,hz2⟩
  have HZ2:Hid (w2.heap[w.heap.size]? = some (.cells #[.int .i64 0,.int .i64 0,.int .i64 0,.string ⟨#[]⟩,.string ⟨#[]⟩,.int .i64 0] 42)):=hz2
  clear hz2
  go_wp2_with fail
  refine hK.out _ _ hb2 (fun hHeld=>?_)
  clear hK K
  try simp only [Act.put,List.setIfInBounds_toArray,List.set_cons_zero,List.set_cons_succ]
  clear CL CZ hb0
  refine wpAnyH_take (i:=6) (oi:={ dst:=some 60,op:=Op.build 42 _,type:=_,pos:=_,after:=_,guard:=_ }) (v:=.agg #[.int .i64 (k:Int),.int .i64 F0,.int .i64 T0,.string TX,.string LE,.int .i64 (-1)]) rfl (by kernel_rfl) (by kernel_rfl) (by kernel_rfl) (fun _ _ _ h=>h) (Or.inl ⟨by rfl,?_⟩) (by assumption) ?_
  ·intro W hSW
   try dsimp only at hSW
   go_simp
  try simp only [Act.put,List.setIfInBounds_toArray,List.set_cons_zero,List.set_cons_succ]
  refine wpAnyH_ready (rs:=[8]) (by kernel_rfl) (by simp) (AllReadyH.cons (o:={ dst:=none,op:=Op.store 42 (.tmp 15) (.tmp 60),type:=_,pos:=_,after:=_,guard:=_ }) rfl (fun K hK=>?_) AllReadyH.nil)
  rw [if_pos (by rfl)]
  refine wp_store_mid _ _ _ rfl w.heap.size 0 #[.int .i64 (k:Int),.int .i64 F0,.int .i64 T0,.string TX,.string LE,.int .i64 (-1)] rfl rfl (there_goal HZ2.out) (by kernel_rfl) (six_all _ _ _ _ _ _) ?_
  refine hK.out _ _ (below_six hb2 _ _ _ _ _ _) (fun hHeld=>?_)
  clear hK K
  try simp only [Act.put]
  refine wpAnyH_done (by kernel_rfl) ?_ _
  refine NoPanic.normal ?_
  exact HX.out _ _ _ _ _ _ _ _ _ (below_six hb2 _ _ _ _ _ _) (Nat.le_refl _) (goal_fill HZ2.out _ _ _ _ _ _)
end Go.Proofs.YtbbfcbodhmeanaaGreatDoor



import Derived.Test.YtbbfcbodhmeanaaGreatDoorXbundlesays46
import Derived.Lib.LaidCase
import Derived.Lib.LaidU8T
import Derived.Lib.LaidTab
import Derived.LaidByTextLater
import Derived.HandedShaped
import Derived.Shelf.Vars
import Derived.Lay
import Derived.SevenTiedAt
import Derived.Stop.Joined
import Derived.ShutString
import Derived.ChangeOld
namespace Go.Proofs.YtbbfcbodhmeanaaGreatDoor
open Go.RowKit
def goO (r:Option (List GL)):List GL:=r.getD []
def erO (r:Option (List GL)):Int:=if r.isSome = true then 0 else 2
theorem goals_shape {w w':World} {r:Option (List GL)} {e:Ending} (h:RGoalsPost w r e w'):∃ q c,e = .returned (.tuple #[.slice q (goO r).length c,.int .i64 (erO r)])∧Below w.heap.size w w'∧G6 w' q (goO r).length (goO r):=by
 obtain ⟨hb,h⟩:=h
 cases r with
 | none=>exact ⟨none,0,h,hb,rfl,fun h=>absurd rfl h⟩
 | some l =>
  obtain ⟨v,rfl,ho⟩:=h
  obtain ⟨p,c,rfl,_,_,hk⟩:=owned_goals ho
  exact ⟨p,c,rfl,hb,hk⟩
theorem goals_same {w w':World} {p:PT} {e:Ending} (h:GoalsPost w (placesP p) e w') (hok:(placesP p).1 = 0):RGoalsPost w (goalsGo smallU (flatP 4 p) (whereR 4 p []) 0 (flatP 4 p) []) e w':=by
 refine ⟨h.1,?_⟩
 have h2:=h.2.2 hok
 rw [goals_ref p hok] at h2
 exact h2
theorem goals_few (low:List UInt8→List UInt8) (l:List PT) (wh:List (List UInt8)):∀ (r:List PT) (k:Nat) (acc L:List GL),goalsGo low l wh k r acc = some L→L.length≤acc.length + 60 * r.length
 | [],_,acc,L,h=>by
  rw [goalsGo,Option.some.injEq] at h
  rw [← h]
  simp
 | p::r,k,acc,L,h=>by
  rw [goalsGo] at h
  split at h
  ·cases hf:findP low p.body with
   | none=>rw [hf] at h;cases h
   | some ls =>
    rw [hf] at h
    have h1:=goals_few low l wh r (k + 1) _ L h
    have h2:=(find_ord low p.body ls hf).2.1
    rw [List.length_append,List.length_map] at h1
    rw [List.length_cons]
    omega
  ·have h1:=goals_few low l wh r (k + 1) _ L h
   rw [List.length_cons]
   omega
theorem goO_few (low:List UInt8→List UInt8) (l:List PT) (wh:List (List UInt8)) (hl:l.length≤12):(goO (goalsGo low l wh 0 l [])).length≤720:=by
 cases h:goalsGo low l wh 0 l [] with
 | none=>exact Nat.zero_le _
 | some L =>
  have:=goals_few low l wh l 0 [] L h
  show L.length≤720
  simp at this
  omega
set_option maxHeartbeats 8000000 in
set_option maxRecDepth 100000 in
theorem bsays_any (p:PT) (pb:Option Addr) (cb:Nat) (pk:Option Addr) (ck F:Nat) (s t:ByteArray) (hs:s.size≤maxLen) (ht:t.size≤maxLen) (w:World) (hE:LEnv w) (hH:PHeld w F p pb cb pk ck) :
  Calls Tryz.prog 3 #[.agg #[.string p.ty,.string p.cs,.string p.id,.string p.loc,.int .i64 p.how,.slice pb p.body.length cb,.slice pk p.kids.length ck],.string s,.string t] w fun e w'=>e = .returned (.bool true)∧Below w.heap.size w w':=by
 obtain ⟨W1,hW1⟩:∃ W,W = w.alloc (.cells #[.string p.ty,.string p.cs,.string p.id,.string p.loc,.int .i64 p.how,.slice pb p.body.length cb,.slice pk p.kids.length ck] 25):=⟨_,rfl⟩
 have hb1:Below w.heap.size w W1:=by rw [hW1];exact (Below.refl _ _).alloc (Nat.le_refl _) _
 have kW:W1.heap[w.heap.size]? = some (.cells #[.string p.ty,.string p.cs,.string p.id,.string p.loc,.int .i64 p.how,.slice pb p.body.length cb,.slice pk p.kids.length ck] 25):=by rw [hW1];exact blk_new _ _
 have hlow:∀ W,Below W1.heap.size W1 W→Below w.heap.size w W:=fun W hW=>hb1.trans (hW.mono hb1.size)
 have HZ:Hid (∀ W,Below W1.heap.size W1 W→W.cell? ⟨w.heap.size,0,none⟩ = some (.string p.ty)∧W.cell? ⟨w.heap.size,1,none⟩ = some (.string p.cs)∧W.cell? ⟨w.heap.size,2,none⟩ = some (.string p.id)∧W.cell? ⟨w.heap.size,3,none⟩ = some (.string p.loc)∧W.cell? ⟨w.heap.size,4,none⟩ = some (.int .i64 p.how)∧W.cell? ⟨w.heap.size,5,none⟩ = some (.slice pb p.body.length cb)∧W.cell? ⟨w.heap.size,6,none⟩ = some (.slice pk p.kids.length ck)):=fun W h=>⟨(blk_c (blk_on kW h) 0).trans rfl,(blk_c (blk_on kW h) 1).trans rfl,(blk_c (blk_on kW h) 2).trans rfl,(blk_c (blk_on kW h) 3).trans rfl,(blk_c (blk_on kW h) 4).trans rfl,(blk_c (blk_on kW h) 5).trans rfl,(blk_c (blk_on kW h) 6).trans rfl⟩
 have HLOW:Hid (∀ W,Below W1.heap.size W1 W→Below w.heap.size w W):=hlow
 have CC:Hid (∀ W,Below W1.heap.size W1 W→Calls Tryz.prog 10 #[.agg #[.string p.ty,.string p.cs,.string p.id,.string p.loc,.int .i64 p.how,.slice pb p.body.length cb,.slice pk p.kids.length ck]] W fun e w'=>e = .returned (.int .i64 ((placesP p).1:Int))∧Below W1.heap.size W1 w'∧Below W.heap.size W w'):=fun W hW=>(rcheck_any F p pb cb pk ck W (hH.below (hlow W hW)) (fun V hV=>(hE V (hlow V (hW.trans (hV.mono hW.size)))).u8)).mono fun e w' h=>⟨by rw [← checkP_places];exact h.1,hW.trans (h.2.mono hW.size),h.2⟩
 have CL:Hid (∀ W,Below W1.heap.size W1 W→Calls Tryz.prog 11 #[] W fun e w'=>e = .returned (.bool true)∧Below W1.heap.size W1 w'∧Below W.heap.size W w'):=fun W hW=>(ledc_any W (hE.below (hlow W hW))).mono fun e w' h=>⟨h.1,hW.trans (h.2.mono hW.size),h.2⟩
 have CB:Hid (∀ W,Below W1.heap.size W1 W→Calls Tryz.prog 12 #[.string s,.string t] W fun e w'=>e = .returned (.string (bar (ledU s.data.toList t.data.toList)))∧Below W1.heap.size W1 w'∧Below W.heap.size W w'):=fun W hW=>(bled_any s t hs ht W (hE.max (hlow W hW))).mono fun e w' h=>⟨h.1,hW.trans (h.2.mono hW.size),h.2⟩
 have CT:Hid (∀ W,Below W1.heap.size W1 W→Calls Tryz.prog 13 #[.string s,.string t] W fun e w'=>e = .returned (.string (bar (ledU s.data.toList t.data.toList)))∧Below W1.heap.size W1 w'∧Below W.heap.size W w'):=fun W hW=>(rledt_any s t hs ht W (hE.max (hlow W hW))).mono fun e w' h=>⟨h.1,hW.trans (h.2.mono hW.size),h.2⟩
 have CW0:=fun W (hW:Below W1.heap.size W1 W)=>bwhere_any p pb cb pk ck F W (hE.max (hlow W hW)) (hH.below (hlow W hW))
 have CG0:=fun W (hW:Below W1.heap.size W1 W)=>bgoals_any p pb cb pk ck F W (hE.below (hlow W hW)) (hH.below (hlow W hW))
 have HW1:Hid (W1 = w.alloc (.cells #[.string p.ty,.string p.cs,.string p.id,.string p.loc,.int .i64 p.how,.slice pb p.body.length cb,.slice pk p.kids.length ck] 25)):=hW1
 have hTT:((bar (ledU s.data.toList t.data.toList)).toList == (bar (ledU s.data.toList t.data.toList)).toList) = true:=by simp
 have h00:Below W1.heap.size W1 W1:=Below.refl _ _
 by_cases hok:(placesP p).1 = 0
 ·obtain ⟨hlev,h12,hfl⟩:=places_flat p hok
  have hwl:(whereR 4 p []).length = (flatP 4 p).length:=by rw [← where_places p hok,whereP_length,← hfl,List.length_map]
  have hw12:(whereR 4 p []).length≤12:=by omega
  have hg72:=goO_few smallU (flatP 4 p) (whereR 4 p []) h12
  have CW:Hid (∀ W,Below W1.heap.size W1 W→Calls Tryz.prog 8 #[.agg #[.string p.ty,.string p.cs,.string p.id,.string p.loc,.int .i64 p.how,.slice pb p.body.length cb,.slice pk p.kids.length ck]] W fun e w'=>∃ q c,e = .returned (.tuple #[.slice q (whereR 4 p []).length c,.int .i64 0])∧Below W1.heap.size W1 w'∧Below W.heap.size W w'∧T8 w' q (whereR 4 p []).length (whereR 4 p [])):=fun W hW=>(CW0 W hW).mono fun e w' h=>by
   obtain ⟨v,rfl,ho⟩:=h.2.2 hok
   rw [where_places p hok] at ho
   obtain ⟨q,c,rfl,_,_,ht⟩:=owned_t8 rfl ho
   exact ⟨q,c,rfl,hW.trans (h.1.mono hW.size),h.1,ht⟩
  have CG:Hid (∀ W,Below W1.heap.size W1 W→Calls Tryz.prog 9 #[.agg #[.string p.ty,.string p.cs,.string p.id,.string p.loc,.int .i64 p.how,.slice pb p.body.length cb,.slice pk p.kids.length ck]] W fun e w'=>∃ q c,e = .returned (.tuple #[.slice q (goO (goalsGo smallU (flatP 4 p) (whereR 4 p []) 0 (flatP 4 p) [])).length c,.int .i64 (erO (goalsGo smallU (flatP 4 p) (whereR 4 p []) 0 (flatP 4 p) []))])∧Below W1.heap.size W1 w'∧Below W.heap.size W w'∧G6 w' q (goO (goalsGo smallU (flatP 4 p) (whereR 4 p []) 0 (flatP 4 p) [])).length (goO (goalsGo smallU (flatP 4 p) (whereR 4 p []) 0 (flatP 4 p) []))):=fun W hW=>(CG0 W hW).mono fun e w' h=>by
   obtain ⟨q,c,he,hb,hg⟩:=goals_shape (goals_same h hok)
   exact ⟨q,c,he,hW.trans (hb.mono hW.size),hb,hg⟩
  have CR:Hid (∀ W,Below W1.heap.size W1 W→Calls Tryz.prog 14 #[.agg #[.string p.ty,.string p.cs,.string p.id,.string p.loc,.int .i64 p.how,.slice pb p.body.length cb,.slice pk p.kids.length ck]] W fun e w'=>∃ q c,e = .returned (.tuple #[.slice q (goO (goalsGo smallU (flatP 4 p) (whereR 4 p []) 0 (flatP 4 p) [])).length c,.int .i64 (erO (goalsGo smallU (flatP 4 p) (whereR 4 p []) 0 (flatP 4 p) []))])∧Below W1.heap.size W1 w'∧Below W.heap.size W w'∧G6 w' q (goO (goalsGo smallU (flatP 4 p) (whereR 4 p []) 0 (flatP 4 p) [])).length (goO (goalsGo smallU (flatP 4 p) (whereR 4 p []) 0 (flatP 4 p) []))):=fun W hW=>(rgoals_any w hE F p pb cb pk ck W (hlow W hW) (hH.below (hlow W hW)) hok).mono fun e w' h=>by
   obtain ⟨q,c,he,hb,hg⟩:=goals_shape h
   exact ⟨q,c,he,hW.trans (hb.mono hW.size),hb,hg⟩
  have CA:Hid (∀ W,Below W1.heap.size W1 W→Calls Tryz.prog 16 #[.agg #[.string p.ty,.string p.cs,.string p.id,.string p.loc,.int .i64 p.how,.slice pb p.body.length cb,.slice pk p.kids.length ck]] W fun e w'=>∃ q c,e = .returned (.slice q (whereR 4 p []).length c)∧Below W1.heap.size W1 w'∧Below W.heap.size W w'∧T8 w' q (whereR 4 p []).length (whereR 4 p [])):=fun W hW=>(rwhere_any 4 F p pb cb pk ck W (fun V hV=>hE.max (hlow V (hW.trans (hV.mono hW.size)))) hlev (by omega) (hH.below (hlow W hW))).mono fun e w' h=>by
   obtain ⟨v,rfl,hb,ho⟩:=h
   obtain ⟨q,c,rfl,_,_,ht⟩:=owned_t8 rfl ho
   exact ⟨q,c,rfl,hW.trans (hb.mono hW.size),hb,ht⟩
  rw [hok] at CC
  generalize bar (ledU s.data.toList t.data.toList) = T at *
  generalize goO (goalsGo smallU (flatP 4 p) (whereR 4 p []) 0 (flatP 4 p) []) = GG at *
  generalize erO (goalsGo smallU (flatP 4 p) (whereR 4 p []) 0 (flatP 4 p) []) = EE at *
  generalize whereR 4 p [] = WW at *
  have hee:(EE == EE) = true:=by simp
  clear hE hH hs ht hb1 kW hlow CW0 CG0 hW1 hok hlev h12 hfl hwl
  generalize p.body.length = nb at *
  generalize p.kids.length = nk at *
  go_enter Tryz.func3,Tryz.ntmps3
  go_wp2_with fail
  rw [← HW1.out]
  refine (CW.out _ h00).mono ?_
  rintro e w2 ⟨q2,c2,rfl,hb2,_,t2⟩
  obtain ⟨z0,z1,z2,z3,z4,z5,z6⟩:=HZ.out w2 hb2
  go_wp2_with fail
  refine (CG.out _ hb2).mono ?_
  rintro e w3 ⟨q3,c3,rfl,hb3,hr3,g3⟩
  have t3:=t2.below hr3
  clear z0 z1 z2 z3 z4 z5 z6
  obtain ⟨z0,z1,z2,z3,z4,z5,z6⟩:=HZ.out w3 hb3
  clear t2 hr3 hb2
  go_wp2_with fail
  refine (CC.out _ hb3).mono ?_
  rintro e w4 ⟨rfl,hb4,hr4⟩
  have t4:=t3.below hr4
  have g4:=g3.below hr4
  clear t3 g3 hr4 hb3
  clear z0 z1 z2 z3 z4 z5 z6
  go_wp2_with fail
  refine (CL.out _ hb4).mono ?_
  rintro e w5 ⟨rfl,hb5,hr5⟩
  have t5:=t4.below hr5
  have g5:=g4.below hr5
  clear t4 g4 hr5 hb4
  go_wp2_with fail
  refine (CB.out _ hb5).mono ?_
  rintro e w6 ⟨rfl,hb6,hr6⟩
  have t6:=t5.below hr6
  have g6:=g5.below hr6
  clear t5 g5 hr6 hb5
  go_wp2_with fail
  refine (CT.out _ hb6).mono ?_
  rintro e w7 ⟨rfl,hb7,hr7⟩
  have t7:=t6.below hr7
  have g7:=g6.below hr7
  obtain ⟨z0,z1,z2,z3,z4,z5,z6⟩:=HZ.out w7 hb7
  clear t6 g6 hr7 hb6
  go_wp2_with fail
  refine (CR.out _ hb7).mono ?_
  rintro e w8 ⟨q8,c8,rfl,hb8,hr8,k8⟩
  have t8:=t7.below hr8
  have g8:=g7.below hr8
  clear z0 z1 z2 z3 z4 z5 z6
  obtain ⟨z0,z1,z2,z3,z4,z5,z6⟩:=HZ.out w8 hb8
  clear t7 g7 hr8 hb7
  go_wp2_with fail
  refine (CA.out _ hb8).mono ?_
  rintro e w9 ⟨q9,c9,rfl,hb9,hr9,v9⟩
  have HQ1:Hid (Calls Tryz.prog 15 #[.slice q2 WW.length c2,.slice q9 WW.length c9] w9 fun e w'=>e = .returned (.bool true)∧∃ q,w' = w9.drewN q):=(eqs_any q2 q9 WW.length WW.length c2 c9 WW WW w9 (by unfold maxLen;omega) (by unfold maxLen;omega) (t8.below hr9) v9).mono fun e w' h=>by
   rw [decide_eq_true rfl] at h
   exact h
  have HQ2:Hid (∀ k,Calls Tryz.prog 17 #[.slice q3 GG.length c3,.slice q8 GG.length c8] (w9.drewN k) fun e w'=>e = .returned (.bool true)∧∃ q,w' = (w9.drewN k).drewN q):=fun k=>eqg_same q3 q8 GG.length c3 c8 GG (w9.drewN k) (by omega) (g8.below (hr9.trans (below_many (Below.refl _ _) k))) (k8.below (hr9.trans (below_many (Below.refl _ _) k)))
  have HB:Hid (Below w.heap.size w w9):=HLOW.out _ hb9
  clear t8 g8 k8 v9 hr9 hb9 hb8
  clear z0 z1 z2 z3 z4 z5 z6
  go_wp2_with fail
  refine HQ1.out.mono ?_
  rintro e w10 ⟨rfl,k10,rfl⟩
  go_wp2_with fail
  refine (HQ2.out k10).mono ?_
  rintro e w11 ⟨rfl,k11,rfl⟩
  go_wp2_with fail
  go_ret
  exact ⟨rfl,below_many HB.out _⟩
 ·have CW:Hid (∀ W,Below W1.heap.size W1 W→Calls Tryz.prog 8 #[.agg #[.string p.ty,.string p.cs,.string p.id,.string p.loc,.int .i64 p.how,.slice pb p.body.length cb,.slice pk p.kids.length ck]] W fun e w'=>e = .returned (.tuple #[.slice none 0 0,.int .i64 ((placesP p).1:Int)])∧Below W1.heap.size W1 w'):=fun W hW=>(CW0 W hW).mono fun e w' h=>⟨h.2.1 hok,hW.trans (h.1.mono hW.size)⟩
  have CG:Hid (∀ W,Below W1.heap.size W1 W→Calls Tryz.prog 9 #[.agg #[.string p.ty,.string p.cs,.string p.id,.string p.loc,.int .i64 p.how,.slice pb p.body.length cb,.slice pk p.kids.length ck]] W fun e w'=>e = .returned (.tuple #[.slice none 0 0,.int .i64 ((placesP p).1:Int)])∧Below W1.heap.size W1 w'):=fun W hW=>(CG0 W hW).mono fun e w' h=>⟨h.2.1 hok,hW.trans (h.1.mono hW.size)⟩
  have hz:(((placesP p).1:Int) == 0) = false:=by rw [beq_eq_false_iff_ne];omega
  have hz2:¬ ((placesP p).1:Int) = 0:=by omega
  generalize bar (ledU s.data.toList t.data.toList) = T at *
  generalize ((placesP p).1:Int) = BAD at *
  have hee:(BAD == BAD) = true:=by simp
  clear hE hH hs ht hb1 kW hlow CW0 CG0 hW1 hok
  generalize p.body.length = nb at *
  generalize p.kids.length = nk at *
  go_enter Tryz.func3,Tryz.ntmps3
  go_wp2_with fail
  rw [← HW1.out]
  refine (CW.out _ h00).mono ?_
  rintro e w2 ⟨rfl,hb2⟩
  obtain ⟨z0,z1,z2,z3,z4,z5,z6⟩:=HZ.out w2 hb2
  go_wp2_with fail
  refine (CG.out _ hb2).mono ?_
  rintro e w3 ⟨rfl,hb3⟩
  clear z0 z1 z2 z3 z4 z5 z6
  obtain ⟨z0,z1,z2,z3,z4,z5,z6⟩:=HZ.out w3 hb3
  clear hb2
  go_wp2_with fail
  refine (CC.out _ hb3).mono ?_
  rintro e w4 ⟨rfl,hb4,_⟩
  clear z0 z1 z2 z3 z4 z5 z6
  go_wp2_with fail
  refine (CL.out _ hb4).mono ?_
  rintro e w5 ⟨rfl,hb5,_⟩
  go_wp2_with fail
  refine (CB.out _ hb5).mono ?_
  rintro e w6 ⟨rfl,hb6,_⟩
  go_wp2_with fail
  refine (CT.out _ hb6).mono ?_
  rintro e w7 ⟨rfl,hb7,_⟩
  have HB:Hid (Below w.heap.size w w7):=HLOW.out _ hb7
  clear hb3 hb4 hb5 hb6 hb7
  go_wp2_with fail
  go_ret
  exact ⟨rfl,HB.out⟩
end Go.Proofs.YtbbfcbodhmeanaaGreatDoor



namespace Go.Proofs.YtbbfcbodhmeanaaGreatDoor
open Go.RowKit Go.Lib Go.Shelf
theorem utf8_laidL {w : World} (h3 : VarReads Tryz.prog w "unicode/utf8.first" firstData) (h4 : VarReads Tryz.prog w "unicode/utf8.acceptRanges" acceptData) : Lib.Utf8Tabs 1 2 w :=
 utf8Tabs_of_readsT (ρ:=Tryz.lays159_ren) { Tryz.lays159 with } ⟨by kernel_rfl,by kernel_rfl,by kernel_rfl,by kernel_rfl,by kernel_rfl,by kernel_rfl,by kernel_rfl⟩ h3 h4
theorem case_laidL {w : World} (h : VarReads Tryz.prog w "unicode.CaseRanges" caseData) : CaseVar 3 caseA w :=
 caseVar_of_reads (ρ:=Tryz.lays159_ren) { Tryz.lays159 with } Tryz.lays159.t206 ⟨by kernel_rfl,by kernel_rfl,by kernel_rfl,by kernel_rfl,by kernel_rfl,by kernel_rfl⟩ h
theorem lenv_laid {W : World} (h : laidMetH Tryz.prog [("unicode/utf8.acceptRanges", Rows.laid_unicode_utf8_acceptRanges), ("unicode.CaseRanges", Rows.laid_unicode_CaseRanges), ("unicode/utf8.first", Rows.laid_unicode_utf8_first)] W) (m : Int) (hm : W.cell? ⟨0, 0, none⟩ = some (.int .i64 m)) : LEnv W := by
 rw [MakeChecks.laidMetH_plain _ _ _ (by kernel_rfl)] at h
 have h1:=utf8_laidL (laidMet.reads h (List.mem_of_getElem? (i:=2) (by kernel_rfl))) (laidMet.reads h (List.mem_of_getElem? (i:=0) (by kernel_rfl)))
 have h2:=case_laidL (laidMet.reads h (List.mem_of_getElem? (i:=1) (by kernel_rfl)))
 intro W' hb
 exact ⟨⟨m,(hb.cell (p:=⟨0,0,none⟩) (World.block_lt_of_cell? W _ hm)).trans hm⟩,CaseVar_below h2 hb,Utf8Tabs_below h1 hb⟩
end Go.Proofs.YtbbfcbodhmeanaaGreatDoor



namespace Go.Proofs.YtbbfcbodhmeanaaGreatDoor
open Go.ChangeShapes Go.WideShapes Go.ChangeAt Go.RowKit
set_option linter.unusedVariables false
theorem own:ownKnob Tryz.prog.godebug = none:=by kernel_rfl
theorem laidOut:laidOutB Tryz.prog = true:=by kernel_rfl
theorem sized_of_heap {H:Type} {enc:TypeId × Value→H} {P:Program} {fn:Func} {s:OpenSpec} {apart:Bool} {w w':World} {args:Array Value} (hh:w.heap = w'.heap) (h:sizedMet enc P fn s apart w args):sizedMet enc P fn s apart w' args:=by
 obtain ⟨h1,ds,gs,before,hw,h2⟩:=h
 exact ⟨h1,ds,gs,before,DataW.Whole.of_heap hh hw,h2⟩
theorem handed_sized {H:Type} {enc:TypeId × Value→H} {a:Assume} {C:Checked} {os:Os} {f:FuncId} {fn:Func} {s:ChangeSpec} {conds:List PathCond} {apart fresh handsOn again:Bool} {X:World→Array Value→Prop}
  (hX:∀ (w w':World) (args:Array Value),w.heap = w'.heap→X w args→X w' args)
  (own:ownKnob C.prog.godebug = none) (started:os.Started) (noInit:C.prog.inits.idxOf? f = none) (hfn:C.prog.funcs[f]? = some fn)
  (witness:∃ (w:World) (tape:Tape) (i:Input),w.os = os∧(w.forCall tape i).Shaped C.prog∧i.vars = []∧Input.okWide C.prog (w.forCall tape i) .any w.heap.size f i ∧
   ((s.pre enc C.prog fn conds apart (w.forCall tape i).memory i.args∧X (w.forCall tape i).memory i.args)∧sizedMet enc C.prog fn (OpenSpec.ofChange s) apart (w.forCall tape i).memory i.args)∧a.holds C.prog (lone (Frame.enter C.prog f i.args .normal) [] (w.forCall tape i)))
  (contract:∀ (W:World) (base:Nat) (args:Array Value) (ds gs:List (DataW H)) (before:List MemPlace),
   (∀ (j:Nat) t v,fn.params[j]? = some t→args[j]? = some v→Value.okWide C.prog W .any base t v) →
   DataW.Whole enc C.prog fn.params.toList s.vars apart W args.toList ds gs before→X W args→sizedMet enc C.prog fn (OpenSpec.ofChange s) apart W args→W.ShapedOpen C.prog →
   Calls C.prog f args W fun e W'=>∃ v,e = .returned v∧s.post enc C.prog fn apart fresh handsOn again W args v W') :
  ReturnsInHanded a C os f .any (fun w args=>(s.pre enc C.prog fn conds apart w args∧X w args)∧sizedMet enc C.prog fn (OpenSpec.ofChange s) apart w args) (s.post enc C.prog fn apart fresh handsOn again):=by
 refine returnsInHanded_of_calls own started noInit witness ?_
 intro w tape i _ hsh _ hok hpre hholds
 obtain ⟨_,_,_,fn',hfn',_,_,_,_,hval⟩:=hok
 have e:fn' = fn:=Option.some.inj (hfn'.symm.trans hfn)
 subst e
 obtain ⟨⟨⟨ds,gs,before,hw,hc⟩,hx⟩,hz⟩:=hpre
 have hw':=DataW.Whole.of_heap (w':=w.forCall tape i) (by rfl) hw
 refine (contract (w.forCall tape i) w.heap.size i.args ds gs before hval hw' (hX _ _ _ (by rfl) hx) (sized_of_heap (by rfl) hz) hsh).mono fun e W' ⟨v,he,hp⟩=>?_
 subst he
 exact ChangeSpec.post_blind hp
theorem maxLen_cell {W:World} (h:W.ShapedOpen Tryz.prog):∃ m,W.cell? ⟨0,0,none⟩ = some (.int .i64 m) :=
 cell_of_shapedOpen_int (P:=Tryz.prog) (g:=0) (t:=3) (zero:=#[.int .i64 0]) h (of_decide_eq_true (by kernel_rfl)) (by kernel_rfl) rfl (by kernel_rfl) (by kernel_rfl) Tryz.underlying3
end Go.Proofs.YtbbfcbodhmeanaaGreatDoor


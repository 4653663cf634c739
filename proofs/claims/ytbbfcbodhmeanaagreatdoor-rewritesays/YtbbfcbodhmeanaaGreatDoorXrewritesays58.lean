
import Derived.Test.YtbbfcbodhmeanaaGreatDoorXrewritesays44
import Derived.Test.YtbbfcbodhmeanaaGreatDoorXrewritesays45
import Derived.Test.YtbbfcbodhmeanaaGreatDoorXrewritesays57
namespace Go.Proofs.YtbbfcbodhmeanaaGreatDoor
open Go.RowKit
variable {cl:Int→ByteArray}
def RnPost (w:World) (R:Nat × PT) (e:Ending) (w':World):Prop :=
 Below w.heap.size w w'∧(R.1 ≠ 0→e = .returned (.tuple #[.agg z7,.int .i64 (R.1:Int)]))∧(R.1 = 0→∃ (qb:Option Addr) (db:Nat) (qk:Option Addr) (dk:Nat),e = .returned (.tuple #[.agg #[.string R.2.ty,.string R.2.cs,.string R.2.id,.string R.2.loc,.int .i64 R.2.how,.slice qb R.2.body.length db,.slice qk R.2.kids.length dk],.int .i64 0])∧PHeld w' 4 R.2 qb db qk dk)
set_option maxHeartbeats 1000000 in
theorem rnbad_any (n:Int) (w:World) :
  Calls Tryz.prog 66 #[.int .i64 n] w fun e w'=>e = .returned (.tuple #[.agg z7,.int .i64 n])∧Below w.heap.size w w':=by
 go_enter Tryz.func66,Tryz.ntmps66
 go_wp2
 refine bodyPost_ret (v:=.tuple #[.agg z7,.int .i64 n]) ?_ rfl ⟨rfl,?_⟩
 ·rw [results_cell_tmp rfl]
  go_simp
 ·exact (Below.refl _ _).alloc (Nat.le_refl _) _
theorem flat_kidsR:∀ (f:Nat) (p:PT),lev f p = true→∀ x ∈ flatP f p,x.kids.length + 1≤(flatP f p).length
 | 0,p,h,_,_=>by rw [lev] at h;cases h
 | f + 1,p,h,x,hx=>by
  rw [lev_succ,List.all_eq_true] at h
  have hge:∀ (l:List PT),(∀ k ∈ l,lev f k = true)→l.length≤(l.flatMap (flatP f)).length:=by
   intro l
   induction l with
   | nil=>intro _;exact Nat.zero_le _
   | cons k l ih =>
    intro hk
    rw [List.flatMap_cons,List.length_append,List.length_cons]
    have h1:=ih (fun y hy=>hk y (List.mem_cons_of_mem _ hy))
    have h2:1≤(flatP f k).length:=by
     have:=hk k (by simp)
     cases f with
     | zero=>rw [lev] at this;cases this
     | succ f=>rw [flatP_succ,List.length_cons];omega
    omega
  rw [flatP_succ,List.mem_cons] at hx
  rw [flatP_succ,List.length_cons]
  rcases hx with rfl | hx
  ·have:=hge x.kids h
   omega
  ·obtain ⟨k,hk,hx⟩:=List.mem_flatMap.1 hx
   have h1:=flat_kidsR f k (h k hk) x hx
   have h2:(flatP f k).length≤(p.kids.flatMap (flatP f)).length:=by
    obtain ⟨a,b,hab⟩:=List.append_of_mem hk
    rw [hab,List.flatMap_append,List.flatMap_cons,List.length_append,List.length_append]
    omega
   omega
theorem sum_short:∀ ts:List ByteArray,(∀ t ∈ ts,t.size≤30)→sumL (tls ts)≤30 * ts.length
 | [],_=>Nat.le_refl _
 | t::ts,h=>by
  have h1:=sum_short ts (fun x hx=>h x (List.mem_cons_of_mem _ hx))
  have h2:=h t (by simp)
  rw [Lib.size_eq] at h2
  show sumL (t.data.toList::tls ts)≤_
  rw [sumL_cons,List.length_cons]
  omega
theorem textsS_short (parts:Int) (ns:List NM) (hc:checkN parts (-1) [] ns = 0) (gs:List GL) (k:Nat):∀ t ∈ textsS (callS ns) gs k,t.size≤30:=by
 intro t ht
 rw [texts_filter] at ht
 obtain ⟨g,_,rfl⟩:=List.mem_map.1 ht
 unfold textG
 split
 ·exact callS_short parts ns hc _
 ·decide
theorem txenv_of {V:World} {TB mb:Nat} {cl:Int→ByteArray} {gs:List GL} {v:Int→Value} {n:Nat} {W:World} (m:TmAt V TB mb (textsI cl gs) v n W) (tx:Nat→List ByteArray) (htx:∀ k:Nat,textsI cl gs (k:Int) = tx k) (hs:∀ k,sumL (tls (tx k))≤1100000) (hl:∀ k,(tx k).length≤1000):TxEnv W TB mb tx:=by
 refine ⟨fun W' hb=>(blk_c (blk_on m.tb hb) 0).trans rfl,fun k hk=>?_,hs,hl⟩
 have ho:=m.rows (k:Int)
 rw [htx k] at ho
 obtain ⟨a,c,hv⟩:=owned_slice ho
 refine ⟨a,c,fun W' hb=>⟨?_,?_⟩⟩
 ·have h:=(m.map.move (hb.block _ m.map.lt)).look Tryz.underlying106 (zero_strs W') (k:Int) (by omega) (by omega)
  rw [hv] at h
  exact h
 ·rw [hv] at ho
  exact (txrow_own (ownsRow_below ho hb)).1
theorem tm_made (V:World):TmAt V (V.heap.size + 1) V.heap.size (textsI cl []) (fun _=>.slice none 0 0) 0 ((V.alloc (.map #[] 0)).alloc (.cells #[.map (some V.heap.size)] 106)):=by
 have hs:(V.alloc (.map #[] 0)).heap.size = V.heap.size + 1:=by simp
 have hb:=(Below.refl (V.alloc (.map #[] 0)).heap.size (V.alloc (.map #[] 0))).alloc (Nat.le_refl _) (.cells #[.map (some V.heap.size)] 106)
 refine ⟨((Below.refl _ _).alloc (Nat.le_refl _) _).alloc (by simp) _,by rw [← hs];exact blk_new _ _,(mapV_made V _).move (hb.block _ (by rw [hs];omega)),fun _=>World.ownsRow_nil _ _ _ _,fun _ _ _ b hb=>by cases hb⟩
theorem three_newR (W:World) (o1 o2 o3:Obj):Below W.heap.size W (((W.alloc o1).alloc o2).alloc o3)∧(((W.alloc o1).alloc o2).alloc o3).heap[W.heap.size]? = some o1∧(((W.alloc o1).alloc o2).alloc o3).heap[W.heap.size + 1]? = some o2∧(((W.alloc o1).alloc o2).alloc o3).heap[W.heap.size + 2]? = some o3:=by
 refine ⟨(((Below.refl _ _).alloc (Nat.le_refl _) _).alloc (by simp) _).alloc (by simp;omega) _,?_⟩
 exact three_at W.heap o1 o2 o3
set_option maxHeartbeats 8000000 in
set_option maxRecDepth 1000000 in
theorem rnamed_any (p:PT) (pb:Option Addr) (cb:Nat) (pk:Option Addr) (ck F:Nat) (na:Option Addr) (nn nc:Nat) (ns:List NM) (en:nn = ns.length) (hnl:NLen ns) (w:World) (hE:LEnv w) (hH:PHeld w F p pb cb pk ck) (hnr:NmRow w na ns) :
  Calls Tryz.prog 22 #[.agg #[.string p.ty,.string p.cs,.string p.id,.string p.loc,.int .i64 p.how,.slice pb p.body.length cb,.slice pk p.kids.length ck],.slice na nn nc] w fun e w'=>RnPost w (namesP p ns) e w':=by
 obtain ⟨W1,hW1⟩:∃ W,W = (w.alloc (.cells #[.string p.ty,.string p.cs,.string p.id,.string p.loc,.int .i64 p.how,.slice pb p.body.length cb,.slice pk p.kids.length ck] 25)).alloc (.cells z7 25):=⟨_,rfl⟩
 have hb1:Below w.heap.size w W1:=by rw [hW1];exact ((Below.refl _ _).alloc (Nat.le_refl _) _).alloc (by simp) _
 have kA:W1.heap[w.heap.size]? = some (.cells #[.string p.ty,.string p.cs,.string p.id,.string p.loc,.int .i64 p.how,.slice pb p.body.length cb,.slice pk p.kids.length ck] 25):=by rw [hW1];exact blk_on (blk_new w _) ((Below.refl _ _).alloc (Nat.le_refl _) _)
 have kR:W1.heap[w.heap.size + 1]? = some (.cells z7 25):=by
  rw [hW1]
  have:=blk_new (w.alloc (.cells #[.string p.ty,.string p.cs,.string p.id,.string p.loc,.int .i64 p.how,.slice pb p.body.length cb,.slice pk p.kids.length ck] 25)) (.cells z7 25)
  simpa using this
 obtain ⟨A,hA⟩:∃ A,w.heap.size = A:=⟨_,rfl⟩
 obtain ⟨R0,hR0⟩:∃ r,A + 1 = r:=⟨_,rfl⟩
 have HA:Hid (w.heap.size = A):=hA
 have HR0:Hid (A + 1 = R0):=hR0
 have hlow:∀ W,Below W1.heap.size W1 W→Below w.heap.size w W:=fun W hW=>hb1.trans (hW.mono hb1.size)
 have HLOW:Hid (∀ W,Below W1.heap.size W1 W→Below w.heap.size w W):=hlow
 have HE:Hid (∀ W,Below W1.heap.size W1 W→LEnv W):=fun W hW=>hE.below (hlow W hW)
 have HPH:Hid (∀ W,Below W1.heap.size W1 W→PHeld W F p pb cb pk ck):=fun W hW=>hH.below (hlow W hW)
 have HPW:Hid (PHeld w F p pb cb pk ck):=hH
 have HNR:Hid (∀ W,Below W1.heap.size W1 W→NmRow W na ns):=fun W hW=>hnr.below (hlow W hW)
 have HNL:Hid (NLen ns):=hnl
 have HEN:Hid (nn = ns.length):=en
 have CC:Hid (∀ W,Below W1.heap.size W1 W→Calls Tryz.prog 10 #[.agg #[.string p.ty,.string p.cs,.string p.id,.string p.loc,.int .i64 p.how,.slice pb p.body.length cb,.slice pk p.kids.length ck]] W fun e w'=>e = .returned (.int .i64 ((placesP p).1:Int))∧Below W.heap.size W w'):=fun W hW=>(rcheck_any F p pb cb pk ck W (HPH.out W hW) (fun V hV=>(hE V (hlow V (hW.trans (hV.mono hW.size)))).u8)).mono fun e w' h=>⟨by rw [← checkP_places];exact h.1,h.2⟩
 have CBAD:Hid (∀ (n:Int) (W:World),Calls Tryz.prog 66 #[.int .i64 n] W fun e w'=>e = .returned (.tuple #[.agg z7,.int .i64 n])∧Below W.heap.size W w'):=fun n W=>rnbad_any n W
 have CNC:Hid (∀ W,Below W1.heap.size W1 W→Calls Tryz.prog 25 #[.slice na nn nc,.int .i64 ((placesP p).2.length:Int)] W fun e w'=>e = .returned (.int .i64 (checkN ((placesP p).2.length:Int) (-1) [] ns:Nat))∧Below W.heap.size W w'):=fun W hW=>rncheck_any na nn nc ns en _ hnl W (HNR.out W hW)
 have h00:Below W1.heap.size W1 W1:=Below.refl _ _
 have HBD0:∀ (RR:Nat × PT) (E:Nat),E ≠ 0→RR = (E,pzero)→∀ V,Below W1.heap.size W1 V→RnPost w RR (.returned (.tuple #[.agg z7,.int .i64 (E:Int)])) (put7 V R0 (.string ⟨#[]⟩) (.string ⟨#[]⟩) (.string ⟨#[]⟩) (.string ⟨#[]⟩) (.int .i64 0) (.slice none 0 0) (.slice none 0 0)):=by
  intro RR E hE0 hRR V hV
  subst hRR
  refine ⟨put7_below (hlow V hV) (by omega) _ _ _ _ _ _ _,fun _=>rfl,fun h=>absurd h hE0⟩
 rw [hA] at kA kR
 rw [hR0] at kR
 have HKA:Hid (W1.heap[A]? = some (.cells #[.string p.ty,.string p.cs,.string p.id,.string p.loc,.int .i64 p.how,.slice pb p.body.length cb,.slice pk p.kids.length ck] 25)):=kA
 have HKR:Hid (W1.heap[R0]? = some (.cells z7 25)):=kR
 have HW1:Hid (W1 = (w.alloc (.cells #[.string p.ty,.string p.cs,.string p.id,.string p.loc,.int .i64 p.how,.slice pb p.body.length cb,.slice pk p.kids.length ck] 25)).alloc (.cells z7 25)):=hW1
 have hw:∀ RR,RR = namesP p ns→Calls Tryz.prog 22 #[.agg #[.string p.ty,.string p.cs,.string p.id,.string p.loc,.int .i64 p.how,.slice pb p.body.length cb,.slice pk p.kids.length ck],.slice na nn nc] w fun e w'=>RnPost w RR e w':=by
  intro RR hRR
  unfold namesP at hRR
  clear hW1 kA kR hA hR0 hnr hnl hH
  by_cases hok:(placesP p).1 = 0
  ·rw [if_neg (by rw [hok];simp)] at hRR
   obtain ⟨hlev,h12,hfl⟩:=places_flat p hok
   have hln:(placesP p).2.length = (flatP 4 p).length:=by rw [← hfl,List.length_map]
   have CFL:Hid (∀ W,Below W1.heap.size W1 W→Calls Tryz.prog 44 #[.agg #[.string p.ty,.string p.cs,.string p.id,.string p.loc,.int .i64 p.how,.slice pb p.body.length cb,.slice pk p.kids.length ck]] W fun e w'=>∃ q c,e = .returned (.slice q (placesP p).2.length c)∧Below W.heap.size W w'):=fun W hW=>(flat_any 4 F p pb cb pk ck W hlev (by omega) (HPH.out W hW)).mono fun e w' h=>by
    obtain ⟨q,c,h1,h2,_⟩:=h
    exact ⟨q,c,by rw [hln];exact h1,h2⟩
   rw [hok] at CC
   by_cases hc:checkN ((placesP p).2.length:Int) (-1) [] ns = 0
   ·rw [if_neg (by rw [hc];simp)] at hRR
    rw [hc] at CNC
    have CGO:∀ W,Below W1.heap.size W1 W→Calls Tryz.prog 14 #[.agg #[.string p.ty,.string p.cs,.string p.id,.string p.loc,.int .i64 p.how,.slice pb p.body.length cb,.slice pk p.kids.length ck]] W fun e w'=>RGoalsPost W (goalsP p) e w':=fun W hW=>by
     have h:=rgoals_any w hE F p pb cb pk ck W (hlow W hW) (HPH.out W hW) hok
     rw [← goals_ref p hok] at h
     exact h
    cases hg:goalsP p with
    | none =>
     rw [hg] at hRR CGO
     simp only at hRR
     have CG:Hid (∀ W,Below W1.heap.size W1 W→Calls Tryz.prog 14 #[.agg #[.string p.ty,.string p.cs,.string p.id,.string p.loc,.int .i64 p.how,.slice pb p.body.length cb,.slice pk p.kids.length ck]] W fun e w'=>e = .returned (.tuple #[.slice none 0 0,.int .i64 2])∧Below W.heap.size W w'):=fun W hW=>(CGO W hW).mono fun e w' h=>⟨h.2,h.1⟩
     have HBAD:Hid (∀ V,Below W1.heap.size W1 V→RnPost w RR (.returned (.tuple #[.agg z7,.int .i64 2])) (put7 V R0 (.string ⟨#[]⟩) (.string ⟨#[]⟩) (.string ⟨#[]⟩) (.string ⟨#[]⟩) (.int .i64 0) (.slice none 0 0) (.slice none 0 0))):=HBD0 RR 2 (by decide) hRR
     obtain ⟨nb,hnb⟩:∃ n,p.body.length = n:=⟨_,rfl⟩
     obtain ⟨nk,hnk⟩:∃ n,p.kids.length = n:=⟨_,rfl⟩
     simp only [hnb,hnk] at *
     clear hnb hnk
     clear HBD0 CGO hRR hg hc hok hlev h12 hfl hln hlow hb1 hE en
     go_enter Tryz.func22,Tryz.ntmps22
     go_upto_region 2 with fail
     rw [HA.out,HR0.out]
     rw [← HW1.out]
     clear HW1
     obtain ⟨z0,z1,z2,z3,z4,z5,z6,zf⟩:=o_cells HKA.out
     go_wp2_with fail
     refine (CC.out _ h00).mono ?_
     rintro e w2 ⟨rfl,hb2⟩
     clear z0 z1 z2 z3 z4 z5 z6 zf CC h00
     go_upto_region 5 with fail
     obtain ⟨z0,z1,z2,z3,z4,z5,z6,zf⟩:=o_cells (blk_on HKA.out hb2)
     go_wp2_with fail
     refine (CFL.out _ hb2).mono ?_
     rintro e w3 ⟨fq,fc,rfl,hb23⟩
     have hb3:Below W1.heap.size W1 w3:=hb2.trans (hb23.mono hb2.size)
     clear z0 z1 z2 z3 z4 z5 z6 zf CFL hb23 hb2
     go_wp2_with fail
     refine (CNC.out _ hb3).mono ?_
     rintro e w4 ⟨rfl,hb34⟩
     have hb4:Below W1.heap.size W1 w4:=hb3.trans (hb34.mono hb3.size)
     clear hb34 hb3 CNC
     go_upto_region 8 with fail
     obtain ⟨z0,z1,z2,z3,z4,z5,z6,zf⟩:=o_cells (blk_on HKA.out hb4)
     go_wp2_with fail
     refine (CG.out _ hb4).mono ?_
     rintro e w5 ⟨rfl,hb45⟩
     have hb5:Below W1.heap.size W1 w5:=hb4.trans (hb45.mono hb4.size)
     clear z0 z1 z2 z3 z4 z5 z6 zf CG hb45 hb4
     go_wp2_with fail
     refine (CBAD.out (2) _).mono ?_
     rintro e w9 ⟨rfl,hb9⟩
     have hB9:Below W1.heap.size W1 w9:=hb5.trans (hb9.mono hb5.size)
     obtain ⟨r0,r1,r2,r3,r4,r5,r6,rf⟩:=o_cells (blk_on HKR.out hB9)
     have HFIN:Hid (RnPost w RR (.returned (.tuple #[.agg z7,.int .i64 2])) (put7 w9 R0 (.string ⟨#[]⟩) (.string ⟨#[]⟩) (.string ⟨#[]⟩) (.string ⟨#[]⟩) (.int .i64 0) (.slice none 0 0) (.slice none 0 0))):=HBAD.out w9 hB9
     clear hb9 hB9
     go_wp2_with fail
     refine bodyPost_ret (v:=.tuple #[.agg z7,.int .i64 2]) ?_ rfl HFIN.out
     rw [results_cell_tmp rfl]
     go_simp
    | some gs =>
     rw [hg] at hRR CGO
     simp only at hRR
     have CG:Hid (∀ W,Below W1.heap.size W1 W→Calls Tryz.prog 14 #[.agg #[.string p.ty,.string p.cs,.string p.id,.string p.loc,.int .i64 p.how,.slice pb p.body.length cb,.slice pk p.kids.length ck]] W fun e w'=>∃ q c,e = .returned (.tuple #[.slice q gs.length c,.int .i64 0])∧Below W.heap.size W w'∧G6 w' q gs.length gs):=fun W hW=>(CGO W hW).mono fun e w' h=>by
      obtain ⟨v,he,ho⟩:=h.2
      obtain ⟨q,c,rfl,_,_,hk⟩:=owned_goals ho
      exact ⟨q,c,he,h.1,hk⟩
     have hg7:=(goalsP_in p gs hg).2
     have HGF:Hid (∀ g ∈ gs,GIn g∧-1≤g.find):=goalsP_find p gs hg
     obtain ⟨tx,htx⟩:∃ tx,tx = textsS (callS ns) gs:=⟨_,rfl⟩
     have HTX:Hid (∀ k:Nat,textsI (callI ns) gs (k:Int) = tx k):=fun k=>by rw [htx];exact textsI_nat ns gs (fun n hn=>((check_order _ ns (-1) [] hc).2 n hn).2.1) k
     have HTL:Hid (∀ k,(tx k).length≤1000):=fun k=>by
      rw [← HTX.out k]
      have:=textsI_len (callI ns) gs (k:Int)
      omega
     have HTS:Hid (∀ k,sumL (tls (tx k))≤1100000):=fun k=>by
      have h1:=sum_short (tx k) (by rw [htx];exact textsS_short _ ns hc gs k)
      have h2:=HTL.out k
      omega
     have hsz:∀ x ∈ flatP 4 p,x.kids.length≤1000∧x.body.length≤4000:=fun x hx=>by
      have h1:=flat_kidsR 4 p hlev x hx
      exact ⟨by omega,chkA_body x ((places_right p hok).2 x hx)⟩
     have CWK:Hid (∀ (V:World) (TB mb NB EB FB:Nat) (W:World),Below W1.heap.size W1 V→TxEnv V TB mb tx→V.heap.size≤NB→V.heap.size≤EB→NB ≠ EB→FB ≠ NB→FB ≠ EB→WkAt V TB NB EB FB 0 0 W→Calls Tryz.prog 67 #[.agg #[.string p.ty,.string p.cs,.string p.id,.string p.loc,.int .i64 p.how,.slice pb p.body.length cb,.slice pk p.kids.length ck],.pointer (some ⟨TB,0,none⟩),.pointer (some ⟨NB,0,none⟩),.pointer (some ⟨EB,0,none⟩),.pointer (some ⟨FB,0,none⟩)] W fun en w'=>WalkPost w.heap.size NB EB 4 (walkR tx 4 p 0 0) W en w'):=fun V TB mb NB EB FB W hV h1 h2 h3 h4 h5 h6 h7=>walk_any w V (hlow V hV) (HE.out V hV) TB mb NB EB FB tx h1 h2 h3 h4 h5 h6 4 F p pb cb pk ck 0 0 W hlev hsz (by omega) HPW.out h7
     rw [← htx] at hRR
     have HWR:Hid (((eachT tx 4 p 0).1 = 0→walkR tx 4 p 0 0 = ((eachT tx 4 p 0).2.1,(eachT tx 4 p 0).2.2,0))∧((eachT tx 4 p 0).1 ≠ 0→(walkR tx 4 p 0 0).2.2 = (eachT tx 4 p 0).1)):=walkR_each tx 4 p 0
     obtain ⟨R,hR⟩:∃ R,walkR tx 4 p 0 0 = R:=⟨_,rfl⟩
     have HRP:Hid ((R.2.2 = 0→RR = (0,R.1))∧(R.2.2 ≠ 0→RR = (R.2.2,pzero))):=by
      have h1:=HWR.out
      rw [hR] at h1
      by_cases he:(eachT tx 4 p 0).1 = 0
      ·rw [if_neg (by rw [he];simp)] at hRR
       have h2:=h1.1 he
       refine ⟨fun _=>by rw [hRR,h2],fun h=>absurd (by rw [h2]) h⟩
      ·rw [if_pos he] at hRR
       have h2:=h1.2 he
       refine ⟨fun h=>absurd (h2.symm.trans h) he,fun _=>by rw [hRR,h2]⟩
     rw [hR] at CWK
     have HBDD:Hid (∀ E:Nat,E ≠ 0→RR = (E,pzero)→∀ V,Below W1.heap.size W1 V→RnPost w RR (.returned (.tuple #[.agg z7,.int .i64 (E:Int)])) (put7 V R0 (.string ⟨#[]⟩) (.string ⟨#[]⟩) (.string ⟨#[]⟩) (.string ⟨#[]⟩) (.int .i64 0) (.slice none 0 0) (.slice none 0 0))):=HBD0 RR
     obtain ⟨gn,hgn⟩:∃ n,gs.length = n:=⟨_,rfl⟩
     rw [hgn] at CG hg7
     obtain ⟨nb,hnb⟩:∃ n,p.body.length = n:=⟨_,rfl⟩
     obtain ⟨nk,hnk⟩:∃ n,p.kids.length = n:=⟨_,rfl⟩
     simp only [hnb,hnk] at *
     clear hnb hnk
     clear HBD0 CGO hRR hg hc hok hlev h12 hfl hln hlow hb1 hE en hsz hR HWR htx hgn
     go_enter Tryz.func22,Tryz.ntmps22
     go_upto_region 2 with fail
     rw [HA.out,HR0.out]
     rw [← HW1.out]
     clear HW1
     obtain ⟨z0,z1,z2,z3,z4,z5,z6,zf⟩:=o_cells HKA.out
     go_wp2_with fail
     refine (CC.out _ h00).mono ?_
     rintro e w2 ⟨rfl,hb2⟩
     clear z0 z1 z2 z3 z4 z5 z6 zf CC h00
     go_upto_region 5 with fail
     obtain ⟨z0,z1,z2,z3,z4,z5,z6,zf⟩:=o_cells (blk_on HKA.out hb2)
     go_wp2_with fail
     refine (CFL.out _ hb2).mono ?_
     rintro e w3 ⟨fq,fc,rfl,hb23⟩
     have hb3:Below W1.heap.size W1 w3:=hb2.trans (hb23.mono hb2.size)
     clear z0 z1 z2 z3 z4 z5 z6 zf CFL hb23 hb2
     go_wp2_with fail
     refine (CNC.out _ hb3).mono ?_
     rintro e w4 ⟨rfl,hb34⟩
     have hb4:Below W1.heap.size W1 w4:=hb3.trans (hb34.mono hb3.size)
     clear hb34 hb3 CNC
     go_upto_region 8 with fail
     obtain ⟨z0,z1,z2,z3,z4,z5,z6,zf⟩:=o_cells (blk_on HKA.out hb4)
     go_wp2_with fail
     refine (CG.out _ hb4).mono ?_
     rintro e w5 ⟨ga,gc,rfl,hb45,hg6⟩
     have hb5:Below W1.heap.size W1 w5:=hb4.trans (hb45.mono hb4.size)
     have HG6:Hid (G6 w5 ga gn gs):=hg6
     have HB5:Hid (Below W1.heap.size W1 w5):=hb5
     clear z0 z1 z2 z3 z4 z5 z6 zf CG hb45 hb4 hg6 hb5
     have hmm:=@run_makeMap Tryz.prog
     go_wp2_with fail
     obtain ⟨cbk,hcbk⟩:∃ k,w5.heap.size = k:=⟨_,rfl⟩
     rw [hcbk]
     refine rnL1 w5 na nn nc ns HEN.out HNL.out (HNR.out w5 HB5.out) cbk hcbk _ _ _ _ _ _ _ _ _ _ _ _ _ _ _ _ _ _ _ _ _ _ _ _ _ _ _ _ _ _ _ _ _ _ _ _ _ _ _ _ _ _ _ _ _ _ _ _ _ _ _ _ _ _ _ _ _ _ _ _ _ _ _ _ _ _ _ _ _ _ _ _ _ _ _ _ _ _ _ _ _ _ _ _ _ _ _ _ _ _ _ _ _ _ _ _ _ ?_
     intro s13 s57 s58 s59 s60 s61 s62 s63 s64 s65 s66 w6 hb56 hm6
     have HB6:Hid (Below W1.heap.size W1 w6):=HB5.out.trans (hb56.mono HB5.out.size)
     have HG66:Hid (G6 w6 ga gn gs):=HG6.out.below hb56
     have HM6:Hid (MapV w6 cbk nn (.string ⟨#[]⟩) (fun i=>.string (callI ns i))):=hm6
     clear hb56 hm6 HB5 HG6 hcbk
     obtain ⟨mb,hmb⟩:∃ k,w6.heap.size = k:=⟨_,rfl⟩
     obtain ⟨TB,hTB⟩:∃ k,mb + 1 = k:=⟨_,rfl⟩
     obtain ⟨W7,hW7⟩:∃ W,W = (w6.alloc (.map #[] 0)).alloc (.cells #[.map (some mb)] 106):=⟨_,rfl⟩
     have HT7:Hid (TmAt w6 TB mb (textsI (callI ns) []) (fun _=>.slice none 0 0) 0 W7):=by
      rw [hW7,← hTB,← hmb]
      exact tm_made w6
     have HMT:Hid (w6.heap.size = mb∧mb + 1 = TB):=⟨hmb,hTB⟩
     have HW7:Hid (W7 = (w6.alloc (.map #[] 0)).alloc (.cells #[.map (some mb)] 106)):=hW7
     clear hW7
     go_upto_region 18 with fail
     rw [← HW7.out]
     clear HW7 hmb hTB hmm
     go_wp2_with fail
     refine rnL2 w6 ga gn gc gs HG66.out (by omega) HGF.out cbk nn (callI ns) HM6.out TB mb (by have:=HMT.out;omega) (by have:=HMT.out;omega) W7 HT7.out _ _ _ _ _ _ _ _ _ _ _ _ _ _ _ _ _ _ _ _ _ _ _ _ _ _ _ _ _ _ _ _ _ _ _ _ _ _ _ _ _ _ _ _ _ _ _ _ _ _ _ _ _ _ _ _ _ _ _ _ _ _ _ _ _ _ _ _ _ _ _ _ _ _ _ _ _ _ _ _ _ _ _ _ _ _ _ _ _ _ _ _ _ _ _ _ ?_
     intro s16 s70 s71 s72 s73 s74 s75 s76 s77 s78 s79 s80 s81 s82 s83 s84 s85 s86 s87 v w8 hT8
     have HT8:Hid (TmAt w6 TB mb (textsI (callI ns) gs) v gn w8):=hT8
     have HB8:Hid (Below W1.heap.size W1 w8):=HB6.out.trans (hT8.bel.mono HB6.out.size)
     have HTE:Hid (TxEnv w8 TB mb tx):=txenv_of hT8 tx HTX.out HTS.out HTL.out
     clear hT8 HT7 HG66 HM6 HT8 HB6 HMT HGF
     obtain ⟨NB,hNB⟩:∃ k,w8.heap.size = k:=⟨_,rfl⟩
     obtain ⟨EB,hEB⟩:∃ k,NB + 1 = k:=⟨_,rfl⟩
     obtain ⟨FB,hFB⟩:∃ k,EB + 1 = k:=⟨_,rfl⟩
     obtain ⟨W9,hW9⟩:∃ W,W = ((w8.alloc (.cells #[.int .i64 0] 3)).alloc (.cells #[.int .i64 0] 27)).alloc (.cells #[FnR TB NB EB FB] 45):=⟨_,rfl⟩
     have h3:=three_newR w8 (.cells #[.int .i64 0] 3) (.cells #[.int .i64 0] 27) (.cells #[FnR TB NB EB FB] 45)
     rw [← hW9] at h3
     have HWK:Hid (WkAt w8 TB NB EB FB 0 0 W9):=by
      refine ⟨h3.1,?_,?_,?_⟩
      ·rw [← hNB];exact h3.2.1
      ·rw [← hEB,← hNB];exact h3.2.2.1
      ·have h4:=h3.2.2.2
       rw [hNB,show NB + 2 = FB from by omega] at h4
       exact h4
     have HB9:Hid (Below W1.heap.size W1 W9):=HB8.out.trans (h3.1.mono HB8.out.size)
     have HNS:Hid (w8.heap.size = NB∧NB + 1 = EB∧EB + 1 = FB):=⟨hNB,hEB,hFB⟩
     have HW9:Hid (W9 = ((w8.alloc (.cells #[.int .i64 0] 3)).alloc (.cells #[.int .i64 0] 27)).alloc (.cells #[FnR TB NB EB FB] 45)):=hW9
     clear hW9 h3
     go_upto_region 27 with fail
     skip
     rw [← HW9.out]
     clear HW9 hNB hEB hFB
     obtain ⟨z0,z1,z2,z3,z4,z5,z6,zf⟩:=o_cells (blk_on HKA.out HB9.out)
     have cf:W9.cell? ⟨FB,0,none⟩ = some (FnR TB NB EB FB):=(blk_c HWK.out.fb 0).trans rfl
     have CW:Hid (Calls Tryz.prog 67 #[.agg #[.string p.ty,.string p.cs,.string p.id,.string p.loc,.int .i64 p.how,.slice pb nb cb,.slice pk nk ck],.pointer (some ⟨TB,0,none⟩),.pointer (some ⟨NB,0,none⟩),.pointer (some ⟨EB,0,none⟩),.pointer (some ⟨FB,0,none⟩)] W9 fun en w'=>WalkPost w.heap.size NB EB 4 R W9 en w'):=CWK.out w8 TB mb NB EB FB W9 HB8.out HTE.out (by have:=HNS.out;omega) (by have:=HNS.out;omega) (by have:=HNS.out;omega) (by have:=HNS.out;omega) (by have:=HNS.out;omega) HWK.out
     go_wp2_with fail
     refine CW.out.mono ?_
     rintro en w10 ⟨qb,db,qk,dk,rfl,hM,hL⟩
     obtain ⟨q,kq,eq⟩:=R
     simp only at hM hL HRP ⊢
     obtain ⟨mb1,hmb1⟩:∃ n,q.body.length = n:=⟨_,rfl⟩
     obtain ⟨mk1,hmk1⟩:∃ n,q.kids.length = n:=⟨_,rfl⟩
     have HQL:Hid (q.body.length = mb1∧q.kids.length = mk1):=⟨hmb1,hmk1⟩
     rw [hmb1,hmk1]
     obtain ⟨OB,hOB⟩:∃ n,w10.heap.size = n:=⟨_,rfl⟩
     obtain ⟨W11,hW11⟩:∃ W,W = w10.alloc (.cells #[.string q.ty,.string q.cs,.string q.id,.string q.loc,.int .i64 q.how,.slice qb mb1 db,.slice qk mk1 dk] 25):=⟨_,rfl⟩
     have hb11:Below w10.heap.size w10 W11:=by rw [hW11];exact (Below.refl _ _).alloc (Nat.le_refl _) _
     have HKO:Hid (W11.heap[OB]? = some (.cells #[.string q.ty,.string q.cs,.string q.id,.string q.loc,.int .i64 q.how,.slice qb mb1 db,.slice qk mk1 dk] 25)):=by rw [hW11,← hOB];exact blk_new _ _
     have hlt9:W1.heap.size≤W9.heap.size∧W1.heap.size≤w8.heap.size:=⟨HB9.out.size,HB8.out.size⟩
     have hb10:Below W1.heap.size W1 w10:=hM.base HB9.out hlt9.1 (by have:=HNS.out;omega) (by have:=HNS.out;omega)
     have HB11:Hid (Below W1.heap.size W1 W11):=hb10.trans (hb11.mono hb10.size)
     have HEB:Hid (W11.heap[EB]? = some (.cells #[.int .i64 (eq:Int)] 27)):=blk_on hM.eb hb11
     have HL:Hid (LocK w.heap.size W9.heap.size w10.heap.size w10 4 (q,(qb,db),(qk,dk))):=hL
     have HSZ:Hid (w10.heap.size = OB∧W9.heap.size≤OB∧R0 < W9.heap.size):=by
      refine ⟨hOB,by rw [← hOB];exact hM.size,?_⟩
      have:=(Array.getElem?_eq_some_iff.1 HKR.out).1
      omega
     have HBLK:Hid (∀ b,b < w10.heap.size→W11.heap[b]? = w10.heap[b]?):=fun b hb=>hb11.block b hb
     have HW11:Hid (W11 = w10.alloc (.cells #[.string q.ty,.string q.cs,.string q.id,.string q.loc,.int .i64 q.how,.slice qb mb1 db,.slice qk mk1 dk] 25)):=hW11
     clear hW11 hM hL hb11 hb10 hlt9 z0 z1 z2 z3 z4 z5 z6 zf cf CW CWK HWK HTE hmb1 hmk1
     go_upto_region 28 with fail
     rw [← HW11.out]
     clear HW11 hOB
     have e0:W11.cell? ⟨EB,0,none⟩ = some (.int .i64 (eq:Int)):=(blk_c HEB.out 0).trans rfl
     by_cases heq:eq = 0
     ·subst heq
      obtain ⟨o0,o1,o2,o3,o4,o5,o6,of⟩:=o_cells HKO.out
      obtain ⟨r0,r1,r2,r3,r4,r5,r6,rf⟩:=o_cells (blk_on HKR.out HB11.out)
      have HFIN:Hid (RnPost w RR (.returned (.tuple #[.agg #[.string q.ty,.string q.cs,.string q.id,.string q.loc,.int .i64 q.how,.slice qb mb1 db,.slice qk mk1 dk],.int .i64 0])) (put7 W11 R0 (.string q.ty) (.string q.cs) (.string q.id) (.string q.loc) (.int .i64 q.how) (.slice qb mb1 db) (.slice qk mk1 dk))):=by
       have hRR:=HRP.out.1 rfl
       rw [hRR]
       refine ⟨put7_below (HLOW.out _ HB11.out) (by have:=HA.out;have:=HR0.out;omega) _ _ _ _ _ _ _,fun h=>absurd rfl h,fun _=>⟨qb,db,qk,dk,?_,?_⟩⟩
       ·show _ = Ending.returned (.tuple #[.agg #[.string q.ty,.string q.cs,.string q.id,.string q.loc,.int .i64 q.how,.slice qb q.body.length db,.slice qk q.kids.length dk],.int .i64 0])
        rw [HQL.out.1,HQL.out.2]
       ·refine HL.out _ fun b hb=>?_
        have h1:=HSZ.out
        rw [put7_block W11 R0 _ _ _ _ _ _ _ b (by have:=HA.out;have:=HR0.out;omega)]
        exact HBLK.out b (by have:=HA.out;have:=HR0.out;omega)
      clear HKO HB11 HEB HL HSZ HBLK HRP HNS HB9 HB8
      go_wp2_with fail
      refine bodyPost_ret (v:=.tuple #[.agg #[.string q.ty,.string q.cs,.string q.id,.string q.loc,.int .i64 q.how,.slice qb mb1 db,.slice qk mk1 dk],.int .i64 0]) ?_ rfl HFIN.out
      rw [results_cell_tmp rfl]
      go_simp
     ·have hez:((eq:Int) == 0) = false:=by rw [beq_eq_false_iff_ne];omega
      have hez2:¬ (eq:Int) = 0:=by omega
      have HBAD:Hid (∀ V,Below W1.heap.size W1 V→RnPost w RR (.returned (.tuple #[.agg z7,.int .i64 (eq:Int)])) (put7 V R0 (.string ⟨#[]⟩) (.string ⟨#[]⟩) (.string ⟨#[]⟩) (.string ⟨#[]⟩) (.int .i64 0) (.slice none 0 0) (.slice none 0 0))):=HBDD.out eq heq (HRP.out.2 heq)
      have hB11:=HB11.out
      clear HBDD HRP HL HSZ HBLK HNS HB9 HB8 HKO HB11
      generalize (eq:Int) = EQ at *
      go_wp2_with fail
      refine (CBAD.out (EQ) _).mono ?_
      rintro e w9 ⟨rfl,hb9⟩
      have hB9:Below W1.heap.size W1 w9:=hB11.trans (hb9.mono hB11.size)
      obtain ⟨r0,r1,r2,r3,r4,r5,r6,rf⟩:=o_cells (blk_on HKR.out hB9)
      have HFIN:Hid (RnPost w RR (.returned (.tuple #[.agg z7,.int .i64 EQ])) (put7 w9 R0 (.string ⟨#[]⟩) (.string ⟨#[]⟩) (.string ⟨#[]⟩) (.string ⟨#[]⟩) (.int .i64 0) (.slice none 0 0) (.slice none 0 0))):=HBAD.out w9 hB9
      clear hb9 hB9
      go_wp2_with fail
      refine bodyPost_ret (v:=.tuple #[.agg z7,.int .i64 EQ]) ?_ rfl HFIN.out
      rw [results_cell_tmp rfl]
      go_simp
   ·rw [if_pos hc] at hRR
    have HBAD:Hid (∀ V,Below W1.heap.size W1 V→RnPost w RR (.returned (.tuple #[.agg z7,.int .i64 (checkN ((placesP p).2.length:Int) (-1) [] ns:Nat)])) (put7 V R0 (.string ⟨#[]⟩) (.string ⟨#[]⟩) (.string ⟨#[]⟩) (.string ⟨#[]⟩) (.int .i64 0) (.slice none 0 0) (.slice none 0 0))):=HBD0 RR _ hc hRR
    have hcz:(((checkN ((placesP p).2.length:Int) (-1) [] ns:Nat):Int) == 0) = false:=by rw [beq_eq_false_iff_ne];omega
    have hcz2:¬ ((checkN ((placesP p).2.length:Int) (-1) [] ns:Nat):Int) = 0:=by omega
    generalize ((checkN ((placesP p).2.length:Int) (-1) [] ns:Nat):Int) = CN at *
    obtain ⟨nb,hnb⟩:∃ n,p.body.length = n:=⟨_,rfl⟩
    obtain ⟨nk,hnk⟩:∃ n,p.kids.length = n:=⟨_,rfl⟩
    simp only [hnb,hnk] at *
    clear hnb hnk
    clear HBD0 hRR hc hok hlev h12 hfl hln hlow hb1 hE en
    go_enter Tryz.func22,Tryz.ntmps22
    go_upto_region 2 with fail
    rw [HA.out,HR0.out]
    rw [← HW1.out]
    clear HW1
    obtain ⟨z0,z1,z2,z3,z4,z5,z6,zf⟩:=o_cells HKA.out
    go_wp2_with fail
    refine (CC.out _ h00).mono ?_
    rintro e w2 ⟨rfl,hb2⟩
    clear z0 z1 z2 z3 z4 z5 z6 zf CC h00
    go_upto_region 5 with fail
    obtain ⟨z0,z1,z2,z3,z4,z5,z6,zf⟩:=o_cells (blk_on HKA.out hb2)
    go_wp2_with fail
    refine (CFL.out _ hb2).mono ?_
    rintro e w3 ⟨fq,fc,rfl,hb23⟩
    have hb3:Below W1.heap.size W1 w3:=hb2.trans (hb23.mono hb2.size)
    clear z0 z1 z2 z3 z4 z5 z6 zf CFL hb23 hb2
    go_wp2_with fail
    refine (CNC.out _ hb3).mono ?_
    rintro e w4 ⟨rfl,hb34⟩
    have hb4:Below W1.heap.size W1 w4:=hb3.trans (hb34.mono hb3.size)
    clear hb34 hb3 CNC
    go_wp2_with fail
    refine (CBAD.out (CN) _).mono ?_
    rintro e w9 ⟨rfl,hb9⟩
    have hB9:Below W1.heap.size W1 w9:=hb4.trans (hb9.mono hb4.size)
    obtain ⟨r0,r1,r2,r3,r4,r5,r6,rf⟩:=o_cells (blk_on HKR.out hB9)
    have HFIN:Hid (RnPost w RR (.returned (.tuple #[.agg z7,.int .i64 CN])) (put7 w9 R0 (.string ⟨#[]⟩) (.string ⟨#[]⟩) (.string ⟨#[]⟩) (.string ⟨#[]⟩) (.int .i64 0) (.slice none 0 0) (.slice none 0 0))):=HBAD.out w9 hB9
    clear hb9 hB9
    go_wp2_with fail
    refine bodyPost_ret (v:=.tuple #[.agg z7,.int .i64 CN]) ?_ rfl HFIN.out
    rw [results_cell_tmp rfl]
    go_simp
  ·rw [if_pos hok] at hRR
   have HBAD:Hid (∀ V,Below W1.heap.size W1 V→RnPost w RR (.returned (.tuple #[.agg z7,.int .i64 ((placesP p).1:Int)])) (put7 V R0 (.string ⟨#[]⟩) (.string ⟨#[]⟩) (.string ⟨#[]⟩) (.string ⟨#[]⟩) (.int .i64 0) (.slice none 0 0) (.slice none 0 0))):=HBD0 RR _ hok hRR
   have hcz:(((placesP p).1:Int) == 0) = false:=by rw [beq_eq_false_iff_ne];omega
   have hcz2:¬ ((placesP p).1:Int) = 0:=by omega
   generalize ((placesP p).1:Int) = CN at *
   obtain ⟨nb,hnb⟩:∃ n,p.body.length = n:=⟨_,rfl⟩
   obtain ⟨nk,hnk⟩:∃ n,p.kids.length = n:=⟨_,rfl⟩
   simp only [hnb,hnk] at *
   clear hnb hnk
   clear HBD0 hRR hok hlow hb1 hE en CNC
   go_enter Tryz.func22,Tryz.ntmps22
   go_upto_region 2 with fail
   rw [HA.out,HR0.out]
   rw [← HW1.out]
   clear HW1
   obtain ⟨z0,z1,z2,z3,z4,z5,z6,zf⟩:=o_cells HKA.out
   go_wp2_with fail
   refine (CC.out _ h00).mono ?_
   rintro e w2 ⟨rfl,hb2⟩
   clear z0 z1 z2 z3 z4 z5 z6 zf CC h00
   go_wp2_with fail
   refine (CBAD.out (CN) _).mono ?_
   rintro e w9 ⟨rfl,hb9⟩
   have hB9:Below W1.heap.size W1 w9:=hb2.trans (hb9.mono hb2.size)
   obtain ⟨r0,r1,r2,r3,r4,r5,r6,rf⟩:=o_cells (blk_on HKR.out hB9)
   have HFIN:Hid (RnPost w RR (.returned (.tuple #[.agg z7,.int .i64 CN])) (put7 w9 R0 (.string ⟨#[]⟩) (.string ⟨#[]⟩) (.string ⟨#[]⟩) (.string ⟨#[]⟩) (.int .i64 0) (.slice none 0 0) (.slice none 0 0))):=HBAD.out w9 hB9
   clear hb9 hB9
   go_wp2_with fail
   refine bodyPost_ret (v:=.tuple #[.agg z7,.int .i64 CN]) ?_ rfl HFIN.out
   rw [results_cell_tmp rfl]
   go_simp
 exact hw _ rfl
end Go.Proofs.YtbbfcbodhmeanaaGreatDoor


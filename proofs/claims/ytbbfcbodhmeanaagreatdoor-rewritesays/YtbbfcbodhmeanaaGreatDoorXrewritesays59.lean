
import Derived.Test.YtbbfcbodhmeanaaGreatDoorXrewritesays55
namespace Go.Proofs.YtbbfcbodhmeanaaGreatDoor
open Go.RowKit
theorem flat_kids1:∀ (f:Nat) (p:PT),lev f p = true→∀ x ∈ flatP f p,x.kids.length + 1≤(flatP f p).length
 | 0,p,h,_,_=>by rw [lev] at h;cases h
 | f + 1,p,h,x,hx=>by
  rw [lev_succ,List.all_eq_true] at h
  have hge:∀ (l:List PT),(∀ k ∈ l,lev f k = true)→l.length≤(l.flatMap (flatP f)).length:=by
   intro l
   induction l with
   | nil=>intro _;exact Nat.zero_le _
   | cons k l ih =>
    intro hk
    rw [List.flatMap_cons,List.length_append,List.length_cons]
    have h1:=ih (fun y hy=>hk y (List.mem_cons_of_mem _ hy))
    have h2:1≤(flatP f k).length:=by
     have:=hk k (by simp)
     cases f with
     | zero=>rw [lev] at this;cases this
     | succ f=>rw [flatP_succ,List.length_cons];omega
    omega
  rw [flatP_succ,List.mem_cons] at hx
  rw [flatP_succ,List.length_cons]
  rcases hx with rfl | hx
  ·have:=hge x.kids h
   omega
  ·obtain ⟨k,hk,hx⟩:=List.mem_flatMap.1 hx
   have h1:=flat_kids1 f k (h k hk) x hx
   have h2:(flatP f k).length≤(p.kids.flatMap (flatP f)).length:=by
    obtain ⟨a,b,hab⟩:=List.append_of_mem hk
    rw [hab,List.flatMap_append,List.flatMap_cons,List.length_append,List.length_append]
    omega
   omega
theorem chk_body1 {x:PT} (h:chkA x = 0):x.body.length≤4000:=by
 unfold chkA at h
 split at h
 ·cases h
 ·split at h
  ·cases h
  ·split at h
   ·cases h
   ·omega
theorem chk_flat1 (p:PT) (h:(placesP p).1 = 0):∀ x ∈ flatP 4 p,chkA x = 0:=by
 have hp:=(places_flat p h).2.2
 intro x hx
 rw [← hp,List.mem_map] at hx
 obtain ⟨y,hy,rfl⟩:=hx
 refine bad_each (placesP p).2 ?_ y hy
 unfold placesP at h ⊢
 cases hq:put 4 [] p 1 (-1) with
 | none=>rw [hq] at h;cases h
 | some l =>
  rw [hq] at h
  simp only at h ⊢
  split
  ·assumption
  ·rfl
set_option maxHeartbeats 8000000 in
set_option maxRecDepth 100000 in
theorem names_any (p:PT) (pb:Option Addr) (cb:Nat) (pk:Option Addr) (ck F:Nat) (na:Option Addr) (nn nc:Nat) (ns:List NM) (en:nn = ns.length) (hnl:NLen ns) (w:World) (hE:LEnv w) (hH:PHeld w F p pb cb pk ck) (hnr:NmRow w na ns) :
  Calls Tryz.prog 21 #[.agg #[.string p.ty,.string p.cs,.string p.id,.string p.loc,.int .i64 p.how,.slice pb p.body.length cb,.slice pk p.kids.length ck],.slice na nn nc] w fun e w'=>NamesPost w (namesP p ns) e w':=by
 obtain ⟨W1,hW1⟩:∃ W,W = (w.alloc (.cells #[.string p.ty,.string p.cs,.string p.id,.string p.loc,.int .i64 p.how,.slice pb p.body.length cb,.slice pk p.kids.length ck] 25)).alloc (.cells #[.string ⟨#[]⟩,.string ⟨#[]⟩,.string ⟨#[]⟩,.string ⟨#[]⟩,.int .i64 0,.slice none 0 0,.slice none 0 0] 25):=⟨_,rfl⟩
 have hb1:Below w.heap.size w W1:=by rw [hW1];exact ((Below.refl _ _).alloc (Nat.le_refl _) _).alloc (by simp) _
 have kA1:W1.heap[w.heap.size]? = some (.cells #[.string p.ty,.string p.cs,.string p.id,.string p.loc,.int .i64 p.how,.slice pb p.body.length cb,.slice pk p.kids.length ck] 25):=by rw [hW1];exact blk_on (blk_new w _) ((Below.refl _ _).alloc (Nat.le_refl _) _)
 have kR1:W1.heap[w.heap.size + 1]? = some (.cells #[.string ⟨#[]⟩,.string ⟨#[]⟩,.string ⟨#[]⟩,.string ⟨#[]⟩,.int .i64 0,.slice none 0 0,.slice none 0 0] 25):=by
  rw [hW1]
  have:=blk_new (w.alloc (.cells #[.string p.ty,.string p.cs,.string p.id,.string p.loc,.int .i64 p.how,.slice pb p.body.length cb,.slice pk p.kids.length ck] 25)) (.cells #[.string ⟨#[]⟩,.string ⟨#[]⟩,.string ⟨#[]⟩,.string ⟨#[]⟩,.int .i64 0,.slice none 0 0,.slice none 0 0] 25)
  simpa using this
 obtain ⟨A,hA⟩:∃ A,w.heap.size = A:=⟨_,rfl⟩
 obtain ⟨r,hr⟩:∃ r,A + 1 = r:=⟨_,rfl⟩
 have HR:Hid (w.heap.size = A∧A + 1 = r):=⟨hA,hr⟩
 have hs1:W1.heap.size = r + 1:=by rw [hW1];simp;omega
 rw [hA] at kA1 kR1
 rw [hr] at kR1
 have HS1:Hid (W1.heap.size = r + 1):=hs1
 have hlow:∀ W,Below W1.heap.size W1 W→Below w.heap.size w W:=fun W hW=>hb1.trans (hW.mono hb1.size)
 have HLOW:Hid (∀ W,Below W1.heap.size W1 W→Below w.heap.size w W):=hlow
 have HKR:Hid (W1.heap[r]? = some (.cells #[.string ⟨#[]⟩,.string ⟨#[]⟩,.string ⟨#[]⟩,.string ⟨#[]⟩,.int .i64 0,.slice none 0 0,.slice none 0 0] 25)):=kR1
 have HKA:Hid (W1.heap[A]? = some (.cells #[.string p.ty,.string p.cs,.string p.id,.string p.loc,.int .i64 p.how,.slice pb p.body.length cb,.slice pk p.kids.length ck] 25)):=kA1
 have HE:Hid (LEnv w):=hE
 have HPH:Hid (∀ W,Below W1.heap.size W1 W→PHeld W F p pb cb pk ck):=fun W hW=>hH.below (hlow W hW)
 have HNR:Hid (∀ W,Below W1.heap.size W1 W→NmRow W na ns):=fun W hW=>hnr.below (hlow W hW)
 have CA:Hid (∀ W,Below W1.heap.size W1 W→Calls Tryz.prog 33 #[.agg #[.string p.ty,.string p.cs,.string p.id,.string p.loc,.int .i64 p.how,.slice pb p.body.length cb,.slice pk p.kids.length ck]] W fun e w'=>AllPost W (placesP p) e w'):=fun W hW=>all_any p pb cb pk ck F W (HPH.out W hW)
 have CC:Hid (∀ W,Below W1.heap.size W1 W→Calls Tryz.prog 24 #[.slice na nn nc,.int .i64 ((placesP p).2.length:Int)] W fun e w'=>e = .returned (.int .i64 (checkN ((placesP p).2.length:Int) (-1) [] ns:Nat))∧Below W.heap.size W w'):=fun W hW=>ncheck_any na nn nc ns en _ hnl W (HNR.out W hW)
 have CG:Hid (∀ W,Below W1.heap.size W1 W→Calls Tryz.prog 9 #[.agg #[.string p.ty,.string p.cs,.string p.id,.string p.loc,.int .i64 p.how,.slice pb p.body.length cb,.slice pk p.kids.length ck]] W fun e w'=>GoalsPost W (placesP p) e w'):=fun W hW=>bgoals_any p pb cb pk ck F W (hE.below (hlow W hW)) (HPH.out W hW)
 have HNL:Hid (NLen ns):=hnl
 have HNN:Hid (nn = ns.length):=en
 have hfew:=placesP_few p
 have HGP:Hid (goalsP p = goalsGo lowT ((placesP p).2.map fun x=>x.1.alone) (whereP (placesP p).2) 0 ((placesP p).2.map fun x=>x.1.alone) []):=rfl
 have HPF:Hid ((placesP p).1 = 0→lev 4 p = true∧(flatP 4 p).length≤12):=fun h=>⟨(places_flat p h).1,(places_flat p h).2.1⟩
 have HCW:Hid ((placesP p).1 = 0→∀ W,Below W1.heap.size W1 W→Calls Tryz.prog 62 #[.agg #[.string p.ty,.string p.cs,.string p.id,.string p.loc,.int .i64 p.how,.slice pb p.body.length cb,.slice pk p.kids.length ck]] W fun e w'=>WholePost 4 p W e w'):=fun h W hW=>whole_any 4 F p pb cb pk ck W (HPF.out h).1 (fun x hx=>⟨by have:=flat_kids1 4 p (HPF.out h).1 x hx;have:=(HPF.out h).2;omega,by have:=chk_body1 (chk_flat1 p h x hx);omega⟩) (HPH.out W hW)
 have HW1:Hid (W1 = (w.alloc (.cells #[.string p.ty,.string p.cs,.string p.id,.string p.loc,.int .i64 p.how,.slice pb p.body.length cb,.slice pk p.kids.length ck] 25)).alloc (.cells #[.string ⟨#[]⟩,.string ⟨#[]⟩,.string ⟨#[]⟩,.string ⟨#[]⟩,.int .i64 0,.slice none 0 0,.slice none 0 0] 25)):=hW1
 have h00:Below W1.heap.size W1 W1:=Below.refl _ _
 have HNP:Hid (namesP p ns = if (placesP p).1 ≠ 0 then ((placesP p).1,pzero) else if checkN ((placesP p).2.length:Int) (-1) [] ns ≠ 0 then (checkN ((placesP p).2.length:Int) (-1) [] ns,pzero) else match goalsP p with | none=>(2,pzero) | some gs=>if (eachT (textsS (callS ns) gs) 4 p 0).1 ≠ 0 then ((eachT (textsS (callS ns) gs) 4 p 0).1,pzero) else (0,(eachT (textsS (callS ns) gs) 4 p 0).2.1)):=rfl
 generalize namesP p ns = RES at *
 clear hW1 hb1 kA1 kR1 hlow hE hH hnr hnl en hs1
 by_cases hok:(placesP p).1 = 0
 ·have HOK:Hid ((placesP p).1 = 0):=hok
  have HCW2:=HCW.out hok
  have HCWW:Hid (∀ W,Below W1.heap.size W1 W→Calls Tryz.prog 62 #[.agg #[.string p.ty,.string p.cs,.string p.id,.string p.loc,.int .i64 p.how,.slice pb p.body.length cb,.slice pk p.kids.length ck]] W fun e w'=>WholePost 4 p W e w'):=HCW2
  have HLV:=HPF.out hok
  have HLEV:Hid (lev 4 p = true∧(flatP 4 p).length≤12):=HLV
  have hnp:=HNP.out
  rw [if_neg (by rw [hok];simp)] at hnp
  have HNP1:Hid _:=hnp
  clear hnp HCW2 HLV HCW HPF HNP
  have CA2:Hid (∀ W,Below W1.heap.size W1 W→Calls Tryz.prog 33 #[.agg #[.string p.ty,.string p.cs,.string p.id,.string p.loc,.int .i64 p.how,.slice pb p.body.length cb,.slice pk p.kids.length ck]] W fun e w'=>∃ q c,e = .returned (.tuple #[.slice q (placesP p).2.length c,.int .i64 0])∧Below W1.heap.size W1 w'):=fun W hW=>(CA.out W hW).mono fun e w' h=>by
   obtain ⟨q,c,he,_⟩:=h.2.2 hok
   exact ⟨q,c,he,hW.trans (h.1.mono hW.size)⟩
  obtain ⟨CE,hCE⟩:∃ E,checkN ((placesP p).2.length:Int) (-1) [] ns = E:=⟨_,rfl⟩
  have HCI:Hid (CE = 0→∀ n ∈ ns,∃ m:Nat,m < 12∧n.1 = (m:Int)):=fun h n hn=>by
   have:=check_in _ ns (-1) [] (hCE.trans h) n hn
   exact ⟨n.1.toNat,by omega,by omega⟩
  have CG2:Hid (∀ W,Below W1.heap.size W1 W→Calls Tryz.prog 9 #[.agg #[.string p.ty,.string p.cs,.string p.id,.string p.loc,.int .i64 p.how,.slice pb p.body.length cb,.slice pk p.kids.length ck]] W fun e w'=>(goalsP p = none→e = .returned (.tuple #[.slice none 0 0,.int .i64 2]))∧(∀ gs,goalsP p = some gs→∃ q c,e = .returned (.tuple #[.slice q gs.length c,.int .i64 0])∧G6 w' q gs.length gs)∧Below W1.heap.size W1 w'):=fun W hW=>(CG.out W hW).mono fun e w' h=>by
   have h2:=h.2.2 hok
   have hb':=hW.trans (h.1.mono hW.size)
   rw [← HGP.out] at h2
   refine ⟨fun hn=>by rw [hn] at h2;exact h2,fun gs hg=>?_,hb'⟩
   rw [hg] at h2
   obtain ⟨v,he,ho⟩:=h2
   obtain ⟨q,c,rfl,_,_,hk⟩:=owned_goals ho
   exact ⟨q,c,he,hk⟩
  rw [hCE] at CC HNP1
  have HGIN:Hid (∀ gs,goalsP p = some gs→(∀ g ∈ gs,GIn g)∧gs.length≤720):=fun gs h=>goalsP_in p gs h
  clear hCE CG HGP CA HOK hok
  generalize (placesP p).2.length = PL at *
  obtain ⟨bl,hbl⟩:∃ n,p.body.length = n:=⟨_,rfl⟩
  obtain ⟨kl,hkl⟩:∃ n,p.kids.length = n:=⟨_,rfl⟩
  have HBL:Hid (p.body.length = bl∧p.kids.length = kl):=⟨hbl,hkl⟩
  rw [hbl,hkl] at CA2 CG2 HCWW HKA HW1
  rw [hbl,hkl]
  clear hbl hkl
  go_enter Tryz.func21,Tryz.ntmps21
  go_upto_region 1 with fail
  rw [← HW1.out]
  obtain ⟨z0,z1,z2,z3,z4,z5,z6,zf⟩:=o_cells HKA.out
  go_wp2_with fail
  refine (CA2.out _ h00).mono ?_
  rintro e w2 ⟨q2,c2,rfl,hb2⟩
  clear z0 z1 z2 z3 z4 z5 z6 zf HW1 hA hr CA2
  go_wp2_with fail
  refine (CC.out _ hb2).mono ?_
  rintro e w3 ⟨rfl,hb23⟩
  have hb3:Below W1.heap.size W1 w3:=hb2.trans (hb23.mono hb2.size)
  clear hb23 hb2 CC
  by_cases hce:CE = 0
  ·subst hce
   have HCI0:Hid (∀ n ∈ ns,∃ m:Nat,m < 12∧n.1 = (m:Int)):=HCI.out rfl
   clear HCI
   have hnp:=HNP1.out
   rw [if_neg (by simp)] at hnp
   have HNP2:Hid _:=hnp
   obtain ⟨z0,z1,z2,z3,z4,z5,z6,zf⟩:=o_cells (blk_on HKA.out hb3)
   clear hnp HNP1
   go_wp2_with fail
   refine (CG2.out _ hb3).mono ?_
   rintro e w4 ⟨hno,hso,hb4⟩
   clear z0 z1 z2 z3 z4 z5 z6 zf CG2 hb3
   cases hgp:goalsP p with
   | none =>
    obtain rfl:=hno hgp
    have HRE:Hid (RES = (2,pzero)):=by unfold Hid;rw [HNP2.out,hgp]
    have h2:¬ (2:Nat) = 0:=by decide
    clear hno hso hgp HNP2 HGIN HCI0 HPH HNR HNL HNN HE hfew HCWW HLEV
    have HFIN:Hid (NamesPost w RES (.returned (.tuple #[.agg #[.string ⟨#[]⟩,.string ⟨#[]⟩,.string ⟨#[]⟩,.string ⟨#[]⟩,.int .i64 0,.slice none 0 0,.slice none 0 0],.int .i64 ((2:Nat):Int)])) (put7 w4 r (.string ⟨#[]⟩) (.string ⟨#[]⟩) (.string ⟨#[]⟩) (.string ⟨#[]⟩) (.int .i64 0) (.slice none 0 0) (.slice none 0 0))):=by
     unfold Hid
     rw [HRE.out]
     exact ⟨put7_below (HLOW.out _ hb4) (by have:=HR.out;omega) _ _ _ _ _ _ _,fun _=>rfl,fun h=>absurd h (by assumption)⟩
    obtain ⟨r0,r1,r2,r3,r4,r5,r6,rf⟩:=o_cells (blk_on HKR.out hb4)
    go_wp2_with fail
    refine bodyPost_ret (v:=.tuple #[.agg #[.string ⟨#[]⟩,.string ⟨#[]⟩,.string ⟨#[]⟩,.string ⟨#[]⟩,.int .i64 0,.slice none 0 0,.slice none 0 0],.int .i64 ((2:Nat):Int)]) ?_ rfl HFIN.out
    rw [results_cell_tmp rfl]
    go_simp
   | some gs =>
    obtain ⟨q4,c4,rfl,hg4⟩:=hso gs hgp
    obtain ⟨hgin,hg7⟩:=HGIN.out gs hgp
    have HRE:Hid (RES = if (eachT (textsS (callS ns) gs) 4 p 0).1 ≠ 0 then ((eachT (textsS (callS ns) gs) 4 p 0).1,pzero) else (0,(eachT (textsS (callS ns) gs) 4 p 0).2.1)):=by unfold Hid;rw [HNP2.out,hgp]
    have CT:Hid (Calls Tryz.prog 61 #[.slice q4 gs.length c4,.slice na nn nc] w4 fun e w'=>TextsPost w4 (textsS (callS ns) gs) e w'):=texts_any q4 gs.length c4 gs na nn nc ns HNN.out (by omega) HCI0.out hgin HNL.out w4 hg4 (HNR.out w4 hb4)
    have HTL:Hid (∀ i,i < 12→(textsS (callS ns) gs i).length≤maxLen∧∀ t ∈ textsS (callS ns) gs i,t.size≤maxLen):=fun i _=>by
     have h1:=textsS_each (callS ns) (fun i=>callS_size ns (fun n hn=>(HNL.out.2 n hn).2.2) i) gs i
     exact ⟨by have:=h1.1;unfold maxLen;omega,h1.2⟩
    obtain ⟨tx,htx⟩:∃ x,textsS (callS ns) gs = x:=⟨_,rfl⟩
    obtain ⟨gl,hgl⟩:∃ x,gs.length = x:=⟨_,rfl⟩
    rw [htx] at HRE HTL CT
    rw [hgl] at CT hg7 ⊢
    clear htx hgl
    have HB4:Hid (Below W1.heap.size W1 w4):=hb4
    clear hno hso hgp HNP2 HGIN HCI0 HNR HNL HNN hfew hg4 hgin hb4
    go_wp2_with fail
    refine CT.out.mono ?_
    rintro e w5 ⟨tt,v,rfl,hb45,ht2,ht3,hown⟩
    have HB5:Hid (Below W1.heap.size W1 w5):=HB4.out.trans (hb45.mono HB4.out.size)
    obtain ⟨T0,hT0⟩:∃ T,w5.heap.size = T:=⟨_,rfl⟩
    obtain ⟨V5,hV5⟩:∃ V,V = (w5.alloc (.cells AL12 98)).setCells T0 0 tt.toList:=⟨_,rfl⟩
    have hnew:(w5.alloc (.cells AL12 98)).heap[T0]? = some (.cells AL12 98):=by rw [← hT0];exact blk_new _ _
    have hV5s:V5.heap.size = T0 + 1:=by rw [hV5,setCells_size,← hT0];simp
    have hV5b:∀ k,k < T0→V5.heap[k]? = w5.heap[k]?:=fun k hk=>by rw [hV5,setCells_block _ _ _ _ k (by omega),Below.heap_alloc _ _ _ (by omega)]
    have hV5t:V5.heap[T0]? = some (.cells tt 98):=by rw [hV5];exact filled12 hnew rfl ht2
    have hBV5:Below W1.heap.size W1 V5:=by
     rw [hV5]
     exact setCells_below (W:=w5) (by rw [← hT0];exact HB5.out.size) _ _ _ (HB5.out.alloc HB5.out.size _)
    have HTX:Hid (TxAt T0 (T0 + 1) tx V5):=txat_of (w:=w4) (W:=w5) (v:=v) hT0.symm hV5s hV5t (fun k hk=>hV5b k (by omega)) ht3 hown HTL.out
    have HTH:Hid ((w5.alloc (.cells AL12 98)).there T0 0 tt.size):=by unfold Hid;rw [ht2];exact there12 hnew rfl
    have HINF:Hid ((Tryz.prog.info? 98).map (·.size) = some tt.size):=by unfold Hid;rw [ht2];kernel_rfl
    have HALL:Hid (tt.all (·.oneCell') = true):=by
     unfold Hid
     rw [Array.all_eq_true]
     intro i hi
     have h1:=ht3 i (by omega)
     rw [Array.getElem?_eq_getElem hi] at h1
     obtain ⟨qa,ca,hq⟩:=owned_slice (hown i (by omega))
     rw [hq] at h1
     rw [Option.some.inj h1]
     rfl
    have HV5:Hid (V5 = (w5.alloc (.cells AL12 98)).setCells T0 0 tt.toList):=hV5
    have HBV:Hid (Below W1.heap.size W1 V5):=hBV5
    have HVS:Hid (V5.heap.size = T0 + 1):=hV5s
    have HWH:Hid (Calls Tryz.prog 62 #[.agg #[.string p.ty,.string p.cs,.string p.id,.string p.loc,.int .i64 p.how,.slice pb bl cb,.slice pk kl ck]] V5 fun e w'=>WholePost 4 p V5 e w'):=HCWW.out V5 hBV5
    clear hb45 ht2 ht3 hown hV5 hnew hV5s hV5b hV5t hBV5 CT HTL HCWW HB4 HB5
    go_upto_region 11 with (refine wpList_store_mid rfl 98 (.tmp 10) (.tmp 41) rfl T0 0 tt rfl rfl HTH.out HINF.out HALL.out ?_)
    rw [← HV5.out]
    clear HV5 HTH HINF HALL hT0
    obtain ⟨z0,z1,z2,z3,z4,z5,z6,zf⟩:=o_cells (blk_on HKA.out HBV.out)
    go_wp2_with fail
    refine HWH.out.mono ?_
    rintro e w6 ⟨ob,oc,ok,oq,rfl,hb6,hi6,hh6⟩
    rw [HBL.out.1,HBL.out.2]
    clear z0 z1 z2 z3 z4 z5 z6 zf HWH
    have hBW6:Below W1.heap.size W1 w6:=HBV.out.trans (hb6.mono HBV.out.size)
    obtain ⟨O,hO⟩:∃ O,w6.heap.size = O:=⟨_,rfl⟩
    obtain ⟨nb,hnb⟩:∃ n,O + 1 = n:=⟨_,rfl⟩
    obtain ⟨V7,hV7⟩:∃ V,V = (w6.alloc (.cells #[.string p.ty,.string p.cs,.string p.id,.string p.loc,.int .i64 p.how,.slice ob bl oc,.slice ok kl oq] 25)).alloc (.cells #[.int .i64 0] 3):=⟨_,rfl⟩
    have hb67:Below w6.heap.size w6 V7:=by rw [hV7];exact ((Below.refl _ _).alloc (Nat.le_refl _) _).alloc (by simp) _
    have kO:V7.heap[O]? = some (.cells #[.string p.ty,.string p.cs,.string p.id,.string p.loc,.int .i64 p.how,.slice ob bl oc,.slice ok kl oq] 25):=by rw [hV7,← hO];exact blk_on (blk_new w6 _) ((Below.refl _ _).alloc (Nat.le_refl _) _)
    have kN:NumAt V7 nb ((0:Nat):Int):=by
     rw [hV7,← hnb,← hO]
     have:=blk_new (w6.alloc (.cells #[.string p.ty,.string p.cs,.string p.id,.string p.loc,.int .i64 p.how,.slice ob bl oc,.slice ok kl oq] 25)) (.cells #[.int .i64 0] 3)
     simpa [NumAt] using this
    have hV7s:V7.heap.size = nb + 1:=by rw [hV7];simp;omega
    have hBV7:Below W1.heap.size W1 V7:=hBW6.trans (hb67.mono hBW6.size)
    have hT7:TxAt T0 (T0 + 1) tx V7:=HTX.out.move (by have:=hb6.size;have:=hb67.size;omega) (fun k hk=>by rw [hb67.block k (by have:=hb6.size;have:=HVS.out;omega),hb6.block k (by have:=HVS.out;omega)])
    have hV5O:T0 + 1≤O:=by have:=hb6.size;have:=HVS.out;omega
    have hw5:w.heap.size≤T0 + 1:=by have:=(HLOW.out _ HBV.out).size;have:=HVS.out;omega
    obtain ⟨p1,p2,p3,p4,p5⟩:=hh6
    have hPH7:PHeldK (fun a l=>RT V7 (fromB (nb + 1)) 4 V5.heap.size O a oq l) V7 p ob oc ok oq:=⟨p1,p2,p3.under hb67,p4,RT.kind (fun b (hb:noB b)=>hb.elim) 4 _ _ _ _ _ (by rw [← hO];exact RT.below p5 hb67)⟩
    have hIB7:InB (BK (fromB (nb + 1)) V5.heap.size O ok p.kids) ob:=fun a ha=>by
     have:=hi6 a ha
     rw [hO] at this
     exact this.imp_right fun h=>h.elim
    have HEA:Hid (Calls Tryz.prog 63 #[.pointer (some ⟨O,0,none⟩),doF T0 nb] V7 fun e w'=>EachPost V7 O 0 nb V5.heap.size O (fromB (nb + 1)) 4 (eachT tx 4 p 0) ok oq e w'):=each_any w HE.out T0 (T0 + 1) nb (nb + 1) tx hw5 (by omega) (by omega) 4 p O 0 V5.heap.size O 0 ob oc ok oq #[.string p.ty,.string p.cs,.string p.id,.string p.loc,.int .i64 p.how,.slice ob bl oc,.slice ok kl oq] V7 HLEV.out.1 (by have:=HLEV.out.2;omega) hV5O (by omega) (by omega) (by have:=HVS.out;omega) (by omega) (by omega) (by omega) (HLOW.out _ hBV7) (by omega) hT7 kN kO (by rw [HBL.out.1];rfl) (by rw [HBL.out.2];rfl) hIB7 hPH7
    have HKO:Hid (V7.heap[O]? = some (.cells #[.string p.ty,.string p.cs,.string p.id,.string p.loc,.int .i64 p.how,.slice ob bl oc,.slice ok kl oq] 25)):=kO
    have HB7:Hid (Below W1.heap.size W1 V7):=hBV7
    have HNUM:Hid (O + 1 = nb∧V7.heap.size = nb + 1∧T0 + 1≤O∧W1.heap.size≤V5.heap.size∧W1.heap.size≤O):=⟨hnb,hV7s,hV5O,HBV.out.size,by rw [← hO];exact hBW6.size⟩
    have HV7:Hid (V7 = (w6.alloc (.cells #[.string p.ty,.string p.cs,.string p.id,.string p.loc,.int .i64 p.how,.slice ob bl oc,.slice ok kl oq] 25)).alloc (.cells #[.int .i64 0] 3)):=hV7
    have HSAME:Hid ((eachT tx 4 p 0).1 = 0→(eachT tx 4 p 0).2.1.ty = p.ty∧(eachT tx 4 p 0).2.1.cs = p.cs∧(eachT tx 4 p 0).2.1.id = p.id∧(eachT tx 4 p 0).2.1.loc = p.loc∧(eachT tx 4 p 0).2.1.how = p.how∧(eachT tx 4 p 0).2.1.kids.length = p.kids.length):=eachT_same tx 4 p 0
    clear hBW6 hV7 hb67 kO kN hV7s hBV7 hT7 hV5O hw5 p1 p2 p3 p4 p5 hPH7 hIB7 hi6 hb6 HTX HVS HPH HLEV HE
    go_upto_region 13 with fail
    rw [← HV7.out]
    clear HV7 hO hnb
    obtain ⟨R,hR⟩:∃ R,eachT tx 4 p 0 = R:=⟨_,rfl⟩
    rw [hR] at HEA HRE HSAME
    clear hR
    obtain ⟨RE,RP,RK⟩:=R
    simp only at HRE HSAME
    go_wp2_with fail
    refine HEA.out.mono ?_
    rintro e w8 ⟨rfl,ht8,hok8⟩
    simp only at hok8
    have hBW8:Below W1.heap.size W1 w8:=ht8.under HB7.out HB7.out.size (fun k hk=>by have:=HNUM.out;rcases hk with hk | hk | hk <;> omega)
    by_cases hre:RE = 0
    ·subst hre
     obtain ⟨_,fb,fc,hfo,hif,hhf⟩:=hok8 rfl
     obtain ⟨fl,hfl⟩:∃ n,RP.body.length = n:=⟨_,rfl⟩
     rw [hfl] at hfo
     have kO8:w8.heap[O]? = some (.cells #[.string p.ty,.string p.cs,.string p.id,.string p.loc,.int .i64 p.how,.slice fb fl fc,.slice ok kl oq] 25):=by rw [hfo,set_blk HKO.out];rfl
     obtain ⟨s1,s2,s3,s4,s5,s6⟩:=HSAME.out rfl
     have HFIN:Hid (NamesPost w RES (.returned (.tuple #[.agg #[.string p.ty,.string p.cs,.string p.id,.string p.loc,.int .i64 p.how,.slice fb fl fc,.slice ok kl oq],.int .i64 0])) (put7 w8 r (.string p.ty) (.string p.cs) (.string p.id) (.string p.loc) (.int .i64 p.how) (.slice fb fl fc) (.slice ok kl oq))):=by
      have hn:=HNUM.out
      have hr1:=HS1.out
      unfold Hid
      rw [HRE.out,if_neg (by simp)]
      obtain ⟨p1,p2,p3,p4,p5⟩:=hhf
      have hmv:∀ V:World,(∀ b,w.heap.size≤b→b < (put7 w8 r (.string p.ty) (.string p.cs) (.string p.id) (.string p.loc) (.int .i64 p.how) (.slice fb fl fc) (.slice ok kl oq)).heap.size→V.heap[b]? = (put7 w8 r (.string p.ty) (.string p.cs) (.string p.id) (.string p.loc) (.int .i64 p.how) (.slice fb fl fc) (.slice ok kl oq)).heap[b]?)→∀ b,(V5.heap.size≤b∧b < O) ∨ fromB (nb + 1) b→b < w8.heap.size→V.heap[b]? = w8.heap[b]?:=fun V hV b hb hl=>by
       have hb':(V5.heap.size≤b∧b < O) ∨ nb + 1≤b:=hb
       have hr2:=HR.out
       have h1:w.heap.size≤b:=by rcases hb' with h | h <;> omega
       have h2:b ≠ r:=by rcases hb' with h | h <;> omega
       rw [hV b h1 (by rw [put7_size];exact hl)]
       exact put7_block w8 r _ _ _ _ _ _ _ b h2
      have hfar:NFar w (put7 w8 r (.string p.ty) (.string p.cs) (.string p.id) (.string p.loc) (.int .i64 p.how) (.slice fb fl fc) (.slice ok kl oq)) RP fb fc ok oq:=fun V hV=>⟨p1,p2,BRow.move (hmv V hV) p3 (fun a ha=>(hif a ha).out),p4,RT.at 4 _ _ _ _ _ (RT.move 4 _ _ _ _ _ (hmv V hV) p5)⟩
      refine ⟨put7_below (HLOW.out _ hBW8) (by have:=HR.out;omega) _ _ _ _ _ _ _,fun h=>absurd rfl h,fun _=>⟨fb,fc,ok,oq,?_,hfar.held,hfar⟩⟩
      simp only
      rw [s1,s2,s3,s4,s5,s6,HBL.out.2,hfl]
     have hOr:¬ O = r:=by have:=HNUM.out;have:=HS1.out;omega
     obtain ⟨z0,z1,z2,z3,z4,z5,z6,zf⟩:=o_cells kO8
     obtain ⟨r0,r1,r2,r3,r4,r5,r6,rf⟩:=o_cells (blk_on HKR.out hBW8)
     clear hfo hif hhf kO8 s1 s2 s3 s4 s5 s6 HRE HSAME HEA HKO HB7 ht8 hok8 hfl hBW8
     go_wp2_with fail
     refine bodyPost_ret (v:=.tuple #[.agg #[.string p.ty,.string p.cs,.string p.id,.string p.loc,.int .i64 p.how,.slice fb fl fc,.slice ok kl oq],.int .i64 0]) ?_ rfl HFIN.out
     rw [results_cell_tmp rfl]
     go_simp
    ·have hz:((RE:Int) == 0) = false:=by rw [beq_eq_false_iff_ne];omega
     have hz2:¬ (RE:Int) = 0:=by omega
     have HRE2:Hid (RES = (RE,pzero)):=by unfold Hid;rw [HRE.out,if_pos hre]
     clear HRE HSAME HEA HKO HB7 ht8 hok8
     have HFIN:Hid (NamesPost w RES (.returned (.tuple #[.agg #[.string ⟨#[]⟩,.string ⟨#[]⟩,.string ⟨#[]⟩,.string ⟨#[]⟩,.int .i64 0,.slice none 0 0,.slice none 0 0],.int .i64 (RE:Int)])) (put7 w8 r (.string ⟨#[]⟩) (.string ⟨#[]⟩) (.string ⟨#[]⟩) (.string ⟨#[]⟩) (.int .i64 0) (.slice none 0 0) (.slice none 0 0))):=by
      unfold Hid
      rw [HRE2.out]
      exact ⟨put7_below (HLOW.out _ hBW8) (by have:=HR.out;omega) _ _ _ _ _ _ _,fun _=>rfl,fun h=>absurd h (by assumption)⟩
     obtain ⟨r0,r1,r2,r3,r4,r5,r6,rf⟩:=o_cells (blk_on HKR.out hBW8)
     go_wp2_with fail
     refine bodyPost_ret (v:=.tuple #[.agg #[.string ⟨#[]⟩,.string ⟨#[]⟩,.string ⟨#[]⟩,.string ⟨#[]⟩,.int .i64 0,.slice none 0 0,.slice none 0 0],.int .i64 (RE:Int)]) ?_ rfl HFIN.out
     rw [results_cell_tmp rfl]
     go_simp
  ·have HRE:Hid (RES = (CE,pzero)):=by unfold Hid;rw [HNP1.out,if_pos hce]
   have hz:((CE:Int) == 0) = false:=by rw [beq_eq_false_iff_ne];omega
   have hz2:¬ (CE:Int) = 0:=by omega
   clear HNP1 HGIN HCI CG2 HPH HNR HNL HNN HE hfew HCWW HLEV
   have HFIN:Hid (NamesPost w RES (.returned (.tuple #[.agg #[.string ⟨#[]⟩,.string ⟨#[]⟩,.string ⟨#[]⟩,.string ⟨#[]⟩,.int .i64 0,.slice none 0 0,.slice none 0 0],.int .i64 (CE:Int)])) (put7 w3 r (.string ⟨#[]⟩) (.string ⟨#[]⟩) (.string ⟨#[]⟩) (.string ⟨#[]⟩) (.int .i64 0) (.slice none 0 0) (.slice none 0 0))):=by
    unfold Hid
    rw [HRE.out]
    exact ⟨put7_below (HLOW.out _ hb3) (by have:=HR.out;omega) _ _ _ _ _ _ _,fun _=>rfl,fun h=>absurd h (by assumption)⟩
   obtain ⟨r0,r1,r2,r3,r4,r5,r6,rf⟩:=o_cells (blk_on HKR.out hb3)
   go_wp2_with fail
   refine bodyPost_ret (v:=.tuple #[.agg #[.string ⟨#[]⟩,.string ⟨#[]⟩,.string ⟨#[]⟩,.string ⟨#[]⟩,.int .i64 0,.slice none 0 0,.slice none 0 0],.int .i64 (CE:Int)]) ?_ rfl HFIN.out
   rw [results_cell_tmp rfl]
   go_simp
 ·have CA2:Hid (∀ W,Below W1.heap.size W1 W→Calls Tryz.prog 33 #[.agg #[.string p.ty,.string p.cs,.string p.id,.string p.loc,.int .i64 p.how,.slice pb p.body.length cb,.slice pk p.kids.length ck]] W fun e w'=>e = .returned (.tuple #[.slice none 0 0,.int .i64 ((placesP p).1:Int)])∧Below W1.heap.size W1 w'):=fun W hW=>(CA.out W hW).mono fun e w' h=>⟨h.2.1 hok,hW.trans (h.1.mono hW.size)⟩
  have HRE:Hid (RES = ((placesP p).1,pzero)):=by unfold Hid;rw [HNP.out,if_pos hok]
  obtain ⟨E,hEE⟩:∃ E,(placesP p).1 = E:=⟨_,rfl⟩
  rw [hEE] at CA2 HRE hok
  have hz:((E:Int) == 0) = false:=by rw [beq_eq_false_iff_ne];omega
  have hz2:¬ (E:Int) = 0:=by omega
  clear HNP HGP HPF HCW CC CG hEE CA HNR HPH HNL HNN HE hfew
  generalize p.body.length = bl at *
  generalize p.kids.length = kl at *
  go_enter Tryz.func21,Tryz.ntmps21
  go_upto_region 1 with fail
  rw [← HW1.out]
  obtain ⟨z0,z1,z2,z3,z4,z5,z6,zf⟩:=o_cells HKA.out
  go_wp2_with fail
  refine (CA2.out _ h00).mono ?_
  rintro e w2 ⟨rfl,hb2⟩
  clear z0 z1 z2 z3 z4 z5 z6 zf HW1 hA hr
  have HFIN:Hid (NamesPost w RES (.returned (.tuple #[.agg #[.string ⟨#[]⟩,.string ⟨#[]⟩,.string ⟨#[]⟩,.string ⟨#[]⟩,.int .i64 0,.slice none 0 0,.slice none 0 0],.int .i64 (E:Int)])) (put7 w2 r (.string ⟨#[]⟩) (.string ⟨#[]⟩) (.string ⟨#[]⟩) (.string ⟨#[]⟩) (.int .i64 0) (.slice none 0 0) (.slice none 0 0))):=by
   unfold Hid
   rw [HRE.out]
   exact ⟨put7_below (HLOW.out _ hb2) (by have:=HR.out;omega) _ _ _ _ _ _ _,fun _=>rfl,fun h=>absurd h (by assumption)⟩
  obtain ⟨r0,r1,r2,r3,r4,r5,r6,rf⟩:=o_cells (blk_on HKR.out hb2)
  go_wp2_with fail
  refine bodyPost_ret (v:=.tuple #[.agg #[.string ⟨#[]⟩,.string ⟨#[]⟩,.string ⟨#[]⟩,.string ⟨#[]⟩,.int .i64 0,.slice none 0 0,.slice none 0 0],.int .i64 (E:Int)]) ?_ rfl HFIN.out
  rw [results_cell_tmp rfl]
  go_simp
end Go.Proofs.YtbbfcbodhmeanaaGreatDoor



namespace Go.Proofs.YtbbfcbodhmeanaaGreatDoor
def hab:List UInt8:=[104,116,116,112,58,47,47,104,47,97,47,98]
def hac:List UInt8:=[104,116,116,112,58,47,47,104,47,97,47,99]
def habd:List UInt8:=[104,116,116,112,58,47,47,104,47,97,47,98,35,100]
theorem small_pl:placesP smallT = (0,[(smallT,-1),(partA,0),(partB,0)]):=by kernel_rfl
theorem small_wh:whereP [(smallT,-1),(partA,0),(partB,0)] = [hab,hab,hac]:=by kernel_rfl
def smallG:List GL:=[⟨1,9,10,[99],hac,2⟩,⟨1,21,26,[99,105,100,58,120],[99,105,100,58,120],2⟩,⟨1,35,37,[35,100],habd,-1⟩]
theorem small_go:goalsGo lowT [smallT.alone,partA.alone,partB.alone] [hab,hab,hac] 0 [smallT.alone,partA.alone,partB.alone] [] = some smallG:=by kernel_rfl
end Go.Proofs.YtbbfcbodhmeanaaGreatDoor



namespace Go.Proofs.YtbbfcbodhmeanaaGreatDoor
open Go.RowKit
def renB:List UInt8:=[60,97,32,104,114,101,102,61,39,112,46,112,110,103,39,62,60,105,109,103,32,83,82,67,61,112,46,112,110,103,62,60,97,32,104,114,101,102,61,35,100,62]
def pngB:ByteArray:=⟨#[112,46,112,110,103]⟩
def smallR:PT:={ smallT with kids:=[{ partA with body:=renB },partB] }
theorem small_check:checkN 3 (-1) [] [(2,pngB)] = 0:=by kernel_rfl
theorem small_each:eachT (textsS (callS [(2,pngB)]) smallG) 4 smallT 0 = (0,smallR,3):=by kernel_rfl
theorem small_goP:goalsP smallT = some smallG:=by
 unfold goalsP
 rw [small_pl]
 show goalsGo lowT [smallT.alone,partA.alone,partB.alone] (whereP [(smallT,-1),(partA,0),(partB,0)]) 0 [smallT.alone,partA.alone,partB.alone] [] = some smallG
 rw [small_wh]
 exact small_go
theorem small_named:namesP smallT [(2,pngB)] = (0,smallR):=by
 unfold namesP
 rw [small_goP,small_pl]
 simp only [ne_eq,not_true_eq_false,if_false]
 rw [if_neg (by show ¬ ¬ checkN 3 (-1) [] [(2,pngB)] = 0;rw [small_check];simp),small_each]
 rfl
theorem ren_eq:((lba renB).toList == [60,97,32,104,114,101,102,61,39,112,46,112,110,103,39,62,60,105,109,103,32,83,82,67,61,112,46,112,110,103,62,60,97,32,104,114,101,102,61,35,100,62]) = true:=by kernel_rfl
end Go.Proofs.YtbbfcbodhmeanaaGreatDoor



namespace Go.Proofs.YtbbfcbodhmeanaaGreatDoor
open Go.RowKit
def T8 (w:World) (p:Option Addr) (n:Nat) (xs:List (List UInt8)):Prop:=xs.length = n∧(n ≠ 0→∃ b o,p = some ⟨b,o,none⟩∧∀ i,i < n→w.cell? ⟨b,o + i,none⟩ = some (.string (tx8 (xs.getD i []))))
theorem T8.below {w w':World} {p:Option Addr} {n:Nat} {xs:List (List UInt8)} (h:T8 w p n xs) (hb:Below w.heap.size w w'):T8 w' p n xs:=by
 refine ⟨h.1,fun hn=>?_⟩
 obtain ⟨b,o,e,hc⟩:=h.2 hn
 exact ⟨b,o,e,fun i hi=>(hb.cell (p:=⟨b,o + i,none⟩) (World.block_lt_of_cell? w _ (hc i hi))).trans (hc i hi)⟩
end Go.Proofs.YtbbfcbodhmeanaaGreatDoor



namespace Go.Proofs.YtbbfcbodhmeanaaGreatDoor
open Go.RowKit
end Go.Proofs.YtbbfcbodhmeanaaGreatDoor



namespace Go.Proofs.YtbbfcbodhmeanaaGreatDoor
open Go.RowKit
theorem png_len:NLen [(2,pngB)]:=⟨by decide,fun n hn=>by
 obtain rfl:n = (2,pngB):=by simpa using hn
 exact ⟨by decide,by decide,by decide⟩⟩
theorem png_row {w:World} {b:Nat} (h:w.heap[b]? = some (.cells #[.int .i64 2,.string pngB] 56)):NmRow w (some ⟨b,0,none⟩) [(2,pngB)]:=fun _=>⟨b,0,rfl,fun i hi=>by
 obtain rfl:i = 0:=by simp at hi;exact hi
 exact ⟨(blk_c h 0).trans rfl,(blk_c h 1).trans rfl⟩⟩
theorem named_small {w w':World} {e:Ending} (h:NamesPost w (namesP smallT [(2,pngB)]) e w'):Below w.heap.size w w'∧∃ (pb:Option Addr) (cb b o ck:Nat) (qb:Option Addr) (qc:Nat),e = .returned (.tuple #[.agg #[.string smallR.ty,.string smallR.cs,.string smallR.id,.string smallR.loc,.int .i64 smallR.how,.slice pb 0 cb,.slice (some ⟨b,o,none⟩) 2 ck],.int .i64 0])∧b < w'.heap.size∧w'.cell? ⟨b,o + 5,none⟩ = some (.slice qb renB.length qc)∧BRow w' qb renB∧(qb = none→renB.length = 0∧qc = 0):=by
 obtain ⟨hb,_,h2⟩:=h
 refine ⟨hb,?_⟩
 rw [small_named] at h2
 obtain ⟨pb,cb,pk,ck,he,hh,_⟩:=h2 rfl
 obtain ⟨_,_,_,_,hk⟩:=hh
 obtain ⟨b,o,rfl,hc⟩:=hk (by unfold smallR;simp)
 obtain ⟨qb,qc,qk,qd,⟨c0,c1,c2,c3,c4,c5,c6⟩,p1,p2,p3,_⟩:=hc 0 (by show 0 < 2;decide)
 rw [Nat.zero_mul,Nat.add_zero] at c0 c5
 exact ⟨pb,cb,b,o,ck,qb,qc,he,World.block_lt_of_cell? w' _ c0,c5,p3,fun e=>⟨by have h1:=p2.2.2 e;have h2:=p2.1;show renB.length = 0;have:renB.length≤qc:=h2;omega,p2.2.2 e⟩⟩
set_option maxHeartbeats 4000000 in
set_option maxRecDepth 100000 in
theorem renamed_any (w:World) (hE:LEnv w):Calls Tryz.prog 23 #[] w fun e w'=>e = .returned (.bool true)∧Below w.heap.size w w':=by
 have HE:Hid (LEnv w):=hE
 clear hE
 go_enter Tryz.func23,Tryz.ntmps23
 go_wp2_with fail
 refine (psmall_any _).mono ?_
 rintro e w1 ⟨g1,rfl,hH1,hb1⟩
 obtain ⟨W2,hW2⟩:∃ W,W = w1.alloc (.cells #[.int .i64 2,.string ⟨#[112,46,112,110,103]⟩] 56):=⟨_,rfl⟩
 have hb12:Below w1.heap.size w1 W2:=by rw [hW2];exact (Below.refl _ _).alloc (Nat.le_refl _) _
 have hk2:W2.heap[w1.heap.size]? = some (.cells #[.int .i64 2,.string pngB] 56):=by rw [hW2];exact blk_new _ _
 have hbe2:Below w.heap.size w W2:=hb1.trans (hb12.mono hb1.size)
 have CN:Hid (Calls Tryz.prog 21 #[.agg #[.string smallT.ty,.string smallT.cs,.string smallT.id,.string smallT.loc,.int .i64 smallT.how,.slice none smallT.body.length 0,.slice (some ⟨g1,0,none⟩) smallT.kids.length 2],.slice (some ⟨w1.heap.size,0,none⟩) 1 1] W2 fun e w'=>NamesPost W2 (namesP smallT [(2,pngB)]) e w'):=names_any smallT none 0 (some ⟨g1,0,none⟩) 2 1 (some ⟨w1.heap.size,0,none⟩) 1 1 [(2,pngB)] rfl png_len W2 (HE.out.below hbe2) (hH1.below hb12) (png_row hk2)
 have HW2:Hid (W2 = w1.alloc (.cells #[.int .i64 2,.string ⟨#[112,46,112,110,103]⟩] 56)):=hW2
 clear hW2 hk2 hH1 hb12 hb1
 go_wp2_with fail
 rw [← HW2.out]
 clear HW2
 refine CN.out.mono ?_
 intro e w3 h3
 obtain ⟨hb3,pb,cb,b,o,ck,qb,qc,rfl,hbl,hc5,hrow,hqn⟩:=named_small h3
 have HB3:Hid (Below w.heap.size w w3):=hbe2.trans (hb3.mono hbe2.size)
 obtain ⟨W4,hW4⟩:∃ W,W = w3.alloc (.cells #[.string smallR.ty,.string smallR.cs,.string smallR.id,.string smallR.loc,.int .i64 smallR.how,.slice pb 0 cb,.slice (some ⟨b,o,none⟩) 2 ck] 25):=⟨_,rfl⟩
 have hb34:Below w3.heap.size w3 W4:=by rw [hW4];exact (Below.refl _ _).alloc (Nat.le_refl _) _
 have k4:W4.heap[w3.heap.size]? = some (.cells #[.string smallR.ty,.string smallR.cs,.string smallR.id,.string smallR.loc,.int .i64 smallR.how,.slice pb 0 cb,.slice (some ⟨b,o,none⟩) 2 ck] 25):=by rw [hW4];exact blk_new _ _
 have z6:W4.cell? ⟨w3.heap.size,6,none⟩ = some (.slice (some ⟨b,o,none⟩) 2 ck):=(blk_c k4 6).trans rfl
 have c5:W4.cell? ⟨b,o + 5,none⟩ = some (.slice qb renB.length qc):=(hb34.cell (p:=⟨b,o + 5,none⟩) hbl).trans hc5
 have hcv:(convert 22 9 (.slice qb renB.length qc)).run Tryz.prog W4 = .ok (.string (lba renB)) W4:=conv_bytes W4 qb renB.length qc renB rfl (hrow.under hb34) hqn
 have hre:=ren_eq
 have HB4:Hid (Below w.heap.size w W4):=HB3.out.trans (hb34.mono HB3.out.size)
 have HW4:Hid (W4 = w3.alloc (.cells #[.string smallR.ty,.string smallR.cs,.string smallR.id,.string smallR.loc,.int .i64 smallR.how,.slice pb 0 cb,.slice (some ⟨b,o,none⟩) 2 ck] 25)):=hW4
 clear hW4 hb34 k4 hc5 hrow hqn hbl h3 hb3 CN hbe2 HB3
 generalize lba renB = RB at hcv hre
 generalize renB.length = RL at c5 hcv
 go_upto_region 2 with fail
 rw [← HW4.out]
 clear HW4
 go_wp2_with fail
 go_ret
 exact ⟨rfl,HB4.out⟩
end Go.Proofs.YtbbfcbodhmeanaaGreatDoor



namespace Go.Proofs.YtbbfcbodhmeanaaGreatDoor
open Go.RowKit
theorem bytes_same (l:List UInt8):Lib.bytesOf (l.map fun c=>((c.toNat:Nat):Int)) = l:=by
 unfold Lib.bytesOf
 rw [List.map_map]
 have:((fun n:Int=>UInt8.ofNat n.toNat) ∘ fun c:UInt8=>((c.toNat:Nat):Int)) = id:=by funext c;simp
 rw [this,List.map_id]
def sameA (p q:PT):Bool:=decide (p.ty.data.toList = q.ty.data.toList) && decide (p.cs.data.toList = q.cs.data.toList) && decide (p.id.data.toList = q.id.data.toList) && decide (p.loc.data.toList = q.loc.data.toList) && decide (p.how = q.how) && decide (p.body = q.body)
theorem ba_ext {a b:ByteArray} (h:a.data.toList = b.data.toList):a = b:=ByteArray.ext (Array.toList_inj.1 h)
theorem sameA_iff (p q:PT):sameA p q = true ↔ p.alone = q.alone:=by
 unfold sameA
 simp only [Bool.and_eq_true,decide_eq_true_eq]
 constructor
 ·rintro ⟨⟨⟨⟨⟨h1,h2⟩,h3⟩,h4⟩,h5⟩,h6⟩
  obtain ⟨a1,a2,a3,a4,a5,a6,a7⟩:=p
  obtain ⟨b1,b2,b3,b4,b5,b6,b7⟩:=q
  simp only at h1 h2 h3 h4 h5 h6
  rw [ba_ext h1,ba_ext h2,ba_ext h3,ba_ext h4,h5,h6]
  rfl
 ·intro h
  obtain ⟨a1,a2,a3,a4,a5,a6,a7⟩:=p
  obtain ⟨b1,b2,b3,b4,b5,b6,b7⟩:=q
  simp only [PT.alone,PT.mk.injEq] at h
  obtain ⟨rfl,rfl,rfl,rfl,rfl,rfl,_⟩:=h
  simp
theorem str_beq (a b:ByteArray):(a.toList == b.toList) = decide (a.data.toList = b.data.toList):=by
 rw [ByteArray.toList_eq,ByteArray.toList_eq,Bool.eq_iff_iff];simp
end Go.Proofs.YtbbfcbodhmeanaaGreatDoor



import Derived.Test.YtbbfcbodhmeanaaGreatDoorXrewritesays59
import Derived.Test.YtbbfcbodhmeanaaGreatDoorXrewritesays58
namespace Go.Proofs.YtbbfcbodhmeanaaGreatDoor
open Go.RowKit
theorem eq_of_getD {xs ys:List Int} {n:Nat} (hx:xs.length = n) (hy:ys.length = n) (h:∀ j,j < n→xs.getD j 0 = ys.getD j 0):xs = ys:=by
 apply List.ext_getElem (by omega)
 intro i h1 h2
 have:=h i (by omega)
 simpa [List.getD_eq_getElem?_getD,List.getElem?_eq_getElem h1,List.getElem?_eq_getElem h2] using this
end Go.Proofs.YtbbfcbodhmeanaaGreatDoor



namespace Go.Proofs.YtbbfcbodhmeanaaGreatDoor
open Go.RowKit
set_option maxHeartbeats 1000000 in
theorem equalBytes (p1 p2:Option Addr) (n m c d:Nat) (xs ys:List Int) (w:World) (hn:n≤maxLen) (hm:m≤maxLen) (h1:Row .u8 w p1 n xs) (h2:Row .u8 w p2 m ys) :
  Calls Tryz.prog 34 #[.slice p1 n c,.slice p2 m d] w fun e w'=>e = .returned (.bool (decide (xs = ys)))∧∃ q,w' = w.drewN q:=by
 unfold maxLen at hn hm
 obtain ⟨hx,r1⟩:=h1
 obtain ⟨hy,r2⟩:=h2
 by_cases hnm:n = m
 ·subst hnm
  by_cases h0:n = 0
  ·subst h0
   have exy:xs = ys:=by rw [List.eq_nil_of_length_eq_zero hx,List.eq_nil_of_length_eq_zero hy]
   have hfin:decide (xs = ys) = true:=by simp [exy]
   rw [hfin]
   clear r1 r2 exy hfin hx hy
   go_enter Tryz.func34,Tryz.ntmps34
   go_wp2
   refine wp_loop_rounds 1 ?_
   rw [rounds_succ]
   go_wp2
   go_ret
   exact ⟨rfl,0,rfl⟩
  ·obtain ⟨b1,o1,rfl,k1⟩:=r1 h0
   obtain ⟨b2,o2,rfl,k2⟩:=r2 h0
   clear r1 r2
   go_enter Tryz.func34,Tryz.ntmps34
   go_wp2
   go_loopg [13] n (fun g s13 wr=>∃ k q:Nat,k≤n∧n - k≤g∧s13 = .int .i64 k∧wr = w.drewN q∧∀ j,j < k→xs.getD j 0 = ys.getD j 0)
   case atStart=>exact ⟨0,0,Nat.zero_le _,by omega,rfl,rfl,fun j hj=>absurd hj (Nat.not_lt_zero _)⟩
   case round =>
    obtain ⟨k,q,hk,hg,rfl,rfl,heq⟩:=hrel
    by_cases hlt:k < n
    ·have g1:w.cell? ⟨b1,o1 + k,none⟩ = some (.int .u8 (xs.getD k 0)):=k1 k hlt
     have g2:w.cell? ⟨b2,o2 + k,none⟩ = some (.int .u8 (ys.getD k 0)):=k2 k hlt
     have A:Hid (∀ j,j < k→xs.getD j 0 = ys.getD j 0):=heq
     clear heq k1 k2
     generalize hxk:xs.getD k 0 = x at g1
     generalize hyk:ys.getD k 0 = y at g2
     have B:Hid (xs.getD k 0 = x∧ys.getD k 0 = y):=⟨hxk,hyk⟩
     clear hxk hyk
     by_cases hxy:x = y
     ·subst hxy
      go_wp2_with fail
      go_quiet (fail)
      go_wp2
      go_roundg (n - (k + 1))
      case measure=>omega
      case rel =>
       refine ⟨k + 1,q + nq,by omega,by omega,by go_num,rfl,fun j hj=>?_⟩
       by_cases e:j = k
       ·subst e
        rw [B.out.1,B.out.2]
       ·exact A.out j (by omega)
     ·go_wp2_with fail
      go_quiet (fail)
      go_wp2
      go_ret
      refine ⟨ret_bool ?_,q + nq,World.drewN_drewN _ _ _⟩
      symm
      rw [decide_eq_false_iff_not]
      intro e
      apply hxy
      rw [← B.out.1,← B.out.2,e]
    ·have:k = n:=by omega
     subst this
     have hfin:Hid (decide (xs = ys) = true):=by simp [Hid,eq_of_getD hx hy heq]
     clear k1 k2 heq
     go_wp2
     go_ret
     exact ⟨ret_bool hfin.out.symm,q,rfl⟩
 ·have hnm':¬ (n:Int) = (m:Int):=by omega
  have hfin:decide (xs = ys) = false:=by
   rw [decide_eq_false_iff_not]
   intro e
   apply hnm
   rw [← hx,← hy,e]
  rw [hfin]
  clear r1 r2 hfin
  go_enter Tryz.func34,Tryz.ntmps34
  go_wp2
  go_ret
  exact ⟨rfl,0,rfl⟩
end Go.Proofs.YtbbfcbodhmeanaaGreatDoor



namespace Go.Proofs.YtbbfcbodhmeanaaGreatDoor
open Go.RowKit
theorem BRow.nums {w:World} {p:Option Addr} {l:List UInt8} (h:BRow w p l):Row .u8 w p l.length (l.map fun c=>((c.toNat:Nat):Int)):=by
 refine ⟨by simp,fun h0=>?_⟩
 obtain ⟨b,o,e,hc⟩:=h (fun e=>h0 (by rw [e];rfl))
 refine ⟨b,o,e,fun i hi=>?_⟩
 rw [hc i hi]
 simp [List.getD_eq_getElem?_getD,List.getElem?_eq_getElem hi]
theorem nums_eq (l m:List UInt8):(l.map fun c=>((c.toNat:Nat):Int)) = (m.map fun c=>((c.toNat:Nat):Int)) ↔ l = m:=by
 constructor
 ·intro h
  have:=congrArg Lib.bytesOf h
  rwa [bytes_same,bytes_same] at this
 ·intro h;rw [h]
theorem seq_any (p1 p2:Option Addr) (l1 l2:List UInt8) (n m c d:Nat) (e1:n = l1.length) (e2:m = l2.length) (w:World) (hn:n≤maxLen) (hm:m≤maxLen) (h1:BRow w p1 l1) (h2:BRow w p2 l2) :
  Calls Tryz.prog 34 #[.slice p1 n c,.slice p2 m d] w fun e w'=>e = .returned (.bool (decide (l1 = l2)))∧Below w.heap.size w w':=by
 subst e1 e2
 refine (equalBytes p1 p2 _ _ c d _ _ w hn hm h1.nums h2.nums).mono ?_
 rintro e w' ⟨rfl,q,rfl⟩
 refine ⟨ret_bool ?_,below_drewN' (Below.refl _ _) q⟩
 exact decide_eq_decide.2 (nums_eq l1 l2)
theorem pt_eq (p q:PT):p = q ↔ p.alone = q.alone∧p.kids = q.kids:=by
 constructor
 ·intro h;subst h;exact ⟨rfl,rfl⟩
 ·rintro ⟨h1,h2⟩
  obtain ⟨a1,a2,a3,a4,a5,a6,a7⟩:=p
  obtain ⟨b1,b2,b3,b4,b5,b6,b7⟩:=q
  simp only [PT.alone,PT.mk.injEq] at h1
  obtain ⟨rfl,rfl,rfl,rfl,rfl,rfl,_⟩:=h1
  simp only at h2
  subst h2
  rfl
theorem kid_at (l:List PT) (k:Nat) (h:k < l.length):l.drop k = l.getD k pt0::l.drop (k + 1):=by
 rw [List.drop_eq_getElem_cons h]
 simp [List.getD_eq_getElem?_getD,List.getElem?_eq_getElem h]
def SamePost (p q:PT) (w:World) (e:Ending) (w':World):Prop:=∃ b:Bool,e = .returned (.bool b)∧(b = true ↔ p = q)∧Below w.heap.size w w'
set_option maxHeartbeats 4000000 in
set_option maxRecDepth 100000 in
theorem rsame_any:∀ (F:Nat) (p q:PT) (pb qb:Option Addr) (cb:Nat) (pk qk:Option Addr) (ck cb2 ck2 F2:Nat) (w:World),PHeld w F p pb cb pk ck→PHeld w F2 q qb cb2 qk ck2 →
  Calls Tryz.prog 26 #[.agg #[.string p.ty,.string p.cs,.string p.id,.string p.loc,.int .i64 p.how,.slice pb p.body.length cb,.slice pk p.kids.length ck],.agg #[.string q.ty,.string q.cs,.string q.id,.string q.loc,.int .i64 q.how,.slice qb q.body.length cb2,.slice qk q.kids.length ck2]] w
   fun e w'=>SamePost p q w e w':=by
 intro F
 induction F using Nat.strongRecOn with
 | _ F ih =>
  intro p q pb qb cb pk qk ck cb2 ck2 F2 w hH hH2
  obtain ⟨w2,hw2⟩:∃ w2,(w.alloc (.cells #[.string p.ty,.string p.cs,.string p.id,.string p.loc,.int .i64 p.how,.slice pb p.body.length cb,.slice pk p.kids.length ck] 25)).alloc (.cells #[.string q.ty,.string q.cs,.string q.id,.string q.loc,.int .i64 q.how,.slice qb q.body.length cb2,.slice qk q.kids.length ck2] 25) = w2:=⟨_,rfl⟩
  have hb2:Below w.heap.size w w2:=by rw [← hw2];exact ((Below.refl _ _).alloc (Nat.le_refl _) _).alloc (by simp) _
  have x0:w2.cell? ⟨w.heap.size,0,none⟩ = some (.string p.ty):=by rw [← hw2];simp
  have x1:w2.cell? ⟨w.heap.size,1,none⟩ = some (.string p.cs):=by rw [← hw2];simp
  have x2:w2.cell? ⟨w.heap.size,2,none⟩ = some (.string p.id):=by rw [← hw2];simp
  have x3:w2.cell? ⟨w.heap.size,3,none⟩ = some (.string p.loc):=by rw [← hw2];simp
  have x4:w2.cell? ⟨w.heap.size,4,none⟩ = some (.int .i64 p.how):=by rw [← hw2];simp
  have x5:w2.cell? ⟨w.heap.size,5,none⟩ = some (.slice pb p.body.length cb):=by rw [← hw2];simp
  have x6:w2.cell? ⟨w.heap.size,6,none⟩ = some (.slice pk p.kids.length ck):=by rw [← hw2];simp
  have y0:w2.cell? ⟨w.heap.size + 1,0,none⟩ = some (.string q.ty):=by rw [← hw2];simp
  have y1:w2.cell? ⟨w.heap.size + 1,1,none⟩ = some (.string q.cs):=by rw [← hw2];simp
  have y2:w2.cell? ⟨w.heap.size + 1,2,none⟩ = some (.string q.id):=by rw [← hw2];simp
  have y3:w2.cell? ⟨w.heap.size + 1,3,none⟩ = some (.string q.loc):=by rw [← hw2];simp
  have y4:w2.cell? ⟨w.heap.size + 1,4,none⟩ = some (.int .i64 q.how):=by rw [← hw2];simp
  have y5:w2.cell? ⟨w.heap.size + 1,5,none⟩ = some (.slice qb q.body.length cb2):=by rw [← hw2];simp
  have y6:w2.cell? ⟨w.heap.size + 1,6,none⟩ = some (.slice qk q.kids.length ck2):=by rw [← hw2];simp
  have CB:Hid (Calls Tryz.prog 34 #[.slice pb p.body.length cb,.slice qb q.body.length cb2] w2 fun e w'=>e = .returned (.bool (decide (p.body = q.body)))∧Below w2.heap.size w2 w') :=
   seq_any pb qb _ _ _ _ cb cb2 rfl rfl w2 hH.1.2.2.2.2.2.2.1 hH2.1.2.2.2.2.2.2.1 (hH.2.2.1.under hb2) (hH2.2.2.1.under hb2)
  have HX6:Hid (∀ w',Below w2.heap.size w2 w'→w'.cell? ⟨w.heap.size,6,none⟩ = some (.slice pk p.kids.length ck)∧w'.cell? ⟨w.heap.size + 1,6,none⟩ = some (.slice qk q.kids.length ck2)):=fun w' hb =>
   ⟨(hb.cell (World.block_lt_of_cell? w2 _ x6)).trans x6,(hb.cell (World.block_lt_of_cell? w2 _ y6)).trans y6⟩
  have HKP:Hid (p.kids ≠ []→∃ F' b o,F = F' + 1∧pk = some ⟨b,o,none⟩∧∀ i,i < p.kids.length→PAt w2 F' b (o + i * 7) (p.kids.getD i pt0)):=fun hne=>by
   have hk:KAt w F pk p.kids:=hH.2.2.2.2
   cases F with
   | zero=>exact absurd hk hne
   | succ F' =>
    obtain ⟨b,o,e1,e2⟩:=hk.each hne
    exact ⟨F',b,o,rfl,e1,fun i hi=>(e2 i hi).below hb2⟩
  have HKQ:Hid (q.kids ≠ []→∃ F' b o,qk = some ⟨b,o,none⟩∧∀ i,i < q.kids.length→PAt w2 F' b (o + i * 7) (q.kids.getD i pt0)):=fun hne=>by
   have hk:KAt w F2 qk q.kids:=hH2.2.2.2.2
   cases F2 with
   | zero=>exact absurd hk hne
   | succ F' =>
    obtain ⟨b,o,e1,e2⟩:=hk.each hne
    exact ⟨F',b,o,e1,fun i hi=>(e2 i hi).below hb2⟩
  have hkl:p.kids.length≤9223372036854775807:=by have:=hH.1.2.2.2.2.2.2.2;unfold maxLen at this;exact this
  have hkl2:q.kids.length≤9223372036854775807:=by have:=hH2.1.2.2.2.2.2.2.2;unfold maxLen at this;exact this
  have HE:Hid (p = q ↔ p.alone = q.alone∧p.kids = q.kids):=pt_eq p q
  have HA:Hid (sameA p q = true ↔ p.alone = q.alone):=sameA_iff p q
  have HS:Hid (sameA p q = (decide (p.ty.data.toList = q.ty.data.toList) && decide (p.cs.data.toList = q.cs.data.toList) && decide (p.id.data.toList = q.id.data.toList) && decide (p.loc.data.toList = q.loc.data.toList) && decide (p.how = q.how) && decide (p.body = q.body))):=rfl
  have HNo:Hid (sameA p q = false→¬ p = q):=fun h e=>by
   have:=HA.out.2 (HE.out.1 e).1
   rw [h] at this;cases this
  have IH:Hid (∀ m,m < F→∀ (p q:PT) (pb qb:Option Addr) (cb:Nat) (pk qk:Option Addr) (ck cb2 ck2 F2:Nat) (w:World),PHeld w m p pb cb pk ck→PHeld w F2 q qb cb2 qk ck2 →
   Calls Tryz.prog 26 #[.agg #[.string p.ty,.string p.cs,.string p.id,.string p.loc,.int .i64 p.how,.slice pb p.body.length cb,.slice pk p.kids.length ck],.agg #[.string q.ty,.string q.cs,.string q.id,.string q.loc,.int .i64 q.how,.slice qb q.body.length cb2,.slice qk q.kids.length ck2]] w fun e w'=>SamePost p q w e w'):=ih
  have e0:=str_beq p.ty q.ty
  have e1:=str_beq p.cs q.cs
  have e2:=str_beq p.id q.id
  have e3:=str_beq p.loc q.loc
  have e4:(p.how == q.how) = decide (p.how = q.how):=by by_cases h:p.how = q.how <;> simp [h]
  have e5:(p.how != q.how) = !decide (p.how = q.how):=by by_cases h:p.how = q.how <;> simp [h]
  have e6:p.how = q.how ↔ decide (p.how = q.how) = true:=by by_cases h:p.how = q.how <;> simp [h]
  clear ih hH hH2
  generalize decide (p.body = q.body) = B at *
  generalize p.body.length = nb at *
  generalize q.body.length = nb2 at *
  generalize decide (p.ty.data.toList = q.ty.data.toList) = T0 at *
  generalize decide (p.cs.data.toList = q.cs.data.toList) = T1 at *
  generalize decide (p.id.data.toList = q.id.data.toList) = T2 at *
  generalize decide (p.loc.data.toList = q.loc.data.toList) = T3 at *
  generalize decide (p.how = q.how) = T4 at *
  generalize sameA p q = S at *
  go_enter Tryz.func26,Tryz.ntmps26
  cases T0
  ·have HN:Hid (¬ p = q):=HNo.out HS.out
   clear HS HNo HA HE IH HKP HKQ HX6 CB
   go_wp2_with fail
   go_ret
   exact ⟨false,rfl,⟨fun h=>(by cases h),fun h=>absurd h HN.out⟩,hb2⟩
  cases T1
  ·have HN:Hid (¬ p = q):=HNo.out HS.out
   clear HS HNo HA HE IH HKP HKQ HX6 CB
   go_wp2_with fail
   go_ret
   exact ⟨false,rfl,⟨fun h=>(by cases h),fun h=>absurd h HN.out⟩,hb2⟩
  cases T2
  ·have HN:Hid (¬ p = q):=HNo.out HS.out
   clear HS HNo HA HE IH HKP HKQ HX6 CB
   go_wp2_with fail
   go_ret
   exact ⟨false,rfl,⟨fun h=>(by cases h),fun h=>absurd h HN.out⟩,hb2⟩
  cases T3
  ·have HN:Hid (¬ p = q):=HNo.out HS.out
   clear HS HNo HA HE IH HKP HKQ HX6 CB
   go_wp2_with fail
   go_ret
   exact ⟨false,rfl,⟨fun h=>(by cases h),fun h=>absurd h HN.out⟩,hb2⟩
  cases T4
  ·have e7:¬ p.how = q.how:=fun h=>by have:=e6.1 h;cases this
   clear e6
   simp only [Bool.not_false] at e5
   have HN:Hid (¬ p = q):=HNo.out HS.out
   clear HS HNo HA HE IH HKP HKQ HX6 CB
   go_wp2_with fail
   go_ret
   exact ⟨false,rfl,⟨fun h=>(by cases h),fun h=>absurd h HN.out⟩,hb2⟩
  clear e6
  simp only [Bool.not_true] at e5
  cases B
  ·have HN:Hid (¬ p = q):=HNo.out HS.out
   clear HS HNo HA HE IH HKP HKQ HX6
   go_wp2_with fail
   refine CB.out.mono ?_
   rintro e w3 ⟨rfl,hb3⟩
   have hbel3:=hb2.trans (hb3.mono hb2.size)
   clear CB
   go_wp2_with fail
   go_ret
   exact ⟨false,rfl,⟨fun h=>(by cases h),fun h=>absurd h HN.out⟩,hbel3⟩
  ·have HQ:Hid (p = q ↔ p.kids = q.kids):=by
    unfold Hid
    rw [HE.out]
    exact ⟨fun h=>h.2,fun h=>⟨HA.out.1 HS.out,h⟩⟩
   clear HS HNo HA HE
   obtain ⟨n,hn⟩:∃ n,p.kids.length = n:=⟨_,rfl⟩
   obtain ⟨m,hm⟩:∃ m,q.kids.length = m:=⟨_,rfl⟩
   have HN:Hid (p.kids.length = n∧q.kids.length = m):=⟨hn,hm⟩
   rw [hn] at hkl x6
   rw [hm] at hkl2 y6
   rw [hn,hm] at HX6 hw2
   rw [hn] at HKP
   rw [hm] at HKQ
   simp only [hn,hm]
   clear hn hm
   by_cases hnm:n = m
   ·subst hnm
    have hnb:((n:Int) != (n:Int)) = false:=by simp
    go_wp2_with fail
    refine CB.out.mono ?_
    rintro e w3 ⟨rfl,hb3⟩
    have hbel3:=hb2.trans (hb3.mono hb2.size)
    obtain ⟨x6',y6'⟩:=HX6.out w3 hb3
    clear CB x6 y6 hw2 x0 x1 x2 x3 x4 x5 y0 y1 y2 y3 y4 y5 e0 e1 e2 e3 e4 e5
    go_wp2_with fail
    go_loopw [60] (fun iv wr=>∃ k:Nat,k≤n∧iv = .int .i64 k∧Below w2.heap.size w2 wr∧Hid (p = q ↔ p.kids.drop k = q.kids.drop k)) (fun iv _=>n - (intOf iv).toNat)
    case atStart=>exact ⟨0,Nat.zero_le _,rfl,hb3,HQ⟩
    case round =>
     obtain ⟨k,hk,rfl,hbr,HK⟩:=hrel
     have hsr:=hbr.size
     by_cases hlt:k < n
     ·have hlz:(k:Int) < (n:Int):=by omega
      have hneP:p.kids ≠ []:=fun e=>by have:=HN.out.1;rw [e] at this;simp at this;omega
      have hneQ:q.kids ≠ []:=fun e=>by have:=HN.out.2;rw [e] at this;simp at this;omega
      obtain ⟨F',bp,op,hF',rfl,hPp⟩:=HKP.out hneP
      obtain ⟨F'',bq,oq,rfl,hPq⟩:=HKQ.out hneQ
      have hkP:k < p.kids.length:=by rw [HN.out.1];exact hlt
      have hkQ:k < q.kids.length:=by rw [HN.out.2];exact hlt
      have HP1:=(hPp k hlt).below hbr
      have HQ1:=(hPq k hlt).below hbr
      rw [kid_at _ k hkP,kid_at _ k hkQ] at HK
      obtain ⟨P1,hP1⟩:∃ P1,p.kids.getD k pt0 = P1:=⟨_,rfl⟩
      obtain ⟨Q1,hQ1⟩:∃ Q1,q.kids.getD k pt0 = Q1:=⟨_,rfl⟩
      rw [hP1] at HK HP1
      rw [hQ1] at HK HQ1
      obtain ⟨a1,a2,a3,a4,hC1,hH1⟩:=HP1
      obtain ⟨b1,b2,b3,b4,hC2,hH2⟩:=HQ1
      have c6w:∀ w',Below wr.heap.size wr w'→w'.cell? ⟨w.heap.size + 1,6,none⟩ = some (.slice (some ⟨bq,oq,none⟩) n ck2):=fun w' hb=>(HX6.out w' (hbr.trans (hb.mono hsr))).2
      obtain ⟨d0,d1,d2,d3,d4,d5,d6⟩:=hC1
      have hbB:bp < wr.heap.size:=World.block_lt_of_cell? wr _ d0
      have hbx:w.heap.size + 1 < wr.heap.size:=World.block_lt_of_cell? wr _ (c6w wr (Below.refl _ _))
      have hbq:bq < wr.heap.size:=World.block_lt_of_cell? wr _ hC2.1
      have IH1:Hid (∀ w',Below wr.heap.size wr w'→Calls Tryz.prog 26 #[.agg #[.string P1.ty,.string P1.cs,.string P1.id,.string P1.loc,.int .i64 P1.how,.slice a1 P1.body.length a2,.slice a3 P1.kids.length a4],.agg #[.string Q1.ty,.string Q1.cs,.string Q1.id,.string Q1.loc,.int .i64 Q1.how,.slice b1 Q1.body.length b2,.slice b3 Q1.kids.length b4]] w' fun e w''=>SamePost P1 Q1 w' e w''):=fun w' hb=>IH.out F' (by omega) P1 Q1 a1 b1 a2 a3 b3 a4 b2 b4 F'' w' (hH1.below hb) (hH2.below hb)
      have HC2:Hid (∀ w',Below wr.heap.size wr w'→PCells w' bq (oq + k * 7) Q1 b1 b2 b3 b4):=fun w' hb=>hC2.below hb
      clear hPp hPq hP1 hQ1 hC2 hH1 hH2 hF' HKP HKQ
      obtain ⟨pt1,pc1,pi1,pl1,ph1,pb1,pk1⟩:=P1
      obtain ⟨qt1,qc1,qi1,ql1,qh1,qb1,qk1⟩:=Q1
      simp only at d0 d1 d2 d3 d4 d5 d6 IH1 HC2
      obtain ⟨m1,hm1⟩:∃ m1,pb1.length = m1:=⟨_,rfl⟩
      obtain ⟨m2,hm2⟩:∃ m2,pk1.length = m2:=⟨_,rfl⟩
      rw [hm1] at d5 IH1
      rw [hm2] at d6 IH1
      clear hm1 hm2
      have hba:Below wr.heap.size wr (wr.alloc (.cells #[.string pt1,.string pc1,.string pi1,.string pl1,.int .i64 ph1,.slice a1 m1 a2,.slice a3 m2 a4] 25)):=(Below.refl _ _).alloc (Nat.le_refl _) _
      obtain ⟨wa,hwa⟩:∃ wa,wr.alloc (.cells #[.string pt1,.string pc1,.string pi1,.string pl1,.int .i64 ph1,.slice a1 m1 a2,.slice a3 m2 a4] 25) = wa:=⟨_,rfl⟩
      rw [hwa] at hba
      have Z:∀ w',Below wa.heap.size wa w'→Below wr.heap.size wr w':=fun w' hb=>hba.trans (hb.mono hba.size)
      have f0:∀ w',Below wa.heap.size wa w'→w'.cell? ⟨wr.heap.size,0,none⟩ = some (.string pt1):=fun w' hb=>by rw [← hwa] at hb;exact (made_seven hb wr.heap.size rfl).1
      have f1:∀ w',Below wa.heap.size wa w'→w'.cell? ⟨wr.heap.size,1,none⟩ = some (.string pc1):=fun w' hb=>by rw [← hwa] at hb;exact (made_seven hb wr.heap.size rfl).2.1
      have f2:∀ w',Below wa.heap.size wa w'→w'.cell? ⟨wr.heap.size,2,none⟩ = some (.string pi1):=fun w' hb=>by rw [← hwa] at hb;exact (made_seven hb wr.heap.size rfl).2.2.1
      have f3:∀ w',Below wa.heap.size wa w'→w'.cell? ⟨wr.heap.size,3,none⟩ = some (.string pl1):=fun w' hb=>by rw [← hwa] at hb;exact (made_seven hb wr.heap.size rfl).2.2.2.1
      have f4:∀ w',Below wa.heap.size wa w'→w'.cell? ⟨wr.heap.size,4,none⟩ = some (.int .i64 ph1):=fun w' hb=>by rw [← hwa] at hb;exact (made_seven hb wr.heap.size rfl).2.2.2.2.1
      have f5:∀ w',Below wa.heap.size wa w'→w'.cell? ⟨wr.heap.size,5,none⟩ = some (.slice a1 m1 a2):=fun w' hb=>by rw [← hwa] at hb;exact (made_seven hb wr.heap.size rfl).2.2.2.2.2.1
      have f6:∀ w',Below wa.heap.size wa w'→w'.cell? ⟨wr.heap.size,6,none⟩ = some (.slice a3 m2 a4):=fun w' hb=>by rw [← hwa] at hb;exact (made_seven hb wr.heap.size rfl).2.2.2.2.2.2.1
      have g6:∀ w',Below wa.heap.size wa w'→w'.cell? ⟨w.heap.size + 1,6,none⟩ = some (.slice (some ⟨bq,oq,none⟩) n ck2):=fun w' hb=>c6w w' (Z w' hb)
      have h0:∀ w',Below wa.heap.size wa w'→w'.cell? ⟨bq,oq + k * 7,none⟩ = some (.string qt1):=fun w' hb=>(HC2.out w' (Z w' hb)).1
      have h1:∀ w',Below wa.heap.size wa w'→w'.cell? ⟨bq,oq + k * 7 + 1,none⟩ = some (.string qc1):=fun w' hb=>(HC2.out w' (Z w' hb)).2.1
      have h2:∀ w',Below wa.heap.size wa w'→w'.cell? ⟨bq,oq + k * 7 + 2,none⟩ = some (.string qi1):=fun w' hb=>(HC2.out w' (Z w' hb)).2.2.1
      have h3:∀ w',Below wa.heap.size wa w'→w'.cell? ⟨bq,oq + k * 7 + 3,none⟩ = some (.string ql1):=fun w' hb=>(HC2.out w' (Z w' hb)).2.2.2.1
      have h4:∀ w',Below wa.heap.size wa w'→w'.cell? ⟨bq,oq + k * 7 + 4,none⟩ = some (.int .i64 qh1):=fun w' hb=>(HC2.out w' (Z w' hb)).2.2.2.2.1
      have h5:∀ w',Below wa.heap.size wa w'→w'.cell? ⟨bq,oq + k * 7 + 5,none⟩ = some (.slice b1 qb1.length b2):=fun w' hb=>(HC2.out w' (Z w' hb)).2.2.2.2.2.1
      have h6:∀ w',Below wa.heap.size wa w'→w'.cell? ⟨bq,oq + k * 7 + 6,none⟩ = some (.slice b3 qk1.length b4):=fun w' hb=>(HC2.out w' (Z w' hb)).2.2.2.2.2.2
      have IH2:Hid (∀ w',Below wa.heap.size wa w'→Calls Tryz.prog 26 #[.agg #[.string pt1,.string pc1,.string pi1,.string pl1,.int .i64 ph1,.slice a1 m1 a2,.slice a3 m2 a4],.agg #[.string qt1,.string qc1,.string qi1,.string ql1,.int .i64 qh1,.slice b1 qb1.length b2,.slice b3 qk1.length b4]] w' fun e w''=>SamePost ⟨pt1,pc1,pi1,pl1,ph1,pb1,pk1⟩ ⟨qt1,qc1,qi1,ql1,qh1,qb1,qk1⟩ w' e w''):=fun w' hb=>IH1.out w' (Z w' hb)
      clear HC2 IH1 c6w Z x6' y6'
      have b0:Below wa.heap.size wa wa:=Below.refl _ _
      have hbelA:Below w2.heap.size w2 wa:=hbr.trans (hba.mono hsr)
      go_wp2_with fail
      go_region_held3 (fun w'=>Below wa.heap.size wa w') (first | assumption | exact b0.drew) (first
       | (go_at_call 26;refine (IH2.out _ (by first | assumption | exact b0.drew)).mono ?_;rintro e w5 ⟨B5,rfl,HB5,hb5⟩;have hb5':Below wa.heap.size wa w5:=b0.drew.trans hb5))
      have hbel5:Below w2.heap.size w2 w5:=hbelA.trans (hb5'.mono hbelA.size)
      have HB6:Hid (B5 = true ↔ (⟨pt1,pc1,pi1,pl1,ph1,pb1,pk1⟩:PT) = ⟨qt1,qc1,qi1,ql1,qh1,qb1,qk1⟩):=HB5
      clear f0 f1 f2 f3 f4 f5 f6 g6 h0 h1 h2 h3 h4 h5 h6 IH2 hb5 hb5' HB5
      cases B5
      ·have HN2:Hid (¬ p = q):=fun e=>by
        have:=(List.cons.inj (HK.out.1 e)).1
        have:=HB6.out.2 this
        cases this
       clear HK HB6
       go_wp2_with fail
       go_ret
       exact ⟨false,rfl,⟨fun h=>(by cases h),fun h=>absurd h HN2.out⟩,hb2.trans (hbel5.mono hb2.size)⟩
      ·have HK2:Hid (p = q ↔ p.kids.drop (k + 1) = q.kids.drop (k + 1)):=by
        unfold Hid
        rw [HK.out]
        have e:=HB6.out.1 rfl
        exact ⟨fun h=>(List.cons.inj h).2,fun h=>by rw [e,h]⟩
       clear HK HB6
       go_wp2_with fail
       go_roundw
       case rel=>exact ⟨k + 1,by omega,by go_num,hbel5,HK2⟩
       case measure=>simp [intOf];omega
     ·have hlz:¬ ((k:Int) < (n:Int)):=by omega
      have HN2:Hid (p = q):=by
       unfold Hid
       rw [HK.out,List.drop_of_length_le (by rw [HN.out.1];omega),List.drop_of_length_le (by rw [HN.out.2];omega)]
      clear HK HKP HKQ IH HX6
      go_wp2_with fail
      go_ret
      exact ⟨true,rfl,⟨fun _=>HN2.out,fun _=>rfl⟩,hb2.trans (hbr.mono hb2.size)⟩
   ·have hnb:((n:Int) != (m:Int)) = true:=by simp;omega
    have HN2:Hid (¬ p = q):=fun e=>hnm (by rw [← HN.out.1,← HN.out.2,e])
    clear IH HKP HKQ HX6 HQ
    go_wp2_with fail
    refine CB.out.mono ?_
    rintro e w3 ⟨rfl,hb3⟩
    have hbel3:=hb2.trans (hb3.mono hb2.size)
    have x6':=(hb3.cell (World.block_lt_of_cell? w2 _ x6)).trans x6
    have y6':=(hb3.cell (World.block_lt_of_cell? w2 _ y6)).trans y6
    clear CB x6 y6 hw2
    go_wp2_with fail
    go_ret
    exact ⟨false,rfl,⟨fun h=>(by cases h),fun h=>absurd h HN2.out⟩,hbel3⟩
end Go.Proofs.YtbbfcbodhmeanaaGreatDoor



namespace Go.Proofs.YtbbfcbodhmeanaaGreatDoor
open Go.RowKit
def toldR (R:Nat × PT):PT:=if R.1 = 0 then R.2 else pzero
theorem held_zero (w:World):PHeld w 4 pzero none 0 none 0:=⟨⟨by decide,by decide,by decide,by decide,by decide,by decide,by decide,by decide⟩,⟨by decide,by decide,fun _=>rfl⟩,fun h=>absurd rfl h,⟨by decide,by decide,fun _=>rfl⟩,fun h=>absurd rfl h⟩
theorem names_told {w w':World} {R:Nat × PT} {e:Ending} (h:NamesPost w R e w'):∃ (qb:Option Addr) (db:Nat) (qk:Option Addr) (dk:Nat),e = .returned (.tuple #[.agg #[.string (toldR R).ty,.string (toldR R).cs,.string (toldR R).id,.string (toldR R).loc,.int .i64 (toldR R).how,.slice qb (toldR R).body.length db,.slice qk (toldR R).kids.length dk],.int .i64 (R.1:Int)])∧Below w.heap.size w w'∧PHeld w' 4 (toldR R) qb db qk dk:=by
 obtain ⟨hb,h1,h2⟩:=h
 unfold toldR
 by_cases h0:R.1 = 0
 ·obtain ⟨qb,db,qk,dk,h3,h4,_⟩:=h2 h0
  rw [if_pos h0,h0]
  exact ⟨qb,db,qk,dk,h3,hb,h4⟩
 ·rw [if_neg h0]
  exact ⟨none,0,none,0,h1 h0,hb,held_zero _⟩
theorem rn_told {w w':World} {R:Nat × PT} {e:Ending} (h:RnPost w R e w'):∃ (qb:Option Addr) (db:Nat) (qk:Option Addr) (dk:Nat),e = .returned (.tuple #[.agg #[.string (toldR R).ty,.string (toldR R).cs,.string (toldR R).id,.string (toldR R).loc,.int .i64 (toldR R).how,.slice qb (toldR R).body.length db,.slice qk (toldR R).kids.length dk],.int .i64 (R.1:Int)])∧Below w.heap.size w w'∧PHeld w' 4 (toldR R) qb db qk dk:=by
 obtain ⟨hb,h1,h2⟩:=h
 unfold toldR
 by_cases h0:R.1 = 0
 ·obtain ⟨qb,db,qk,dk,h3,h4⟩:=h2 h0
  rw [if_pos h0,h0]
  exact ⟨qb,db,qk,dk,h3,hb,h4⟩
 ·rw [if_neg h0]
  exact ⟨none,0,none,0,h1 h0,hb,held_zero _⟩
set_option maxHeartbeats 8000000 in
set_option maxRecDepth 100000 in
theorem nsays_any (p:PT) (pb:Option Addr) (cb:Nat) (pk:Option Addr) (ck F:Nat) (na:Option Addr) (nn nc:Nat) (ns:List NM) (parts:Int) (en:nn = ns.length) (hnl:NLen ns) (w:World) (hE:LEnv w) (hH:PHeld w F p pb cb pk ck) (hnr:NmRow w na ns) :
  Calls Tryz.prog 5 #[.agg #[.string p.ty,.string p.cs,.string p.id,.string p.loc,.int .i64 p.how,.slice pb p.body.length cb,.slice pk p.kids.length ck],.slice na nn nc,.int .i64 parts] w fun e w'=>e = .returned (.bool true)∧Below w.heap.size w w':=by
 obtain ⟨W1,hW1⟩:∃ W,W = w.alloc (.cells #[.string p.ty,.string p.cs,.string p.id,.string p.loc,.int .i64 p.how,.slice pb p.body.length cb,.slice pk p.kids.length ck] 25):=⟨_,rfl⟩
 have hb1:Below w.heap.size w W1:=by rw [hW1];exact (Below.refl _ _).alloc (Nat.le_refl _) _
 have kW:W1.heap[w.heap.size]? = some (.cells #[.string p.ty,.string p.cs,.string p.id,.string p.loc,.int .i64 p.how,.slice pb p.body.length cb,.slice pk p.kids.length ck] 25):=by rw [hW1];exact blk_new _ _
 have hlow:∀ W,Below W1.heap.size W1 W→Below w.heap.size w W:=fun W hW=>hb1.trans (hW.mono hb1.size)
 have HLOW:Hid (∀ W,Below W1.heap.size W1 W→Below w.heap.size w W):=hlow
 have HKA:Hid (W1.heap[w.heap.size]? = some (.cells #[.string p.ty,.string p.cs,.string p.id,.string p.loc,.int .i64 p.how,.slice pb p.body.length cb,.slice pk p.kids.length ck] 25)):=kW
 have HW1:Hid (W1 = w.alloc (.cells #[.string p.ty,.string p.cs,.string p.id,.string p.loc,.int .i64 p.how,.slice pb p.body.length cb,.slice pk p.kids.length ck] 25)):=hW1
 have CN:Hid (∀ W,Below W1.heap.size W1 W→Calls Tryz.prog 21 #[.agg #[.string p.ty,.string p.cs,.string p.id,.string p.loc,.int .i64 p.how,.slice pb p.body.length cb,.slice pk p.kids.length ck],.slice na nn nc] W fun e w'=>∃ (qb:Option Addr) (db:Nat) (qk:Option Addr) (dk:Nat),e = .returned (.tuple #[.agg #[.string (toldR (namesP p ns)).ty,.string (toldR (namesP p ns)).cs,.string (toldR (namesP p ns)).id,.string (toldR (namesP p ns)).loc,.int .i64 (toldR (namesP p ns)).how,.slice qb (toldR (namesP p ns)).body.length db,.slice qk (toldR (namesP p ns)).kids.length dk],.int .i64 ((namesP p ns).1:Int)])∧Below W.heap.size W w'∧PHeld w' 4 (toldR (namesP p ns)) qb db qk dk):=fun W hW=>(names_any p pb cb pk ck F na nn nc ns en hnl W (hE.below (hlow W hW)) (hH.below (hlow W hW)) (hnr.below (hlow W hW))).mono fun e w' h=>names_told h
 have CQ:Hid (∀ W,Below W1.heap.size W1 W→Calls Tryz.prog 22 #[.agg #[.string p.ty,.string p.cs,.string p.id,.string p.loc,.int .i64 p.how,.slice pb p.body.length cb,.slice pk p.kids.length ck],.slice na nn nc] W fun e w'=>∃ (qb:Option Addr) (db:Nat) (qk:Option Addr) (dk:Nat),e = .returned (.tuple #[.agg #[.string (toldR (namesP p ns)).ty,.string (toldR (namesP p ns)).cs,.string (toldR (namesP p ns)).id,.string (toldR (namesP p ns)).loc,.int .i64 (toldR (namesP p ns)).how,.slice qb (toldR (namesP p ns)).body.length db,.slice qk (toldR (namesP p ns)).kids.length dk],.int .i64 ((namesP p ns).1:Int)])∧Below W.heap.size W w'∧PHeld w' 4 (toldR (namesP p ns)) qb db qk dk):=fun W hW=>(rnamed_any p pb cb pk ck F na nn nc ns en hnl W (hE.below (hlow W hW)) (hH.below (hlow W hW)) (hnr.below (hlow W hW))).mono fun e w' h=>rn_told h
 have CR:Hid (∀ W,Below W1.heap.size W1 W→Calls Tryz.prog 23 #[] W fun e w'=>e = .returned (.bool true)∧Below W.heap.size W w'):=fun W hW=>renamed_any W (hE.below (hlow W hW))
 have C1:Hid (∀ W,Below W1.heap.size W1 W→Calls Tryz.prog 24 #[.slice na nn nc,.int .i64 parts] W fun e w'=>e = .returned (.int .i64 (checkN parts (-1) [] ns:Nat))∧Below W.heap.size W w'):=fun W hW=>ncheck_any na nn nc ns en parts hnl W (hnr.below (hlow W hW))
 have C2:Hid (∀ W,Below W1.heap.size W1 W→Calls Tryz.prog 25 #[.slice na nn nc,.int .i64 parts] W fun e w'=>e = .returned (.int .i64 (checkN parts (-1) [] ns:Nat))∧Below W.heap.size W w'):=fun W hW=>rncheck_any na nn nc ns en parts hnl W (hnr.below (hlow W hW))
 generalize ((checkN parts (-1) [] ns:Nat):Int) = CK at *
 obtain ⟨q,hq⟩:∃ q,toldR (namesP p ns) = q:=⟨_,rfl⟩
 rw [hq] at CN CQ
 generalize ((namesP p ns).1:Int) = EE at *
 have CS:Hid (∀ (W:World) (qb:Option Addr) (db:Nat) (qk:Option Addr) (dk:Nat) (sb:Option Addr) (eb:Nat) (sk:Option Addr) (ek:Nat),PHeld W 4 q qb db qk dk→PHeld W 4 q sb eb sk ek→Calls Tryz.prog 26 #[.agg #[.string q.ty,.string q.cs,.string q.id,.string q.loc,.int .i64 q.how,.slice qb q.body.length db,.slice qk q.kids.length dk],.agg #[.string q.ty,.string q.cs,.string q.id,.string q.loc,.int .i64 q.how,.slice sb q.body.length eb,.slice sk q.kids.length ek]] W fun e w'=>e = .returned (.bool true)∧Below W.heap.size W w'):=fun W qb db qk dk sb eb sk ek h1 h2=>(rsame_any 4 q q qb sb db qk sk dk eb ek 4 W h1 h2).mono fun e w' ⟨b,he,hbq,hb⟩=>⟨by rw [he,hbq.2 rfl],hb⟩
 have h00:Below W1.heap.size W1 W1:=Below.refl _ _
 obtain ⟨nb,hnb⟩:∃ n,p.body.length = n:=⟨_,rfl⟩
 obtain ⟨nk,hnk⟩:∃ n,p.kids.length = n:=⟨_,rfl⟩
 obtain ⟨mb,hmb⟩:∃ n,q.body.length = n:=⟨_,rfl⟩
 obtain ⟨mk,hmk⟩:∃ n,q.kids.length = n:=⟨_,rfl⟩
 simp only [hnb,hnk,hmb,hmk] at HKA HW1 CN CQ CS
 rw [hnb,hnk]
 clear hnb hnk hmb hmk hq hW1 hb1 kW hlow hE hH hnr hnl en
 go_enter Tryz.func5,Tryz.ntmps5
 go_upto_region 1 with fail
 rw [← HW1.out]
 obtain ⟨z0,z1,z2,z3,z4,z5,z6,zf⟩:=o_cells HKA.out
 go_wp2_with fail
 refine (CN.out _ h00).mono ?_
 rintro e w2 ⟨qb,db,qk,dk,rfl,hb2,hh2⟩
 clear z0 z1 z2 z3 z4 z5 z6 zf CN HW1 h00
 obtain ⟨QB,hQB⟩:∃ n,w2.heap.size = n:=⟨_,rfl⟩
 obtain ⟨V2,hV2⟩:∃ V,V = w2.alloc (.cells #[.string q.ty,.string q.cs,.string q.id,.string q.loc,.int .i64 q.how,.slice qb mb db,.slice qk mk dk] 25):=⟨_,rfl⟩
 have hb2V:Below w2.heap.size w2 V2:=by rw [hV2];exact (Below.refl _ _).alloc (Nat.le_refl _) _
 have HKQ:Hid (V2.heap[QB]? = some (.cells #[.string q.ty,.string q.cs,.string q.id,.string q.loc,.int .i64 q.how,.slice qb mb db,.slice qk mk dk] 25)):=by rw [hV2,← hQB];exact blk_new _ _
 have hBV:Below W1.heap.size W1 V2:=hb2.trans (hb2V.mono hb2.size)
 have HQP:Hid (PHeld V2 4 q qb db qk dk):=hh2.below hb2V
 have HBV:Hid (Below W1.heap.size W1 V2):=hBV
 have HV2:Hid (V2 = w2.alloc (.cells #[.string q.ty,.string q.cs,.string q.id,.string q.loc,.int .i64 q.how,.slice qb mb db,.slice qk mk dk] 25)):=hV2
 clear hV2 hb2V hBV hb2 hh2
 go_upto_region 2 with fail
 rw [← HV2.out]
 clear HV2 hQB
 obtain ⟨z0,z1,z2,z3,z4,z5,z6,zf⟩:=o_cells (blk_on HKA.out HBV.out)
 go_wp2_with fail
 refine (CQ.out _ HBV.out).mono ?_
 rintro e w3 ⟨sb,eb,sk,ek,rfl,hb3,hh3⟩
 clear z0 z1 z2 z3 z4 z5 z6 zf CQ HKA
 obtain ⟨SB,hSB⟩:∃ n,w3.heap.size = n:=⟨_,rfl⟩
 obtain ⟨V3,hV3⟩:∃ V,V = w3.alloc (.cells #[.string q.ty,.string q.cs,.string q.id,.string q.loc,.int .i64 q.how,.slice sb mb eb,.slice sk mk ek] 25):=⟨_,rfl⟩
 have hb3V:Below w3.heap.size w3 V3:=by rw [hV3];exact (Below.refl _ _).alloc (Nat.le_refl _) _
 have hb23:Below V2.heap.size V2 V3:=hb3.trans (hb3V.mono hb3.size)
 have HKS:Hid (V3.heap[SB]? = some (.cells #[.string q.ty,.string q.cs,.string q.id,.string q.loc,.int .i64 q.how,.slice sb mb eb,.slice sk mk ek] 25)):=by rw [hV3,← hSB];exact blk_new _ _
 have HKQ3:Hid (V3.heap[QB]? = some (.cells #[.string q.ty,.string q.cs,.string q.id,.string q.loc,.int .i64 q.how,.slice qb mb db,.slice qk mk dk] 25)):=blk_on HKQ.out hb23
 have HP3:Hid (PHeld V3 4 q qb db qk dk∧PHeld V3 4 q sb eb sk ek):=⟨HQP.out.below hb23,hh3.below hb3V⟩
 have HB3:Hid (Below W1.heap.size W1 V3):=HBV.out.trans (hb23.mono HBV.out.size)
 have HV3:Hid (V3 = w3.alloc (.cells #[.string q.ty,.string q.cs,.string q.id,.string q.loc,.int .i64 q.how,.slice sb mb eb,.slice sk mk ek] 25)):=hV3
 clear hV3 hb3V hb23 hb3 hh3 HQP HKQ HBV
 go_upto_region 3 with fail
 rw [← HV3.out]
 clear HV3 hSB
 go_wp2_with fail
 refine (CR.out _ HB3.out).mono ?_
 rintro e w4 ⟨rfl,hb4⟩
 have hB4:Below W1.heap.size W1 w4:=HB3.out.trans (hb4.mono HB3.out.size)
 clear CR
 go_wp2_with fail
 refine (C1.out _ hB4).mono ?_
 rintro e w5 ⟨rfl,hb5⟩
 have hB5:Below W1.heap.size W1 w5:=hB4.trans (hb5.mono hB4.size)
 clear C1
 go_wp2_with fail
 refine (C2.out _ hB5).mono ?_
 rintro e w6 ⟨rfl,hb6⟩
 have hB6:Below W1.heap.size W1 w6:=hB5.trans (hb6.mono hB5.size)
 have hb36:Below V3.heap.size V3 w6:=hb4.trans ((hb5.trans (hb6.mono hb5.size)).mono hb4.size)
 obtain ⟨y0,y1,y2,y3,y4,y5,y6,yf⟩:=o_cells (blk_on HKQ3.out hb36)
 obtain ⟨x0,x1,x2,x3,x4,x5,x6,xf⟩:=o_cells (blk_on HKS.out hb36)
 have HP6:Hid (PHeld w6 4 q qb db qk dk∧PHeld w6 4 q sb eb sk ek):=⟨HP3.out.1.below hb36,HP3.out.2.below hb36⟩
 have HB6:Hid (Below W1.heap.size W1 w6):=hB6
 clear C2 hb4 hb5 hb6 hB4 hB5 hB6 hb36 HP3 HKQ3 HKS HB3
 go_wp2_with fail
 refine (CS.out w6 qb db qk dk sb eb sk ek HP6.out.1 HP6.out.2).mono ?_
 rintro e w7 ⟨rfl,hb7⟩
 have HB:Hid (Below w.heap.size w w7):=HLOW.out _ (HB6.out.trans (hb7.mono HB6.out.size))
 clear hb7 HB6 HP6 CS y0 y1 y2 y3 y4 y5 y6 yf x0 x1 x2 x3 x4 x5 x6 xf
 go_wp2_with fail
 go_ret
 exact ⟨rfl,HB.out⟩
end Go.Proofs.YtbbfcbodhmeanaaGreatDoor


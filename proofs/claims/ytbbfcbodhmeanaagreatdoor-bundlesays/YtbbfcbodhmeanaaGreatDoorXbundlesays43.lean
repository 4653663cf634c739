
import Derived.Test.YtbbfcbodhmeanaaGreatDoorXbundlesays42
import Derived.Test.YtbbfcbodhmeanaaGreatDoorXbundlesays41
namespace Go.Proofs.YtbbfcbodhmeanaaGreatDoor
open Go.RowKit
def flatP:Nat→PT→List PT
 | 0,_=>[]
 | f + 1,p=>p::p.kids.flatMap (flatP f)
theorem flatP_succ (f:Nat) (p:PT):flatP (f + 1) p = p::p.kids.flatMap (flatP f):=by rw [flatP]
theorem up_held {w:World} {F:Nat} {p:PT} {pb:Option Addr} {cb:Nat} {pk:Option Addr} {ck:Nat} (h:PHeld w F p pb cb pk ck):PHeld w (F + 1) p pb cb pk ck:=⟨h.1,h.2.1,h.2.2.1,h.2.2.2.1,KAt.up _ _ _ h.2.2.2.2⟩
theorem take_kid (l:List PT) (k:Nat) (h:k < l.length) (g:PT→List PT):(l.take (k + 1)).flatMap g = (l.take k).flatMap g ++ g (l.getD k pt0):=by
 rw [List.take_add_one,List.getElem?_eq_getElem h,List.flatMap_append,List.getD_eq_getElem?_getD,List.getElem?_eq_getElem h]
 congr 1
 show List.flatMap g [l[k]] = g l[k]
 simp only [List.flatMap_cons,List.flatMap_nil,List.append_nil]
theorem take_le (l:List PT) (k:Nat) (g:PT→List PT):((l.take k).flatMap g).length≤(l.flatMap g).length:=by
 conv=>rhs;rw [← List.take_append_drop k l,List.flatMap_append,List.length_append]
 omega
def FlatPost (F:Nat) (l:List PT) (w:World) (e:Ending) (w':World):Prop :=
 ∃ q c,e = .returned (.slice q l.length c)∧Below w.heap.size w w'∧(q = none→c = 0)∧l.length≤c∧c≤maxLen∧KAt w' (F + 1) q l ∧
  ∃ Z:List PZ,Z.map (·.1) = l∧w'.ownsRow w.heap.size 25 7 (.slice q l.length c) l.length (pzv Z)∧∀ z ∈ Z,PHeld w' F z.1 z.2.1.1 z.2.1.2 z.2.2.1 z.2.2.2
set_option maxHeartbeats 2000000 in
set_option maxRecDepth 100000 in
theorem flat_any:∀ (f F:Nat) (p:PT) (pb:Option Addr) (cb:Nat) (pk:Option Addr) (ck:Nat) (w:World),lev f p = true→(flatP f p).length≤1000→PHeld w F p pb cb pk ck →
  Calls Tryz.prog 44 #[.agg #[.string p.ty,.string p.cs,.string p.id,.string p.loc,.int .i64 p.how,.slice pb p.body.length cb,.slice pk p.kids.length ck]] w
   fun e w'=>FlatPost F (flatP f p) w e w':=by
 intro f
 induction f with
 | zero=>intro F p pb cb pk ck w hl;rw [lev] at hl;cases hl
 | succ f ih =>
  intro F p pb cb pk ck w hl h1000 hH
  rw [lev_succ,List.all_eq_true] at hl
  have HR:Hid (flatP (f + 1) p = p::p.kids.flatMap (flatP f)):=flatP_succ f p
  rw [flatP_succ,List.length_cons] at h1000
  obtain ⟨w1,hw1⟩:∃ w1,w.alloc (.cells #[.string p.ty,.string p.cs,.string p.id,.string p.loc,.int .i64 p.how,.slice pb p.body.length cb,.slice pk p.kids.length ck] 25) = w1:=⟨_,rfl⟩
  have hb1:Below w.heap.size w w1:=by rw [← hw1];exact (Below.refl _ _).alloc (Nat.le_refl _) _
  have hs1:w1.heap.size = w.heap.size + 1:=by rw [← hw1];simp
  have y0:w1.cell? ⟨w.heap.size,0,none⟩ = some (.string p.ty):=by rw [← hw1];simp
  have y1:w1.cell? ⟨w.heap.size,1,none⟩ = some (.string p.cs):=by rw [← hw1];simp
  have y2:w1.cell? ⟨w.heap.size,2,none⟩ = some (.string p.id):=by rw [← hw1];simp
  have y3:w1.cell? ⟨w.heap.size,3,none⟩ = some (.string p.loc):=by rw [← hw1];simp
  have y4:w1.cell? ⟨w.heap.size,4,none⟩ = some (.int .i64 p.how):=by rw [← hw1];simp
  have y5:w1.cell? ⟨w.heap.size,5,none⟩ = some (.slice pb p.body.length cb):=by rw [← hw1];simp
  have y6:w1.cell? ⟨w.heap.size,6,none⟩ = some (.slice pk p.kids.length ck):=by rw [← hw1];simp
  obtain ⟨w2,hw2⟩:∃ w2,w1.alloc (.cells #[.string p.ty,.string p.cs,.string p.id,.string p.loc,.int .i64 p.how,.slice pb p.body.length cb,.slice pk p.kids.length ck] 25) = w2:=⟨_,rfl⟩
  have hb12:Below w1.heap.size w1 w2:=by rw [← hw2];exact (Below.refl _ _).alloc (Nat.le_refl _) _
  have hb2:Below w.heap.size w w2:=hb1.trans (hb12.mono hb1.size)
  have HX6:Hid (∀ w',Below w2.heap.size w2 w'→w'.cell? ⟨w.heap.size,6,none⟩ = some (.slice pk p.kids.length ck)):=fun w' hb=>by
   have h2:=(hb12.cell (World.block_lt_of_cell? w1 _ y6)).trans y6
   exact (hb.cell (World.block_lt_of_cell? w2 _ h2)).trans h2
  have HC0:Hid (Cells w2 (some ⟨w.heap.size + 1,0,none⟩) (pzv [(p,(pb,cb),(pk,ck))])):=by
   intro _
   refine ⟨w.heap.size + 1,0,rfl,fun j u hj=>?_⟩
   rw [← hw2]
   exact cell_lits w1 _ _ _ j _ u hs1.symm (Nat.zero_add _) hj
  have HH0:Hid (PHeld w2 F p pb cb pk ck):=hH.below hb2
  have HO0:Hid (w2.ownsRow w.heap.size 25 7 (.slice (some ⟨w.heap.size + 1,0,none⟩) 1 1) 1 (pzv [(p,(pb,cb),(pk,ck))])):=by
   have:=World.ownsRow_lit (base:=w.heap.size) (e:=25) (size:=7) w1 #[.string p.ty,.string p.cs,.string p.id,.string p.loc,.int .i64 p.how,.slice pb p.body.length cb,.slice pk p.kids.length ck] 1 (by rw [hs1];omega) (by decide) rfl
   rw [hw2,hs1] at this
   exact this
  have HKP:Hid (p.kids ≠ []→∃ F' b o,F = F' + 1∧pk = some ⟨b,o,none⟩∧∀ i,i < p.kids.length→PAt w2 F' b (o + i * 7) (p.kids.getD i pt0)):=fun hne=>by
   have hk:KAt w F pk p.kids:=hH.2.2.2.2
   cases F with
   | zero=>exact absurd hk hne
   | succ F' =>
    obtain ⟨b,o,e1,e2⟩:=hk.each hne
    exact ⟨F',b,o,rfl,e1,fun i hi=>(e2 i hi).below hb2⟩
  have hkl:p.kids.length≤9223372036854775807:=by have:=hH.1.2.2.2.2.2.2.2;unfold maxLen at this;exact this
  have IH:Hid (∀ (F:Nat) (k:PT) (pb:Option Addr) (cb:Nat) (pk:Option Addr) (ck:Nat) (w:World),k ∈ p.kids→(flatP f k).length≤1000→PHeld w F k pb cb pk ck →
   Calls Tryz.prog 44 #[.agg #[.string k.ty,.string k.cs,.string k.id,.string k.loc,.int .i64 k.how,.slice pb k.body.length cb,.slice pk k.kids.length ck]] w fun e w'=>FlatPost F (flatP f k) w e w'):=fun F k pb cb pk ck w hk h1 h2=>ih F k pb cb pk ck w (hl k hk) h1 h2
  have HLe:Hid ((p.kids.flatMap (flatP f)).length + 1≤1000):=h1000
  obtain ⟨n,hn⟩:∃ n,p.kids.length = n:=⟨_,rfl⟩
  have HN:Hid (p.kids.length = n):=hn
  rw [hn] at y6 HX6 HKP hkl hw1 hw2
  simp only [hn]
  clear hn ih hH hl h1000
  generalize flatP (f + 1) p = RES at *
  generalize p.body.length = nb at *
  go_enter Tryz.func44,Tryz.ntmps44
  go_wp2_with fail
  go_loopw [3,4] (fun ov iv wr=>∃ (k m c:Nat) (q:Option Addr) (Z:List PZ),k≤n∧iv = .int .i64 k∧ov = .slice q m c∧(q = none→m = 0∧c = 0)∧m≤c∧c≤maxLen∧Below w2.heap.size w2 wr∧Hid (Z.length = m)∧Hid (Z.map (·.1) = p::(p.kids.take k).flatMap (flatP f))∧Hid (Cells wr q (pzv Z))∧Hid (wr.ownsRow w.heap.size 25 7 (.slice q m c) m (pzv Z))∧Hid (∀ z ∈ Z,PHeld wr F z.1 z.2.1.1 z.2.1.2 z.2.2.1 z.2.2.2)) (fun _ iv _=>n - (intOf iv).toNat)
  case atStart=>exact ⟨0,1,1,some ⟨w.heap.size + 1,0,none⟩,[(p,(pb,cb),(pk,ck))],Nat.zero_le _,rfl,rfl,(fun h=>by cases h),Nat.le_refl _,by decide,Below.refl _ _,rfl,rfl,HC0,HO0,fun z hz=>by obtain rfl:=List.mem_singleton.1 hz;exact HH0.out⟩
  case round =>
   obtain ⟨k,m,c,q,Z,hk,rfl,rfl,hqn,hmc,hcm,hbr,HZl,HZm,HZc,HZo,HZh⟩:=hrel
   have hsr:=hbr.size
   have c6:=HX6.out wr hbr
   by_cases hlt:k < n
   ·have hlz:(k:Int) < (n:Int):=by omega
    have hne:p.kids ≠ []:=fun e=>by have:=HN.out;rw [e] at this;simp at this;omega
    obtain ⟨F',bp,op,hF',rfl,hPp⟩:=HKP.out hne
    have hkP:k < p.kids.length:=by rw [HN.out];exact hlt
    have HP1:=(hPp k hlt).below hbr
    have hT:=take_kid p.kids k hkP (flatP f)
    have hle:=take_le p.kids (k + 1) (flatP f)
    rw [hT,List.length_append] at hle
    have hmem:p.kids.getD k pt0 ∈ p.kids:=by simp [List.getD_eq_getElem?_getD,List.getElem?_eq_getElem hkP]
    obtain ⟨P1,hP1⟩:∃ P1,p.kids.getD k pt0 = P1:=⟨_,rfl⟩
    rw [hP1] at HP1 hT hle hmem
    obtain ⟨a1,a2,a3,a4,hC1,hH1⟩:=HP1
    have hzm:m + (flatP f P1).length≤1000:=by
     have h1:=congrArg List.length HZm.out
     rw [List.length_map,List.length_cons,HZl.out] at h1
     have:=HLe.out
     omega
    have IH1:Hid (Calls Tryz.prog 44 #[.agg #[.string P1.ty,.string P1.cs,.string P1.id,.string P1.loc,.int .i64 P1.how,.slice a1 P1.body.length a2,.slice a3 P1.kids.length a4]] wr fun e w''=>FlatPost F' (flatP f P1) wr e w''):=IH.out F' P1 a1 a2 a3 a4 wr hmem (by omega) hH1
    obtain ⟨d0,d1,d2,d3,d4,d5,d6⟩:=hC1
    have HT:Hid ((p.kids.take (k + 1)).flatMap (flatP f) = (p.kids.take k).flatMap (flatP f) ++ flatP f P1):=hT
    clear hPp hP1 hH1 HKP hT hle hmem
    obtain ⟨X,hX⟩:∃ X,flatP f P1 = X:=⟨_,rfl⟩
    rw [hX] at IH1 HT hzm
    clear hX
    obtain ⟨pt1,pc1,pi1,pl1,ph1,pb1,pk1⟩:=P1
    simp only at d0 d1 d2 d3 d4 d5 d6 IH1
    generalize pb1.length = m1 at *
    generalize pk1.length = m2 at *
    go_wp2_with fail
    refine IH1.out.mono ?_
    rintro e w3 ⟨q3,c3,rfl,hb3,hq3,hl3,hcm3,hk3,-⟩
    obtain ⟨Z2,eZ2,cZ2,hZ2⟩:=hk3.list
    have hb3a:=hb3.alloc hb3.size (.cells #[.slice q m c,.slice q3 X.length c3] 23)
    have hb33:Below w3.heap.size w3 (w3.alloc (.cells #[.slice q m c,.slice q3 X.length c3] 23)):=(Below.refl _ _).alloc (Nat.le_refl _) _
    have lZ2:Z2.length = X.length:=by have:=congrArg List.length eZ2;simpa using this
    have CC:Hid (Calls Tryz.prog 85 #[.slice (some ⟨w3.heap.size,0,none⟩) 2 2] (w3.alloc (.cells #[.slice q m c,.slice q3 X.length c3] 23)) fun e w'=>∃ p' c',e = .returned (.slice p' (m + X.length) c')∧(p' = none→m + X.length = 0∧c' = 0)∧m + X.length≤c'∧c'≤maxLen∧Below wr.heap.size wr w'∧Hid (Cells w' p' (pzv (Z ++ Z2)))∧Hid (w'.ownsRow w.heap.size 25 7 (.slice p' (m + X.length) c') (m + X.length) (pzv (Z ++ Z2)))∧Hid (∀ z ∈ Z ++ Z2,PHeld w' F z.1 z.2.1.1 z.2.1.2 z.2.2.1 z.2.2.2)):=by
     refine (concatP w3.heap.size q q3 m X.length c c3 (pzv Z) (pzv Z2) (by rw [pzv_length,HZl.out]) (by rw [pzv_length,lZ2]) _ (by simp) (by simp) (HZc.out.below hb3a) (cZ2.below hb33) (pzv_one _) (pzv_one _) hqn (fun h=>⟨by have:=hq3 h;omega,hq3 h⟩) (by omega)).mono ?_
     rintro e w' ⟨hb',p',c',rfl,hown⟩
     obtain ⟨p2,c2,e2,g1,g2,g3,hc2⟩:=owned_cells hown
     injection e2 with e3 e4 e5
     subst e3 e5
     have hbw:=hb3a.trans (hb'.mono hb3a.size)
     refine ⟨p',c',rfl,g3,g1,g2,hbw,by unfold Hid;rw [pzv_append];exact hc2,by unfold Hid;rw [pzv_append];exact owns_weaken hown (by have h1:=hb2.size;have h2:=hb3.size;simp;omega),fun z hz=>?_⟩
     rcases List.mem_append.1 hz with h | h
     ·exact (HZh.out z h).below hbw
     ·have:=up_held ((hZ2 z h).below (hb33.trans (hb'.mono hb33.size)))
      rw [← hF'] at this
      exact this
    have HZ9:Hid ((Z ++ Z2).map (·.1) = p::(p.kids.take (k + 1)).flatMap (flatP f)):=by unfold Hid;rw [List.map_append,HZm.out,eZ2,HT.out];rfl
    have HL9:Hid ((Z ++ Z2).length = m + X.length):=by unfold Hid;rw [List.length_append,HZl.out,lZ2]
    generalize X.length = mx at *
    clear hk3 eZ2 cZ2 hZ2 IH1 HT
    go_wp2_with fail
    refine CC.out.mono ?_
    rintro e w4 ⟨p4,c4,rfl,g1,g2,g3,hb4,HC4,HO4,HH4⟩
    have hbel4:Below w2.heap.size w2 w4:=hbr.trans (hb4.mono hsr)
    clear CC
    go_wp2_with fail
    go_roundw
    case rel=>exact ⟨k + 1,m + mx,c4,p4,Z ++ Z2,by omega,by go_num,rfl,g1,g2,g3,hbel4,HL9,HZ9,HC4,HO4,HH4⟩
    case measure=>simp [intOf];omega
   ·have hlz:¬ ((k:Int) < (n:Int)):=by omega
    have HN2:Hid (Z.map (·.1) = RES):=by unfold Hid;rw [HZm.out,List.take_of_length_le (by rw [HN.out];omega),HR.out]
    have HK2:Hid (KAt wr (F + 1) q RES):=by unfold Hid;rw [← HN2.out];exact KAt.of_list HZc.out HZh.out
    have HL2:Hid (RES.length = m):=by unfold Hid;rw [← HN2.out,List.length_map];exact HZl.out
    clear HKP IH
    go_wp2_with fail
    go_ret
    refine ⟨q,c,?_,hb2.trans (hbr.mono hb2.size),fun h=>(hqn h).2,by rw [HL2.out];exact hmc,hcm,HK2.out,Z,HN2.out,by rw [HL2.out];exact HZo.out,HZh.out⟩
    rw [HL2.out];rfl
end Go.Proofs.YtbbfcbodhmeanaaGreatDoor



namespace Go.Proofs.YtbbfcbodhmeanaaGreatDoor
def total (f:Nat) (ks:List PT):Nat:=(ks.map fun k=>(tree f k).length).sum
theorem grow_total (f:Nat):∀ (ks:List PT) (acc:List (PT × Option Nat)),(grow f acc ks).length = acc.length + total f ks
 | [],acc=>by simp [grow_nil,total]
 | k::ks,acc=>by
  rw [grow_cons,grow_total f ks]
  simp [total]
  omega
theorem tree_total (f:Nat) (p:PT):(tree (f + 1) p).length = 1 + total f p.kids:=by rw [tree_grow,grow_total];rfl
theorem sized_fits (f:Nat) (hf:f≤3):∀ (ks:List PT) (a d:Nat),(∀ k ∈ ks,(sizedP f k).1 = (tree f k).length∧(sizedP f k).2≤f)→d≤f→(a + total f ks≤100→∃ D,D≤f∧sizedG f (a,d) ks = some (a + total f ks,D))∧(a≤100→100 < a + total f ks→sizedG f (a,d) ks = none)
 | [],a,d,_,hd=>⟨fun _=>⟨d,hd,rfl⟩,fun h1 h2=>by simp [total] at h2;omega⟩
 | k::ks,a,d,h,hd=>by
  obtain ⟨h1,h2⟩:=h k (by simp)
  have ht:total f (k::ks) = (tree f k).length + total f ks:=by simp [total]
  by_cases hc:100 < a + (sizedP f k).1 ∨ 50 < max d (sizedP f k).2
  ·have hs:=sizedG_stop f (a,d) k ks hc
   exact ⟨fun h3=>by rw [ht] at h3;omega,fun _ _=>hs⟩
  ·have hs:=sizedG_on f (a,d) k ks hc
   obtain ⟨g1,g2⟩:=sized_fits f hf ks (a + (sizedP f k).1) (max d (sizedP f k).2) (fun x hx=>h x (by simp [hx])) (by omega)
   rw [hs,ht,h1]
   rw [h1] at g1 g2
   refine ⟨fun h3=>?_,fun h3 h4=>g2 (by omega) (by omega)⟩
   obtain ⟨D,hD,e⟩:=g1 (by omega)
   exact ⟨D,hD,by rw [e,Nat.add_assoc]⟩
theorem sized_grows (f:Nat):∀ (ks:List PT) (a b:Nat × Nat),sizedG f a ks = some b→a.1≤b.1∧a.2≤b.2∧∀ k ∈ ks,(sizedP f k).1≤b.1∧(sizedP f k).2≤b.2
 | [],a,b,h=>by rw [sizedG_nil] at h;cases h;exact ⟨Nat.le_refl _,Nat.le_refl _,fun k hk=>by cases hk⟩
 | k::ks,a,b,h=>by
  by_cases hc:100 < a.1 + (sizedP f k).1 ∨ 50 < max a.2 (sizedP f k).2
  ·rw [sizedG_stop f a k ks hc] at h;cases h
  ·rw [sizedG_on f a k ks hc] at h
   obtain ⟨h1,h2,h3⟩:=sized_grows f ks _ b h
   simp only at h1 h2
   refine ⟨by omega,by omega,fun x hx=>?_⟩
   rcases List.mem_cons.1 hx with e | e
   ·subst e;exact ⟨by omega,by omega⟩
   ·exact h3 x e
theorem total_mem (f:Nat):∀ (ks:List PT) (k:PT),k ∈ ks→(tree f k).length≤total f ks
 | [],k,h=>by cases h
 | x::ks,k,h=>by
  have ht:total f (x::ks) = (tree f x).length + total f ks:=by simp [total]
  rw [ht]
  rcases List.mem_cons.1 h with e | e
  ·subst e;omega
  ·have:=total_mem f ks k e;omega
theorem sized_says:∀ (f:Nat),f≤3→∀ p:PT,((lev f p = true∧(tree f p).length≤12)→(sizedP f p).1 = (tree f p).length∧(sizedP f p).2≤f)∧(¬ (lev f p = true∧(tree f p).length≤12)→12 < (sizedP f p).1 ∨ 3 < (sizedP f p).2)
 | 0,_,p=>⟨(fun h=>absurd h.1 (by rw [lev];decide)),fun _=>.inr (by show 3 < 99;decide)⟩
 | f + 1,hf,p=>by
  have ih:=sized_says f (by omega)
  rw [sizedP_succ,tree_total,lev_succ]
  by_cases hall:∀ k ∈ p.kids,lev f k = true∧(tree f k).length≤12
  ·obtain ⟨g1,g2⟩:=sized_fits f (by omega) p.kids 1 0 (fun k hk=>(ih k).1 (hall k hk)) (Nat.zero_le _)
   have hl:p.kids.all (lev f) = true:=List.all_eq_true.2 fun k hk=>(hall k hk).1
   refine ⟨fun h=>?_,fun h=>?_⟩
   ·obtain ⟨D,hD,e⟩:=g1 (by omega)
    rw [e]
    exact ⟨rfl,by show D + 1≤f + 1;omega⟩
   ·have h12:12 < 1 + total f p.kids:=by
     rcases Nat.lt_or_ge 12 (1 + total f p.kids) with h' | h'
     ·exact h'
     ·exact absurd ⟨hl,h'⟩ h
    rcases Nat.lt_or_ge 100 (1 + total f p.kids) with h' | h'
    ·rw [g2 (by omega) h'];exact .inl (by show 12 < 100;decide)
    ·obtain ⟨D,_,e⟩:=g1 h'
     rw [e]
     exact .inl h12
  ·obtain ⟨k,hk,hb⟩:∃ k ∈ p.kids,¬ (lev f k = true∧(tree f k).length≤12):=by
    rcases Classical.em (∃ k ∈ p.kids,¬ (lev f k = true∧(tree f k).length≤12)) with h | h
    ·exact h
    ·exact absurd (fun k hk=>Classical.not_not.1 fun hb=>h ⟨k,hk,hb⟩) hall
   have hbad:¬ (p.kids.all (lev f) = true∧1 + total f p.kids≤12):=fun h=>hb ⟨List.all_eq_true.1 h.1 k hk,by
    have:=total_mem f p.kids k hk
    omega⟩
   refine ⟨fun h=>absurd h hbad,fun _=>?_⟩
   cases hs:sizedG f (1,0) p.kids with
   | none=>exact .inl (by show 12 < 100;decide)
   | some b =>
    have:=(sized_grows f p.kids (1,0) b hs).2.2 k hk
    rcases (ih k).2 hb with h | h
    ·exact .inl (by show 12 < b.1;omega)
    ·exact .inr (by show 3 < b.2 + 1;omega)
theorem grow_fst (f:Nat):∀ (ks:List PT) (acc:List (PT × Option Nat)),(∀ k ∈ ks,(tree f k).map (·.1) = flatP f k)→(grow f acc ks).map (·.1) = acc.map (·.1) ++ ks.flatMap (flatP f)
 | [],acc,_=>by simp [grow_nil]
 | k::ks,acc,h=>by
  rw [grow_cons,grow_fst f ks _ (fun x hx=>h x (by simp [hx])),List.map_append,List.map_map,List.flatMap_cons,← h k (by simp),List.append_assoc]
  rfl
theorem tree_flat:∀ (f:Nat) (p:PT),(tree f p).map (·.1) = flatP f p
 | 0,_=>rfl
 | f + 1,p=>by rw [tree_grow,grow_fst f p.kids _ (fun k _=>tree_flat f k),flatP_succ];rfl
end Go.Proofs.YtbbfcbodhmeanaaGreatDoor



namespace Go.Proofs.YtbbfcbodhmeanaaGreatDoor
theorem lev_up:∀ (f:Nat) (p:PT),lev f p = true→lev (f + 1) p = true
 | 0,p,h=>by rw [lev] at h;cases h
 | f + 1,p,h=>by
  rw [lev_succ,List.all_eq_true] at h ⊢
  exact fun k hk=>lev_up f k (h k hk)
theorem first_alone (ok:Nat→PT→Bool) (hok:∀ k p,ok k p.alone = ok k p):∀ (l:List PT) (k:Nat),firstP ok k (l.map PT.alone) = firstP ok k l
 | [],_=>rfl
 | p::l,k=>by
  rw [List.map_cons,firstP,firstP,first_alone ok hok l,hok]
  rfl
theorem findW_alone (l:List PT) (wh:List (List UInt8)) (t:List UInt8):findW (l.map PT.alone) wh t = findW l wh t:=by
 unfold findW
 rw [first_alone _ (fun _ _=>rfl),first_alone _ (fun _ _=>rfl)]
theorem goalOf_alone (l:List PT) (wh:List (List UInt8)):goalOf (l.map PT.alone) wh = goalOf l wh:=by
 funext i n x
 unfold goalOf
 rw [findW_alone]
theorem goalsGo_alone (low:List UInt8→List UInt8) (l:List PT) (wh:List (List UInt8)):∀ (r:List PT) (k:Nat) (acc:List GL),goalsGo low (l.map PT.alone) wh k (r.map PT.alone) acc = goalsGo low l wh k r acc
 | [],_,_=>by rw [List.map_nil,goalsGo,goalsGo]
 | p::r,k,acc=>by
  rw [List.map_cons,goalsGo,goalsGo,goalOf_alone]
  have e1:p.alone.ty = p.ty:=rfl
  have e2:p.alone.body = p.body:=rfl
  rw [e1,e2,goalsGo_alone low l wh r]
  cases findP low p.body with
  | none=>rfl
  | some ls=>simp only [goalsGo_alone low l wh r]
theorem goalsGo_like (l:List PT) (wh:List (List UInt8)):∀ (r:List PT) (k:Nat) (acc:List GL),goalsGo lowT l wh k r acc = goalsGo smallU l wh k r acc
 | [],_,_=>by rw [goalsGo,goalsGo]
 | p::r,k,acc=>by
  have e:findP lowT p.body = findP smallU p.body:=find_like p.body
  rw [goalsGo,goalsGo,e,goalsGo_like l wh r]
  cases findP smallU p.body with
  | none=>rfl
  | some ls=>simp only [goalsGo_like l wh r]
theorem places_flat (p:PT) (h:(placesP p).1 = 0):lev 4 p = true∧(flatP 4 p).length≤12∧(placesP p).2.map (·.1) = flatP 4 p:=by
 have hs:=places_spec p
 unfold placesP at h ⊢
 by_cases hl:lev 3 p = true∧(tree 4 p).length≤12
 ·rw [if_pos hl] at hs
  rw [hs] at h ⊢
  simp only at h ⊢
  by_cases hb:firstBad ((tree 4 p).map (abs 0 (-1))) = 0
  ·rw [if_pos hb]
   refine ⟨lev_up 3 p hl.1,by rw [← tree_flat,List.length_map];exact hl.2,?_⟩
   rw [← tree_flat,List.map_map]
   rfl
  ·rw [if_neg hb] at h
   exact absurd h hb
 ·rw [if_neg hl] at hs
  rw [hs] at h
  cases h
theorem goals_ref (p:PT) (h:(placesP p).1 = 0):goalsGo lowT ((placesP p).2.map fun x=>x.1.alone) (whereP (placesP p).2) 0 ((placesP p).2.map fun x=>x.1.alone) [] = goalsGo smallU (flatP 4 p) (whereR 4 p []) 0 (flatP 4 p) []:=by
 have e:((placesP p).2.map fun x=>x.1.alone) = (flatP 4 p).map PT.alone:=by
  rw [← (places_flat p h).2.2,List.map_map]
  rfl
 rw [e,where_places p h,goalsGo_alone,goalsGo_like]
end Go.Proofs.YtbbfcbodhmeanaaGreatDoor


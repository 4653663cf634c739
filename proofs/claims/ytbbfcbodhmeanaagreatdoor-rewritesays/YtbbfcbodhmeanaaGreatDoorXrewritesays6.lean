
import Derived.Lib.SlBytesConst
import Derived.Test.YtbbfcbodhmeanaaGreatDoorXrewritesays5
import Derived.Below
import Derived.Laws.Rows
import Derived.Lib.Replace
namespace Go.Proofs.YtbbfcbodhmeanaaGreatDoor
open Go.RowKit
def bodyA:List UInt8:=[60,97,32,104,114,101,102,61,39,99,39,62,60,105,109,103,32,83,82,67,61,99,105,100,58,120,62,60,97,32,104,114,101,102,61,35,100,62]
def partA:PT:=⟨⟨#[116,101,120,116,47,104,116,109,108]⟩,⟨#[117,116,102,45,56]⟩,⟨#[]⟩,⟨#[]⟩,2,bodyA,[]⟩
def partB:PT:=⟨⟨#[105,109,97,103,101,47,112,110,103]⟩,⟨#[]⟩,⟨#[120]⟩,⟨#[99]⟩,1,[1,2,3],[]⟩
def smallT:PT:=⟨⟨#[109,117,108,116,105,112,97,114,116,47,114,101,108,97,116,101,100]⟩,⟨#[]⟩,⟨#[]⟩,⟨#[104,116,116,112,58,47,47,104,47,97,47,98]⟩,0,[],[partA,partB]⟩
theorem BRow_lit (w:World) (L:List UInt8) (C:Array Value) (hC:C = (bv L).toArray) (t:TypeId) (fr:Nat × Nat) (b:Nat) (hb:b = w.heap.size):BRow (w.alloc (.cells C t fr)) (some ⟨b,0,none⟩) L:=by
 subst hC hb
 intro _
 refine ⟨w.heap.size,0,rfl,fun i hi=>?_⟩
 rw [Nat.zero_add,World.cell?_alloc_mark w _ t fr i]
 simp [bv,List.getD_eq_getElem?_getD,List.getElem?_eq_getElem hi]
theorem cell_lits (w:World) (c:List Value) (t:TypeId) (b j k:Nat) (x:Value) (hb:b = w.heap.size) (hk:k = j) (h:c[j]? = some x):(w.alloc (.cells c.toArray t)).cell? ⟨b,k,none⟩ = some x:=by
 subst hk
 have:=cell_seven w c t b hb k x h
 rwa [Addr.add_lit,Nat.zero_add] at this
theorem lens (p:PT) (h:(decide (p.ty.size≤1000000) && decide (p.cs.size≤1000000) && decide (p.id.size≤1000000) && decide (p.loc.size≤1000000) && decide (-1000≤p.how) && decide (p.how≤1000) && decide (p.body.length≤1000000) && decide (p.kids.length≤1000000)) = true):PLen p:=by
 simp only [Bool.and_eq_true,decide_eq_true_eq] at h
 obtain ⟨⟨⟨⟨⟨⟨⟨a,b⟩,c⟩,d⟩,e⟩,f⟩,g⟩,k⟩:=h
 unfold PLen maxLen
 omega
theorem kc_at (w:World) (X:Obj) (C:Array Value) (n c:Nat):(convert 22 22 (.slice (some ⟨w.heap.size + 1,0,none⟩) n c)).run Tryz.prog ((w.alloc X).alloc (.cells C 5)) = .ok (.slice (some ⟨w.heap.size + 1,0,none⟩) n c) ((w.alloc X).alloc (.cells C 5 (C.size,C.size + 1))):=by
 have h:=Lib.run_convert_bytes_const (P:=Tryz.prog) (w.alloc X) 22 5 C n c Tryz.underlying22 Tryz.underlying5
 rw [World.size_alloc] at h
 exact h
set_option maxHeartbeats 1000000 in
set_option maxRecDepth 100000 in
theorem psmall_any (w:World):Calls Tryz.prog 49 #[] w fun e w'=>∃ g,e = .returned (.agg #[.string smallT.ty,.string smallT.cs,.string smallT.id,.string smallT.loc,.int .i64 smallT.how,.slice none smallT.body.length 0,.slice (some ⟨g,0,none⟩) smallT.kids.length 2])∧PHeld w' 1 smallT none 0 (some ⟨g,0,none⟩) 2∧Below w.heap.size w w':=by
 have kc:=fun (X:Obj) (C:Array Value) (n c:Nat)=>kc_at w X C n c
 go_enter Tryz.func49,Tryz.ntmps49
 go_wp2
 (try simp only [Exit.inBlock,Exit.then])
 refine bodyPost_ret (v:=.agg #[.string smallT.ty,.string smallT.cs,.string smallT.id,.string smallT.loc,.int .i64 smallT.how,.slice none smallT.body.length 0,.slice (some ⟨w.heap.size + 1 + 1 + 1,0,none⟩) smallT.kids.length 2]) ?_ rfl ⟨_,rfl,?_,?_⟩
 ·refine results_cell_row rfl _ _ w.heap.size 25 _ (0,0) _ rfl ?_ Tryz.underlying25 rfl (by kernel_rfl)
  exact (Below.heap_alloc _ _ _ (by simp;omega)).trans ((Below.heap_alloc _ _ _ (by simp;omega)).trans ((Below.heap_alloc _ _ _ (by simp)).trans (heap_alloc_new w _)))
 ·have hA:=BRow_lit (w.alloc (.cells #[.string smallT.ty,.string smallT.cs,.string smallT.id,.string smallT.loc,.int .i64 smallT.how,.slice none 0 0,.slice (some ⟨w.heap.size + 1 + 1 + 1,0,none⟩) 2 2] 25)) bodyA _ rfl 5 (38,39) (w.heap.size + 1) (by simp)
  have hB:=BRow_lit ((w.alloc (.cells #[.string smallT.ty,.string smallT.cs,.string smallT.id,.string smallT.loc,.int .i64 smallT.how,.slice none 0 0,.slice (some ⟨w.heap.size + 1 + 1 + 1,0,none⟩) 2 2] 25)).alloc (.cells (bv bodyA).toArray 5 (38,39))) [1,2,3] _ rfl 5 (0,0) (w.heap.size + 1 + 1) (by simp)
  refine ⟨lens _ (by decide),⟨by decide,by decide,fun _=>rfl⟩,fun h=>absurd rfl h,⟨by decide,by decide,fun h=>by cases h⟩,KAt.mk fun i hi=>?_⟩
  have hi2:i < 2:=hi
  match i,hi2 with
  | 0,_ =>
   refine ⟨some ⟨w.heap.size + 1,0,none⟩,38,none,0,⟨?_,?_,?_,?_,?_,?_,?_⟩,lens _ (by decide),⟨by decide,by decide,fun h=>by cases h⟩,?_,⟨by decide,by decide,fun _=>rfl⟩,rfl⟩
   ·exact cell_lits _ _ _ _ 0 _ _ (by simp) rfl rfl
   ·exact cell_lits _ _ _ _ 1 _ _ (by simp) rfl rfl
   ·exact cell_lits _ _ _ _ 2 _ _ (by simp) rfl rfl
   ·exact cell_lits _ _ _ _ 3 _ _ (by simp) rfl rfl
   ·exact cell_lits _ _ _ _ 4 _ _ (by simp) rfl rfl
   ·exact cell_lits _ _ _ _ 5 _ _ (by simp) rfl rfl
   ·exact cell_lits _ _ _ _ 6 _ _ (by simp) rfl rfl
   ·exact hA.under (((Below.refl _ _).alloc (Nat.le_refl _) _).alloc (by simp) _)
  | 1,_ =>
   refine ⟨some ⟨w.heap.size + 1 + 1,0,none⟩,3,none,0,⟨?_,?_,?_,?_,?_,?_,?_⟩,lens _ (by decide),⟨by decide,by decide,fun h=>by cases h⟩,?_,⟨by decide,by decide,fun _=>rfl⟩,rfl⟩
   ·exact cell_lits _ _ _ _ 7 _ _ (by simp) rfl rfl
   ·exact cell_lits _ _ _ _ 8 _ _ (by simp) rfl rfl
   ·exact cell_lits _ _ _ _ 9 _ _ (by simp) rfl rfl
   ·exact cell_lits _ _ _ _ 10 _ _ (by simp) rfl rfl
   ·exact cell_lits _ _ _ _ 11 _ _ (by simp) rfl rfl
   ·exact cell_lits _ _ _ _ 12 _ _ (by simp) rfl rfl
   ·exact cell_lits _ _ _ _ 13 _ _ (by simp) rfl rfl
   ·exact hB.under ((Below.refl _ _).alloc (Nat.le_refl _) _)
 ·exact ((((Below.refl _ w).alloc (Nat.le_refl _) _).alloc (by simp) _).alloc (by simp;omega) _).alloc (by simp;omega) _
end Go.Proofs.YtbbfcbodhmeanaaGreatDoor



namespace Go.Proofs.YtbbfcbodhmeanaaGreatDoor
open Go.RowKit
def flatP:Nat→PT→List PT
 | 0,_=>[]
 | f + 1,p=>p::p.kids.flatMap (flatP f)
theorem flatP_succ (f:Nat) (p:PT):flatP (f + 1) p = p::p.kids.flatMap (flatP f):=by rw [flatP]
theorem up_held {w:World} {F:Nat} {p:PT} {pb:Option Addr} {cb:Nat} {pk:Option Addr} {ck:Nat} (h:PHeld w F p pb cb pk ck):PHeld w (F + 1) p pb cb pk ck:=⟨h.1,h.2.1,h.2.2.1,h.2.2.2.1,KAt.up _ _ _ h.2.2.2.2⟩
theorem take_kid (l:List PT) (k:Nat) (h:k < l.length) (g:PT→List PT):(l.take (k + 1)).flatMap g = (l.take k).flatMap g ++ g (l.getD k pt0):=by
 rw [List.take_add_one,List.getElem?_eq_getElem h,List.flatMap_append,List.getD_eq_getElem?_getD,List.getElem?_eq_getElem h]
 congr 1
 show List.flatMap g [l[k]] = g l[k]
 simp only [List.flatMap_cons,List.flatMap_nil,List.append_nil]
theorem take_le (l:List PT) (k:Nat) (g:PT→List PT):((l.take k).flatMap g).length≤(l.flatMap g).length:=by
 conv=>rhs;rw [← List.take_append_drop k l,List.flatMap_append,List.length_append]
 omega
def FlatPost (F:Nat) (l:List PT) (w:World) (e:Ending) (w':World):Prop :=
 ∃ q c,e = .returned (.slice q l.length c)∧Below w.heap.size w w'∧(q = none→c = 0)∧l.length≤c∧c≤maxLen∧KAt w' (F + 1) q l ∧
  ∃ Z:List PZ,Z.map (·.1) = l∧w'.ownsRow w.heap.size 25 7 (.slice q l.length c) l.length (pzv Z)∧∀ z ∈ Z,PHeld w' F z.1 z.2.1.1 z.2.1.2 z.2.2.1 z.2.2.2
set_option maxHeartbeats 2000000 in
set_option maxRecDepth 100000 in
theorem flat_any:∀ (f F:Nat) (p:PT) (pb:Option Addr) (cb:Nat) (pk:Option Addr) (ck:Nat) (w:World),lev f p = true→(flatP f p).length≤1000→PHeld w F p pb cb pk ck →
  Calls Tryz.prog 44 #[.agg #[.string p.ty,.string p.cs,.string p.id,.string p.loc,.int .i64 p.how,.slice pb p.body.length cb,.slice pk p.kids.length ck]] w
   fun e w'=>FlatPost F (flatP f p) w e w':=by
 intro f
 induction f with
 | zero=>intro F p pb cb pk ck w hl;rw [lev] at hl;cases hl
 | succ f ih =>
  intro F p pb cb pk ck w hl h1000 hH
  rw [lev_succ,List.all_eq_true] at hl
  have HR:Hid (flatP (f + 1) p = p::p.kids.flatMap (flatP f)):=flatP_succ f p
  rw [flatP_succ,List.length_cons] at h1000
  obtain ⟨w1,hw1⟩:∃ w1,w.alloc (.cells #[.string p.ty,.string p.cs,.string p.id,.string p.loc,.int .i64 p.how,.slice pb p.body.length cb,.slice pk p.kids.length ck] 25) = w1:=⟨_,rfl⟩
  have hb1:Below w.heap.size w w1:=by rw [← hw1];exact (Below.refl _ _).alloc (Nat.le_refl _) _
  have hs1:w1.heap.size = w.heap.size + 1:=by rw [← hw1];simp
  have y0:w1.cell? ⟨w.heap.size,0,none⟩ = some (.string p.ty):=by rw [← hw1];simp
  have y1:w1.cell? ⟨w.heap.size,1,none⟩ = some (.string p.cs):=by rw [← hw1];simp
  have y2:w1.cell? ⟨w.heap.size,2,none⟩ = some (.string p.id):=by rw [← hw1];simp
  have y3:w1.cell? ⟨w.heap.size,3,none⟩ = some (.string p.loc):=by rw [← hw1];simp
  have y4:w1.cell? ⟨w.heap.size,4,none⟩ = some (.int .i64 p.how):=by rw [← hw1];simp
  have y5:w1.cell? ⟨w.heap.size,5,none⟩ = some (.slice pb p.body.length cb):=by rw [← hw1];simp
  have y6:w1.cell? ⟨w.heap.size,6,none⟩ = some (.slice pk p.kids.length ck):=by rw [← hw1];simp
  obtain ⟨w2,hw2⟩:∃ w2,w1.alloc (.cells #[.string p.ty,.string p.cs,.string p.id,.string p.loc,.int .i64 p.how,.slice pb p.body.length cb,.slice pk p.kids.length ck] 25) = w2:=⟨_,rfl⟩
  have hb12:Below w1.heap.size w1 w2:=by rw [← hw2];exact (Below.refl _ _).alloc (Nat.le_refl _) _
  have hb2:Below w.heap.size w w2:=hb1.trans (hb12.mono hb1.size)
  have HX6:Hid (∀ w',Below w2.heap.size w2 w'→w'.cell? ⟨w.heap.size,6,none⟩ = some (.slice pk p.kids.length ck)):=fun w' hb=>by
   have h2:=(hb12.cell (World.block_lt_of_cell? w1 _ y6)).trans y6
   exact (hb.cell (World.block_lt_of_cell? w2 _ h2)).trans h2
  have HC0:Hid (Cells w2 (some ⟨w.heap.size + 1,0,none⟩) (pzv [(p,(pb,cb),(pk,ck))])):=by
   intro _
   refine ⟨w.heap.size + 1,0,rfl,fun j u hj=>?_⟩
   rw [← hw2]
   exact cell_lits w1 _ _ _ j _ u hs1.symm (Nat.zero_add _) hj
  have HH0:Hid (PHeld w2 F p pb cb pk ck):=hH.below hb2
  have HO0:Hid (w2.ownsRow w.heap.size 25 7 (.slice (some ⟨w.heap.size + 1,0,none⟩) 1 1) 1 (pzv [(p,(pb,cb),(pk,ck))])):=by
   have:=World.ownsRow_lit (base:=w.heap.size) (e:=25) (size:=7) w1 #[.string p.ty,.string p.cs,.string p.id,.string p.loc,.int .i64 p.how,.slice pb p.body.length cb,.slice pk p.kids.length ck] 1 (by rw [hs1];omega) (by decide) rfl
   rw [hw2,hs1] at this
   exact this
  have HKP:Hid (p.kids ≠ []→∃ F' b o,F = F' + 1∧pk = some ⟨b,o,none⟩∧∀ i,i < p.kids.length→PAt w2 F' b (o + i * 7) (p.kids.getD i pt0)):=fun hne=>by
   have hk:KAt w F pk p.kids:=hH.2.2.2.2
   cases F with
   | zero=>exact absurd hk hne
   | succ F' =>
    obtain ⟨b,o,e1,e2⟩:=hk.each hne
    exact ⟨F',b,o,rfl,e1,fun i hi=>(e2 i hi).below hb2⟩
  have hkl:p.kids.length≤9223372036854775807:=by have:=hH.1.2.2.2.2.2.2.2;unfold maxLen at this;exact this
  have IH:Hid (∀ (F:Nat) (k:PT) (pb:Option Addr) (cb:Nat) (pk:Option Addr) (ck:Nat) (w:World),k ∈ p.kids→(flatP f k).length≤1000→PHeld w F k pb cb pk ck →
   Calls Tryz.prog 44 #[.agg #[.string k.ty,.string k.cs,.string k.id,.string k.loc,.int .i64 k.how,.slice pb k.body.length cb,.slice pk k.kids.length ck]] w fun e w'=>FlatPost F (flatP f k) w e w'):=fun F k pb cb pk ck w hk h1 h2=>ih F k pb cb pk ck w (hl k hk) h1 h2
  have HLe:Hid ((p.kids.flatMap (flatP f)).length + 1≤1000):=h1000
  obtain ⟨n,hn⟩:∃ n,p.kids.length = n:=⟨_,rfl⟩
  have HN:Hid (p.kids.length = n):=hn
  rw [hn] at y6 HX6 HKP hkl hw1 hw2
  simp only [hn]
  clear hn ih hH hl h1000
  generalize flatP (f + 1) p = RES at *
  generalize p.body.length = nb at *
  go_enter Tryz.func44,Tryz.ntmps44
  go_wp2_with fail
  go_loopw [3,4] (fun ov iv wr=>∃ (k m c:Nat) (q:Option Addr) (Z:List PZ),k≤n∧iv = .int .i64 k∧ov = .slice q m c∧(q = none→m = 0∧c = 0)∧m≤c∧c≤maxLen∧Below w2.heap.size w2 wr∧Hid (Z.length = m)∧Hid (Z.map (·.1) = p::(p.kids.take k).flatMap (flatP f))∧Hid (Cells wr q (pzv Z))∧Hid (wr.ownsRow w.heap.size 25 7 (.slice q m c) m (pzv Z))∧Hid (∀ z ∈ Z,PHeld wr F z.1 z.2.1.1 z.2.1.2 z.2.2.1 z.2.2.2)) (fun _ iv _=>n - (intOf iv).toNat)
  case atStart=>exact ⟨0,1,1,some ⟨w.heap.size + 1,0,none⟩,[(p,(pb,cb),(pk,ck))],Nat.zero_le _,rfl,rfl,(fun h=>by cases h),Nat.le_refl _,by decide,Below.refl _ _,rfl,rfl,HC0,HO0,fun z hz=>by obtain rfl:=List.mem_singleton.1 hz;exact HH0.out⟩
  case round =>
   obtain ⟨k,m,c,q,Z,hk,rfl,rfl,hqn,hmc,hcm,hbr,HZl,HZm,HZc,HZo,HZh⟩:=hrel
   have hsr:=hbr.size
   have c6:=HX6.out wr hbr
   by_cases hlt:k < n
   ·have hlz:(k:Int) < (n:Int):=by omega
    have hne:p.kids ≠ []:=fun e=>by have:=HN.out;rw [e] at this;simp at this;omega
    obtain ⟨F',bp,op,hF',rfl,hPp⟩:=HKP.out hne
    have hkP:k < p.kids.length:=by rw [HN.out];exact hlt
    have HP1:=(hPp k hlt).below hbr
    have hT:=take_kid p.kids k hkP (flatP f)
    have hle:=take_le p.kids (k + 1) (flatP f)
    rw [hT,List.length_append] at hle
    have hmem:p.kids.getD k pt0 ∈ p.kids:=by simp [List.getD_eq_getElem?_getD,List.getElem?_eq_getElem hkP]
    obtain ⟨P1,hP1⟩:∃ P1,p.kids.getD k pt0 = P1:=⟨_,rfl⟩
    rw [hP1] at HP1 hT hle hmem
    obtain ⟨a1,a2,a3,a4,hC1,hH1⟩:=HP1
    have hzm:m + (flatP f P1).length≤1000:=by
     have h1:=congrArg List.length HZm.out
     rw [List.length_map,List.length_cons,HZl.out] at h1
     have:=HLe.out
     omega
    have IH1:Hid (Calls Tryz.prog 44 #[.agg #[.string P1.ty,.string P1.cs,.string P1.id,.string P1.loc,.int .i64 P1.how,.slice a1 P1.body.length a2,.slice a3 P1.kids.length a4]] wr fun e w''=>FlatPost F' (flatP f P1) wr e w''):=IH.out F' P1 a1 a2 a3 a4 wr hmem (by omega) hH1
    obtain ⟨d0,d1,d2,d3,d4,d5,d6⟩:=hC1
    have HT:Hid ((p.kids.take (k + 1)).flatMap (flatP f) = (p.kids.take k).flatMap (flatP f) ++ flatP f P1):=hT
    clear hPp hP1 hH1 HKP hT hle hmem
    obtain ⟨X,hX⟩:∃ X,flatP f P1 = X:=⟨_,rfl⟩
    rw [hX] at IH1 HT hzm
    clear hX
    obtain ⟨pt1,pc1,pi1,pl1,ph1,pb1,pk1⟩:=P1
    simp only at d0 d1 d2 d3 d4 d5 d6 IH1
    generalize pb1.length = m1 at *
    generalize pk1.length = m2 at *
    go_wp2_with fail
    refine IH1.out.mono ?_
    rintro e w3 ⟨q3,c3,rfl,hb3,hq3,hl3,hcm3,hk3,-⟩
    obtain ⟨Z2,eZ2,cZ2,hZ2⟩:=hk3.list
    have hb3a:=hb3.alloc hb3.size (.cells #[.slice q m c,.slice q3 X.length c3] 23)
    have hb33:Below w3.heap.size w3 (w3.alloc (.cells #[.slice q m c,.slice q3 X.length c3] 23)):=(Below.refl _ _).alloc (Nat.le_refl _) _
    have lZ2:Z2.length = X.length:=by have:=congrArg List.length eZ2;simpa using this
    have CC:Hid (Calls Tryz.prog 85 #[.slice (some ⟨w3.heap.size,0,none⟩) 2 2] (w3.alloc (.cells #[.slice q m c,.slice q3 X.length c3] 23)) fun e w'=>∃ p' c',e = .returned (.slice p' (m + X.length) c')∧(p' = none→m + X.length = 0∧c' = 0)∧m + X.length≤c'∧c'≤maxLen∧Below wr.heap.size wr w'∧Hid (Cells w' p' (pzv (Z ++ Z2)))∧Hid (w'.ownsRow w.heap.size 25 7 (.slice p' (m + X.length) c') (m + X.length) (pzv (Z ++ Z2)))∧Hid (∀ z ∈ Z ++ Z2,PHeld w' F z.1 z.2.1.1 z.2.1.2 z.2.2.1 z.2.2.2)):=by
     refine (concatP w3.heap.size q q3 m X.length c c3 (pzv Z) (pzv Z2) (by rw [pzv_length,HZl.out]) (by rw [pzv_length,lZ2]) _ (by simp) (by simp) (HZc.out.below hb3a) (cZ2.below hb33) (pzv_one _) (pzv_one _) hqn (fun h=>⟨by have:=hq3 h;omega,hq3 h⟩) (by omega)).mono ?_
     rintro e w' ⟨hb',p',c',rfl,hown⟩
     obtain ⟨p2,c2,e2,g1,g2,g3,hc2⟩:=owned_cells hown
     injection e2 with e3 e4 e5
     subst e3 e5
     have hbw:=hb3a.trans (hb'.mono hb3a.size)
     refine ⟨p',c',rfl,g3,g1,g2,hbw,by unfold Hid;rw [pzv_append];exact hc2,by unfold Hid;rw [pzv_append];exact owns_weaken hown (by have h1:=hb2.size;have h2:=hb3.size;simp;omega),fun z hz=>?_⟩
     rcases List.mem_append.1 hz with h | h
     ·exact (HZh.out z h).below hbw
     ·have:=up_held ((hZ2 z h).below (hb33.trans (hb'.mono hb33.size)))
      rw [← hF'] at this
      exact this
    have HZ9:Hid ((Z ++ Z2).map (·.1) = p::(p.kids.take (k + 1)).flatMap (flatP f)):=by unfold Hid;rw [List.map_append,HZm.out,eZ2,HT.out];rfl
    have HL9:Hid ((Z ++ Z2).length = m + X.length):=by unfold Hid;rw [List.length_append,HZl.out,lZ2]
    generalize X.length = mx at *
    clear hk3 eZ2 cZ2 hZ2 IH1 HT
    go_wp2_with fail
    refine CC.out.mono ?_
    rintro e w4 ⟨p4,c4,rfl,g1,g2,g3,hb4,HC4,HO4,HH4⟩
    have hbel4:Below w2.heap.size w2 w4:=hbr.trans (hb4.mono hsr)
    clear CC
    go_wp2_with fail
    go_roundw
    case rel=>exact ⟨k + 1,m + mx,c4,p4,Z ++ Z2,by omega,by go_num,rfl,g1,g2,g3,hbel4,HL9,HZ9,HC4,HO4,HH4⟩
    case measure=>simp [intOf];omega
   ·have hlz:¬ ((k:Int) < (n:Int)):=by omega
    have HN2:Hid (Z.map (·.1) = RES):=by unfold Hid;rw [HZm.out,List.take_of_length_le (by rw [HN.out];omega),HR.out]
    have HK2:Hid (KAt wr (F + 1) q RES):=by unfold Hid;rw [← HN2.out];exact KAt.of_list HZc.out HZh.out
    have HL2:Hid (RES.length = m):=by unfold Hid;rw [← HN2.out,List.length_map];exact HZl.out
    clear HKP IH
    go_wp2_with fail
    go_ret
    refine ⟨q,c,?_,hb2.trans (hbr.mono hb2.size),fun h=>(hqn h).2,by rw [HL2.out];exact hmc,hcm,HK2.out,Z,HN2.out,by rw [HL2.out];exact HZo.out,HZh.out⟩
    rw [HL2.out];rfl
end Go.Proofs.YtbbfcbodhmeanaaGreatDoor



namespace Go.Proofs.YtbbfcbodhmeanaaGreatDoor
open Go.RowKit
def RdAt (w:World) (g:Nat) (p:ByteArray) (k:Int):Prop:=w.heap[g]? = some (.cells #[.string p,.int .i64 k] 121)
theorem RdAt.page {w:World} {g:Nat} {p:ByteArray} {k:Int} (h:RdAt w g p k):w.cell? ⟨g,0,none⟩ = some (.string p):=(cell_of_row w g 0 #[.string p,.int .i64 k] 121 (0,0) h).trans rfl
theorem RdAt.at_ {w:World} {g:Nat} {p:ByteArray} {k:Int} (h:RdAt w g p k):w.cell? ⟨g,1,none⟩ = some (.int .i64 k):=(cell_of_row w g 1 #[.string p,.int .i64 k] 121 (0,0) h).trans rfl
theorem RdAt.lt {w:World} {g:Nat} {p:ByteArray} {k:Int} (h:RdAt w g p k):g < w.heap.size:=(Array.getElem?_eq_some_iff.1 h).1
theorem RdAt.frozen {w:World} {g:Nat} {p:ByteArray} {k:Int} (h:RdAt w g p k) (o:Nat):w.frozen? ⟨g,o,none⟩ = false:=by simp [World.frozen?,show w.heap[g]? = _ from h]
theorem RdAt.set {w:World} {g:Nat} {p:ByteArray} {k:Int} (h:RdAt w g p k) (m:Int):RdAt (w.setCell ⟨g,1,none⟩ (.int .i64 m)) g p m:=by
 unfold RdAt
 rw [heap_setCell_same w g 1 #[.string p,.int .i64 k] 121 (.int .i64 m) h]
 rfl
theorem RdAt.below {w w':World} {g:Nat} {p:ByteArray} {k:Int} (h:RdAt w g p k) (hb:Below w.heap.size w w'):RdAt w' g p k:=by
 unfold RdAt
 rw [hb.block g h.lt]
 exact h
theorem RdAt.drew {w:World} {g:Nat} {p:ByteArray} {k:Int} (h:RdAt w g p k):RdAt w.drew g p k:=h
theorem rd_new (w:World) (p:ByteArray) (k:Int):RdAt (w.alloc (.cells #[.string p,.int .i64 k] 121)) w.heap.size p k:=by
 show (w.heap.push _)[w.heap.size]? = _
 rw [Array.getElem?_push,if_pos rfl]
theorem BRow.moved {w:World} {q:Option Addr} {l:List UInt8} (h:BRow w q l) {g:Nat} {p:ByteArray} {k:Int} (hc:RdAt w g p k) (v:Value):BRow (w.setCell ⟨g,1,none⟩ v) q l:=by
 intro hne
 obtain ⟨b,o,e,hl⟩:=h hne
 refine ⟨b,o,e,fun i hi=>?_⟩
 have h1:=hl i hi
 rw [World.cell?_setCell_other _ _ _ _ (fun e=>by rw [← e,hc.at_] at h1;cases h1)]
 exact h1
theorem set1_size (w:World) (g:Nat) (v:Value):(w.setCell ⟨g,1,none⟩ v).heap.size = w.heap.size:=by simp [World.setCell]
def Moves (w:World) (g:Nat) (m:Int) (w':World):Prop:=Below w.heap.size (w.setCell ⟨g,1,none⟩ (.int .i64 m)) w'
theorem Moves.rd {w w':World} {g:Nat} {p:ByteArray} {k m:Int} (h:Moves w g m w') (hc:RdAt w g p k):RdAt w' g p m :=
 (hc.set m).below (by rw [set1_size];exact h)
theorem Moves.size {w w':World} {g:Nat} {m:Int} (h:Moves w g m w'):w.heap.size≤w'.heap.size:=by
 have h1:Below w.heap.size (w.setCell ⟨g,1,none⟩ (.int .i64 m)) w':=h
 have h2:=h1.size
 rw [set1_size] at h2
 exact h2
theorem Moves.block {w w':World} {g:Nat} {m:Int} (h:Moves w g m w') (b:Nat) (hb:b < w.heap.size) (hg:b ≠ g):w'.heap[b]? = w.heap[b]?:=by
 have h1:Below w.heap.size (w.setCell ⟨g,1,none⟩ (.int .i64 m)) w':=h
 rw [h1.block b hb,Below.heap_setCell _ _ _ _ hg]
theorem Moves.trans {w w1 w2:World} {g:Nat} {p:ByteArray} {n m k:Int} (h1:Moves w g m w1) (h2:Moves w1 g k w2) (hc:RdAt w g p n):Moves w g k w2:=by
 have c1:=h1.rd hc
 have c2:=h2.rd c1
 have b1:Below w.heap.size (w.setCell ⟨g,1,none⟩ (.int .i64 m)) w1:=h1
 have b2:Below w1.heap.size (w1.setCell ⟨g,1,none⟩ (.int .i64 k)) w2:=h2
 refine ⟨b2.os.trans b1.os,b2.tape.trans b1.tape,b2.output.trans b1.output,?_,fun i hi=>?_⟩
 ·rw [set1_size]
  exact Nat.le_trans h1.size h2.size
 ·by_cases e:i = g
  ·subst e
   rw [show w2.heap[i]? = _ from c2,show (w.setCell ⟨i,1,none⟩ (.int .i64 k)).heap[i]? = _ from hc.set k]
  ·rw [b2.block i (Nat.lt_of_lt_of_le hi h1.size),Below.heap_setCell _ _ _ _ e,b1.block i hi,Below.heap_setCell _ _ _ _ e,Below.heap_setCell _ _ _ _ e]
theorem Moves.then {w w1 w2:World} {g:Nat} {m:Int} (h1:Moves w g m w1) (h2:Below w1.heap.size w1 w2):Moves w g m w2:=by
 have b1:Below w.heap.size (w.setCell ⟨g,1,none⟩ (.int .i64 m)) w1:=h1
 exact b1.trans (h2.mono h1.size)
theorem Moves.base {w0 w w':World} {g:Nat} {m:Int} (h:Moves w g m w') (hb:Below w0.heap.size w0 w) (hg:w0.heap.size≤g):Below w0.heap.size w0 w' :=
 (hb.setCell (p:=⟨g,1,none⟩) hg (.int .i64 m)).trans (h.mono hb.size)
theorem Moves.owns {w w':World} {g:Nat} {m:Int} (h:Moves w g m w') {B e s k:Nat} {v:Value} {xs:List Value} (ho:w.ownsRow B e s v k xs) (hB:g < B):w'.ownsRow B e s v k xs:=by
 have h1:=ownsRow_setCell_below ho (a:=⟨g,1,none⟩) hB (.int .i64 m)
 exact ownsRow_below h1 (by rw [set1_size];exact h)
theorem Moves.bytes {w w':World} {g:Nat} {p:ByteArray} {k m:Int} (h:Moves w g m w') (hc:RdAt w g p k) {q:Option Addr} {l:List UInt8} (hr:BRow w q l):BRow w' q l :=
 (hr.moved hc (.int .i64 m)).below (by rw [set1_size];exact h)
theorem Moves.still {w:World} {g:Nat} {p:ByteArray} {k:Int} (hc:RdAt w g p k):Moves w g k w:=by
 unfold Moves
 refine ⟨rfl,rfl,rfl,by simp [World.setCell],fun i hi=>?_⟩
 by_cases e:i = g
 ·subst e
  rw [show w.heap[i]? = _ from hc,show (w.setCell ⟨i,1,none⟩ (.int .i64 k)).heap[i]? = _ from hc.set k]
 ·rw [Below.heap_setCell _ _ _ _ e]
theorem Moves.of_set {w:World} {g:Nat} {m:Int}:Moves w g m (w.setCell ⟨g,1,none⟩ (.int .i64 m)):=by
 unfold Moves
 have:=Below.refl w.heap.size (w.setCell ⟨g,1,none⟩ (.int .i64 m))
 exact this
end Go.Proofs.YtbbfcbodhmeanaaGreatDoor



namespace Go.Proofs.YtbbfcbodhmeanaaGreatDoor
def spB (c:UInt8):Bool:=[32,9,13,10,12].contains c
def letB (c:UInt8):Bool:=(decide (97≤c.toNat) && decide (c.toNat≤122)) || (decide (65≤c.toNat) && decide (c.toNat≤90))
def inName (c:UInt8):Bool:=!spB c && c != 47 && c != 62
def inGap (c:UInt8):Bool:=spB c || c == 47
def inAttr (c:UInt8):Bool:=!spB c && c != 47 && c != 62 && c != 61
def inBare (c:UInt8):Bool:=!spB c && c != 62
def notQ (q c:UInt8):Bool:=c != q
def hrefL:List UInt8:=[104,114,101,102]
def srcL:List UInt8:=[115,114,99]
def qB (c:UInt8):Bool:=c == 34 || c == 39
abbrev LK:=Nat × List UInt8
def valP:List UInt8→List UInt8 × List UInt8 × List UInt8
 | []=>([],[],[])
 | c::t=>if qB c = true then (t,t.takeWhile (notQ c),(t.dropWhile (notQ c)).drop 1) else (c::t,(c::t).takeWhile inBare,(c::t).dropWhile inBare)
def behP:List UInt8→Option LK × List UInt8
 | []=>(none,[])
 | c::t=>if c = 61 then (some ((valP (t.dropWhile spB)).1.length,(valP (t.dropWhile spB)).2.1),(valP (t.dropWhile spB)).2.2) else (none,c::t)
def nameP (s:List UInt8):List UInt8:=s.take 1 ++ (s.drop 1).takeWhile inAttr
def attrP (s:List UInt8):Option LK × List UInt8:=behP (((s.drop 1).dropWhile inAttr).dropWhile spB)
def mineP (seen:List (List UInt8)) (nm:List UInt8) (v:Option LK):List LK :=
 match v with
 | none=>[]
 | some x=>if seen.contains nm = false∧(nm = hrefL ∨ nm = srcL) then [x] else []
def tagF (low:List UInt8→List UInt8):Nat→List (List UInt8)→List UInt8→Option (List LK) × List UInt8
 | 0,_,_=>(none,[])
 | n + 1,seen,s=>match s.dropWhile inGap with
  | []=>(none,[])
  | c::t=>if c = 62 then (some [],t) else
   ((tagF low n (low (nameP (c::t))::seen) (attrP (c::t)).2).1.map (mineP seen (low (nameP (c::t))) (attrP (c::t)).1 ++ ·),(tagF low n (low (nameP (c::t))::seen) (attrP (c::t)).2).2)
def behindL (m s:List UInt8):List UInt8:=if Lib.index s m < 0 then [] else s.drop ((Lib.index s m).toNat + m.length)
def headL (s:List UInt8):Bool:=match s with
 | []=>false
 | c::_=>letB c
def tagB (m s:List UInt8):Bool:=m.isPrefixOf s && headL (s.drop m.length)
def tagP (low:List UInt8→List UInt8) (s:List UInt8):Option (List LK) × List UInt8:=tagF low ((s.dropWhile inName).length + 1) [] (s.dropWhile inName)
def comL:List UInt8:=[60,33,45,45]
def comE:List UInt8:=[45,45,62]
def pieceP (low:List UInt8→List UInt8) (s:List UInt8):List LK × List UInt8 :=
 if comL.isPrefixOf s = true then ([],behindL comE (s.drop 4))
 else if ([60,33]:List UInt8).isPrefixOf s = true ∨ ([60,63]:List UInt8).isPrefixOf s = true then ([],behindL [62] s)
 else if tagB [60] s = true then ((tagP low (s.drop 1)).1.getD [],(tagP low (s.drop 1)).2)
 else if tagB [60,47] s = true then ([],(tagP low (s.drop 2)).2)
 else ([],s.drop 1)
def findF (low:List UInt8→List UInt8):Nat→List LK→List UInt8→Option (List LK)
 | 0,acc,_=>some acc
 | n + 1,acc,s=>if s = [] then some acc else if 60 < (acc ++ (pieceP low s).1).length then none else findF low n (acc ++ (pieceP low s).1) (pieceP low s).2
def findP (low:List UInt8→List UInt8) (s:List UInt8):Option (List LK):=if 4000 < s.length then none else findF low s.length [] s
def ampL:List UInt8:=[38,97,109,112,59]
def unamp (s:List UInt8):List UInt8:=Lib.replaceAll s ampL [38]
def okT (c:UInt8):Bool:=decide (33≤c.toNat) && decide (c.toNat≤126) && !([34,39,60,62,38,61]:List UInt8).contains c
def plainT (t:List UInt8):Bool:=t.all okT
def fillP:List LK→List (List UInt8)→List UInt8→List UInt8
 | x::ls,t::ts,s=>if t = [] then fillP ls ts s else s.take (s.length - x.1) ++ t ++ fillP ls ts (s.drop (s.length - x.1 + x.2.length))
 | _,_,s=>s
def putP (low:List UInt8→List UInt8) (b:List UInt8) (texts:List (List UInt8)):List UInt8 × Nat :=
 match findP low b with
 | none=>([],2)
 | some l=>if texts.length ≠ l.length then ([],4) else if texts.all plainT = false then ([],1) else if 4000 < (fillP l texts b).length then ([],2) else (fillP l texts b,0)
theorem drop_dropWhile {α:Type} (p:α→Bool) (s:List α):(s.dropWhile p).length≤s.length:=by
 induction s with
 | nil=>exact Nat.le_refl _
 | cons c t ih=>simp only [List.dropWhile_cons];split <;> simp <;> omega
theorem val_len (s:List UInt8):(valP s).2.2.length≤s.length:=by
 unfold valP
 cases s with
 | nil=>exact Nat.le_refl _
 | cons c t =>
  simp only
  split
  ·have:=drop_dropWhile (notQ c) t;simp only [List.length_drop,List.length_cons];omega
  ·exact drop_dropWhile inBare (c::t)
theorem beh_len (s:List UInt8):(behP s).2.length≤s.length:=by
 unfold behP
 cases s with
 | nil=>exact Nat.le_refl _
 | cons c t =>
  simp only
  split
  ·have h1:=val_len (t.dropWhile spB);have h2:=drop_dropWhile spB t;simp only [List.length_cons];omega
  ·exact Nat.le_refl _
theorem attr_len (c:UInt8) (t:List UInt8):(attrP (c::t)).2.length≤t.length:=by
 unfold attrP
 have h1:=beh_len ((((c::t).drop 1).dropWhile inAttr).dropWhile spB)
 have h2:=drop_dropWhile spB (((c::t).drop 1).dropWhile inAttr)
 have h3:=drop_dropWhile inAttr ((c::t).drop 1)
 have h4:((c::t).drop 1).length = t.length:=rfl
 omega
theorem dropWhile_le_cons {p:UInt8→Bool} {s t:List UInt8} {c:UInt8} (h:s.dropWhile p = c::t):t.length < s.length:=by
 have:=drop_dropWhile p s;rw [h] at this;simp at this;omega
theorem tagF_fuel (low:List UInt8→List UInt8):∀ (n m:Nat) (seen:List (List UInt8)) (s:List UInt8),s.length < n→s.length < m→tagF low n seen s = tagF low m seen s
 | 0,_,_,s,h,_=>absurd h (Nat.not_lt_zero _)
 | _,0,_,s,_,h=>absurd h (Nat.not_lt_zero _)
 | n + 1,m + 1,seen,s,h1,h2=>by
  unfold tagF
  cases h:s.dropWhile inGap with
  | nil=>rfl
  | cons c t =>
   simp only
   have h3:=dropWhile_le_cons h
   have h4:=attr_len c t
   rw [tagF_fuel low n m _ _ (by omega) (by omega)]
theorem tag_len (low:List UInt8→List UInt8):∀ (n:Nat) (seen:List (List UInt8)) (s:List UInt8),(tagF low n seen s).2.length≤s.length
 | 0,_,_=>Nat.zero_le _
 | n + 1,seen,s=>by
  unfold tagF
  cases h:s.dropWhile inGap with
  | nil=>exact Nat.zero_le _
  | cons c t =>
   simp only
   have h3:=dropWhile_le_cons h
   have h4:=attr_len c t
   split
   ·simp only;omega
   ·have:=tag_len low n (low (nameP (c::t))::seen) (attrP (c::t)).2
    simp only
    omega
theorem behind_len (m s:List UInt8):(behindL m s).length≤s.length:=by
 unfold behindL
 split
 ·exact Nat.zero_le _
 ·simp only [List.length_drop];omega
theorem tagP_len (low:List UInt8→List UInt8) (s:List UInt8):(tagP low s).2.length≤s.length:=by
 unfold tagP
 have h1:=tag_len low ((s.dropWhile inName).length + 1) [] (s.dropWhile inName)
 have h2:=drop_dropWhile inName s
 omega
theorem piece_len (low:List UInt8→List UInt8) (c:UInt8) (t:List UInt8):(pieceP low (c::t)).2.length < (c::t).length:=by
 unfold pieceP
 split
 ·have:=behind_len comE ((c::t).drop 4);simp only [List.length_drop,List.length_cons] at *;omega
 ·split
  ·simp only [behindL];split
   ·simp
   ·simp only [List.length_drop,List.length_cons,List.length_nil];omega
  ·split
   ·have:=tagP_len low ((c::t).drop 1);simp only [List.length_drop,List.length_cons] at *;omega
   ·split
    ·have:=tagP_len low ((c::t).drop 2);simp only [List.length_drop,List.length_cons] at *;omega
    ·simp
theorem findF_fuel (low:List UInt8→List UInt8):∀ (n m:Nat) (acc:List LK) (s:List UInt8),s.length≤n→s.length≤m→findF low n acc s = findF low m acc s
 | 0,0,_,_,_,_=>rfl
 | 0,m + 1,acc,s,h,_=>by
  obtain rfl:s = []:=List.length_eq_zero_iff.1 (by omega)
  simp [findF]
 | n + 1,0,acc,s,_,h=>by
  obtain rfl:s = []:=List.length_eq_zero_iff.1 (by omega)
  simp [findF]
 | n + 1,m + 1,acc,s,h1,h2=>by
  unfold findF
  cases s with
  | nil=>rfl
  | cons c t =>
   have:=piece_len low c t
   rw [findF_fuel low n m _ _ (by omega) (by omega)]
end Go.Proofs.YtbbfcbodhmeanaaGreatDoor


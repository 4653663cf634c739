
import Derived.Test.YtbbfcbodhmeanaaGreatDoorXrewritesays43
import Derived.Deep.DeepCutAuto
import Derived.Laws.EntriesVeiled
namespace Go.Proofs.YtbbfcbodhmeanaaGreatDoor
open Go.RowKit
abbrev z7:Array Value:=#[.string ⟨#[]⟩,.string ⟨#[]⟩,.string ⟨#[]⟩,.string ⟨#[]⟩,.int .i64 0,.slice none 0 0,.slice none 0 0]
def WalkPost (G NB EB f:Nat) (R:PT × Nat × Nat) (W:World) (en:Ending) (w':World):Prop :=
 ∃ (qb:Option Addr) (db:Nat) (qk:Option Addr) (dk:Nat),en = .returned (.agg #[.string R.1.ty,.string R.1.cs,.string R.1.id,.string R.1.loc,.int .i64 R.1.how,.slice qb R.1.body.length db,.slice qk R.1.kids.length dk])∧Mov NB EB R.2.1 R.2.2 W w'∧LocK G W.heap.size w'.heap.size w' f (R.1,(qb,db),(qk,dk))
structure CutAt (W0 W:World) (NB EB A r k e:Nat) (p:PT) (BO:List UInt8) (pk:Option Addr) (n ck:Nat) (bq:Option Addr) (bn bc:Nat) (w':World):Prop where
 mov:Mov NB EB k e W w'
 kA:w'.heap[A]? = some (.cells #[.string p.ty,.string p.cs,.string p.id,.string p.loc,.int .i64 p.how,.slice bq bn bc,.slice pk n ck] 25)
 kr:w'.heap[r]? = some (.cells z7 25)
 bl:bn = BO.length
 bb:bn≤bc∧bc≤maxLen∧(bq = none→bc = 0)
 body:LocB W0.heap.size (r + 1) w'.heap.size w' bq BO
theorem last_pz (Z:List PZ) (p:PT) (a1:Option Addr) (a2:Nat) (a3:Option Addr) (a4:Nat):pzv (Z ++ [(p,(a1,a2),(a3,a4))]) = pzv Z ++ [.string p.ty,.string p.cs,.string p.id,.string p.loc,.int .i64 p.how,.slice a1 p.body.length a2,.slice a3 p.kids.length a4]:=by rw [pzv_append];simp [pzv,pzc]
theorem CutAt.of {W0 W:World} {NB EB A r k e:Nat} {p:PT} {BO:List UInt8} {pk:Option Addr} {n ck:Nat} {b0:Value} {bq:Option Addr} {bn bc:Nat} {w2:World} (hM:Mov NB EB k e W w2) (kA:w2.heap[A]? = some (.cells #[.string p.ty,.string p.cs,.string p.id,.string p.loc,.int .i64 p.how,b0,.slice pk n ck] 25)) (kr:w2.heap[r]? = some (.cells z7 25))
  (hA:W.heap.size = A) (hr:A + 1 = r) (hlt:NB < A∧EB < A∧W0.heap.size≤A) (bl:bn = BO.length) (bb:bn≤bc∧bc≤maxLen∧(bq = none→bc = 0)) (hB:LocB W0.heap.size (r + 1) w2.heap.size w2 bq BO):CutAt W0 W NB EB A r k e p BO pk n ck bq bn bc (w2.setCell ⟨A,5,none⟩ (.slice bq bn bc)):=by
 refine ⟨hM.set A 5 _ (by omega) (by omega) (by omega),(set_blk kA 5 _).trans rfl,?_,bl,bb,?_⟩
 ·rw [Below.heap_setCell _ _ _ _ (show r ≠ A by omega)]
  exact kr
 ·have e:(w2.setCell ⟨A,5,none⟩ (.slice bq bn bc)).heap.size = w2.heap.size:=by simp [World.setCell]
  rw [e]
  exact hB.move fun b hb=>Below.heap_setCell _ _ _ _ (show b ≠ A by omega)
theorem CutAt.ofE {W0 W:World} {NB EB A r k e:Nat} {p:PT} {BO:List UInt8} {pk:Option Addr} {n ck:Nat} {b0:Value} {bq:Option Addr} {bn bc:Nat} {w2:World} (e':Nat) (hM:Mov NB EB k e W w2) (kA:w2.heap[A]? = some (.cells #[.string p.ty,.string p.cs,.string p.id,.string p.loc,.int .i64 p.how,b0,.slice pk n ck] 25)) (kr:w2.heap[r]? = some (.cells z7 25))
  (hA:W.heap.size = A) (hr:A + 1 = r) (hlt:NB < A∧EB < A∧W0.heap.size≤A) (hG:W0.heap.size≤EB) (hne:NB ≠ EB) (bl:bn = BO.length) (bb:bn≤bc∧bc≤maxLen∧(bq = none→bc = 0)) (hB:LocB W0.heap.size (r + 1) w2.heap.size w2 bq BO):CutAt W0 W NB EB A r k e' p BO pk n ck bq bn bc ((w2.setCell ⟨EB,0,none⟩ (.int .i64 (e':Int))).setCell ⟨A,5,none⟩ (.slice bq bn bc)):=by
 refine CutAt.of (b0:=b0) (hM.setE e' hne) ?_ ?_ hA hr hlt bl bb ?_
 ·rw [Below.heap_setCell _ _ _ _ (show A ≠ EB by omega)]
  exact kA
 ·rw [Below.heap_setCell _ _ _ _ (show r ≠ EB by omega)]
  exact kr
 ·have e:(w2.setCell ⟨EB,0,none⟩ (.int .i64 (e':Int))).heap.size = w2.heap.size:=by simp [World.setCell]
  rw [e]
  exact hB.move fun b hb=>Below.heap_setCell _ _ _ _ (show b ≠ EB by omega)
theorem Mov.put8 {NB EB k e:Nat} {W W1:World} (h:Mov NB EB k e W W1) (A r:Nat) (x v0 v1 v2 v3 v4 v5 v6:Value) (hA:W.heap.size≤A) (hr:W.heap.size≤r) (hn:NB < W.heap.size) (he:EB < W.heap.size):Mov NB EB k e W (put8 W1 A r x v0 v1 v2 v3 v4 v5 v6) :=
 ((((((((h.set A 6 x hA hn he).set r 0 v0 hr hn he).set r 1 v1 hr hn he).set r 2 v2 hr hn he).set r 3 v3 hr hn he).set r 4 v4 hr hn he).set r 5 v5 hr hn he).set r 6 v6 hr hn he)
theorem walk_end {G NB EB f A r S1:Nat} {W wr:World} {p:PT} {BO:List UInt8} {bq:Option Addr} {bn bc:Nat} {q:Option Addr} {n c:Nat} {Z:List PZ} {kk ee:Nat} {R:PT × Nat × Nat} (hR:R = ({ p with body:=BO,kids:=Z.map (·.1) },kk,ee)) (hA:W.heap.size = A) (hr:A + 1 = r) (hS:r + 1≤S1) (hG:G≤A) (hlt:NB < A∧EB < A) (hZ:Z.length = n) (hn:n≤1000) (hpl:PLen p) (hbo:BO.length≤4000) (bl:bn = BO.length) (bb:bn≤bc∧bc≤maxLen∧(bq = none→bc = 0))
  (hM:Mov NB EB kk ee W wr) (hO:wr.ownsRow S1 25 7 (.slice q n c) n (pzv Z)) (hL:LocZ G S1 wr f (Value.slice q n c).ownBlock Z) (hB:LocB G (r + 1) S1 wr bq BO) (hs:S1≤wr.heap.size) :
  WalkPost G NB EB (f + 1) R W (.returned (.agg #[.string p.ty,.string p.cs,.string p.id,.string p.loc,.int .i64 p.how,.slice bq bn bc,.slice q n c])) (put8 wr A r (.slice q n c) (.string p.ty) (.string p.cs) (.string p.id) (.string p.loc) (.int .i64 p.how) (.slice bq bn bc) (.slice q n c)):=by
 subst hR
 have hkl:(Z.map (·.1)).length = n:=by rw [List.length_map];exact hZ
 refine ⟨bq,bc,q,c,?_,hM.put8 A r _ _ _ _ _ _ _ _ (by omega) (by omega) (by omega) (by omega),fun V hV=>?_⟩
 ·show _ = Ending.returned (.agg #[_,_,_,_,_,.slice bq BO.length bc,.slice q (Z.map (·.1)).length c])
  rw [hkl,← bl]
 ·have hsz:=put8_size wr A r (.slice q n c) (.string p.ty) (.string p.cs) (.string p.id) (.string p.loc) (.int .i64 p.how) (.slice bq bn bc) (.slice q n c)
  have hbl:∀ b,(b < G ∨ (r + 1≤b∧b < wr.heap.size))→V.heap[b]? = wr.heap[b]?:=fun b hb=>(hV b (by rw [hsz,hA];omega)).trans (put8_block wr A r _ _ _ _ _ _ _ _ b (by omega) (by omega))
  have hOV:V.ownsRow S1 25 7 (.slice q n c) n (pzv Z):=owns_move hO (fun b hb=>hbl b (.inr (by have:=hO.lt b hb;omega)))
  obtain ⟨q',c',hv,h1,h2,h3,h4⟩:=kat_row (f:=f) hOV hZ.symm (fun z hz=>by
   obtain ⟨s,sz,g1,g2,g3,_,g5⟩:=hL z hz
   exact g5 V fun b hb=>hbl b (by omega))
  injection hv with hv1 _ hv2
  subst hv1
  subst hv2
  obtain ⟨l1,l2,l3,l4,l5,l6,l7,l8⟩:=hpl
  refine ⟨⟨l1,l2,l3,l4,l5,l6,by show BO.length≤maxLen;unfold maxLen;omega,by show (Z.map (·.1)).length≤maxLen;rw [hkl];unfold maxLen;omega⟩,by show BO.length≤bc∧_;rw [← bl];exact bb,hB V (fun b hb=>hbl b (by omega)),by show (Z.map (·.1)).length≤c∧_;rw [hkl];exact ⟨h1,h2,h3⟩,h4⟩
set_option maxHeartbeats 8000000 in
set_option maxRecDepth 100000 in
theorem walk_any (w0 W0:World) (h00:Below w0.heap.size w0 W0) (hE:LEnv W0) (TB mb NB EB FB:Nat) (tx:Nat→List ByteArray) (hTX:TxEnv W0 TB mb tx) (hNB:W0.heap.size≤NB) (hEB:W0.heap.size≤EB) (hne:NB ≠ EB) (hfn:FB ≠ NB) (hfe:FB ≠ EB):∀ (f F:Nat) (p:PT) (pb:Option Addr) (cb:Nat) (pk:Option Addr) (ck k e:Nat) (W:World),lev f p = true→(∀ x ∈ flatP f p,x.kids.length≤1000∧x.body.length≤4000)→k + (flatP f p).length≤1000→PHeld w0 F p pb cb pk ck→WkAt W0 TB NB EB FB k e W →
  Calls Tryz.prog 67 #[.agg #[.string p.ty,.string p.cs,.string p.id,.string p.loc,.int .i64 p.how,.slice pb p.body.length cb,.slice pk p.kids.length ck],.pointer (some ⟨TB,0,none⟩),.pointer (some ⟨NB,0,none⟩),.pointer (some ⟨EB,0,none⟩),.pointer (some ⟨FB,0,none⟩)] W
   fun en w'=>WalkPost w0.heap.size NB EB f (walkR tx f p k e) W en w':=by
 intro f
 induction f with
 | zero=>intro F p pb cb pk ck k e W hl;rw [lev] at hl;cases hl
 | succ f ih =>
  intro F p pb cb pk ck k e W hl hsz h1000 hH hW
  rw [lev_succ,List.all_eq_true] at hl
  have H00:Hid (Below w0.heap.size w0 W0):=h00
  obtain ⟨i0,hi,hz0,hz1,hz2⟩:=info_parts info_part
  obtain ⟨hk1000,hb4⟩:=hsz p (by rw [flatP_succ];simp)
  have hkk:k≤1000:=by omega
  obtain ⟨ta,tc,htl⟩:=hTX.look k hkk
  have hsum:=hTX.sum k
  have htm:=hTX.len k
  have HRW:Hid (walkR tx (f + 1) p k e = ({ p with body:=(fillB (tx k) p.body).1,kids:=(walkL (walkR tx f) p.kids (k + 1) (worseP e (fillB (tx k) p.body).2)).1 },(walkL (walkR tx f) p.kids (k + 1) (worseP e (fillB (tx k) p.body).2)).2)):=walkR_succ tx f p k e
  have HFB:Hid (fillB (tx k) p.body = if tx k = [] then (p.body,0) else putP smallU p.body (tls (tx k))):=by unfold Hid fillB;rw [putP_like]
  have HBO4:Hid ((fillB (tx k) p.body).1.length≤4000):=fillB_small _ _ hb4
  have HKB:Hid (∀ j,j≤p.kids.length→(walkL (walkR tx f) (p.kids.take j) (k + 1) (worseP e (fillB (tx k) p.body).2)).2.1 + ((p.kids.drop j).flatMap (flatP f)).length≤1000):=fun j hj=>by
   rw [walkL_count tx f (walkR_count tx f) _ _ _ (fun x hx=>hl x (List.mem_of_mem_take hx))]
   have e1:(p.kids.flatMap (flatP f)).length = ((p.kids.take j).flatMap (flatP f)).length + ((p.kids.drop j).flatMap (flatP f)).length:=by
    conv=>lhs;rw [← List.take_append_drop j p.kids,List.flatMap_append,List.length_append]
   rw [flatP_succ,List.length_cons] at h1000
   omega
  have IH:Hid (∀ (F:Nat) (x:PT) (pb:Option Addr) (cb:Nat) (pk:Option Addr) (ck k e:Nat) (W:World),x ∈ p.kids→k + (flatP f x).length≤1000→PHeld w0 F x pb cb pk ck→WkAt W0 TB NB EB FB k e W→Calls Tryz.prog 67 #[.agg #[.string x.ty,.string x.cs,.string x.id,.string x.loc,.int .i64 x.how,.slice pb x.body.length cb,.slice pk x.kids.length ck],.pointer (some ⟨TB,0,none⟩),.pointer (some ⟨NB,0,none⟩),.pointer (some ⟨EB,0,none⟩),.pointer (some ⟨FB,0,none⟩)] W fun en w'=>WalkPost w0.heap.size NB EB f (walkR tx f x k e) W en w'):=fun F x pb cb pk ck k e W hx h2 h3 h4=>ih F x pb cb pk ck k e W (hl x hx) (fun y hy=>hsz y (by rw [flatP_succ];exact List.mem_cons_of_mem _ (List.mem_flatMap.2 ⟨x,hx,hy⟩))) h2 h3 h4
  have HKP:Hid (p.kids ≠ []→∃ F' b o,pk = some ⟨b,o,none⟩∧∀ i,i < p.kids.length→PAt w0 F' b (o + i * 7) (p.kids.getD i pt0)):=fun hne=>by
   have hk:KAt w0 F pk p.kids:=hH.2.2.2.2
   cases F with
   | zero=>exact absurd hk hne
   | succ F' =>
    obtain ⟨b,o,e1,e2⟩:=hk.each hne
    exact ⟨F',b,o,e1,fun i hi=>e2 i hi⟩
  have HPL:Hid (PLen p):=hH.1
  have HBR:Hid (BRow w0 pb p.body):=hH.2.2.1
  have HBC:Hid (p.body.length≤cb∧cb≤maxLen∧(pb = none→cb = 0)):=hH.2.1
  obtain ⟨W1,hW1⟩:∃ V,V = (W.alloc (.cells #[.string p.ty,.string p.cs,.string p.id,.string p.loc,.int .i64 p.how,.slice pb p.body.length cb,.slice pk p.kids.length ck] 25)).alloc (.cells z7 25):=⟨_,rfl⟩
  have hb1:Below W.heap.size W W1:=by rw [hW1];exact ((Below.refl _ _).alloc (Nat.le_refl _) _).alloc (by simp) _
  have kA1:W1.heap[W.heap.size]? = some (.cells #[.string p.ty,.string p.cs,.string p.id,.string p.loc,.int .i64 p.how,.slice pb p.body.length cb,.slice pk p.kids.length ck] 25):=by rw [hW1];exact blk_on (blk_new W _) ((Below.refl _ _).alloc (Nat.le_refl _) _)
  have kR1:W1.heap[W.heap.size + 1]? = some (.cells z7 25):=by
   rw [hW1]
   have:=blk_new (W.alloc (.cells #[.string p.ty,.string p.cs,.string p.id,.string p.loc,.int .i64 p.how,.slice pb p.body.length cb,.slice pk p.kids.length ck] 25)) (.cells z7 25)
   simpa using this
  have hs1:W1.heap.size = W.heap.size + 2:=by rw [hW1];simp
  have hWk1:WkAt W0 TB NB EB FB k e W1:=hW.below hb1
  have hM1:Mov NB EB k e W W1:=Mov.of hb1 hW.nb hW.eb
  have hNW:NB < W.heap.size:=(Array.getElem?_eq_some_iff.1 hW.nb).1
  have hEW:EB < W.heap.size:=(Array.getElem?_eq_some_iff.1 hW.eb).1
  have hFW:FB < W.heap.size:=(Array.getElem?_eq_some_iff.1 hW.fb).1
  have hG:w0.heap.size≤W.heap.size:=Nat.le_trans H00.out.size hW.bel.size
  have HTX:Hid (∀ V,Below W0.heap.size W0 V→V.cell? ⟨TB,0,none⟩ = some (.map (some mb))∧(Instr.lookup 106 (.map (some mb)) (.int .i64 (k:Int)) false).run Tryz.prog V = .ok (.slice ta (tx k).length tc) V∧TxRow V ta (tx k)):=fun V hV=>⟨hTX.cell V hV,htl V hV⟩
  have CPU:Hid (∀ V,Below W0.heap.size W0 V→Calls Tryz.prog 68 #[.slice pb p.body.length cb,.slice ta (tx k).length tc] V fun en w'=>PutPost V (putP smallU p.body (tls (tx k))) en w'):=fun V hV=>rput_any W0 hE pb p.body.length cb p.body rfl hb4 ta (tx k).length tc (tx k) rfl (by unfold maxLen;omega) hsum V hV (HBR.out.under (H00.out.trans (hV.mono H00.out.size))) (fun e=>⟨by have:=hH.2.1.2.2 e;have:=hH.2.1.1;omega,hH.2.1.2.2 e⟩) (htl V hV).2
  obtain ⟨n,hn⟩:∃ n,p.kids.length = n:=⟨_,rfl⟩
  obtain ⟨nb,hnb⟩:∃ n,p.body.length = n:=⟨_,rfl⟩
  obtain ⟨m,hm⟩:∃ n,(tx k).length = n:=⟨_,rfl⟩
  have HN:Hid (p.kids.length = n):=hn
  have HNB:Hid (p.body.length = nb):=hnb
  have HM:Hid ((tx k).length = m):=hm
  obtain ⟨A,hA⟩:∃ A,W.heap.size = A:=⟨_,rfl⟩
  obtain ⟨r,hr⟩:∃ r,A + 1 = r:=⟨_,rfl⟩
  have HA:Hid (W.heap.size = A):=hA
  have HR:Hid (A + 1 = r):=hr
  rw [hA] at kA1 kR1 hs1 hNW hEW hFW hG
  rw [hr] at kR1
  have hs1r:W1.heap.size = r + 1:=by omega
  rw [hn,hnb] at kA1 hW1
  rw [hnb,hm] at CPU
  rw [hm] at HTX htm
  rw [hn] at hk1000
  rw [hn,hnb]
  have HW1:Hid (W1 = (W.alloc (.cells #[.string p.ty,.string p.cs,.string p.id,.string p.loc,.int .i64 p.how,.slice pb nb cb,.slice pk n ck] 25)).alloc (.cells z7 25)):=hW1
  have HS1:Hid (W1.heap.size = r + 1):=hs1r
  have HK1:Hid (W1.heap[A]? = some (.cells #[.string p.ty,.string p.cs,.string p.id,.string p.loc,.int .i64 p.how,.slice pb nb cb,.slice pk n ck] 25)∧W1.heap[r]? = some (.cells z7 25)):=⟨kA1,kR1⟩
  have HWK:Hid (WkAt W0 TB NB EB FB k e W1):=hWk1
  have HWK0:Hid (WkAt W0 TB NB EB FB k e W):=hW
  have HM1:Hid (Mov NB EB k e W W1):=hM1
  have HLT:Hid (NB < A∧EB < A∧FB < A∧w0.heap.size≤A):=⟨hNW,hEW,hFW,hG⟩
  have HG:Hid (W0.heap.size≤NB∧W0.heap.size≤EB∧NB ≠ EB∧FB ≠ NB∧FB ≠ EB):=⟨hNB,hEB,hne,hfn,hfe⟩
  obtain ⟨BO,hBO⟩:∃ b,(fillB (tx k) p.body).1 = b:=⟨_,rfl⟩
  obtain ⟨E1,hE1⟩:∃ b,worseP e (fillB (tx k) p.body).2 = b:=⟨_,rfl⟩
  have HBO:Hid ((fillB (tx k) p.body).1 = BO):=hBO
  have HE1:Hid (worseP e (fillB (tx k) p.body).2 = E1):=hE1
  rw [hBO,hE1] at HRW
  rw [hBO] at HBO4
  rw [hE1] at HKB
  clear h00 hBO hE1 hn hnb hm hA hr hs1 hs1r kA1 kR1 hW1 hWk1 hM1 hNW hEW hFW hG hb1 ih hl hsz h1000 hH hW htl hsum hb4 hE hTX hNB hEB hne hfn hfe
  go_enter Tryz.func67,Tryz.ntmps67
  go_upto_region 1 with fail
  rw [← HW1.out]
  rw [HA.out,HR.out]
  clear HW1
  obtain ⟨t0,tl,-⟩:=HTX.out W1 HWK.out.bel
  have n0:W1.cell? ⟨NB,0,none⟩ = some (.int .i64 (k:Int)):=(blk_c HWK.out.nb 0).trans rfl
  go_upto_if 18 with fail
  clear t0 tl n0
  go_cut [10] (fun u w'=>u = undef∧∃ (bq:Option Addr) (bn bc:Nat),Hid (CutAt w0 W NB EB A r k E1 p BO pk n ck bq bn bc w'))
  case first =>
   obtain ⟨hltN,hltE,hltF,hltG⟩:=HLT.out
   obtain ⟨hGN,hGE,hNE,-,-⟩:=HG.out
   have HLT3:Hid (NB < A∧EB < A∧w0.heap.size≤A):=⟨hltN,hltE,hltG⟩
   have HGE:Hid (w0.heap.size≤EB∧NB ≠ EB):=⟨Nat.le_trans H00.out.size hGE,hNE⟩
   clear hltN hltE hltF hltG hGN hGE hNE HLT HG
   by_cases h0:m = 0
   ·have htx:tx k = []:=List.length_eq_zero_iff.1 (by rw [HM.out];exact h0)
    have hfb:fillB (tx k) p.body = (p.body,0):=by rw [HFB.out,if_pos htx]
    have hbo:p.body = BO:=by rw [← HBO.out,hfb]
    have he1:e = E1:=by
     rw [← HE1.out,hfb]
     unfold worseP
     split
     ·rename_i h;exact h
     ·rfl
    have HC:Hid (CutAt w0 W NB EB A r k E1 p BO pk n ck pb nb cb W1):=by
     refine ⟨by rw [← he1];exact HM1.out,HK1.out.1,HK1.out.2,by rw [← hbo];exact HNB.out.symm,by rw [← HNB.out];exact HBC.out,?_⟩
     rw [← hbo]
     exact LocB.old HBR.out (H00.out.trans (HWK.out.bel.mono H00.out.size)) _ _
    subst h0
    clear htx hfb hbo he1 HFB HBO HE1
    go_wp2_with fail
    go_meet
    exact ⟨rfl,pb,nb,cb,HC⟩
   ·have hm0:(0:Int) < (m:Int):=by omega
    have htx:tx k ≠ []:=fun h=>h0 (by rw [← HM.out,h];rfl)
    have hfb:fillB (tx k) p.body = putP smallU p.body (tls (tx k)):=by rw [HFB.out,if_neg htx]
    rw [hfb] at HBO HE1
    have HPE:Hid ((putP smallU p.body (tls (tx k))).2 ≠ 0→(putP smallU p.body (tls (tx k))).1 = []):=putP_err _ _ _
    have a5:W1.cell? ⟨A,5,none⟩ = some (.slice pb nb cb):=(blk_c HK1.out.1 5).trans rfl
    have CPU1:Hid (Calls Tryz.prog 68 #[.slice pb nb cb,.slice ta m tc] W1 fun en w'=>PutPost W1 (putP smallU p.body (tls (tx k))) en w'):=CPU.out W1 HWK.out.bel
    generalize putP smallU p.body (tls (tx k)) = RP at *
    obtain ⟨RB,RE⟩:=RP
    simp only at HBO HE1 HPE
    clear htx hfb h0 HFB CPU HTX
    go_wp2_with fail
    refine CPU1.out.mono ?_
    intro en w2 h2
    obtain ⟨hb2,h2⟩:=h2
    have kA2:=blk_on HK1.out.1 hb2
    have kr2:=blk_on HK1.out.2 hb2
    have HM2:Hid (Mov NB EB k e W w2):=HM1.out.then hb2
    have HK2:Hid (w2.heap[A]? = some (.cells #[.string p.ty,.string p.cs,.string p.id,.string p.loc,.int .i64 p.how,.slice pb nb cb,.slice pk n ck] 25)∧w2.heap[r]? = some (.cells z7 25)):=⟨kA2,kr2⟩
    have e0:w2.cell? ⟨EB,0,none⟩ = some (.int .i64 (e:Int)):=(blk_c HM2.out.eb 0).trans rfl
    have ef:w2.frozen? ⟨EB,0,none⟩ = false:=blk_f HM2.out.eb 0
    have a5:w2.cell? ⟨A,5,none⟩ = some (.slice pb nb cb):=(blk_c kA2 5).trans rfl
    have af:w2.frozen? ⟨A,5,none⟩ = false:=blk_f kA2 5
    have hAE:¬ A = EB:=by have:=HLT3.out;omega
    have b5:∀ v,(w2.setCell ⟨EB,0,none⟩ v).cell? ⟨A,5,none⟩ = some (.slice pb nb cb):=fun v=>by rw [World.cell?_setCell_other _ _ _ _ (fun e=>hAE (congrArg Addr.block e).symm)];exact a5
    have bf:∀ v,(w2.setCell ⟨EB,0,none⟩ v).frozen? ⟨A,5,none⟩ = false:=fun v=>blk_f (show (w2.setCell ⟨EB,0,none⟩ v).heap[A]? = _ from (Below.heap_setCell _ _ _ _ hAE).trans kA2) 5
    rcases h2 with ⟨hbad,rfl⟩ | ⟨hok,v,rfl,hown⟩
    ·have hbad':RE ≠ 0:=hbad
     have hRB:RB = []:=HPE.out hbad'
     have hBO:BO = []:=by rw [← HBO.out];exact hRB
     have HL:Hid (LocB w0.heap.size (r + 1) w2.heap.size w2 none BO):=by unfold Hid;rw [hBO];exact LocB.nil _ _ _ _ _
     by_cases he:e = 0
     ·have HC:Hid (CutAt w0 W NB EB A r k E1 p BO pk n ck none 0 0 ((w2.setCell ⟨EB,0,none⟩ (.int .i64 (RE:Int))).setCell ⟨A,5,none⟩ (.slice none 0 0))):=by
       rw [← HE1.out,he,worse_zero]
       exact CutAt.ofE RE HM2.out HK2.out.1 HK2.out.2 HA.out HR.out HLT3.out HGE.out.1 HGE.out.2 (by rw [hBO];rfl) ⟨Nat.le_refl _,by decide,fun _=>rfl⟩ HL.out
      subst he
      clear HM2 HK2 HL hBO hRB hbad hbad' kA2 kr2 hb2 HPE HBO HE1 HWK0 HM1
      go_wp2_with fail
      go_meet
      exact ⟨rfl,none,0,0,HC⟩
     ·have hez:((e:Int) == 0) = false:=by rw [beq_eq_false_iff_ne];omega
      have hez2:¬ (e:Int) = 0:=by omega
      have HC:Hid (CutAt w0 W NB EB A r k E1 p BO pk n ck none 0 0 (w2.setCell ⟨A,5,none⟩ (.slice none 0 0))):=by
       rw [← HE1.out,worse_not he]
       exact CutAt.of HM2.out HK2.out.1 HK2.out.2 HA.out HR.out HLT3.out (by rw [hBO];rfl) ⟨Nat.le_refl _,by decide,fun _=>rfl⟩ HL.out
      clear HM2 HK2 HL hBO hRB hbad hbad' kA2 kr2 hb2 HPE HBO HE1 HWK0 HM1 he
      go_wp2_with fail
      go_meet
      exact ⟨rfl,none,0,0,HC⟩
    ·have hRE:RE = 0:=hok
     subst hRE
     simp only at hown
     obtain ⟨bq,bc,rfl,hc1,hc2,hc3,-⟩:=obytesR hown
     obtain rfl:RB = BO:=HBO.out
     have HL:Hid (LocB w0.heap.size (r + 1) w2.heap.size w2 bq RB):=LocB.new hown rfl (by rw [HS1.out];exact Nat.le_refl _)
     have HBB:Hid (RB.length≤bc∧bc≤maxLen∧(bq = none→bc = 0)):=⟨hc1,hc2,fun e=>(hc3 e).2⟩
     obtain ⟨bn,hbn⟩:∃ n,RB.length = n:=⟨_,rfl⟩
     by_cases he:e = 0
     ·have HC:Hid (CutAt w0 W NB EB A r k E1 p RB pk n ck bq bn bc ((w2.setCell ⟨EB,0,none⟩ (.int .i64 0)).setCell ⟨A,5,none⟩ (.slice bq bn bc))):=by
       rw [← HE1.out,he,worse_zero]
       exact CutAt.ofE 0 HM2.out HK2.out.1 HK2.out.2 HA.out HR.out HLT3.out HGE.out.1 HGE.out.2 hbn.symm (by rw [← hbn];exact HBB.out) HL.out
      rw [hbn]
      subst he
      clear HM2 HK2 HL hok kA2 kr2 hb2 HPE HBO HE1 HWK0 HM1 hown hc1 hc2 hc3 HBB hbn HBO4 HRW
      go_wp2_with fail
      go_meet
      exact ⟨rfl,bq,bn,bc,HC⟩
     ·have hez:((e:Int) == 0) = false:=by rw [beq_eq_false_iff_ne];omega
      have hez2:¬ (e:Int) = 0:=by omega
      have HC:Hid (CutAt w0 W NB EB A r k E1 p RB pk n ck bq bn bc (w2.setCell ⟨A,5,none⟩ (.slice bq bn bc))):=by
       rw [← HE1.out,worse_not he]
       exact CutAt.of HM2.out HK2.out.1 HK2.out.2 HA.out HR.out HLT3.out hbn.symm (by rw [← hbn];exact HBB.out) HL.out
      rw [hbn]
      clear HM2 HK2 HL hok kA2 kr2 hb2 HPE HBO HE1 HWK0 HM1 hown hc1 hc2 hc3 HBB hbn HBO4 HRW he
      go_wp2_with fail
      go_meet
      exact ⟨rfl,bq,bn,bc,HC⟩
  case rest =>
  obtain ⟨hu,bq,bn,bc,HC⟩:=hcut
  rw [hu]
  clear hu HFB HBO HE1 HK1 HM1 HWK CPU HTX HM HBR HBC
  have n0:wc.cell? ⟨NB,0,none⟩ = some (.int .i64 (k:Int)):=(blk_c HC.out.mov.nb 0).trans rfl
  have nf:wc.frozen? ⟨NB,0,none⟩ = false:=blk_f HC.out.mov.nb 0
  have hwk:IntKind.i64.wrap ((k:Int) + 1) = ((k + 1:Nat):Int):=by rw [IntKind.wrap_i64];omega
  obtain ⟨V1,hV1⟩:∃ V,V = wc.setCell ⟨NB,0,none⟩ (.int .i64 ((k + 1:Nat):Int)):=⟨_,rfl⟩
  have hNA:A ≠ NB:=by have:=HLT.out;omega
  have hNr:r ≠ NB:=by have:=HLT.out;have:=HR.out;omega
  have hsV:V1.heap.size = wc.heap.size:=by rw [hV1];simp [World.setCell]
  have hrV:r + 1≤V1.heap.size:=by
   have:=(Array.getElem?_eq_some_iff.1 HC.out.kr).1
   omega
  have HMV:Hid (Mov NB EB (k + 1) E1 W V1):=by rw [hV1];exact HC.out.mov.setN (k + 1) HG.out.2.2.1
  have HKV:Hid (V1.heap[A]? = some (.cells #[.string p.ty,.string p.cs,.string p.id,.string p.loc,.int .i64 p.how,.slice bq bn bc,.slice pk n ck] 25)∧V1.heap[r]? = some (.cells z7 25)):=by
   rw [hV1]
   exact ⟨(Below.heap_setCell _ _ _ _ hNA).trans HC.out.kA,(Below.heap_setCell _ _ _ _ hNr).trans HC.out.kr⟩
  have HBV:Hid (LocB w0.heap.size (r + 1) V1.heap.size V1 bq BO):=by
   rw [hsV,hV1]
   exact HC.out.body.move fun b hb=>Below.heap_setCell _ _ _ _ (show b ≠ NB by have:=HLT.out;have:=HG.out;have:=H00.out.size;have:=HR.out;omega)
  have HBL:Hid (bn = BO.length∧(bn≤bc∧bc≤maxLen∧(bq = none→bc = 0))):=⟨HC.out.bl,HC.out.bb⟩
  have HWKV:Hid (WkAt W0 TB NB EB FB (k + 1) E1 V1):=HWK0.out.mov HMV.out HG.out.1 HG.out.2.1 HG.out.2.2.2.1 HG.out.2.2.2.2
  have HRV:Hid (r + 1≤V1.heap.size):=hrV
  have HV1:Hid (V1 = wc.setCell ⟨NB,0,none⟩ (.int .i64 ((k:Int) + 1))):=hV1
  clear hV1 hNA hNr hsV hrV HC
  go_upto_region 9 with fail
  rw [← HV1.out]
  clear HV1 n0 nf hwk
  have a6:V1.cell? ⟨A,6,none⟩ = some (.slice pk n ck):=(blk_c HKV.out.1 6).trans rfl
  go_wp2_with fail
  clear a6
  have hGS:w0.heap.size≤V1.heap.size:=Nat.le_trans H00.out.size HWKV.out.bel.size
  go_loopw [10,36] (fun ov iv wr=>∃ (j:Nat) (q:Option Addr) (c:Nat) (Z:List PZ) (kk ee:Nat),j≤n∧iv = .int .i64 j∧ov = .slice q j c∧Hid (Z.length = j)∧Hid (walkL (walkR tx f) (p.kids.take j) (k + 1) E1 = (Z.map (·.1),kk,ee))∧Hid (Mov NB EB kk ee V1 wr)∧Hid (wr.ownsRow V1.heap.size 25 7 (.slice q j c) j (pzv Z))∧Hid (LocZ w0.heap.size V1.heap.size wr f (Value.slice q j c).ownBlock Z)) (fun _ iv _=>n - (intOf iv).toNat)
  case atStart=>exact ⟨0,none,0,[],k + 1,E1,Nat.zero_le _,rfl,rfl,rfl,rfl,Mov.of (Below.refl _ _) HMV.out.nb HMV.out.eb,World.ownsRow_nil _ _ _ _,fun z hz=>by cases hz⟩
  case round =>
   obtain ⟨j,q,c,Z,kk,ee,hj,rfl,rfl,HZl,HWL,HMR,HO,HL⟩:=hrel
   by_cases hlt:j < n
   ·have hlz:(j:Int) < (n:Int):=by omega
    have hjP:j < p.kids.length:=by rw [HN.out];exact hlt
    obtain ⟨F',bp,op,hpk,hPp⟩:=HKP.out (fun e=>by rw [e] at hjP;simp at hjP)
    subst hpk
    have hWkr:WkAt W0 TB NB EB FB kk ee wr:=HWKV.out.mov HMR.out HG.out.1 HG.out.2.1 HG.out.2.2.2.1 HG.out.2.2.2.2
    have HP1:=hPp j hjP
    have hmem:p.kids.getD j pt0 ∈ p.kids:=by simp [List.getD_eq_getElem?_getD,List.getElem?_eq_getElem hjP]
    have hdr:p.kids.drop j = p.kids.getD j pt0::p.kids.drop (j + 1):=by
     rw [List.drop_eq_getElem_cons hjP,List.getD_eq_getElem?_getD,List.getElem?_eq_getElem hjP]
     rfl
    have hcnt:kk + (flatP f (p.kids.getD j pt0)).length≤1000:=by
     have h:=HKB.out j (by rw [HN.out];exact hj)
     rw [HWL.out,hdr,List.flatMap_cons,List.length_append] at h
     simp only at h
     omega
    have HWL2:Hid (walkL (walkR tx f) (p.kids.take (j + 1)) (k + 1) E1 = (Z.map (·.1) ++ [(walkR tx f (p.kids.getD j pt0) kk ee).1],(walkR tx f (p.kids.getD j pt0) kk ee).2)):=by
     unfold Hid
     have e:p.kids.take (j + 1) = p.kids.take j ++ [p.kids.getD j pt0]:=by
      rw [List.take_add_one,List.getElem?_eq_getElem hjP,List.getD_eq_getElem?_getD,List.getElem?_eq_getElem hjP]
      rfl
     rw [e,walkL_snoc,HWL.out]
    obtain ⟨P1,hP1⟩:∃ P1,p.kids.getD j pt0 = P1:=⟨_,rfl⟩
    rw [hP1] at HP1 hmem hcnt HWL2
    obtain ⟨a1,a2,a3,a4,hC1,hH1⟩:=HP1
    obtain ⟨d0,d1,d2,d3,d4,d5,d6⟩:=hC1.below (H00.out.trans (hWkr.bel.mono H00.out.size))
    obtain ⟨Wk,hWk⟩:∃ V,V = wr.alloc (.cells #[.string P1.ty,.string P1.cs,.string P1.id,.string P1.loc,.int .i64 P1.how,.slice a1 P1.body.length a2,.slice a3 P1.kids.length a4] 25):=⟨_,rfl⟩
    have hbk:Below wr.heap.size wr Wk:=by rw [hWk];exact (Below.refl _ _).alloc (Nat.le_refl _) _
    have hkk:Wk.heap[wr.heap.size]? = some (.cells #[.string P1.ty,.string P1.cs,.string P1.id,.string P1.loc,.int .i64 P1.how,.slice a1 P1.body.length a2,.slice a3 P1.kids.length a4] 25):=by rw [hWk];exact blk_new wr _
    have IH1:Hid (Calls Tryz.prog 67 #[.agg #[.string P1.ty,.string P1.cs,.string P1.id,.string P1.loc,.int .i64 P1.how,.slice a1 P1.body.length a2,.slice a3 P1.kids.length a4],.pointer (some ⟨TB,0,none⟩),.pointer (some ⟨NB,0,none⟩),.pointer (some ⟨EB,0,none⟩),.pointer (some ⟨FB,0,none⟩)] Wk fun en w'=>WalkPost w0.heap.size NB EB f (walkR tx f P1 kk ee) Wk en w'):=IH.out F' P1 a1 a2 a3 a4 kk ee Wk hmem hcnt hH1 (hWkr.below hbk)
    have HMk:Hid (Mov NB EB kk ee V1 Wk):=HMR.out.then hbk
    have HOk:Hid (Wk.ownsRow V1.heap.size 25 7 (.slice q j c) j (pzv Z)):=ownsRow_below HO.out hbk
    have HLk:Hid (LocZ w0.heap.size V1.heap.size Wk f (Value.slice q j c).ownBlock Z):=HL.out.move hbk.size (fun b hb _=>hbk.block b hb) hGS
    have HWk:Hid (Wk = wr.alloc (.cells #[.string P1.ty,.string P1.cs,.string P1.id,.string P1.loc,.int .i64 P1.how,.slice a1 P1.body.length a2,.slice a3 P1.kids.length a4] 25)):=hWk
    have HKK:Hid (Wk.heap[wr.heap.size]? = some (.cells #[.string P1.ty,.string P1.cs,.string P1.id,.string P1.loc,.int .i64 P1.how,.slice a1 P1.body.length a2,.slice a3 P1.kids.length a4] 25)):=hkk
    have HFk:Hid (Wk.heap[FB]? = some (.cells #[FnR TB NB EB FB] 45)):=(hWkr.below hbk).fb
    clear hPp hP1 hH1 hC1 hmem hWk hbk hkk HO HL HMR hjP hdr hcnt hWkr HWL
    generalize walkR tx f P1 kk ee = R1 at *
    obtain ⟨q1,k1,e1⟩:=R1
    simp only at HWL2
    obtain ⟨m1,hm1⟩:∃ m,P1.body.length = m:=⟨_,rfl⟩
    obtain ⟨m2,hm2⟩:∃ m,P1.kids.length = m:=⟨_,rfl⟩
    rw [hm1] at d5 HWk IH1 HKK
    rw [hm2] at d6 HWk IH1 HKK
    clear hm1 hm2
    go_upto_region 12 with fail
    rw [← HWk.out]
    clear HWk d0 d1 d2 d3 d4 d5 d6
    obtain ⟨B1,hB1⟩:∃ b,wr.heap.size = b:=⟨_,rfl⟩
    rw [hB1] at HKK ⊢
    clear hB1
    obtain ⟨z0,z1,z2,z3,z4,z5,z6,zf⟩:=o_cells HKK.out
    have cw:Wk.cell? ⟨FB,0,none⟩ = some (FnR TB NB EB FB):=(blk_c HFk.out 0).trans rfl
    go_wp2_with fail
    refine IH1.out.mono ?_
    rintro en w4 ⟨qb,db,qk,dk,rfl,hM4,hL4⟩
    have hsk:V1.heap.size≤Wk.heap.size:=HMk.out.size
    have hs4:V1.heap.size≤w4.heap.size:=Nat.le_trans hsk hM4.size
    have HM4:Hid (Mov NB EB k1 e1 V1 w4):=HMk.out.trans hM4
    have hNV:NB < V1.heap.size:=by have:=HLT.out;have:=HRV.out;have:=HR.out;omega
    have hEV:EB < V1.heap.size:=by have:=HLT.out;have:=HRV.out;have:=HR.out;omega
    have HO4:Hid (w4.ownsRow V1.heap.size 25 7 (.slice q j c) j (pzv Z)):=owns_move HOk.out (fun b hb=>by have:=HOk.out.lt b hb;exact hM4.block b this.2 (by omega) (by omega))
    have HZZ:Hid (LocZ w0.heap.size V1.heap.size w4 f (Value.slice q j c).ownBlock (Z ++ [(q1,(qb,db),(qk,dk))])):=by
     have h1:LocZ w0.heap.size V1.heap.size w4 f (Value.slice q j c).ownBlock Z:=HLk.out.move hM4.size (fun b hb h=>hM4.block b hb (by have:=HG.out;have:=H00.out.size;omega) (by have:=HG.out;have:=H00.out.size;omega)) hGS
     intro z hz
     rcases List.mem_append.1 hz with h | h
     ·exact h1 z h
     ·obtain rfl:z = (q1,(qb,db),(qk,dk)):=by simpa using h
      exact ⟨Wk.heap.size,w4.heap.size,hsk,hM4.size,Nat.le_refl _,fun b hb=>.inl (HOk.out.lt b hb).2,hL4⟩
    have HZv:Hid (pzv (Z ++ [(q1,(qb,db),(qk,dk))]) = pzv Z ++ [.string q1.ty,.string q1.cs,.string q1.id,.string q1.loc,.int .i64 q1.how,.slice qb q1.body.length db,.slice qk q1.kids.length dk]):=last_pz Z q1 qb db qk dk
    have HZl2:Hid ((Z ++ [(q1,(qb,db),(qk,dk))]).length = j + 1):=by unfold Hid;rw [List.length_append,HZl.out];rfl
    have HZm2:Hid (walkL (walkR tx f) (p.kids.take (j + 1)) (k + 1) E1 = ((Z ++ [(q1,(qb,db),(qk,dk))]).map (·.1),k1,e1)):=by unfold Hid;rw [HWL2.out,List.map_append];rfl
    generalize Z ++ [(q1,(qb,db),(qk,dk))] = Z2 at *
    obtain ⟨l1,hl1⟩:∃ m,q1.body.length = m:=⟨_,rfl⟩
    obtain ⟨l2,hl2⟩:∃ m,q1.kids.length = m:=⟨_,rfl⟩
    simp only
    rw [hl1,hl2]
    rw [hl1,hl2] at HZv
    clear hl1 hl2 z0 z1 z2 z3 z4 z5 z6 zf cw IH1 HMk HOk HLk HKK HFk hM4 hL4 HWL2 HZl hsk
    go_wp2_with (at_builtin;refine wpList_append_lies _ rfl (.tmp 40) (.tmp 44) 23 rfl V1.heap.size 25 i0 (.agg #[.string ⟨#[]⟩,.string ⟨#[]⟩,.string ⟨#[]⟩,.string ⟨#[]⟩,.int .i64 0,.slice none 0 0,.slice none 0 0]) 7 120 Tryz.underlying23 hi hz0 hz1 hz2 rfl (by decide) _ _ _ rfl (HO4.out.alloc _) ⟨w4.heap.size,0,none⟩ 1 1 [.string q1.ty,.string q1.cs,.string q1.id,.string q1.loc,.int .i64 q1.how,.slice qb l1 db,.slice qk l2 dk] rfl rfl ?c1 ?c2 (by decide) ?c3 ?c4 ?c5 (w4.heap.size + 1) ?c6 ?_)
    case c1=>exact cell_seven _ [_,_,_,_,_,_,_] _ _ (by simp)
    case c2=>intro u hu;simp at hu;rcases hu with rfl | rfl | rfl | rfl | rfl | rfl | rfl <;> rfl
    case c3=>unfold maxLen;omega
    case c4=>omega
    case c5=>simp;omega
    case c6=>simp
    intro g9 c9 w9 hown9 hg9 hlies hlt9
    have hs9:w4.heap.size + 1≤w9.heap.size:=by have:=hg9.size;simp at this;omega
    have hblk:∀ b,b < w4.heap.size→(Value.slice q j c).ownBlock ≠ some b→w9.heap[b]? = w4.heap[b]?:=fun b hb hne=>by
     rw [hg9.block b (by simp;omega) (fun e=>hne e.symm),Below.heap_alloc _ _ _ hb]
    have HM9:Hid (Mov NB EB k1 e1 V1 w9):=by
     have hrow:∀ b,(Value.slice q j c).ownBlock = some b→V1.heap.size≤b:=fun b hb=>(HO4.out.lt b hb).1
     refine ⟨hg9.os.trans HM4.out.os,hg9.tape.trans HM4.out.tape,hg9.output.trans HM4.out.output,by omega,fun b hb hn he=>?_,?_,?_⟩
     ·exact (hblk b (by omega) (fun e=>by have:=hrow b e;omega)).trans (HM4.out.block b hb hn he)
     ·exact (hblk NB (by omega) (fun e=>by have:=hrow NB e;omega)).trans HM4.out.nb
     ·exact (hblk EB (by omega) (fun e=>by have:=hrow EB e;omega)).trans HM4.out.eb
    have HL9:Hid (LocZ w0.heap.size V1.heap.size w9 f (Value.slice (some ⟨g9,0,none⟩) (j + 1) c9).ownBlock Z2):=by
     have h1:LocZ w0.heap.size V1.heap.size w9 f (Value.slice q j c).ownBlock Z2:=HZZ.out.move (by omega) (fun b hb h=>hblk b hb (fun e=>by rcases h with h | h;have:=(HO4.out.lt b e).1;omega;exact h.2 e)) hGS
     intro z hz
     obtain ⟨s,sz,h2,h3,h4,h5,h6⟩:=HZZ.out z hz
     obtain ⟨s',sz',h2',h3',h4',h5',h6'⟩:=h1 z hz
     refine ⟨s,sz,h2,h3,by omega,fun b hb=>?_,h6.move fun b hb=>hblk b (by omega) (fun e=>by have:=(HO4.out.lt b e).1;have:=h5 b e;omega)⟩
     have e':g9 = b:=by simpa [Value.ownBlock] using hb
     rcases hlies with h | h
     ·exact h5 b (by rw [h,e'])
     ·omega
    have R9:Hid (w9.ownsRow V1.heap.size 25 7 (.slice (some ⟨g9,0,none⟩) (j + 1) c9) (j + 1) (pzv Z2)):=by unfold Hid;rw [HZv.out];exact hown9
    clear hown9 hg9 hlies hlt9 HO4 HZZ HM4 HZv hs4 hs9 hblk hNV hEV
    go_wp2_with fail
    go_roundw
    case rel=>exact ⟨j + 1,some ⟨g9,0,none⟩,c9,Z2,k1,e1,by omega,by go_num,rfl,HZl2,HZm2,HM9,R9,HL9⟩
    case measure=>simp [intOf];omega
   ·have hlz:¬ ((j:Int) < (n:Int)):=by omega
    obtain rfl:j = n:=by omega
    have hall:p.kids.take j = p.kids:=List.take_of_length_le (by rw [HN.out];exact Nat.le_refl _)
    have hNV:NB < V1.heap.size:=by have:=HLT.out;have:=HRV.out;have:=HR.out;omega
    have hEV:EB < V1.heap.size:=by have:=HLT.out;have:=HRV.out;have:=HR.out;omega
    have hAr:A < V1.heap.size∧A ≠ NB∧A ≠ EB∧r < V1.heap.size∧r ≠ NB∧r ≠ EB:=by have:=HLT.out;have:=HRV.out;have:=HR.out;omega
    have kA:wr.heap[A]? = some (.cells #[.string p.ty,.string p.cs,.string p.id,.string p.loc,.int .i64 p.how,.slice bq bn bc,.slice pk j ck] 25):=(HMR.out.block A hAr.1 hAr.2.1 hAr.2.2.1).trans HKV.out.1
    have kR:wr.heap[r]? = some (.cells z7 25):=(HMR.out.block r hAr.2.2.2.1 hAr.2.2.2.2.1 hAr.2.2.2.2.2).trans HKV.out.2
    obtain ⟨z0,z1,z2,z3,z4,z5,z6,zf⟩:=o_cells kA
    obtain ⟨r0,r1,r2,r3,r4,r5,r6,rf⟩:=o_cells kR
    have hArr:¬ r = A:=by have:=HR.out;omega
    have hArr2:¬ A = r:=by have:=HR.out;omega
    have HFIN:Hid (WalkPost w0.heap.size NB EB (f + 1) (walkR tx (f + 1) p k e) W (.returned (.agg #[.string p.ty,.string p.cs,.string p.id,.string p.loc,.int .i64 p.how,.slice bq bn bc,.slice q j c])) (put8 wr A r (.slice q j c) (.string p.ty) (.string p.cs) (.string p.id) (.string p.loc) (.int .i64 p.how) (.slice bq bn bc) (.slice q j c))):=by
     refine walk_end (BO:=BO) (Z:=Z) (S1:=V1.heap.size) (kk:=kk) (ee:=ee) ?_ HA.out HR.out HRV.out HLT.out.2.2.2 ⟨HLT.out.1,HLT.out.2.1⟩ HZl.out hk1000 HPL.out HBO4.out HBL.out.1 HBL.out.2 (HMV.out.trans HMR.out) HO.out HL.out (HBV.out.move fun b hb=>HMR.out.block b (by omega) (by have:=HLT.out;have:=HG.out;have:=H00.out.size;have:=HR.out;omega) (by have:=HLT.out;have:=HG.out;have:=H00.out.size;have:=HR.out;omega)) HMR.out.size
     have h:=HWL.out
     rw [hall] at h
     rw [HRW.out,h]
    clear kA kR hall hNV hEV hAr HZl HWL HMR HO HL HKV HBV HBL HWKV HMV
    go_wp2_with fail
    refine bodyPost_ret (v:=.agg #[.string p.ty,.string p.cs,.string p.id,.string p.loc,.int .i64 p.how,.slice bq bn bc,.slice q j c]) ?_ rfl HFIN.out
    rw [results_cell1 rfl]
    go_simp
end Go.Proofs.YtbbfcbodhmeanaaGreatDoor


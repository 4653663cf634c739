
import Derived.Test.YtbbfcbodhmeanaaGreatDoorXrewritesays15
namespace Go.Proofs.YtbbfcbodhmeanaaGreatDoor
open Go.RowKit
structure Tch (W W':World) (T:Nat→Prop):Prop where
 os:W'.os = W.os
 tape:W'.tape = W.tape
 output:W'.output = W.output
 size:W.heap.size≤W'.heap.size
 block:∀ k,k < W.heap.size→¬ T k→W'.heap[k]? = W.heap[k]?
theorem Tch.refl (W:World) (T:Nat→Prop):Tch W W T:=⟨rfl,rfl,rfl,Nat.le_refl _,fun _ _ _=>rfl⟩
theorem Tch.trans {W W1 W2:World} {T:Nat→Prop} (h1:Tch W W1 T) (h2:Tch W1 W2 T):Tch W W2 T :=
 ⟨h2.os.trans h1.os,h2.tape.trans h1.tape,h2.output.trans h1.output,Nat.le_trans h1.size h2.size,fun k hk hT=>(h2.block k (Nat.lt_of_lt_of_le hk h1.size) hT).trans (h1.block k hk hT)⟩
theorem Tch.mono {W W':World} {T T':Nat→Prop} (h:Tch W W' T) (hT:∀ k,k < W.heap.size→T k→T' k):Tch W W' T':=⟨h.os,h.tape,h.output,h.size,fun k hk hn=>h.block k hk (fun ht=>hn (hT k hk ht))⟩
theorem Tch.below {W W':World} {T:Nat→Prop} (h:Below W.heap.size W W'):Tch W W' T:=⟨h.os,h.tape,h.output,h.size,fun k hk _=>h.block k hk⟩
theorem Tch.set (W:World) (b o:Nat) (v:Value):Tch W (W.setCell ⟨b,o,none⟩ v) (fun k=>k = b):=⟨rfl,rfl,rfl,by simp [World.setCell],fun k _ hn=>Below.heap_setCell _ _ _ _ hn⟩
theorem Tch.under {A:Nat} {w W W':World} {T:Nat→Prop} (h:Tch W W' T) (hb:Below A w W) (hA:A≤W.heap.size) (hT:∀ k,T k→A≤k):Below A w W' :=
 ⟨h.os.trans hb.os,h.tape.trans hb.tape,h.output.trans hb.output,Nat.le_trans hb.size h.size,fun k hk=>(h.block k (by omega) (fun ht=>by have:=hT k ht;omega)).trans (hb.block k hk)⟩
theorem TxRow.move {W W':World} {a:Option Addr} {ts:List ByteArray} (h:TxRow W a ts) (hm:∀ ad,a = some ad→W'.heap[ad.block]? = W.heap[ad.block]?):TxRow W' a ts:=by
 intro hne
 obtain ⟨b,o,e,hc⟩:=h hne
 refine ⟨b,o,e,fun i hi=>?_⟩
 have h1:=hc i hi
 rw [World.cell?_of_block (show W'.heap[b]? = W.heap[b]? from hm _ e)]
 exact h1
structure TxAt (T0 TB:Nat) (tx:Nat→List ByteArray) (W:World):Prop where
 lt:T0 < TB
 le:TB≤W.heap.size
 cs:∃ cs:Array Value,W.heap[T0]? = some (.cells cs 98)∧∀ i,i < 12→∃ a c,cs[i]? = some (.slice a (tx i).length c)∧TxRow W a (tx i)∧∀ ad,a = some ad→ad.block < TB
 len:∀ i,i < 12→(tx i).length≤maxLen∧∀ t ∈ tx i,t.size≤maxLen
theorem TxAt.move {T0 TB:Nat} {tx:Nat→List ByteArray} {W W':World} (h:TxAt T0 TB tx W) (hs:W.heap.size≤W'.heap.size) (hm:∀ k,k < TB→W'.heap[k]? = W.heap[k]?):TxAt T0 TB tx W':=by
 obtain ⟨cs,h1,h2⟩:=h.cs
 refine ⟨h.lt,Nat.le_trans h.le hs,⟨cs,by rw [hm T0 h.lt];exact h1,fun i hi=>?_⟩,h.len⟩
 obtain ⟨a,c,h3,h4,h5⟩:=h2 i hi
 exact ⟨a,c,h3,h4.move (fun ad ha=>hm _ (h5 ad ha)),h5⟩
theorem TxAt.tch {T0 TB:Nat} {tx:Nat→List ByteArray} {W W':World} {T:Nat→Prop} (h:TxAt T0 TB tx W) (ht:Tch W W' T) (hT:∀ k,T k→TB≤k):TxAt T0 TB tx W':=h.move ht.size fun k hk=>ht.block k (by have:=h.le;omega) (fun hx=>by have:=hT k hx;omega)
def NumAt (W:World) (g:Nat) (n:Int):Prop:=W.heap[g]? = some (.cells #[.int .i64 n] 3)
def DoPost (W:World) (b o nb k:Nat) (Q:Nat→Prop) (R:List UInt8 × Nat) (e:Ending) (w':World):Prop :=
 e = .returned (.int .i64 (R.2:Int))∧NumAt w' nb ((k + 1:Nat):Int)∧Tch W w' (fun x=>x = b ∨ x = nb) ∧
  (R.2 = 0→∃ pb cb,w'.heap[b]? = (W.setCell ⟨b,o + 5,none⟩ (.slice pb R.1.length cb)).heap[b]?∧BRow w' pb R.1∧(R.1.length≤cb∧cb≤maxLen∧(pb = none→cb = 0))∧InB (fun x=>Q x ∨ W.heap.size≤x) pb)
theorem set_as_was {W:World} {b t:Nat} {c:Array Value} (h:W.heap[b]? = some (.cells c t)) (k:Nat) (v:Value) (hv:c[k]? = some v):(W.setCell ⟨b,k,none⟩ v).heap[b]? = W.heap[b]?:=by
 rw [set_blk h,h]
 congr 2
 apply Array.ext
 ·simp
 ·intro i h1 h2
  by_cases e:k = i
  ·subst e
   rw [Array.getElem_setIfInBounds_self]
   exact (Array.getElem?_eq_some_iff.1 hv).2.symm
  ·rw [Array.getElem_setIfInBounds_ne h2 e]
set_option maxHeartbeats 4000000 in
set_option maxRecDepth 100000 in
theorem do_any (w0:World) (HE:LEnv w0) (T0 TB nb:Nat) (tx:Nat→List ByteArray) (hTB:w0.heap.size≤TB) (hnb:TB≤nb) (b o k:Nat) (hbn:b ≠ nb) (hk:k < 12) (body:List UInt8) (pb:Option Addr) (n cb:Nat) (en:n = body.length) (hcb:n≤cb∧cb≤maxLen∧(pb = none→cb = 0)) (Q:Nat→Prop) (hQ:InB Q pb) (hQn:∀ x,Q x→x ≠ nb∧x ≠ b)
  (W:World) (hW:Below w0.heap.size w0 W) (hT:TxAt T0 TB tx W) (hN:NumAt W nb (k:Int)) (c:Array Value) (hB:W.heap[b]? = some (.cells c 25)) (h5:c[o + 5]? = some (.slice pb n cb)) (hr:BRow W pb body) :
  Calls Tryz.prog 64 #[.pointer (some ⟨b,o,none⟩),.pointer (some ⟨T0,0,none⟩),.pointer (some ⟨nb,0,none⟩)] W fun e w'=>DoPost W b o nb k Q (fillB (tx k) body) e w':=by
 obtain ⟨cs,hcs,hall⟩:=hT.cs
 obtain ⟨a,ca,hak,hrow,hlt⟩:=hall k hk
 have t1:W.cell? ⟨T0,k,none⟩ = some (.slice a (tx k).length ca):=(blk_c hcs k).trans hak
 have n1:W.cell? ⟨nb,0,none⟩ = some (.int .i64 (k:Int)):=(blk_c hN 0).trans rfl
 have nf:W.frozen? ⟨nb,0,none⟩ = false:=blk_f hN 0
 have hki:(k:Int) < 12:=by omega
 have hk0:(0:Int)≤(k:Int):=by omega
 have hwk:IntKind.i64.wrap ((k:Int) + 1) = (k:Int) + 1:=by rw [IntKind.wrap_i64];omega
 have hT0n:T0 ≠ nb:=by have:=hT.lt;omega
 obtain ⟨W2,hW2⟩:∃ V,V = W.setCell ⟨nb,0,none⟩ (.int .i64 ((k:Int) + 1)):=⟨_,rfl⟩
 have hs2:W2.heap.size = W.heap.size:=by rw [hW2];simp [World.setCell]
 have hbl:∀ x,x ≠ nb→W2.heap[x]? = W.heap[x]?:=fun x hx=>by rw [hW2];exact Below.heap_setCell _ _ _ _ hx
 have hT2:TxRow W2 a (tx k):=hrow.move fun ad ha=>hbl _ (by have:=hlt ad ha;omega)
 have hB2:W2.heap[b]? = some (.cells c 25):=by rw [hbl b hbn];exact hB
 have hr2:BRow W2 pb body:=BRow.move (Q:=Q) (fun x hx _=>hbl x (hQn x hx).1) hr hQ
 have hwb:Below w0.heap.size w0 W2:=by rw [hW2];exact Below.setCell (p:=⟨nb,0,none⟩) hW (show w0.heap.size≤nb by omega) _
 have hn2:NumAt W2 nb ((k + 1:Nat):Int):=by rw [hW2];exact (set_blk hN 0 _).trans rfl
 obtain ⟨hl1,hl2⟩:=hT.len k hk
 have CF:Hid (Calls Tryz.prog 65 #[.pointer (some ⟨b,o,none⟩),.slice a (tx k).length ca] W2 fun e w'=>FilPost W2 b o (fillB (tx k) body) (tx k) e w'):=fill_any w0 HE b o body pb n cb en hcb.1 hcb.2.1 (fun e=>⟨by have:=hcb.2.2 e;omega,hcb.2.2 e⟩) a (tx k).length ca (tx k) rfl hl1 hl2 W2 hwb ((blk_c hB2 (o + 5)).trans h5) (fun W' hb'=>blk_f (blk_on hB2 hb') (o + 5)) hr2 hT2
 have hnl:nb < W.heap.size:=(Array.getElem?_eq_some_iff.1 hN).1
 have hbL:b < W.heap.size:=(Array.getElem?_eq_some_iff.1 hB).1
 have HPOST:Hid (∀ e w',FilPost W2 b o (fillB (tx k) body) (tx k) e w'→∃ E:Nat,e = .returned (.int .i64 (E:Int))∧DoPost W b o nb k Q (fillB (tx k) body) (.returned (.int .i64 (E:Int))) w'):=by
  have t2:Tch W W2 (fun x=>x = b ∨ x = nb):=by rw [hW2];exact (Tch.set W nb 0 _).mono fun x _ hx=>.inr hx
  rintro e w' (⟨h0,rfl,rfl⟩ | ⟨hne,h1,rfl,hb'⟩ | ⟨hne,h1,rfl,W3,q,cq,hb3,ho3,rfl⟩)
  ·have hf:fillB (tx k) body = (body,0):=by unfold fillB;rw [if_pos h0]
   refine ⟨0,rfl,?_⟩
   rw [hf]
   refine ⟨rfl,hn2,t2,fun _=>⟨pb,cb,?_,hr2,⟨by rw [← en];exact hcb.1,hcb.2.1,hcb.2.2⟩,fun ad ha=>.inl (hQ ad ha)⟩⟩
   rw [set_as_was hB (o + 5) _ (by rw [← en];exact h5),hbl b hbn]
  ·refine ⟨(fillB (tx k) body).2,rfl,rfl,by unfold NumAt;rw [hb'.block nb (by omega)];exact hn2,t2.trans (Tch.below hb'),fun h=>absurd h h1⟩
  ·refine ⟨0,rfl,by rw [h1],?_,?_,fun _=>?_⟩
   ·unfold NumAt
    rw [Below.heap_setCell _ _ _ _ (Ne.symm hbn),hb3.block nb (by omega)]
    exact hn2
   ·exact (t2.trans (Tch.below hb3)).trans ((Tch.set W3 b (o + 5) _).mono fun x _ hx=>.inl hx)
   ·obtain ⟨q',c',e',g1,g2,g3,g4⟩:=owned_row ho3
    cases e'
    have hB3:W3.heap[b]? = some (.cells c 25):=by rw [hb3.block b (by omega)];exact hB2
    have hfr:=own_freshF ho3 (Nat.le_refl _)
    refine ⟨q,cq,by rw [set_blk hB3,set_blk hB],?_,⟨g1,g2,fun e=>(g3 e).2⟩,fun ad ha=>.inr (by rw [← hs2];exact (hfr ad ha).1)⟩
    exact BRow.move (Q:=fun x=>x ≠ b) (fun x hx _=>Below.heap_setCell _ _ _ _ hx) g4 (fun ad ha=>by have:=(hfr ad ha).1;omega)
 generalize fillB (tx k) body = R at *
 generalize (tx k).length = tl at *
 have HW2:Hid (W2 = W.setCell ⟨nb,0,none⟩ (.int .i64 ((k:Int) + 1))):=hW2
 clear hcs hall hak hrow hlt hW2 hs2 hbl hT2 hB2 hr2 hwb hn2 hl1 hl2 hT hN hB hr hW h5 hQ hQn hcb en HE
 go_enter Tryz.func64,Tryz.ntmps64
 go_wp2_with fail
 rw [← HW2.out]
 refine CF.out.mono ?_
 rintro e w' hP
 obtain ⟨E,rfl,hD⟩:=HPOST.out e w' hP
 have HD:Hid (DoPost W b o nb k Q R (.returned (.int .i64 (E:Int))) w'):=hD
 clear hP hD CF HPOST t1 n1 nf
 go_wp2_with fail
 go_ret
 exact HD.out
end Go.Proofs.YtbbfcbodhmeanaaGreatDoor



namespace Go.Proofs.YtbbfcbodhmeanaaGreatDoor
open Go.RowKit
theorem info_strT:(Tryz.prog.info? 9).map (fun i=>(i.zero,i.size,i.bytes)) = some (some (.string ⟨#[]⟩),1,16):=by kernel_rfl
theorem cell_loneT (w:World) (v:Value) (t:TypeId):∀ j x,[v][j]? = some x→(w.alloc (.cells #[v] t)).cell? ((⟨w.heap.size,0,none⟩:Addr).add j) = some x:=by
 intro j x hj
 match j,hj with
 | 0,hj=>simp at hj;subst hj;simp [Addr.add]
theorem one_strT (T:ByteArray):∀ u ∈ [Value.string T],u.oneCell' = true:=by
 intro u hu
 simp at hu
 subst hu
 rfl
set_option maxRecDepth 1000000 in
set_option maxHeartbeats 4000000 in
theorem ltR14 (W:World) (Y T8 B m ln cv:Nat) (hm:m < 12) (qv:Option Addr) (TX:ByteArray) (a1 a2 a3 a4 a5:Value) (tt:Array Value) (xs:List Value) (hY:W.heap[Y]? = some (.cells #[.int .i64 (m:Int),a1,a2,a3,a4,a5] 42)) (hTT:W.heap[T8]? = some (.cells tt 98)) (htt:tt[m]? = some (.slice qv ln cv)) (hO:W.ownsRow B 9 1 (.slice qv ln cv) ln xs) (hB:B≤W.heap.size) (hln:ln≤1000) (hYT:Y ≠ T8) (hYo:(Value.slice qv ln cv).ownBlock ≠ some Y) (hTo:(Value.slice qv ln cv).ownBlock ≠ some T8) (c0 c1 c2 c3 c4 c5 c6 c7 c9 c12 c13 c14 c15 c16 c17 c18 c19 c20 c21 c22 c23 c24 c25 c26 c27 c28 c29 c30 c31 c32 c33 c34 c35 c36 c37 c38 c39 c40 c41 c42 c43 c44 c45 c46 c47 c48:Value) (Q:Exit→Act→World→Prop)
  (hexit:∀ u37 u38 u39 u40 u41 u42 u43 u44 u45 u46:Value,∀ (g cc:Nat) (w9:World),w9.ownsRow B 9 1 (.slice (some ⟨g,0,none⟩) (ln + 1) cc) (ln + 1) (xs ++ [.string TX])→(W.alloc (.cells #[.string TX] 9)).drew.grownBy w9 (Value.slice qv ln cv).ownBlock→((Value.slice qv ln cv).ownBlock = some g ∨ g = W.heap.size + 1)→g < w9.heap.size→Q .normal ⟨(c0::c1::c2::c3::c4::c5::c6::c7::.pointer (some ⟨T8,0,none⟩)::c9::.pointer (some ⟨Y,0,none⟩)::.string TX::c12::c13::c14::c15::c16::c17::c18::c19::c20::c21::c22::c23::c24::c25::c26::c27::c28::c29::c30::c31::c32::c33::c34::c35::c36::u37::u38::u39::u40::u41::u42::u43::u44::u45::u46::c47::c48::[]).toArray,[]⟩ (w9.setCell ⟨T8,m,none⟩ (.slice (some ⟨g,0,none⟩) (ln + 1) cc))) :
  Code.wp Tryz.prog (regAt Tryz.f61 14) Q ⟨(c0::c1::c2::c3::c4::c5::c6::c7::.pointer (some ⟨T8,0,none⟩)::c9::.pointer (some ⟨Y,0,none⟩)::.string TX::c12::c13::c14::c15::c16::c17::c18::c19::c20::c21::c22::c23::c24::c25::c26::c27::c28::c29::c30::c31::c32::c33::c34::c35::c36::c37::c38::c39::c40::c41::c42::c43::c44::c45::c46::c47::c48::[]).toArray,[]⟩ W:=by
 have HX:Hid _:=hexit
 clear hexit
 conv=>arg 2;whnf
 obtain ⟨GC,hGC⟩:∃ GC,GC = #[.int .i64 (m:Int),a1,a2,a3,a4,a5]:=⟨_,rfl⟩
 have HG0:Hid (GC[0]? = some (.int .i64 (m:Int))):=by unfold Hid;rw [hGC];rfl
 rw [← hGC] at hY
 clear hGC
 have hki:(m:Int) < 12:=by omega
 have hk0:(0:Int)≤(m:Int):=by omega
 have HCL:Hid (∀ V:World,V.heap[Y]? = some (.cells GC 42)→V.cell? ⟨Y,0,none⟩ = some (.int .i64 (m:Int))):=fun V h=>(blk_c h 0).trans HG0.out
 have HO:Hid (W.ownsRow B 9 1 (.slice qv ln cv) ln xs):=hO
 have HYo:Hid ((Value.slice qv ln cv).ownBlock ≠ some Y):=hYo
 have HTo:Hid ((Value.slice qv ln cv).ownBlock ≠ some T8):=hTo
 have HKYa:Hid ((W.alloc (.cells #[.string TX] 9)).heap[Y]? = some (.cells GC 42)):=blk_on hY ((Below.refl _ _).alloc (Nat.le_refl _) _)
 have HTTa:Hid ((W.alloc (.cells #[.string TX] 9)).heap[T8]? = some (.cells tt 98)):=blk_on hTT ((Below.refl _ _).alloc (Nat.le_refl _) _)
 have HTT:Hid (W.heap[T8]? = some (.cells tt 98)):=hTT
 have HKY:Hid (W.heap[Y]? = some (.cells GC 42)):=hY
 have hYl2:Y < (W.alloc (.cells #[.string TX] 9)).heap.size:=(Array.getElem?_eq_some_iff.1 HKYa.out).1
 have hTl2:T8 < (W.alloc (.cells #[.string TX] 9)).heap.size:=(Array.getElem?_eq_some_iff.1 HTTa.out).1
 have hln1:ln + 1≤maxLen:=by unfold maxLen;omega
 have hln2:(ln + 1) * 16≤140737488355328:=by omega
 have hBs:B≤(W.alloc (.cells #[.string TX] 9)).heap.size:=by simp;omega
 have hszT:(W.alloc (.cells #[.string TX] 9)).heap.size = W.heap.size + 1:=by simp
 have hS0:W.drew.heap[Y]? = some (.cells GC 42):=hY
 clear hO hYo hTo hTT hY hB hln
 refine wp_region_noPanic ?_
 refine wp_region_held_drew (S:=fun V=>V.heap[Y]? = some (.cells GC 42)) (by kernel_rfl) hS0 (fun hHeld=>?_)
 refine wpAnyH_take (i:=0) (oi:={ dst:=some 37,op:=Op.fieldAddr 42 (.tmp 10) 0,type:=_,pos:=_,after:=_,guard:=_ }) (v:=.pointer (some ⟨Y,0,none⟩)) rfl (by kernel_rfl) (by kernel_rfl) (by kernel_rfl) (fun _ _ _ h=>h) (Or.inl ⟨by rfl,?_⟩) (by assumption) ?_
 ·intro W' hSW
  have b0:=HCL.out W' hSW
  clear hSW
  go_simp
 try simp only [Act.put,List.setIfInBounds_toArray,List.set_cons_zero,List.set_cons_succ]
 refine wpAnyH_take (i:=1) (oi:={ dst:=some 38,op:=Op.load _ (.tmp 37),type:=_,pos:=_,after:=_,guard:=_ }) (v:=.int .i64 (m:Int)) rfl (by kernel_rfl) (by kernel_rfl) (by kernel_rfl) (fun _ _ _ h=>h) (Or.inl ⟨by rfl,?_⟩) (by assumption) ?_
 ·intro W' hSW
  have b0:=HCL.out W' hSW
  clear hSW
  go_simp
 try simp only [Act.put,List.setIfInBounds_toArray,List.set_cons_zero,List.set_cons_succ]
 refine wpAnyH_take (i:=2) (oi:={ dst:=some 39,op:=Op.fieldAddr 42 (.tmp 10) 0,type:=_,pos:=_,after:=_,guard:=_ }) (v:=.pointer (some ⟨Y,0,none⟩)) rfl (by kernel_rfl) (by kernel_rfl) (by kernel_rfl) (fun _ _ _ h=>h) (Or.inl ⟨by rfl,?_⟩) (by assumption) ?_
 ·intro W' hSW
  have b0:=HCL.out W' hSW
  clear hSW
  go_simp
 try simp only [Act.put,List.setIfInBounds_toArray,List.set_cons_zero,List.set_cons_succ]
 refine wpAnyH_take (i:=3) (oi:={ dst:=some 40,op:=Op.load _ (.tmp 39),type:=_,pos:=_,after:=_,guard:=_ }) (v:=.int .i64 (m:Int)) rfl (by kernel_rfl) (by kernel_rfl) (by kernel_rfl) (fun _ _ _ h=>h) (Or.inl ⟨by rfl,?_⟩) (by assumption) ?_
 ·intro W' hSW
  have b0:=HCL.out W' hSW
  clear hSW
  go_simp
 try simp only [Act.put,List.setIfInBounds_toArray,List.set_cons_zero,List.set_cons_succ]
 refine wpAnyH_take (i:=4) (oi:={ dst:=some 41,op:=Op.indexAddr 98 (.tmp 8) (.tmp 40),type:=_,pos:=_,after:=_,guard:=_ }) (v:=.pointer (some ⟨T8,m,none⟩)) rfl (by kernel_rfl) (by kernel_rfl) (by kernel_rfl) (fun _ _ _ h=>h) (Or.inl ⟨by rfl,?_⟩) (by assumption) ?_
 ·intro W' hSW
  have b0:=HCL.out W' hSW
  clear hSW
  go_simp
 try simp only [Act.put,List.setIfInBounds_toArray,List.set_cons_zero,List.set_cons_succ]
 refine wpAnyH_take (i:=6) (oi:={ dst:=some 43,op:=Op.move (.tmp 11),type:=_,pos:=_,after:=_,guard:=_ }) (v:=.string TX) rfl (by kernel_rfl) (by kernel_rfl) (by kernel_rfl) (fun _ _ _ h=>h) (Or.inl ⟨by rfl,?_⟩) (by assumption) ?_
 ·intro W' hSW
  have b0:=HCL.out W' hSW
  clear hSW
  go_simp
 try simp only [Act.put,List.setIfInBounds_toArray,List.set_cons_zero,List.set_cons_succ]
 refine wpAnyH_ready (rs:=[5,7]) (by kernel_rfl) (by simp) ?_
 refine AllReadyH.cons (o:={ dst:=some 42,op:=Op.load 26 (.tmp 41),type:=_,pos:=_,after:=_,guard:=_ }) rfl (fun K hK=>?_) (AllReadyH.cons (o:={ dst:=some 44,op:=Op.buildSlice 26 1 _,type:=_,pos:=_,after:=_,guard:=_ }) rfl (fun K hK=>?_) AllReadyH.nil)
 ·have z1:W.cell? ⟨T8,m,none⟩ = some (.slice qv ln cv):=(blk_c HTT.out m).trans htt
  clear hHeld
  go_simp
  clear z1
  refine hK.out _ _ hS0 (fun hHeld=>?_)
  clear hK K
  try simp only [Act.put,List.setIfInBounds_toArray,List.set_cons_zero,List.set_cons_succ]
  refine wpAnyH_ready (rs:=[7]) (by kernel_rfl) (by simp) (AllReadyH.cons (o:={ dst:=some 44,op:=Op.buildSlice 26 1 _,type:=_,pos:=_,after:=_,guard:=_ }) rfl (fun K hK=>?_) AllReadyH.nil)
  clear hHeld
  go_simp
  refine hK.out _ _ HKYa.out (fun hHeld=>?_)
  clear hK K
  try simp only [Act.put,List.setIfInBounds_toArray,List.set_cons_zero,List.set_cons_succ]
  refine wpAnyH_ready (rs:=[8]) (by kernel_rfl) (by simp) (AllReadyH.cons (o:={ dst:=some 45,op:=Op.call _,type:=_,pos:=_,after:=_,guard:=_ }) rfl (fun K hK=>?_) AllReadyH.nil)
  obtain ⟨i0,hi,hz0,hz1,hz2⟩:=info_parts info_strT
  refine step_append_lies _ rfl (.tmp 42) (.tmp 44) 26 rfl B 9 i0 (.string ⟨#[]⟩) 1 16 Tryz.underlying26 hi hz0 hz1 hz2 rfl (by decide) (.slice qv ln cv) ln xs rfl (HO.out.alloc _) ⟨W.heap.size,0,none⟩ 1 1 [.string TX] rfl rfl (cell_loneT W _ _) (one_strT _) (by decide) hln1 hln2 hBs (W.heap.size + 1) hszT ?_
  intro g cc w9 own9 hg9 hlies hlt9
  clear hi hz0 hz1 hz2
  have hY9:w9.heap[Y]? = some (.cells GC 42):=by
   rw [hg9.block Y hYl2 (fun e=>HYo.out e.symm)]
   exact HKYa.out
  have hT9:w9.heap[T8]? = some (.cells tt 98):=by
   rw [hg9.block T8 hTl2 (fun e=>HTo.out e.symm)]
   exact HTTa.out
  have HY9:Hid (w9.heap[Y]? = some (.cells GC 42)):=hY9
  have HT9:Hid (w9.heap[T8]? = some (.cells tt 98)):=hT9
  have HOW:Hid (w9.ownsRow B 9 1 (.slice (some ⟨g,0,none⟩) (ln + 1) cc) (ln + 1) (xs ++ [.string TX])):=own9
  have HG9:Hid _:=hg9
  have HLI:Hid _:=hlies
  have HLT:Hid (g < w9.heap.size):=hlt9
  clear own9 hg9 hlies hlt9 hY9 hT9
  refine hK.out _ _ HY9.out (fun hHeld=>?_)
  clear hK K
  try simp only [Act.put,List.setIfInBounds_toArray,List.set_cons_zero,List.set_cons_succ]
  refine wpAnyH_take (i:=9) (oi:={ dst:=some 46,op:=Op.indexAddr 98 (.tmp 8) (.tmp 38),type:=_,pos:=_,after:=_,guard:=_ }) (v:=.pointer (some ⟨T8,m,none⟩)) rfl (by kernel_rfl) (by kernel_rfl) (by kernel_rfl) (fun _ _ _ h=>h) (Or.inl ⟨by rfl,?_⟩) (by assumption) ?_
  ·intro W' hSW
   have b0:=HCL.out W' hSW
   clear hSW
   go_simp
  try simp only [Act.put,List.setIfInBounds_toArray,List.set_cons_zero,List.set_cons_succ]
  refine wpAnyH_ready (rs:=[10]) (by kernel_rfl) (by simp) (AllReadyH.cons (o:={ dst:=none,op:=Op.store 26 (.tmp 46) (.tmp 45),type:=_,pos:=_,after:=_,guard:=_ }) rfl (fun K hK=>?_) AllReadyH.nil)
  have q1:w9.cell? ⟨T8,m,none⟩ = some (.slice qv ln cv):=(blk_c HT9.out m).trans htt
  have q2:w9.frozen? ⟨T8,m,none⟩ = false:=blk_f HT9.out m
  clear hHeld
  go_simp
  refine hK.out _ _ (by show (w9.setCell ⟨T8,m,none⟩ _).heap[Y]? = _;rw [Below.heap_setCell _ _ _ _ hYT];exact HY9.out) (fun hHeld=>?_)
  clear hK K q1 q2
  try simp only [Act.put]
  refine wpAnyH_done (by kernel_rfl) ?_ _
  refine NoPanic.normal ?_
  exact HX.out _ _ _ _ _ _ _ _ _ _ g cc w9 HOW.out HG9.out HLI.out HLT.out
 ·clear hHeld
  go_simp
  refine hK.out _ _ HKYa.out (fun hHeld=>?_)
  clear hK K
  try simp only [Act.put,List.setIfInBounds_toArray,List.set_cons_zero,List.set_cons_succ]
  refine wpAnyH_ready (rs:=[5]) (by kernel_rfl) (by simp) (AllReadyH.cons (o:={ dst:=some 42,op:=Op.load 26 (.tmp 41),type:=_,pos:=_,after:=_,guard:=_ }) rfl (fun K hK=>?_) AllReadyH.nil)
  have z1:(W.alloc (.cells #[.string TX] 9)).cell? ⟨T8,m,none⟩ = some (.slice qv ln cv):=(blk_c HTTa.out m).trans htt
  clear hHeld
  go_simp
  clear z1
  refine hK.out _ _ HKYa.out (fun hHeld=>?_)
  clear hK K
  try simp only [Act.put,List.setIfInBounds_toArray,List.set_cons_zero,List.set_cons_succ]
  refine wpAnyH_ready (rs:=[8]) (by kernel_rfl) (by simp) (AllReadyH.cons (o:={ dst:=some 45,op:=Op.call _,type:=_,pos:=_,after:=_,guard:=_ }) rfl (fun K hK=>?_) AllReadyH.nil)
  obtain ⟨i0,hi,hz0,hz1,hz2⟩:=info_parts info_strT
  refine step_append_lies _ rfl (.tmp 42) (.tmp 44) 26 rfl B 9 i0 (.string ⟨#[]⟩) 1 16 Tryz.underlying26 hi hz0 hz1 hz2 rfl (by decide) (.slice qv ln cv) ln xs rfl (HO.out.alloc _) ⟨W.heap.size,0,none⟩ 1 1 [.string TX] rfl rfl (cell_loneT W _ _) (one_strT _) (by decide) hln1 hln2 hBs (W.heap.size + 1) hszT ?_
  intro g cc w9 own9 hg9 hlies hlt9
  clear hi hz0 hz1 hz2
  have hY9:w9.heap[Y]? = some (.cells GC 42):=by
   rw [hg9.block Y hYl2 (fun e=>HYo.out e.symm)]
   exact HKYa.out
  have hT9:w9.heap[T8]? = some (.cells tt 98):=by
   rw [hg9.block T8 hTl2 (fun e=>HTo.out e.symm)]
   exact HTTa.out
  have HY9:Hid (w9.heap[Y]? = some (.cells GC 42)):=hY9
  have HT9:Hid (w9.heap[T8]? = some (.cells tt 98)):=hT9
  have HOW:Hid (w9.ownsRow B 9 1 (.slice (some ⟨g,0,none⟩) (ln + 1) cc) (ln + 1) (xs ++ [.string TX])):=own9
  have HG9:Hid _:=hg9
  have HLI:Hid _:=hlies
  have HLT:Hid (g < w9.heap.size):=hlt9
  clear own9 hg9 hlies hlt9 hY9 hT9
  refine hK.out _ _ HY9.out (fun hHeld=>?_)
  clear hK K
  try simp only [Act.put,List.setIfInBounds_toArray,List.set_cons_zero,List.set_cons_succ]
  refine wpAnyH_take (i:=9) (oi:={ dst:=some 46,op:=Op.indexAddr 98 (.tmp 8) (.tmp 38),type:=_,pos:=_,after:=_,guard:=_ }) (v:=.pointer (some ⟨T8,m,none⟩)) rfl (by kernel_rfl) (by kernel_rfl) (by kernel_rfl) (fun _ _ _ h=>h) (Or.inl ⟨by rfl,?_⟩) (by assumption) ?_
  ·intro W' hSW
   have b0:=HCL.out W' hSW
   clear hSW
   go_simp
  try simp only [Act.put,List.setIfInBounds_toArray,List.set_cons_zero,List.set_cons_succ]
  refine wpAnyH_ready (rs:=[10]) (by kernel_rfl) (by simp) (AllReadyH.cons (o:={ dst:=none,op:=Op.store 26 (.tmp 46) (.tmp 45),type:=_,pos:=_,after:=_,guard:=_ }) rfl (fun K hK=>?_) AllReadyH.nil)
  have q1:w9.cell? ⟨T8,m,none⟩ = some (.slice qv ln cv):=(blk_c HT9.out m).trans htt
  have q2:w9.frozen? ⟨T8,m,none⟩ = false:=blk_f HT9.out m
  clear hHeld
  go_simp
  refine hK.out _ _ (by show (w9.setCell ⟨T8,m,none⟩ _).heap[Y]? = _;rw [Below.heap_setCell _ _ _ _ hYT];exact HY9.out) (fun hHeld=>?_)
  clear hK K q1 q2
  try simp only [Act.put]
  refine wpAnyH_done (by kernel_rfl) ?_ _
  refine NoPanic.normal ?_
  exact HX.out _ _ _ _ _ _ _ _ _ _ g cc w9 HOW.out HG9.out HLI.out HLT.out
end Go.Proofs.YtbbfcbodhmeanaaGreatDoor



namespace Go.Proofs.YtbbfcbodhmeanaaGreatDoor
open Go.RowKit
def smallC (c:UInt8):Bool:=decide (97≤c.toNat) && decide (c.toNat≤122)
def nameC (c:UInt8):Bool:=smallC c || (decide (48≤c.toNat) && decide (c.toNat≤57)) || decide (c.toNat = 46)
def mayN (s:List UInt8):Bool:=match s with
 | []=>false
 | c::t=>decide (t.length + 1≤30) && smallC c && (c::t).all nameC
theorem mayN_cons (c:UInt8) (t:List UInt8):mayN (c::t) = (decide (t.length + 1≤30) && smallC c && (c::t).all nameC):=rfl
def oddR (x:Nat):Bool:=!(decide (97≤x) && decide (x≤122)) && (decide (x < 48) || decide (57 < x)) && decide (x ≠ 46)
theorem isSmall_any (x:Nat) (hx:x≤1114111) (w:World) :
  Calls Tryz.prog 117 #[.int .i32 (x:Int)] w fun e w'=>e = .returned (.bool (decide (97≤x) && decide (x≤122)))∧w' = w:=by
 by_cases h1:97≤x
 ·have e1:(97:Int)≤(x:Int):=by omega
  by_cases h2:x≤122
  ·have e2:(x:Int)≤122:=by omega
   have HO:Hid ((decide (97≤x) && decide (x≤122)) = true):=by unfold Hid;simp [h1,h2]
   go_enter Tryz.func117,Tryz.ntmps117
   go_wp2
   go_ret
   exact ⟨by rw [HO.out];rfl,rfl⟩
  ·have e2:decide ((x:Int)≤122) = false:=by simp;omega
   have HO:Hid ((decide (97≤x) && decide (x≤122)) = false):=by unfold Hid;simp;omega
   go_enter Tryz.func117,Tryz.ntmps117
   go_wp2
   go_ret
   exact ⟨by rw [HO.out];rfl,rfl⟩
 ·have e1:decide ((97:Int)≤(x:Int)) = false:=by simp;omega
  have HO:Hid ((decide (97≤x) && decide (x≤122)) = false):=by unfold Hid;simp;omega
  go_enter Tryz.func117,Tryz.ntmps117
  go_wp2
  go_ret
  exact ⟨by rw [HO.out];rfl,rfl⟩
theorem oddR_any (x:Nat) (hx:x≤1114111) (w:World) :
  Calls Tryz.prog 119 #[.int .i32 (x:Int)] w fun e w'=>e = .returned (.bool (oddR x))∧∃ q,w' = w.drewN q:=by
 have C:Hid (∀ W,Calls Tryz.prog 117 #[.int .i32 (x:Int)] W fun e w'=>e = .returned (.bool (decide (97≤x) && decide (x≤122)))∧w' = W):=fun W=>isSmall_any x hx W
 cases hs:(decide (97≤x) && decide (x≤122)) with
 | true =>
  rw [hs] at C
  have HO:Hid (oddR x = false):=by unfold Hid oddR;rw [hs];rfl
  clear hs
  go_enter Tryz.func119,Tryz.ntmps119
  go_wp2_with fail
  refine (C.out _).mono ?_
  rintro e w' ⟨rfl,hw'⟩
  have hw'':=hw'.symm
  subst hw''
  go_wp2
  go_ret
  exact ⟨by rw [HO.out];rfl,0,rfl⟩
 | false =>
  rw [hs] at C
  have HO:Hid (oddR x = ((decide ((x:Int) < 48) || decide (57 < (x:Int))) && decide ((x:Int) ≠ 46))):=by
   unfold Hid oddR
   rw [hs]
   have a1:decide ((x:Int) < 48) = decide (x < 48):=decide_eq_decide.2 (by omega)
   have a2:decide (57 < (x:Int)) = decide (57 < x):=decide_eq_decide.2 (by omega)
   have a3:decide ((x:Int) ≠ 46) = decide (x ≠ 46):=decide_eq_decide.2 (by omega)
   rw [a1,a2,a3]
   rfl
  clear hs
  go_enter Tryz.func119,Tryz.ntmps119
  go_wp2_with fail
  refine (C.out _).mono ?_
  rintro e w' ⟨rfl,hw'⟩
  have hw'':=hw'.symm
  subst hw''
  go_wp2
  all_goals (
   go_ret
   refine ⟨ret_bool ?_,0,rfl⟩
   rw [HO.out,Bool.eq_iff_iff]
   simp
   try omega)
theorem odd_func (s:ByteArray) (w:World) :
  Calls Tryz.prog 118 #[.string s,.func (Fn.func 119) #[] #[]] w fun e w'=>e = .returned (.bool (s.data.toList.any fun c=>oddR c.toNat))∧Below w.heap.size w w':=by
 refine (Tryz.strings_ContainsFunc_runes 119 #[] (enters_of Tryz.func119 (by kernel_rfl) rfl) oddR s w (fun W x hx _=>oddR_any x hx W)).mono ?_
 rintro e w' ⟨rfl,hb⟩
 refine ⟨?_,hb⟩
 rw [show Lib.idxFunc oddR true s = Lib.idxFuncFrom oddR true s s.size 0 from rfl,idx_bytes oddR s (.inl fun x hx=>by unfold oddR;simp;omega) s.size 0 (by omega)]
 rfl
theorem any_odd (l:List UInt8):(!(l.any fun c=>oddR c.toNat)) = l.all nameC:=by
 rw [List.not_any_eq_all_not]
 congr 1
 funext c
 unfold oddR nameC smallC
 rw [Bool.eq_iff_iff]
 simp
set_option maxHeartbeats 1000000 in
theorem may_any (s:ByteArray) (hs:s.size≤maxLen) (w:World) :
  Calls Tryz.prog 69 #[.string s] w fun e w'=>e = .returned (.bool (mayN s.data.toList))∧Below w.heap.size w w':=by
 unfold maxLen at hs
 have hle:=Lib.size_eq s
 have hemp:s.toList.isEmpty = s.data.toList.isEmpty:=by rw [ByteArray.toList_eq]
 cases hl:s.data.toList with
 | nil =>
  rw [hl] at hemp hle
  have HN:Hid (mayN [] = false):=rfl
  have h0:s.toList.isEmpty = true:=hemp
  clear hl hle hemp
  go_enter Tryz.func69,Tryz.ntmps69
  go_wp2
  go_ret
  exact ⟨by rw [HN.out];rfl,Below.refl _ _⟩
 | cons c t =>
  rw [hl] at hemp hle
  have h0:s.toList.isEmpty = false:=hemp
  rw [List.length_cons] at hle
  by_cases h30:s.size≤30
  ·have h30':¬ (30:Int) < (s.size:Int):=by omega
   have h0s:0 < s.size:=by omega
   have h0i:(0:Int) < (s.size:Int):=by omega
   have hc0:s[0]'h0s = c:=by
    have h1:s.data.toList[0]'(by rw [hl];simp) = c:=by simp only [hl];rfl
    exact h1
   have CS:Hid (∀ W,Calls Tryz.prog 117 #[.int .i32 (c.toNat:Int)] W fun e w'=>e = .returned (.bool (smallC c))∧w' = W):=fun W=>isSmall_any c.toNat (by have:=UInt8.toNat_lt c;omega) W
   have CO:Hid (∀ w,Calls Tryz.prog 118 #[.string s,.func (Fn.func 119) #[] #[]] w fun e w'=>e = .returned (.bool (s.data.toList.any fun c=>oddR c.toNat))∧Below w.heap.size w w'):=fun w=>odd_func s w
   have hcb:=UInt8.toNat_lt c
   have hwr:IntKind.i32.wrap (c.toNat:Int) = (c.toNat:Int):=by rw [IntKind.wrap_i32];omega
   have HN:Hid (mayN (c::t) = (smallC c && !(s.data.toList.any fun c=>oddR c.toNat))):=by
    unfold Hid
    rw [any_odd,hl]
    rw [mayN_cons,decide_eq_true (by omega:t.length + 1≤30)]
    rfl
   generalize (s.data.toList.any fun c=>oddR c.toNat) = V at *
   generalize smallC c = U at *
   clear hl hle hemp
   go_enter Tryz.func69,Tryz.ntmps69
   go_wp2_with fail
   refine (CS.out _).mono ?_
   rintro e w' ⟨rfl,hw'⟩
   have hw'':=hw'.symm
   subst hw''
   cases U with
   | false =>
    go_wp2_with fail
    go_ret
    exact ⟨by rw [HN.out];rfl,Below.refl _ _⟩
   | true =>
    go_wp2_with fail
    refine (CO.out _).mono ?_
    rintro e w2 ⟨rfl,hb2⟩
    go_wp2_with fail
    go_ret
    exact ⟨by rw [HN.out];cases V <;> rfl,hb2⟩
  ·have h30':(30:Int) < (s.size:Int):=by omega
   have HN:Hid (mayN (c::t) = false):=by unfold Hid;rw [mayN_cons,decide_eq_false (by omega)];rfl
   clear hl hle hemp
   go_enter Tryz.func69,Tryz.ntmps69
   go_wp2
   go_ret
   exact ⟨by rw [HN.out];rfl,Below.refl _ _⟩
end Go.Proofs.YtbbfcbodhmeanaaGreatDoor



namespace Go.Proofs.YtbbfcbodhmeanaaGreatDoor
open Go.RowKit
abbrev NM:=Int × ByteArray
def nm0:NM:=(0,⟨#[]⟩)
def checkN (parts:Int):Int→List (List UInt8)→List NM→Nat
 | _,_,[]=>0
 | last,seen,n::l=>if n.1 < 0 ∨ parts≤n.1 then 5 else if mayN n.2.data.toList = false then 1 else if seen.contains n.2.data.toList = true ∨ n.1≤last then 6 else checkN parts n.1 (n.2.data.toList::seen) l
def NmRow (w:World) (p:Option Addr) (l:List NM):Prop:=l ≠ []→∃ b o,p = some ⟨b,o,none⟩∧∀ i,i < l.length→w.cell? ⟨b,o + i * 2,none⟩ = some (.int .i64 (l.getD i nm0).1)∧w.cell? ⟨b,o + i * 2 + 1,none⟩ = some (.string (l.getD i nm0).2)
theorem NmRow.below {w w':World} {p:Option Addr} {l:List NM} (h:NmRow w p l) (hb:Below w.heap.size w w'):NmRow w' p l:=by
 intro hne
 obtain ⟨b,o,e,hc⟩:=h hne
 refine ⟨b,o,e,fun i hi=>?_⟩
 obtain ⟨c0,c1⟩:=hc i hi
 have hl:=World.block_lt_of_cell? w _ c0
 exact ⟨(hb.cell (p:=⟨b,o + i * 2,none⟩) hl).trans c0,(hb.cell (p:=⟨b,o + i * 2 + 1,none⟩) hl).trans c1⟩
def NLen (l:List NM):Prop:=l.length≤maxLen∧∀ n ∈ l,-9223372036854775808≤n.1∧n.1≤9223372036854775807∧n.2.size≤maxLen
theorem NLen.at {l:List NM} (h:NLen l) (i:Nat) (hi:i < l.length):-9223372036854775808≤(l.getD i nm0).1∧(l.getD i nm0).1≤9223372036854775807∧(l.getD i nm0).2.size≤maxLen:=by
 rw [List.getD_eq_getElem?_getD,List.getElem?_eq_getElem hi]
 exact h.2 _ (List.getElem_mem hi)
theorem check_at (parts last:Int) (seen:List (List UInt8)) (l:List NM) (k:Nat) (hk:k < l.length):checkN parts last seen (l.drop k) = if (l.getD k nm0).1 < 0 ∨ parts≤(l.getD k nm0).1 then 5 else if mayN (l.getD k nm0).2.data.toList = false then 1 else if seen.contains (l.getD k nm0).2.data.toList = true ∨ (l.getD k nm0).1≤last then 6 else checkN parts (l.getD k nm0).1 ((l.getD k nm0).2.data.toList::seen) (l.drop (k + 1)):=by
 rw [List.drop_eq_getElem_cons hk,checkN,List.getD_eq_getElem?_getD,List.getElem?_eq_getElem hk]
 rfl
theorem count_some {seen:List (List UInt8)} {x:List UInt8} (h:seen.contains x = true):0 < seen.count x:=List.count_pos_iff.2 (by simpa using h)
theorem count_no {seen:List (List UInt8)} {x:List UInt8} (h:seen.contains x = false):seen.count x = 0:=List.count_eq_zero.2 (by simpa using h)
end Go.Proofs.YtbbfcbodhmeanaaGreatDoor



namespace Go.Proofs.YtbbfcbodhmeanaaGreatDoor
theorem replaceK_le (old new:List UInt8) (hl:new.length≤old.length):∀ (k:Nat) (s:List UInt8),(Lib.replaceK old new k s).length≤s.length
 | 0,s=>by rw [Lib.replaceK];exact Nat.le_refl _
 | k + 1,s=>by
  rcases Lib.index_spec s old with ⟨hi,_⟩ | ⟨i,hi,_,_,_⟩
  ·rw [Lib.replaceK,hi]
   simp
  ·rw [Lib.replaceK_hit old new k s i hi]
   have h1:=replaceK_le old new hl k (s.drop (i + old.length))
   have h2:=Lib.index_room s old (by rw [hi];omega)
   rw [hi] at h2
   rw [List.length_drop] at h1
   rw [List.length_append,List.length_append,List.length_take]
   omega
theorem unamp_le (s:List UInt8):(unamp s).length≤s.length:=by
 unfold unamp Lib.replaceAll
 exact replaceK_le ampL [38] (by decide) _ s
end Go.Proofs.YtbbfcbodhmeanaaGreatDoor



import Derived.Test.YtbbfcbodhmeanaaGreatDoorXrewritesays43
namespace Go.Proofs.YtbbfcbodhmeanaaGreatDoor
open Go.RowKit
theorem zero_str (w:World):(zeroValue 9).run Tryz.prog w = .ok (.string ⟨#[]⟩) w:=by kernel_rfl
theorem zero_strs (w:World):(zeroValue 26).run Tryz.prog w = .ok (.slice none 0 0) w:=by kernel_rfl
set_option maxRecDepth 1000000 in
set_option maxHeartbeats 8000000 in
theorem rnL1 (V:World) (na:Option Addr) (nn nc:Nat) (ns:List NM) (en:nn = ns.length) (hnl:NLen ns) (hnr:NmRow V na ns) (cbk:Nat) (hcb:V.heap.size = cbk) (c0 c1 c2 c3 c4 c5 c6 c7 c8 c9 c10 c12 c13 c14 c15 c16 c17 c18 c19 c20 c21 c22 c23 c24 c25 c26 c27 c28 c29 c30 c31 c32 c33 c34 c35 c36 c37 c38 c39 c40 c41 c42 c43 c44 c45 c46 c47 c48 c49 c50 c51 c52 c53 c54 c58 c59 c60 c61 c62 c63 c64 c65 c66 c67 c68 c69 c70 c71 c72 c73 c74 c75 c76 c77 c78 c79 c80 c81 c82 c83 c84 c85 c86 c87 c88 c89 c90 c91 c92 c93 c94 c95 c96 c97 c98 c99:Value) (Q:Exit→Act→World→Prop)
  (hexit:∀ u13 u57 u58 u59 u60 u61 u62 u63 u64 u65 u66:Value,∀ w':World,Below V.heap.size V w'→MapV w' cbk nn (.string ⟨#[]⟩) (fun i=>.string (callI ns i))→Q (.exit 0) ⟨(c0::c1::c2::c3::c4::c5::c6::c7::c8::c9::c10::.map (some cbk)::c12::u13::c14::c15::c16::c17::c18::c19::c20::c21::c22::c23::c24::c25::c26::c27::c28::c29::c30::c31::c32::c33::c34::c35::c36::c37::c38::c39::c40::c41::c42::c43::c44::c45::c46::c47::c48::c49::c50::c51::c52::c53::c54::.slice na nn nc::.int .i64 (nn:Int)::u57::u58::u59::u60::u61::u62::u63::u64::u65::u66::c67::c68::c69::c70::c71::c72::c73::c74::c75::c76::c77::c78::c79::c80::c81::c82::c83::c84::c85::c86::c87::c88::c89::c90::c91::c92::c93::c94::c95::c96::c97::c98::c99::[]).toArray,[]⟩ w') :
  Code.wp Tryz.prog (Code.loop (loopAt Tryz.f22 0)) Q ⟨(c0::c1::c2::c3::c4::c5::c6::c7::c8::c9::c10::.map (some cbk)::c12::c13::c14::c15::c16::c17::c18::c19::c20::c21::c22::c23::c24::c25::c26::c27::c28::c29::c30::c31::c32::c33::c34::c35::c36::c37::c38::c39::c40::c41::c42::c43::c44::c45::c46::c47::c48::c49::c50::c51::c52::c53::c54::.slice na nn nc::.int .i64 (nn:Int)::.int .i64 0::c58::c59::c60::c61::c62::c63::c64::c65::c66::c67::c68::c69::c70::c71::c72::c73::c74::c75::c76::c77::c78::c79::c80::c81::c82::c83::c84::c85::c86::c87::c88::c89::c90::c91::c92::c93::c94::c95::c96::c97::c98::c99::[]).toArray,[]⟩ (V.alloc (.map #[] 0)):=by
 have HX:Hid _:=hexit
 have HR:Hid (∀ W,Below V.heap.size V W→NmRow W na ns):=fun W h=>hnr.below h
 have HN:Hid (nn = ns.length):=en
 have HNL:Hid (NLen ns):=hnl
 have hn63:nn≤9223372036854775807:=by have:=hnl.1;unfold maxLen at this;omega
 have HM0:Hid (MapV (V.alloc (.map #[] 0)) cbk 0 (.string ⟨#[]⟩) (fun i=>.string (callI (ns.take 0) i))):=by rw [← hcb];exact mapV_made V _
 have hb0:Below V.heap.size V (V.alloc (.map #[] 0)):=(Below.refl _ _).alloc (Nat.le_refl _) _
 have HCB:Hid (V.heap.size = cbk):=hcb
 clear hexit en hnl hnr hcb
 conv=>arg 2;arg 1;whnf
 go_loopw [57] (fun iv wr=>∃ k:Nat,k≤nn∧iv = .int .i64 k∧Hid (Below V.heap.size V wr)∧Hid (MapV wr cbk k (.string ⟨#[]⟩) (fun i=>.string (callI (ns.take k) i)))) (fun iv _=>nn - (intOf iv).toNat)
 case atStart=>exact ⟨0,Nat.zero_le _,rfl,hb0,HM0⟩
 case round =>
  obtain ⟨k,hk,rfl,HB,HM⟩:=hrel
  clear HM0 hb0
  by_cases hlt:k < nn
  ·have hlz:(k:Int) < (nn:Int):=by omega
   have hkl:k < ns.length:=by rw [← HN.out];exact hlt
   obtain ⟨b,o,hab,hc⟩:=HR.out wr HB.out (fun e=>by rw [e] at hkl;cases hkl)
   subst hab
   obtain ⟨d0,d1⟩:=hc k hkl
   obtain ⟨hi1,hi2,hsz⟩:=HNL.out.at k hkl
   have HTK:Hid (∀ i,callI (ns.take (k + 1)) i = if i = (ns.getD k nm0).1 then (ns.getD k nm0).2 else callI (ns.take k) i):=fun i=>by
    rw [List.take_add_one,List.getElem?_eq_getElem hkl]
    show callI (ns.take k ++ [ns[k]]) i = _
    rw [callI_snoc,List.getD_eq_getElem?_getD,List.getElem?_eq_getElem hkl]
    rfl
   clear hc hkl
   generalize ns.getD k nm0 = x at *
   obtain ⟨m,s⟩:=x
   simp only at d0 d1 hi1 hi2 hsz HTK
   obtain ⟨Wx,hWx⟩:∃ W,W = wr.alloc (.cells #[.int .i64 m,.string s] 56):=⟨_,rfl⟩
   have hbx:Below wr.heap.size wr Wx:=by rw [hWx];exact (Below.refl _ _).alloc (Nat.le_refl _) _
   have kx:Wx.heap[wr.heap.size]? = some (.cells #[.int .i64 m,.string s] 56):=by rw [hWx];exact blk_new _ _
   have HKX:Hid (Wx.heap[wr.heap.size]? = some (.cells #[.int .i64 m,.string s] 56)):=kx
   have HMX:Hid (MapV Wx cbk k (.string ⟨#[]⟩) (fun i=>.string (callI (ns.take k) i))):=HM.out.move (hbx.block _ HM.out.lt)
   have HBX:Hid (Below V.heap.size V Wx):=HB.out.trans (hbx.mono HB.out.size)
   have HWX:Hid (Wx = wr.alloc (.cells #[.int .i64 m,.string s] 56)):=hWx
   clear hWx hbx kx HB HM
   go_upto_region 15 with fail
   rw [← HWX.out]
   clear HWX d0 d1
   obtain ⟨Y,hY⟩:∃ Y,wr.heap.size = Y:=⟨_,rfl⟩
   rw [hY] at HKX ⊢
   clear hY
   have z0:Wx.cell? ⟨Y,0,none⟩ = some (.int .i64 m):=(blk_c HKX.out 0).trans rfl
   have z1:Wx.cell? ⟨Y,1,none⟩ = some (.string s):=(blk_c HKX.out 1).trans rfl
   obtain ⟨w7,hup,hm7,hg7⟩:=HMX.out.put Tryz.underlying105 (by unfold maxLen;omega) m hi1 hi2 (.string s)
   have HB7:Hid (Below V.heap.size V w7):=HBX.out.grown hg7 HBX.out.size (fun j hj=>by have:=Option.some.inj hj;have:=HCB.out;omega)
   have HM7:Hid (MapV w7 cbk (k + 1) (.string ⟨#[]⟩) (fun i=>.string (callI (ns.take (k + 1)) i))):=by
    have e:(fun i=>Value.string (callI (ns.take (k + 1)) i)) = fun i=>if i = m then Value.string s else Value.string (callI (ns.take k) i):=funext fun i=>by
     rw [HTK.out i]
     split <;> rfl
    unfold Hid
    rw [e]
    exact hm7
   clear hm7 hg7 HMX HBX HKX HTK
   go_wp2_with fail
   go_roundw
   case rel=>exact ⟨k + 1,by omega,by go_num,HB7,HM7⟩
   case measure=>simp [intOf];omega
  ·obtain rfl:k = nn:=by omega
   have hlz:¬ (k:Int) < (k:Int):=by omega
   have HF:Hid (MapV wr cbk k (.string ⟨#[]⟩) (fun i=>.string (callI ns i))):=by
    have h:=HM.out
    rw [List.take_of_length_le (by rw [← HN.out];exact Nat.le_refl _)] at h
    exact h
   clear HM
   go_wp2_with fail
   exact HX.out _ _ _ _ _ _ _ _ _ _ _ _ HB.out HF.out
end Go.Proofs.YtbbfcbodhmeanaaGreatDoor



namespace Go.Proofs.YtbbfcbodhmeanaaGreatDoor
open Go.RowKit
set_option maxRecDepth 1000000 in
set_option maxHeartbeats 4000000 in
theorem rnR21 (W:World) (Y TB mb cbk B n nc:Nat) (m fd:Int) (hm1:-9223372036854775808≤m) (hm2:m≤9223372036854775807) (hf1:-9223372036854775808≤fd) (hf2:fd≤9223372036854775807) (cl:Int→ByteArray) (TX:ByteArray) (hTX:cl fd = TX) (vf:Int→Value) (qv:Option Addr) (ln cv:Nat) (hvf:vf m = .slice qv ln cv) (x1 x2 x3 x4:Value) (xs:List Value) (hY:W.heap[Y]? = some (.cells #[.int .i64 m,x1,x2,x3,x4,.int .i64 fd] 42)) (hTB:W.heap[TB]? = some (.cells #[.map (some mb)] 106)) (hmb:MapV W mb n (.slice none 0 0) vf) (hcb:MapV W cbk nc (.string ⟨#[]⟩) (fun i=>.string (cl i))) (hO:W.ownsRow B 9 1 (.slice qv ln cv) ln xs) (hB:B≤W.heap.size) (hln:ln≤1000) (hn:n≤1000000) (hne:TB ≠ mb∧Y ≠ mb∧cbk ≠ mb) (hno:(Value.slice qv ln cv).ownBlock ≠ some TB∧(Value.slice qv ln cv).ownBlock ≠ some Y∧(Value.slice qv ln cv).ownBlock ≠ some cbk∧(Value.slice qv ln cv).ownBlock ≠ some mb) (c0 c1 c2 c3 c4 c5 c6 c7 c8 c9 c10 c12 c13 c15 c17 c18 c19 c20 c21 c22 c23 c24 c25 c26 c27 c28 c29 c30 c31 c32 c33 c34 c35 c36 c37 c38 c39 c40 c41 c42 c43 c44 c45 c46 c47 c48 c49 c50 c51 c52 c53 c54 c55 c56 c57 c58 c59 c60 c61 c62 c63 c64 c65 c66 c67 c68 c69 c70 c71 c72 c73 c74 c75 c76 c77 c78 c79 c80 c81 c82 c83 c84 c85 c86 c87 c88 c89 c90 c91 c92 c93 c94 c95 c96 c97 c98 c99:Value) (Q:Exit→Act→World→Prop)
  (hexit:∀ u74 u75 u76 u77 u78 u79 u80 u81 u82 u83 u84 u85 u86:Value,∀ (g cc:Nat) (w9 w':World),w9.ownsRow B 9 1 (.slice (some ⟨g,0,none⟩) (ln + 1) cc) (ln + 1) (xs ++ [.string TX])→(W.alloc (.cells #[.string TX] 9)).drew.grownBy w9 (Value.slice qv ln cv).ownBlock→((Value.slice qv ln cv).ownBlock = some g ∨ g = W.heap.size + 1)→g < w9.heap.size→MapV w' mb (n + 1) (.slice none 0 0) (fun j=>if j = m then .slice (some ⟨g,0,none⟩) (ln + 1) cc else vf j)→w9.grownBy w' (some mb)→Q .normal ⟨(c0::c1::c2::c3::c4::c5::c6::c7::c8::c9::c10::.map (some cbk)::c12::c13::.pointer (some ⟨TB,0,none⟩)::c15::.pointer (some ⟨Y,0,none⟩)::c17::c18::c19::c20::c21::c22::c23::c24::c25::c26::c27::c28::c29::c30::c31::c32::c33::c34::c35::c36::c37::c38::c39::c40::c41::c42::c43::c44::c45::c46::c47::c48::c49::c50::c51::c52::c53::c54::c55::c56::c57::c58::c59::c60::c61::c62::c63::c64::c65::c66::c67::c68::c69::c70::c71::c72::c73::u74::u75::u76::u77::u78::u79::u80::u81::u82::u83::u84::u85::u86::c87::c88::c89::c90::c91::c92::c93::c94::c95::c96::c97::c98::c99::[]).toArray,[]⟩ w') :
  Code.wp Tryz.prog (regAt Tryz.f22 21) Q ⟨(c0::c1::c2::c3::c4::c5::c6::c7::c8::c9::c10::.map (some cbk)::c12::c13::.pointer (some ⟨TB,0,none⟩)::c15::.pointer (some ⟨Y,0,none⟩)::c17::c18::c19::c20::c21::c22::c23::c24::c25::c26::c27::c28::c29::c30::c31::c32::c33::c34::c35::c36::c37::c38::c39::c40::c41::c42::c43::c44::c45::c46::c47::c48::c49::c50::c51::c52::c53::c54::c55::c56::c57::c58::c59::c60::c61::c62::c63::c64::c65::c66::c67::c68::c69::c70::c71::c72::c73::c74::c75::c76::c77::c78::c79::c80::c81::c82::c83::c84::c85::c86::c87::c88::c89::c90::c91::c92::c93::c94::c95::c96::c97::c98::c99::[]).toArray,[]⟩ W:=by
 have HX:Hid _:=hexit
 clear hexit
 conv=>arg 2;whnf
 have HCL:Hid (∀ V:World,(V.heap[TB]? = W.heap[TB]?∧V.heap[Y]? = W.heap[Y]?∧V.heap[cbk]? = W.heap[cbk]?)→V.cell? ⟨TB,0,none⟩ = some (.map (some mb))∧V.cell? ⟨Y,0,none⟩ = some (.int .i64 m)∧V.cell? ⟨Y,5,none⟩ = some (.int .i64 fd)∧(Instr.lookup 105 (.map (some cbk)) (.int .i64 fd) false).run Tryz.prog V = .ok (.string TX) V):=fun V h=>⟨(blk_c (h.1.trans hTB) 0).trans rfl,(blk_c (h.2.1.trans hY) 0).trans rfl,(blk_c (h.2.1.trans hY) 5).trans rfl,by have:=(hcb.move h.2.2).look Tryz.underlying105 (zero_str V) fd hf1 hf2;rw [hTX] at this;exact this⟩
 have HO:Hid (W.ownsRow B 9 1 (.slice qv ln cv) ln xs):=hO
 have HMB:Hid (MapV W mb n (.slice none 0 0) vf):=hmb
 have HLT:Hid (TB < W.heap.size∧Y < W.heap.size∧cbk < W.heap.size∧mb < W.heap.size):=⟨(Array.getElem?_eq_some_iff.1 hTB).1,(Array.getElem?_eq_some_iff.1 hY).1,hcb.lt,hmb.lt⟩
 have HNE:Hid (TB ≠ mb∧Y ≠ mb∧cbk ≠ mb):=hne
 have HNO:Hid ((Value.slice qv ln cv).ownBlock ≠ some TB∧(Value.slice qv ln cv).ownBlock ≠ some Y∧(Value.slice qv ln cv).ownBlock ≠ some cbk∧(Value.slice qv ln cv).ownBlock ≠ some mb):=hno
 have HLK:Hid (∀ V:World,V.heap[mb]? = W.heap[mb]?→(Instr.lookup 106 (.map (some mb)) (.int .i64 m) false).run Tryz.prog V = .ok (.slice qv ln cv) V):=fun V h=>by have:=(hmb.move h).look Tryz.underlying106 (zero_strs V) m hm1 hm2;rw [hvf] at this;exact this
 have HAL:Hid (∀ b,b < W.heap.size→(W.alloc (.cells #[.string TX] 9)).heap[b]? = W.heap[b]?):=fun b hb=>Below.heap_alloc _ _ _ hb
 have hln1:ln + 1≤maxLen:=by unfold maxLen;omega
 have hln2:(ln + 1) * 16≤140737488355328:=by omega
 have hn1:n < maxLen:=by unfold maxLen;omega
 have hBs:B≤(W.alloc (.cells #[.string TX] 9)).heap.size:=by simp;omega
 have hszT:(W.alloc (.cells #[.string TX] 9)).heap.size = W.heap.size + 1:=by simp
 have hS0:W.drew.heap[TB]? = W.heap[TB]?∧W.drew.heap[Y]? = W.heap[Y]?∧W.drew.heap[cbk]? = W.heap[cbk]?:=⟨rfl,rfl,rfl⟩
 have HSA:Hid ((W.alloc (.cells #[.string TX] 9)).heap[TB]? = W.heap[TB]?∧(W.alloc (.cells #[.string TX] 9)).heap[Y]? = W.heap[Y]?∧(W.alloc (.cells #[.string TX] 9)).heap[cbk]? = W.heap[cbk]?):=⟨HAL.out TB HLT.out.1,HAL.out Y HLT.out.2.1,HAL.out cbk HLT.out.2.2.1⟩
 clear hO hmb hcb hne hno hTB hY hB hln hn hvf hTX
 refine wp_region_noPanic ?_
 refine wp_region_held_drew (S:=fun V=>(V.heap[TB]? = W.heap[TB]?∧V.heap[Y]? = W.heap[Y]?∧V.heap[cbk]? = W.heap[cbk]?)) (by kernel_rfl) hS0 (fun hHeld=>?_)
 refine wpAnyH_take (i:=0) (oi:={ dst:=some 74,op:=Op.load _ (.tmp 14),type:=_,pos:=_,after:=_,guard:=_ }) (v:=.map (some mb)) rfl (by kernel_rfl) (by kernel_rfl) (by kernel_rfl) (fun _ _ _ h=>h) (Or.inl ⟨by rfl,?_⟩) (by assumption) ?_
 ·intro W' hSW
  obtain ⟨b0,b1,b2,b3⟩:=HCL.out W' hSW
  clear hSW
  go_simp
 try simp only [Act.put,List.setIfInBounds_toArray,List.set_cons_zero,List.set_cons_succ]
 refine wpAnyH_take (i:=1) (oi:={ dst:=some 75,op:=Op.fieldAddr 42 (.tmp 16) 0,type:=_,pos:=_,after:=_,guard:=_ }) (v:=.pointer (some ⟨Y,0,none⟩)) rfl (by kernel_rfl) (by kernel_rfl) (by kernel_rfl) (fun _ _ _ h=>h) (Or.inl ⟨by rfl,?_⟩) (by assumption) ?_
 ·intro W' hSW
  obtain ⟨b0,b1,b2,b3⟩:=HCL.out W' hSW
  clear hSW
  go_simp
 try simp only [Act.put,List.setIfInBounds_toArray,List.set_cons_zero,List.set_cons_succ]
 refine wpAnyH_take (i:=2) (oi:={ dst:=some 76,op:=Op.load _ (.tmp 75),type:=_,pos:=_,after:=_,guard:=_ }) (v:=.int .i64 m) rfl (by kernel_rfl) (by kernel_rfl) (by kernel_rfl) (fun _ _ _ h=>h) (Or.inl ⟨by rfl,?_⟩) (by assumption) ?_
 ·intro W' hSW
  obtain ⟨b0,b1,b2,b3⟩:=HCL.out W' hSW
  clear hSW
  go_simp
 try simp only [Act.put,List.setIfInBounds_toArray,List.set_cons_zero,List.set_cons_succ]
 refine wpAnyH_take (i:=3) (oi:={ dst:=some 77,op:=Op.load _ (.tmp 14),type:=_,pos:=_,after:=_,guard:=_ }) (v:=.map (some mb)) rfl (by kernel_rfl) (by kernel_rfl) (by kernel_rfl) (fun _ _ _ h=>h) (Or.inl ⟨by rfl,?_⟩) (by assumption) ?_
 ·intro W' hSW
  obtain ⟨b0,b1,b2,b3⟩:=HCL.out W' hSW
  clear hSW
  go_simp
 try simp only [Act.put,List.setIfInBounds_toArray,List.set_cons_zero,List.set_cons_succ]
 refine wpAnyH_take (i:=4) (oi:={ dst:=some 78,op:=Op.fieldAddr 42 (.tmp 16) 0,type:=_,pos:=_,after:=_,guard:=_ }) (v:=.pointer (some ⟨Y,0,none⟩)) rfl (by kernel_rfl) (by kernel_rfl) (by kernel_rfl) (fun _ _ _ h=>h) (Or.inl ⟨by rfl,?_⟩) (by assumption) ?_
 ·intro W' hSW
  obtain ⟨b0,b1,b2,b3⟩:=HCL.out W' hSW
  clear hSW
  go_simp
 try simp only [Act.put,List.setIfInBounds_toArray,List.set_cons_zero,List.set_cons_succ]
 refine wpAnyH_take (i:=5) (oi:={ dst:=some 79,op:=Op.load _ (.tmp 78),type:=_,pos:=_,after:=_,guard:=_ }) (v:=.int .i64 m) rfl (by kernel_rfl) (by kernel_rfl) (by kernel_rfl) (fun _ _ _ h=>h) (Or.inl ⟨by rfl,?_⟩) (by assumption) ?_
 ·intro W' hSW
  obtain ⟨b0,b1,b2,b3⟩:=HCL.out W' hSW
  clear hSW
  go_simp
 try simp only [Act.put,List.setIfInBounds_toArray,List.set_cons_zero,List.set_cons_succ]
 refine wpAnyH_take (i:=7) (oi:={ dst:=some 81,op:=Op.move (.tmp 11),type:=_,pos:=_,after:=_,guard:=_ }) (v:=.map (some cbk)) rfl (by kernel_rfl) (by kernel_rfl) (by kernel_rfl) (fun _ _ _ h=>h) (Or.inl ⟨by rfl,?_⟩) (by assumption) ?_
 ·intro W' hSW
  obtain ⟨b0,b1,b2,b3⟩:=HCL.out W' hSW
  clear hSW
  go_simp
 try simp only [Act.put,List.setIfInBounds_toArray,List.set_cons_zero,List.set_cons_succ]
 refine wpAnyH_take (i:=8) (oi:={ dst:=some 82,op:=Op.fieldAddr 42 (.tmp 16) 3,type:=_,pos:=_,after:=_,guard:=_ }) (v:=.pointer (some ⟨Y,5,none⟩)) rfl (by kernel_rfl) (by kernel_rfl) (by kernel_rfl) (fun _ _ _ h=>h) (Or.inl ⟨by rfl,?_⟩) (by assumption) ?_
 ·intro W' hSW
  obtain ⟨b0,b1,b2,b3⟩:=HCL.out W' hSW
  clear hSW
  go_simp
 try simp only [Act.put,List.setIfInBounds_toArray,List.set_cons_zero,List.set_cons_succ]
 refine wpAnyH_take (i:=9) (oi:={ dst:=some 83,op:=Op.load _ (.tmp 82),type:=_,pos:=_,after:=_,guard:=_ }) (v:=.int .i64 fd) rfl (by kernel_rfl) (by kernel_rfl) (by kernel_rfl) (fun _ _ _ h=>h) (Or.inl ⟨by rfl,?_⟩) (by assumption) ?_
 ·intro W' hSW
  obtain ⟨b0,b1,b2,b3⟩:=HCL.out W' hSW
  clear hSW
  go_simp
 try simp only [Act.put,List.setIfInBounds_toArray,List.set_cons_zero,List.set_cons_succ]
 refine wpAnyH_take (i:=10) (oi:={ dst:=some 84,op:=Op.lookup 105 (.tmp 81) (.tmp 83) false,type:=_,pos:=_,after:=_,guard:=_ }) (v:=.string TX) rfl (by kernel_rfl) (by kernel_rfl) (by kernel_rfl) (fun _ _ _ h=>h) (Or.inl ⟨by rfl,?_⟩) (by assumption) ?_
 ·intro W' hSW
  obtain ⟨b0,b1,b2,b3⟩:=HCL.out W' hSW
  clear hSW
  go_simp
 try simp only [Act.put,List.setIfInBounds_toArray,List.set_cons_zero,List.set_cons_succ]
 refine wpAnyH_ready (rs:=[6,11]) (by kernel_rfl) (by simp) ?_
 refine AllReadyH.cons (o:={ dst:=some 80,op:=Op.lookup 106 (.tmp 77) (.tmp 79) false,type:=_,pos:=_,after:=_,guard:=_ }) rfl (fun K hK=>?_) (AllReadyH.cons (o:={ dst:=some 85,op:=Op.buildSlice 26 1 _,type:=_,pos:=_,after:=_,guard:=_ }) rfl (fun K hK=>?_) AllReadyH.nil)
 ·have z1:=HLK.out W.drew rfl
  clear hHeld
  go_simp
  clear z1
  refine hK.out _ _ hS0 (fun hHeld=>?_)
  clear hK K
  try simp only [Act.put,List.setIfInBounds_toArray,List.set_cons_zero,List.set_cons_succ]
  refine wpAnyH_ready (rs:=[11]) (by kernel_rfl) (by simp) (AllReadyH.cons (o:={ dst:=some 85,op:=Op.buildSlice 26 1 _,type:=_,pos:=_,after:=_,guard:=_ }) rfl (fun K hK=>?_) AllReadyH.nil)
  clear hHeld
  go_simp
  refine hK.out _ _ HSA.out (fun hHeld=>?_)
  clear hK K
  try simp only [Act.put,List.setIfInBounds_toArray,List.set_cons_zero,List.set_cons_succ]
  refine wpAnyH_ready (rs:=[12]) (by kernel_rfl) (by simp) (AllReadyH.cons (o:={ dst:=some 86,op:=Op.call _,type:=_,pos:=_,after:=_,guard:=_ }) rfl (fun K hK=>?_) AllReadyH.nil)
  obtain ⟨i0,hi,hz0,hz1,hz2⟩:=info_parts info_strT
  refine step_append_lies _ rfl (.tmp 80) (.tmp 85) 26 rfl B 9 i0 (.string ⟨#[]⟩) 1 16 Tryz.underlying26 hi hz0 hz1 hz2 rfl (by decide) (.slice qv ln cv) ln xs rfl (HO.out.alloc _) ⟨W.heap.size,0,none⟩ 1 1 [.string TX] rfl rfl (cell_loneT W _ _) (one_strT _) (by decide) hln1 hln2 hBs (W.heap.size + 1) hszT ?_
  intro g cc w9 own9 hg9 hlies hlt9
  clear hi hz0 hz1 hz2
  have hk9:∀ b,b < W.heap.size→(Value.slice qv ln cv).ownBlock ≠ some b→w9.heap[b]? = W.heap[b]?:=fun b hb hne=>by
   rw [hg9.block b (by show b < (W.alloc (.cells #[.string TX] 9)).heap.size;simp;omega) (fun e=>hne e.symm)]
   exact Below.heap_alloc _ _ _ hb
  have HS9:Hid (w9.heap[TB]? = W.heap[TB]?∧w9.heap[Y]? = W.heap[Y]?∧w9.heap[cbk]? = W.heap[cbk]?):=⟨hk9 TB HLT.out.1 HNO.out.1,hk9 Y HLT.out.2.1 HNO.out.2.1,hk9 cbk HLT.out.2.2.1 HNO.out.2.2.1⟩
  obtain ⟨w',hup,hm',hg'⟩:=(HMB.out.move (hk9 mb HLT.out.2.2.2 HNO.out.2.2.2)).put Tryz.underlying106 hn1 m hm1 hm2 (.slice (some ⟨g,0,none⟩) (ln + 1) cc)
  have hs9:W.heap.size≤w9.heap.size:=by have h:(W.alloc (.cells #[.string TX] 9)).heap.size≤w9.heap.size:=hg9.size;simp at h;omega
  have HS':Hid (w'.heap[TB]? = W.heap[TB]?∧w'.heap[Y]? = W.heap[Y]?∧w'.heap[cbk]? = W.heap[cbk]?):=⟨(hg'.block TB (by have:=HLT.out.1;omega) (fun e=>HNE.out.1 (Option.some.inj e))).trans HS9.out.1,(hg'.block Y (by have:=HLT.out.2.1;omega) (fun e=>HNE.out.2.1 (Option.some.inj e))).trans HS9.out.2.1,(hg'.block cbk (by have:=HLT.out.2.2.1;omega) (fun e=>HNE.out.2.2 (Option.some.inj e))).trans HS9.out.2.2⟩
  have HOW:Hid (w9.ownsRow B 9 1 (.slice (some ⟨g,0,none⟩) (ln + 1) cc) (ln + 1) (xs ++ [.string TX])):=own9
  have HG9:Hid _:=hg9
  have HLI:Hid _:=hlies
  have HL9:Hid (g < w9.heap.size):=hlt9
  have HM':Hid _:=hm'
  have HG':Hid (w9.grownBy w' (some mb)):=hg'
  clear own9 hg9 hlies hlt9 hk9 hm' hg' hs9
  refine hK.out _ _ HS9.out (fun hHeld=>?_)
  clear hK K
  try simp only [Act.put,List.setIfInBounds_toArray,List.set_cons_zero,List.set_cons_succ]
  refine wpAnyH_ready (rs:=[13]) (by kernel_rfl) (by simp) (AllReadyH.cons (o:={ dst:=none,op:=Op.mapUpdate 106 (.tmp 74) (.tmp 76) (.tmp 86),type:=_,pos:=_,after:=_,guard:=_ }) rfl (fun K hK=>?_) AllReadyH.nil)
  clear hHeld
  go_simp
  refine hK.out _ _ HS'.out (fun hHeld=>?_)
  clear hK K hup
  try simp only [Act.put]
  refine wpAnyH_done (by kernel_rfl) ?_ _
  refine NoPanic.normal ?_
  exact HX.out _ _ _ _ _ _ _ _ _ _ _ _ _ g cc w9 w' HOW.out HG9.out HLI.out HL9.out HM'.out HG'.out
 ·clear hHeld
  go_simp
  refine hK.out _ _ HSA.out (fun hHeld=>?_)
  clear hK K
  try simp only [Act.put,List.setIfInBounds_toArray,List.set_cons_zero,List.set_cons_succ]
  refine wpAnyH_ready (rs:=[6]) (by kernel_rfl) (by simp) (AllReadyH.cons (o:={ dst:=some 80,op:=Op.lookup 106 (.tmp 77) (.tmp 79) false,type:=_,pos:=_,after:=_,guard:=_ }) rfl (fun K hK=>?_) AllReadyH.nil)
  have z1:=HLK.out (W.alloc (.cells #[.string TX] 9)).drew (HAL.out mb HLT.out.2.2.2)
  clear hHeld
  go_simp
  clear z1
  refine hK.out _ _ HSA.out (fun hHeld=>?_)
  clear hK K
  try simp only [Act.put,List.setIfInBounds_toArray,List.set_cons_zero,List.set_cons_succ]
  refine wpAnyH_ready (rs:=[12]) (by kernel_rfl) (by simp) (AllReadyH.cons (o:={ dst:=some 86,op:=Op.call _,type:=_,pos:=_,after:=_,guard:=_ }) rfl (fun K hK=>?_) AllReadyH.nil)
  obtain ⟨i0,hi,hz0,hz1,hz2⟩:=info_parts info_strT
  refine step_append_lies _ rfl (.tmp 80) (.tmp 85) 26 rfl B 9 i0 (.string ⟨#[]⟩) 1 16 Tryz.underlying26 hi hz0 hz1 hz2 rfl (by decide) (.slice qv ln cv) ln xs rfl (HO.out.alloc _) ⟨W.heap.size,0,none⟩ 1 1 [.string TX] rfl rfl (cell_loneT W _ _) (one_strT _) (by decide) hln1 hln2 hBs (W.heap.size + 1) hszT ?_
  intro g cc w9 own9 hg9 hlies hlt9
  clear hi hz0 hz1 hz2
  have hk9:∀ b,b < W.heap.size→(Value.slice qv ln cv).ownBlock ≠ some b→w9.heap[b]? = W.heap[b]?:=fun b hb hne=>by
   rw [hg9.block b (by show b < (W.alloc (.cells #[.string TX] 9)).heap.size;simp;omega) (fun e=>hne e.symm)]
   exact Below.heap_alloc _ _ _ hb
  have HS9:Hid (w9.heap[TB]? = W.heap[TB]?∧w9.heap[Y]? = W.heap[Y]?∧w9.heap[cbk]? = W.heap[cbk]?):=⟨hk9 TB HLT.out.1 HNO.out.1,hk9 Y HLT.out.2.1 HNO.out.2.1,hk9 cbk HLT.out.2.2.1 HNO.out.2.2.1⟩
  obtain ⟨w',hup,hm',hg'⟩:=(HMB.out.move (hk9 mb HLT.out.2.2.2 HNO.out.2.2.2)).put Tryz.underlying106 hn1 m hm1 hm2 (.slice (some ⟨g,0,none⟩) (ln + 1) cc)
  have hs9:W.heap.size≤w9.heap.size:=by have h:(W.alloc (.cells #[.string TX] 9)).heap.size≤w9.heap.size:=hg9.size;simp at h;omega
  have HS':Hid (w'.heap[TB]? = W.heap[TB]?∧w'.heap[Y]? = W.heap[Y]?∧w'.heap[cbk]? = W.heap[cbk]?):=⟨(hg'.block TB (by have:=HLT.out.1;omega) (fun e=>HNE.out.1 (Option.some.inj e))).trans HS9.out.1,(hg'.block Y (by have:=HLT.out.2.1;omega) (fun e=>HNE.out.2.1 (Option.some.inj e))).trans HS9.out.2.1,(hg'.block cbk (by have:=HLT.out.2.2.1;omega) (fun e=>HNE.out.2.2 (Option.some.inj e))).trans HS9.out.2.2⟩
  have HOW:Hid (w9.ownsRow B 9 1 (.slice (some ⟨g,0,none⟩) (ln + 1) cc) (ln + 1) (xs ++ [.string TX])):=own9
  have HG9:Hid _:=hg9
  have HLI:Hid _:=hlies
  have HL9:Hid (g < w9.heap.size):=hlt9
  have HM':Hid _:=hm'
  have HG':Hid (w9.grownBy w' (some mb)):=hg'
  clear own9 hg9 hlies hlt9 hk9 hm' hg' hs9
  refine hK.out _ _ HS9.out (fun hHeld=>?_)
  clear hK K
  try simp only [Act.put,List.setIfInBounds_toArray,List.set_cons_zero,List.set_cons_succ]
  refine wpAnyH_ready (rs:=[13]) (by kernel_rfl) (by simp) (AllReadyH.cons (o:={ dst:=none,op:=Op.mapUpdate 106 (.tmp 74) (.tmp 76) (.tmp 86),type:=_,pos:=_,after:=_,guard:=_ }) rfl (fun K hK=>?_) AllReadyH.nil)
  clear hHeld
  go_simp
  refine hK.out _ _ HS'.out (fun hHeld=>?_)
  clear hK K hup
  try simp only [Act.put]
  refine wpAnyH_done (by kernel_rfl) ?_ _
  refine NoPanic.normal ?_
  exact HX.out _ _ _ _ _ _ _ _ _ _ _ _ _ g cc w9 w' HOW.out HG9.out HLI.out HL9.out HM'.out HG'.out
end Go.Proofs.YtbbfcbodhmeanaaGreatDoor



namespace Go.Proofs.YtbbfcbodhmeanaaGreatDoor
open Go.RowKit
structure TmAt (V:World) (TB mb:Nat) (tx:Int→List ByteArray) (v:Int→Value) (n:Nat) (W:World):Prop where
 bel:Below V.heap.size V W
 tb:W.heap[TB]? = some (.cells #[.map (some mb)] 106)
 map:MapV W mb n (.slice none 0 0) v
 rows:∀ k,W.ownsRow (V.heap.size + 2) 9 1 (v k) (tx k).length (stvB (tx k))
 apart:∀ i j,i ≠ j→∀ b,(v i).ownBlock = some b→(v j).ownBlock ≠ some b
theorem TmAt.below {V:World} {TB mb:Nat} {tx:Int→List ByteArray} {v:Int→Value} {n:Nat} {W W':World} (m:TmAt V TB mb tx v n W) (hb:Below W.heap.size W W'):TmAt V TB mb tx v n W' :=
 ⟨m.bel.trans (hb.mono m.bel.size),blk_on m.tb hb,m.map.move (hb.block _ m.map.lt),fun k=>ownsRow_below (m.rows k) hb,m.apart⟩
theorem TmAt.push {V:World} {TB mb:Nat} {cl:Int→ByteArray} {gs:List GL} {x:GL} {v:Int→Value} {n:Nat} {W w9 w':World} {g cc:Nat} (m:TmAt V TB mb (textsI cl gs) v n W) (hTB:TB = V.heap.size + 1) (hmb:mb = V.heap.size)
  (hown:w9.ownsRow (V.heap.size + 2) 9 1 (.slice (some ⟨g,0,none⟩) ((textsI cl gs x.part).length + 1) cc) ((textsI cl gs x.part).length + 1) (stvB (textsI cl gs x.part) ++ [.string (cl x.find)])) (hg:(W.alloc (.cells #[.string (cl x.find)] 9)).drew.grownBy w9 (v x.part).ownBlock) (hl:(v x.part).ownBlock = some g ∨ g = W.heap.size + 1) (_hlt:g < w9.heap.size)
  (hm:MapV w' mb (n + 1) (.slice none 0 0) (fun j=>if j = x.part then .slice (some ⟨g,0,none⟩) ((textsI cl gs x.part).length + 1) cc else v j)) (hg':w9.grownBy w' (some mb)):TmAt V TB mb (textsI cl (gs ++ [x])) (fun j=>if j = x.part then .slice (some ⟨g,0,none⟩) ((textsI cl gs x.part).length + 1) cc else v j) (n + 1) w':=by
 have hrow:=fun k=>(m.rows k).lt
 have hs9:W.heap.size + 1≤w9.heap.size:=by have h:(W.alloc (.cells #[.string (cl x.find)] 9)).heap.size≤w9.heap.size:=hg.size;simpa using h
 have hTl:TB < W.heap.size:=(Array.getElem?_eq_some_iff.1 m.tb).1
 have k9:∀ b,b < W.heap.size→(v x.part).ownBlock ≠ some b→w9.heap[b]? = W.heap[b]?:=fun b hb hne=>by
  rw [hg.block b (by show b < (W.alloc (.cells #[.string (cl x.find)] 9)).heap.size;simp;omega) (fun e=>hne e.symm)]
  exact Below.heap_alloc _ _ _ hb
 have k':∀ b,b < W.heap.size→(v x.part).ownBlock ≠ some b→b ≠ mb→w'.heap[b]? = W.heap[b]?:=fun b hb h1 h2=>(hg'.block b (by omega) (fun e=>h2 (Option.some.inj e))).trans (k9 b hb h1)
 have hgB:V.heap.size + 2≤g:=(hown.lt g rfl).1
 have hb9:Below V.heap.size V w9:=by
  have h1:Below V.heap.size V (W.alloc (.cells #[.string (cl x.find)] 9)).drew:=(m.bel.alloc m.bel.size _).drew
  exact h1.grown hg (by show V.heap.size≤(W.alloc (.cells #[.string (cl x.find)] 9)).heap.size;have:=m.bel.size;simp;omega) (fun b hb=>by have:=(hrow x.part b hb).1;omega)
 refine ⟨hb9.grown hg' hb9.size (fun b hb=>by have:=Option.some.inj hb;omega),(k' TB hTl (fun e=>by have:=(hrow x.part TB e).1;omega) (by omega)).trans m.tb,hm,fun k=>?_,fun i j hij b hb=>?_⟩
 ·rw [textsI_snoc]
  by_cases e:k = x.part
  ·subst e
   simp only [if_true]
   rw [List.length_append]
   have e2:stvB (textsI cl gs x.part ++ [cl x.find]) = stvB (textsI cl gs x.part) ++ [.string (cl x.find)]:=by simp [stvB]
   rw [e2]
   refine owns_move hown (fun b hb=>hg'.block b (by have:=(hown.lt b hb).2;omega) (fun e=>by have:=Option.some.inj e;have:=(hown.lt b hb).1;omega))
  ·simp only [if_neg e]
   refine owns_move (m.rows k) (fun b hb=>?_)
   have hlt:=hrow k b hb
   exact k' b hlt.2 (m.apart k x.part e b hb) (by omega)
 ·have hgi:∀ k,k ≠ x.part→(v k).ownBlock ≠ some g:=fun k hk hkg=>by
   rcases hl with h | h
   ·exact m.apart k x.part hk g hkg h
   ·have:=(hrow k g hkg).2;omega
  by_cases e1:i = x.part
  ·have e2:j ≠ x.part:=fun e=>hij (e1.trans e.symm)
   simp only [if_pos e1] at hb
   have hbg:g = b:=by simpa [Value.ownBlock] using hb
   simp only [if_neg e2]
   rw [← hbg]
   exact hgi j e2
  ·simp only [if_neg e1] at hb
   by_cases e2:j = x.part
   ·simp only [if_pos e2]
    intro h
    have hbg:g = b:=by simpa [Value.ownBlock] using h
    rw [← hbg] at hb
    exact hgi i e1 hb
   ·simp only [if_neg e2]
    exact m.apart i j hij b hb
set_option maxRecDepth 1000000 in
set_option maxHeartbeats 8000000 in
theorem rnL2 (V:World) (ga:Option Addr) (gn gc:Nat) (gs:List GL) (hg6:G6 V ga gn gs) (hgn:gn≤1000) (hgi:∀ g ∈ gs,GIn g∧-1≤g.find) (cbk nc:Nat) (cl:Int→ByteArray) (hcb:MapV V cbk nc (.string ⟨#[]⟩) (fun i=>.string (cl i))) (TB mb:Nat) (hTB:TB = V.heap.size + 1) (hmb:mb = V.heap.size) (W0:World) (h0:TmAt V TB mb (textsI cl []) (fun _=>.slice none 0 0) 0 W0) (c0 c1 c2 c3 c4 c5 c6 c7 c8 c9 c10 c12 c13 c15 c16 c17 c18 c19 c20 c21 c22 c23 c24 c25 c26 c27 c28 c29 c30 c31 c32 c33 c34 c35 c36 c37 c38 c39 c40 c41 c42 c43 c44 c45 c46 c47 c48 c49 c50 c51 c52 c53 c54 c55 c56 c57 c58 c59 c60 c61 c62 c63 c64 c65 c66 c67 c71 c72 c73 c74 c75 c76 c77 c78 c79 c80 c81 c82 c83 c84 c85 c86 c87 c88 c89 c90 c91 c92 c93 c94 c95 c96 c97 c98 c99:Value) (Q:Exit→Act→World→Prop)
  (hexit:∀ u16 u70 u71 u72 u73 u74 u75 u76 u77 u78 u79 u80 u81 u82 u83 u84 u85 u86 u87:Value,∀ (v:Int→Value) (w':World),TmAt V TB mb (textsI cl gs) v gn w'→Q (.exit 2) ⟨(c0::c1::c2::c3::c4::c5::c6::c7::c8::c9::c10::.map (some cbk)::c12::c13::.pointer (some ⟨TB,0,none⟩)::c15::u16::c17::c18::c19::c20::c21::c22::c23::c24::c25::c26::c27::c28::c29::c30::c31::c32::c33::c34::c35::c36::c37::c38::c39::c40::c41::c42::c43::c44::c45::c46::c47::c48::c49::c50::c51::c52::c53::c54::c55::c56::c57::c58::c59::c60::c61::c62::c63::c64::c65::c66::c67::.slice ga gn gc::.int .i64 (gn:Int)::u70::u71::u72::u73::u74::u75::u76::u77::u78::u79::u80::u81::u82::u83::u84::u85::u86::u87::c88::c89::c90::c91::c92::c93::c94::c95::c96::c97::c98::c99::[]).toArray,[]⟩ w') :
  Code.wp Tryz.prog (Code.loop (loopAt Tryz.f22 1)) Q ⟨(c0::c1::c2::c3::c4::c5::c6::c7::c8::c9::c10::.map (some cbk)::c12::c13::.pointer (some ⟨TB,0,none⟩)::c15::c16::c17::c18::c19::c20::c21::c22::c23::c24::c25::c26::c27::c28::c29::c30::c31::c32::c33::c34::c35::c36::c37::c38::c39::c40::c41::c42::c43::c44::c45::c46::c47::c48::c49::c50::c51::c52::c53::c54::c55::c56::c57::c58::c59::c60::c61::c62::c63::c64::c65::c66::c67::.slice ga gn gc::.int .i64 (gn:Int)::.int .i64 0::c71::c72::c73::c74::c75::c76::c77::c78::c79::c80::c81::c82::c83::c84::c85::c86::c87::c88::c89::c90::c91::c92::c93::c94::c95::c96::c97::c98::c99::[]).toArray,[]⟩ W0:=by
 have HX:Hid _:=hexit
 have HG6:Hid (∀ W,Below V.heap.size V W→G6 W ga gn gs):=fun W h=>hg6.below h
 have HGI:Hid (∀ g ∈ gs,GIn g∧-1≤g.find):=hgi
 have HCB:Hid (∀ W,Below V.heap.size V W→MapV W cbk nc (.string ⟨#[]⟩) (fun i=>.string (cl i))):=fun W h=>hcb.move (h.block _ hcb.lt)
 have HCL:Hid (cbk < V.heap.size):=hcb.lt
 have HTM:Hid (TB = V.heap.size + 1∧mb = V.heap.size):=⟨hTB,hmb⟩
 have H0:Hid (TmAt V TB mb (textsI cl (gs.take 0)) (fun _=>.slice none 0 0) 0 W0):=h0
 clear hexit hg6 hgi hcb hTB hmb h0
 conv=>arg 2;arg 1;whnf
 go_loopw [70] (fun iv wr=>∃ (k:Nat) (v:Int→Value),k≤gn∧iv = .int .i64 k∧Hid (TmAt V TB mb (textsI cl (gs.take k)) v k wr)) (fun iv _=>gn - (intOf iv).toNat)
 case atStart=>exact ⟨0,_,Nat.zero_le _,rfl,H0⟩
 case round =>
  obtain ⟨k,v,hk,rfl,HM⟩:=hrel
  clear H0
  by_cases hlt:k < gn
  ·have hlz:(k:Int) < (gn:Int):=by omega
   have hG:=HG6.out wr HM.out.bel
   have hkl:k < gs.length:=by rw [hG.1];exact hlt
   obtain ⟨gb,go,hga,hcell⟩:=hG.2 (by omega)
   subst hga
   obtain ⟨e0,e1,e2,e3,e4,e5⟩:=hcell k hlt
   have hmem:gs.getD k gl0 ∈ gs:=by rw [List.getD_eq_getElem?_getD,List.getElem?_eq_getElem hkl];exact List.getElem_mem hkl
   have hGI:=HGI.out _ hmem
   have HTK:Hid (gs.take (k + 1) = gs.take k ++ [gs.getD k gl0]):=by unfold Hid;rw [List.take_add_one,List.getElem?_eq_getElem hkl,List.getD_eq_getElem?_getD,List.getElem?_eq_getElem hkl];rfl
   have HTL:Hid ((gs.take k).length≤1000):=by unfold Hid;rw [List.length_take];omega
   clear hcell hG hkl hmem
   generalize gs.getD k gl0 = x at *
   obtain ⟨x0,x1,x2,x3,x4,x5⟩:=x
   simp only at e0 e1 e2 e3 e4 e5
   have HRG:Hid ((-9223372036854775808≤x0∧x0≤9223372036854775807)∧x5≤9223372036854775807):=by
    obtain ⟨⟨⟨m,hm,h1⟩,h2⟩,-⟩:=hGI
    simp only at h1 h2
    refine ⟨by omega,?_⟩
    rcases h2 with h2 | ⟨q,hq,h2⟩ <;> omega
   obtain ⟨Wy,hWy⟩:∃ W,W = wr.alloc (.cells #[.int .i64 x0,.int .i64 x1,.int .i64 x2,.string (tx8 x3),.string (tx8 x4),.int .i64 x5] 42):=⟨_,rfl⟩
   have hby:Below wr.heap.size wr Wy:=by rw [hWy];exact (Below.refl _ _).alloc (Nat.le_refl _) _
   have HKY:Hid (Wy.heap[wr.heap.size]? = some (.cells #[.int .i64 x0,.int .i64 x1,.int .i64 x2,.string (tx8 x3),.string (tx8 x4),.int .i64 x5] 42)):=by rw [hWy];exact blk_new _ _
   have HMy:Hid (TmAt V TB mb (textsI cl (gs.take k)) v k Wy):=HM.out.below hby
   have HWy:Hid (Wy = wr.alloc (.cells #[.int .i64 x0,.int .i64 x1,.int .i64 x2,.string (tx8 x3),.string (tx8 x4),.int .i64 x5] 42)):=hWy
   have HYS:Hid (V.heap.size + 2≤wr.heap.size):=by have:=(Array.getElem?_eq_some_iff.1 HM.out.tb).1;have:=HTM.out;unfold Hid;omega
   have HRL:Hid (∀ b,(v x0).ownBlock = some b→b < wr.heap.size):=fun b hb=>(HM.out.rows x0 |>.lt b hb).2
   clear hby hWy HM
   generalize tx8 x4 = t4 at *
   generalize tx8 x3 = t3 at *
   go_upto_region 21 with fail
   rw [← HWy.out]
   clear HWy e0 e1 e2 e3 e4 e5
   obtain ⟨Y,hY⟩:∃ Y,wr.heap.size = Y:=⟨_,rfl⟩
   rw [hY] at HKY HYS HRL ⊢
   clear hY
   have HX5:Hid (-9223372036854775808≤x5):=by have h:=hGI.2;simp only at h;unfold Hid;omega
   obtain ⟨qv,cv,hvx⟩:=owned_slice (HMy.out.rows x0)
   have hO:=HMy.out.rows x0
   rw [hvx] at hO HRL
   refine rnR21 Wy Y TB mb cbk (V.heap.size + 2) k nc x0 x5 HRG.out.1.1 HRG.out.1.2 HX5.out HRG.out.2 cl (cl x5) rfl v qv (textsI cl (gs.take k) x0).length cv hvx _ _ _ _ _ HKY.out HMy.out.tb HMy.out.map (HCB.out Wy HMy.out.bel) hO (by have:=(Array.getElem?_eq_some_iff.1 HKY.out).1;have:=HYS.out;omega) (Nat.le_trans (textsI_len _ _ _) HTL.out) (by omega) (by have:=HTM.out;have:=HYS.out;have:=HCL.out;omega) (by
    have h1:=fun b hb=>(hO.lt b hb).1
    have h2:=HTM.out
    have h3:=HCL.out
    refine ⟨fun e=>?_,fun e=>?_,fun e=>?_,fun e=>?_⟩
    ·have:=h1 _ e;omega
    ·have:=HRL.out _ e;omega
    ·have:=h1 _ e;omega
    ·have:=h1 _ e;omega) _ _ _ _ _ _ _ _ _ _ _ _ _ _ _ _ _ _ _ _ _ _ _ _ _ _ _ _ _ _ _ _ _ _ _ _ _ _ _ _ _ _ _ _ _ _ _ _ _ _ _ _ _ _ _ _ _ _ _ _ _ _ _ _ _ _ _ _ _ _ _ _ _ _ _ _ _ _ _ _ _ _ _ _ _ _ _ _ _ _ _ _ _ _ _ _ _ _ ?_
   intro s74 s75 s76 s77 s78 s79 s80 s81 s82 s83 s84 s85 s86 g cc w9 w' h1 h2 h3 h4 h5 h6
   have HM9:Hid (TmAt V TB mb (textsI cl (gs.take (k + 1))) (fun j=>if j = x0 then .slice (some ⟨g,0,none⟩) ((textsI cl (gs.take k) x0).length + 1) cc else v j) (k + 1) w'):=by
    unfold Hid
    rw [HTK.out]
    exact HMy.out.push (x:=⟨x0,x1,x2,x3,x4,x5⟩) HTM.out.1 HTM.out.2 h1 (by simp only;rw [hvx];exact h2) (by simp only;rw [hvx];exact h3) h4 h5 h6
   clear h1 h2 h3 h4 h5 h6 hO hvx HRL HMy HKY HTK HTL HRG hGI HX5
   go_wp2_with fail
   go_roundw
   case rel=>exact ⟨k + 1,_,by omega,by go_num,HM9⟩
   case measure=>simp [intOf];omega
  ·obtain rfl:k = gn:=by omega
   have hlz:¬ (k:Int) < (k:Int):=by omega
   have HF:Hid (TmAt V TB mb (textsI cl gs) v k wr):=by
    have h:=HM.out
    rw [List.take_of_length_le (by rw [(HG6.out wr HM.out.bel).1];exact Nat.le_refl _)] at h
    exact h
   clear HM
   go_wp2_with fail
   exact HX.out _ _ _ _ _ _ _ _ _ _ _ _ _ _ _ _ _ _ _ v _ HF.out
end Go.Proofs.YtbbfcbodhmeanaaGreatDoor


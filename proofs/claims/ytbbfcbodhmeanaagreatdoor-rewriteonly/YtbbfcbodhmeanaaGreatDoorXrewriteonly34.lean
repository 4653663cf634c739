
import Derived.Test.YtbbfcbodhmeanaaGreatDoorXrewriteonly33
import Derived.Maps.AppendAt
namespace Go.Proofs.YtbbfcbodhmeanaaGreatDoor
open Go.RowKit
theorem alloc_on {W:World} {b:Nat} {o:Obj} (h:W.heap[b]? = some o) (o':Obj):(W.alloc o').heap[b]? = some o:=blk_on h ((Below.refl _ W).alloc (Nat.le_refl _) _)
theorem seven_fill {W:World} {G t:Nat} {a b c d e f g:Value} (h:W.heap[G]? = some (.cells #[a,b,c,d,e,f,g] t)) (x0 x1 x2 x3 x4 x5 x6:Value):(W.setCells G 0 [x0,x1,x2,x3,x4,x5,x6]).heap[G]? = some (.cells #[x0,x1,x2,x3,x4,x5,x6] t):=by
 have h1:(W.setCell ⟨G,0,none⟩ x0).heap[G]? = some (.cells #[x0,b,c,d,e,f,g] t):=set_blk h 0 x0
 have h2:((W.setCell ⟨G,0,none⟩ x0).setCell ⟨G,1,none⟩ x1).heap[G]? = some (.cells #[x0,x1,c,d,e,f,g] t):=set_blk h1 1 x1
 have h3:(((W.setCell ⟨G,0,none⟩ x0).setCell ⟨G,1,none⟩ x1).setCell ⟨G,2,none⟩ x2).heap[G]? = some (.cells #[x0,x1,x2,d,e,f,g] t):=set_blk h2 2 x2
 have h4:((((W.setCell ⟨G,0,none⟩ x0).setCell ⟨G,1,none⟩ x1).setCell ⟨G,2,none⟩ x2).setCell ⟨G,3,none⟩ x3).heap[G]? = some (.cells #[x0,x1,x2,x3,e,f,g] t):=set_blk h3 3 x3
 have h5:(((((W.setCell ⟨G,0,none⟩ x0).setCell ⟨G,1,none⟩ x1).setCell ⟨G,2,none⟩ x2).setCell ⟨G,3,none⟩ x3).setCell ⟨G,4,none⟩ x4).heap[G]? = some (.cells #[x0,x1,x2,x3,x4,f,g] t):=set_blk h4 4 x4
 have h6:((((((W.setCell ⟨G,0,none⟩ x0).setCell ⟨G,1,none⟩ x1).setCell ⟨G,2,none⟩ x2).setCell ⟨G,3,none⟩ x3).setCell ⟨G,4,none⟩ x4).setCell ⟨G,5,none⟩ x5).heap[G]? = some (.cells #[x0,x1,x2,x3,x4,x5,g] t):=set_blk h5 5 x5
 have h7:(((((((W.setCell ⟨G,0,none⟩ x0).setCell ⟨G,1,none⟩ x1).setCell ⟨G,2,none⟩ x2).setCell ⟨G,3,none⟩ x3).setCell ⟨G,4,none⟩ x4).setCell ⟨G,5,none⟩ x5).setCell ⟨G,6,none⟩ x6).heap[G]? = some (.cells #[x0,x1,x2,x3,x4,x5,x6] t):=set_blk h6 6 x6
 exact h7
theorem there_seven {W:World} {G t:Nat} {a b c d e f g:Value} (h:W.heap[G]? = some (.cells #[a,b,c,d,e,f,g] t)):W.there G 0 7:=by
 intro j hj
 refine ⟨?_,blk_f h _⟩
 rw [blk_c h (0 + j)]
 have:j = 0 ∨ j = 1 ∨ j = 2 ∨ j = 3 ∨ j = 4 ∨ j = 5 ∨ j = 6:=by omega
 rcases this with rfl | rfl | rfl | rfl | rfl | rfl | rfl <;> rfl
set_option maxRecDepth 1000000 in
set_option maxHeartbeats 4000000 in
theorem loR12 (W:World) (ab ao bb bo n ca cb k:Nat) (hk:k < n) (x:PT) (xb:Option Addr) (xn xcb:Nat) (xk:Option Addr) (xm xck:Nat) (y:PT) (yb:Option Addr) (yn ycb:Nat) (yk:Option Addr) (ym yck:Nat) (HCL:Hid (∀ V:World,Below W.heap.size W V→V.cell? ⟨ab,ao + k * 7,none⟩ = some (.string x.ty)∧V.cell? ⟨ab,ao + k * 7 + 1,none⟩ = some (.string x.cs)∧V.cell? ⟨ab,ao + k * 7 + 2,none⟩ = some (.string x.id)∧V.cell? ⟨ab,ao + k * 7 + 3,none⟩ = some (.string x.loc)∧V.cell? ⟨ab,ao + k * 7 + 4,none⟩ = some (.int .i64 x.how)∧V.cell? ⟨ab,ao + k * 7 + 5,none⟩ = some (.slice xb xn xcb)∧V.cell? ⟨ab,ao + k * 7 + 6,none⟩ = some (.slice xk xm xck)∧V.cell? ⟨bb,bo + k * 7,none⟩ = some (.string y.ty)∧V.cell? ⟨bb,bo + k * 7 + 1,none⟩ = some (.string y.cs)∧V.cell? ⟨bb,bo + k * 7 + 2,none⟩ = some (.string y.id)∧V.cell? ⟨bb,bo + k * 7 + 3,none⟩ = some (.string y.loc)∧V.cell? ⟨bb,bo + k * 7 + 4,none⟩ = some (.int .i64 y.how)∧V.cell? ⟨bb,bo + k * 7 + 5,none⟩ = some (.slice yb yn ycb)∧V.cell? ⟨bb,bo + k * 7 + 6,none⟩ = some (.slice yk ym yck))) (c0 c1 c2 c3 c4 c5 c6 c9 c10 c11 c13 c14 c15 c16 c17 c18 c19 c20 c21 c22 c23 c24 c25 c26 c27 c28 c29 c30 c31 c32 c33 c34 c35 c36 c37 c38 c39 c40 c41 c42 c43 c44 c45 c46 c47 c48 c49 c50 c51 c52 c53 c54 c55 c56 c57 c58 c59 c60 c61 c62 c63 c64 c65 c66 c67 c68 c69 c70 c71 c72 c73 c74 c75 c76 c77 c78 c79 c80 c81 c82 c83 c84 c85 c86 c87 c88 c89 c90 c91 c92 c93 c94 c95 c96 c97 c98 c99 c100 c101 c102 c103 c104 c105 c106 c107 c108 c109 c110 c111 c112 c113 c114 c115 c116 c117 c118 c119 c120 c121 c122 c123 c124 c125 c126 c127 c128 c129 c130 c131 c132 c133 c134 c135 c136 c137 c138 c139 c140 c141 c142 c143 c144 c145 c146 c147 c148 c149 c150 c151 c152 c153 c154 c155 c156 c157 c158 c159 c160 c161 c162 c163 c164 c165 c166 c167 c168 c169 c170 c171 c172 c173 c174 c175 c176 c177 c178 c179 c180 c181 c182 c183 c184 c185 c186 c187 c188 c189 c190 c191:Value) (Q:Exit→Act→World→Prop)
  (hexit:∀ u75 u76 u77 u78 u79 u80 u81 u82:Value,∀ (BX BY:Nat) (w':World),Below W.heap.size W w'→W.heap.size≤BX→W.heap.size≤BY→BX ≠ BY→w'.heap[BX]? = some (.cells #[.string x.ty,.string x.cs,.string x.id,.string x.loc,.int .i64 x.how,.slice xb xn xcb,.slice xk xm xck] 25)→w'.heap[BY]? = some (.cells #[.string y.ty,.string y.cs,.string y.id,.string y.loc,.int .i64 y.how,.slice yb yn ycb,.slice yk ym yck] 25)→Q .normal ⟨(c0::c1::c2::c3::c4::c5::c6::.slice (some ⟨ab,ao,none⟩) n ca::.slice (some ⟨bb,bo,none⟩) n cb::c9::c10::c11::.int .i64 (k:Int)::.pointer (some ⟨BX,0,none⟩)::.pointer (some ⟨BY,0,none⟩)::c15::c16::c17::c18::c19::c20::c21::c22::c23::c24::c25::c26::c27::c28::c29::c30::c31::c32::c33::c34::c35::c36::c37::c38::c39::c40::c41::c42::c43::c44::c45::c46::c47::c48::c49::c50::c51::c52::c53::c54::c55::c56::c57::c58::c59::c60::c61::c62::c63::c64::c65::c66::c67::c68::c69::c70::c71::c72::c73::c74::u75::u76::u77::u78::u79::u80::u81::u82::c83::c84::c85::c86::c87::c88::c89::c90::c91::c92::c93::c94::c95::c96::c97::c98::c99::c100::c101::c102::c103::c104::c105::c106::c107::c108::c109::c110::c111::c112::c113::c114::c115::c116::c117::c118::c119::c120::c121::c122::c123::c124::c125::c126::c127::c128::c129::c130::c131::c132::c133::c134::c135::c136::c137::c138::c139::c140::c141::c142::c143::c144::c145::c146::c147::c148::c149::c150::c151::c152::c153::c154::c155::c156::c157::c158::c159::c160::c161::c162::c163::c164::c165::c166::c167::c168::c169::c170::c171::c172::c173::c174::c175::c176::c177::c178::c179::c180::c181::c182::c183::c184::c185::c186::c187::c188::c189::c190::c191::[]).toArray,[]⟩ w') :
  Code.wp Tryz.prog (regAt Tryz.f7 12) Q ⟨(c0::c1::c2::c3::c4::c5::c6::.slice (some ⟨ab,ao,none⟩) n ca::.slice (some ⟨bb,bo,none⟩) n cb::c9::c10::c11::.int .i64 (k:Int)::c13::c14::c15::c16::c17::c18::c19::c20::c21::c22::c23::c24::c25::c26::c27::c28::c29::c30::c31::c32::c33::c34::c35::c36::c37::c38::c39::c40::c41::c42::c43::c44::c45::c46::c47::c48::c49::c50::c51::c52::c53::c54::c55::c56::c57::c58::c59::c60::c61::c62::c63::c64::c65::c66::c67::c68::c69::c70::c71::c72::c73::c74::c75::c76::c77::c78::c79::c80::c81::c82::c83::c84::c85::c86::c87::c88::c89::c90::c91::c92::c93::c94::c95::c96::c97::c98::c99::c100::c101::c102::c103::c104::c105::c106::c107::c108::c109::c110::c111::c112::c113::c114::c115::c116::c117::c118::c119::c120::c121::c122::c123::c124::c125::c126::c127::c128::c129::c130::c131::c132::c133::c134::c135::c136::c137::c138::c139::c140::c141::c142::c143::c144::c145::c146::c147::c148::c149::c150::c151::c152::c153::c154::c155::c156::c157::c158::c159::c160::c161::c162::c163::c164::c165::c166::c167::c168::c169::c170::c171::c172::c173::c174::c175::c176::c177::c178::c179::c180::c181::c182::c183::c184::c185::c186::c187::c188::c189::c190::c191::[]).toArray,[]⟩ W:=by
 have HX:Hid _:=hexit
 clear hexit
 conv=>arg 2;whnf
 have hki:(k:Int) < (n:Int):=by omega
 have hk0:(0:Int)≤(k:Int):=by omega
 have hb0:Below W.heap.size W W.drew:=(Below.refl _ _).drew
 refine wp_region_noPanic ?_
 refine wp_region_held_drew (S:=fun V=>Below W.heap.size W V) (by kernel_rfl) hb0 (fun hHeld=>?_)
 refine wpAnyH_take (i:=0) (oi:={ dst:=some 75,op:=Op.move (.tmp 7),type:=_,pos:=_,after:=_,guard:=_ }) (v:=.slice (some ⟨ab,ao,none⟩) n ca) rfl (by kernel_rfl) (by kernel_rfl) (by kernel_rfl) (fun _ _ _ h=>h) (Or.inl ⟨by rfl,?_⟩) (by assumption) ?_
 ·intro W' hSW
  obtain ⟨a0,a1,a2,a3,a4,a5,a6,b0,b1,b2,b3,b4,b5,b6⟩:=HCL.out W' hSW
  clear hSW
  go_simp
 try simp only [Act.put,List.setIfInBounds_toArray,List.set_cons_zero,List.set_cons_succ]
 refine wpAnyH_take (i:=1) (oi:={ dst:=some 76,op:=Op.move (.tmp 12),type:=_,pos:=_,after:=_,guard:=_ }) (v:=.int .i64 (k:Int)) rfl (by kernel_rfl) (by kernel_rfl) (by kernel_rfl) (fun _ _ _ h=>h) (Or.inl ⟨by rfl,?_⟩) (by assumption) ?_
 ·intro W' hSW
  obtain ⟨a0,a1,a2,a3,a4,a5,a6,b0,b1,b2,b3,b4,b5,b6⟩:=HCL.out W' hSW
  clear hSW
  go_simp
 try simp only [Act.put,List.setIfInBounds_toArray,List.set_cons_zero,List.set_cons_succ]
 refine wpAnyH_take (i:=2) (oi:={ dst:=some 77,op:=Op.indexAddr 23 (.tmp 75) (.tmp 76),type:=_,pos:=_,after:=_,guard:=_ }) (v:=.pointer (some ⟨ab,ao + k * 7,none⟩)) rfl (by kernel_rfl) (by kernel_rfl) (by kernel_rfl) (fun _ _ _ h=>h) (Or.inl ⟨by rfl,?_⟩) (by assumption) ?_
 ·intro W' hSW
  obtain ⟨a0,a1,a2,a3,a4,a5,a6,b0,b1,b2,b3,b4,b5,b6⟩:=HCL.out W' hSW
  clear hSW
  go_simp
 try simp only [Act.put,List.setIfInBounds_toArray,List.set_cons_zero,List.set_cons_succ]
 refine wpAnyH_take (i:=3) (oi:={ dst:=some 78,op:=Op.load 25 (.tmp 77),type:=_,pos:=_,after:=_,guard:=_ }) (v:=.agg #[.string x.ty,.string x.cs,.string x.id,.string x.loc,.int .i64 x.how,.slice xb xn xcb,.slice xk xm xck]) rfl (by kernel_rfl) (by kernel_rfl) (by kernel_rfl) (fun _ _ _ h=>h) (Or.inl ⟨by rfl,?_⟩) (by assumption) ?_
 ·intro W' hSW
  obtain ⟨a0,a1,a2,a3,a4,a5,a6,b0,b1,b2,b3,b4,b5,b6⟩:=HCL.out W' hSW
  clear hSW
  go_simp
 try simp only [Act.put,List.setIfInBounds_toArray,List.set_cons_zero,List.set_cons_succ]
 refine wpAnyH_take (i:=4) (oi:={ dst:=some 79,op:=Op.move (.tmp 8),type:=_,pos:=_,after:=_,guard:=_ }) (v:=.slice (some ⟨bb,bo,none⟩) n cb) rfl (by kernel_rfl) (by kernel_rfl) (by kernel_rfl) (fun _ _ _ h=>h) (Or.inl ⟨by rfl,?_⟩) (by assumption) ?_
 ·intro W' hSW
  obtain ⟨a0,a1,a2,a3,a4,a5,a6,b0,b1,b2,b3,b4,b5,b6⟩:=HCL.out W' hSW
  clear hSW
  go_simp
 try simp only [Act.put,List.setIfInBounds_toArray,List.set_cons_zero,List.set_cons_succ]
 refine wpAnyH_take (i:=5) (oi:={ dst:=some 80,op:=Op.move (.tmp 12),type:=_,pos:=_,after:=_,guard:=_ }) (v:=.int .i64 (k:Int)) rfl (by kernel_rfl) (by kernel_rfl) (by kernel_rfl) (fun _ _ _ h=>h) (Or.inl ⟨by rfl,?_⟩) (by assumption) ?_
 ·intro W' hSW
  obtain ⟨a0,a1,a2,a3,a4,a5,a6,b0,b1,b2,b3,b4,b5,b6⟩:=HCL.out W' hSW
  clear hSW
  go_simp
 try simp only [Act.put,List.setIfInBounds_toArray,List.set_cons_zero,List.set_cons_succ]
 refine wpAnyH_take (i:=6) (oi:={ dst:=some 81,op:=Op.indexAddr 23 (.tmp 79) (.tmp 80),type:=_,pos:=_,after:=_,guard:=_ }) (v:=.pointer (some ⟨bb,bo + k * 7,none⟩)) rfl (by kernel_rfl) (by kernel_rfl) (by kernel_rfl) (fun _ _ _ h=>h) (Or.inl ⟨by rfl,?_⟩) (by assumption) ?_
 ·intro W' hSW
  obtain ⟨a0,a1,a2,a3,a4,a5,a6,b0,b1,b2,b3,b4,b5,b6⟩:=HCL.out W' hSW
  clear hSW
  go_simp
 try simp only [Act.put,List.setIfInBounds_toArray,List.set_cons_zero,List.set_cons_succ]
 refine wpAnyH_take (i:=7) (oi:={ dst:=some 82,op:=Op.load 25 (.tmp 81),type:=_,pos:=_,after:=_,guard:=_ }) (v:=.agg #[.string y.ty,.string y.cs,.string y.id,.string y.loc,.int .i64 y.how,.slice yb yn ycb,.slice yk ym yck]) rfl (by kernel_rfl) (by kernel_rfl) (by kernel_rfl) (fun _ _ _ h=>h) (Or.inl ⟨by rfl,?_⟩) (by assumption) ?_
 ·intro W' hSW
  obtain ⟨a0,a1,a2,a3,a4,a5,a6,b0,b1,b2,b3,b4,b5,b6⟩:=HCL.out W' hSW
  clear hSW
  go_simp
 try simp only [Act.put,List.setIfInBounds_toArray,List.set_cons_zero,List.set_cons_succ]
 clear HCL
 generalize W.drew = V0 at *
 refine wpAnyH_ready (rs:=[8,9]) (by kernel_rfl) (by simp) (AllReadyH.cons (o:={ dst:=some 13,op:=Op.alloc 25,type:=_,pos:=_,after:=_,guard:=_ }) rfl (fun K hK=>?_) (AllReadyH.cons (o:={ dst:=some 14,op:=Op.alloc 25,type:=_,pos:=_,after:=_,guard:=_ }) rfl (fun K hK=>?_) AllReadyH.nil))
 ·have hb1:=Below.alloc hb0 (Below.size hb0) (.cells #[.string ⟨#[]⟩,.string ⟨#[]⟩,.string ⟨#[]⟩,.string ⟨#[]⟩,.int .i64 0,.slice none 0 0,.slice none 0 0] 25)
  have kX1:(V0.alloc (.cells #[.string ⟨#[]⟩,.string ⟨#[]⟩,.string ⟨#[]⟩,.string ⟨#[]⟩,.int .i64 0,.slice none 0 0,.slice none 0 0] 25)).heap[V0.heap.size]? = some (.cells #[.string ⟨#[]⟩,.string ⟨#[]⟩,.string ⟨#[]⟩,.string ⟨#[]⟩,.int .i64 0,.slice none 0 0,.slice none 0 0] 25):=blk_new _ _
  have hBX:=Below.size hb0
  go_simp
  refine hK.out _ _ hb1 (fun hHeld=>?_)
  clear hK K
  try simp only [Act.put,List.setIfInBounds_toArray,List.set_cons_zero,List.set_cons_succ]
  generalize V0.alloc (.cells #[.string ⟨#[]⟩,.string ⟨#[]⟩,.string ⟨#[]⟩,.string ⟨#[]⟩,.int .i64 0,.slice none 0 0,.slice none 0 0] 25) = V1 at *
  generalize V0.heap.size = BX at *
  refine wpAnyH_ready (rs:=[9]) (by kernel_rfl) (by simp) (AllReadyH.cons (o:={ dst:=some 14,op:=Op.alloc 25,type:=_,pos:=_,after:=_,guard:=_ }) rfl (fun K hK=>?_) AllReadyH.nil)
  have hb2:=Below.alloc hb1 (Below.size hb1) (.cells #[.string ⟨#[]⟩,.string ⟨#[]⟩,.string ⟨#[]⟩,.string ⟨#[]⟩,.int .i64 0,.slice none 0 0,.slice none 0 0] 25)
  have kY2:(V1.alloc (.cells #[.string ⟨#[]⟩,.string ⟨#[]⟩,.string ⟨#[]⟩,.string ⟨#[]⟩,.int .i64 0,.slice none 0 0,.slice none 0 0] 25)).heap[V1.heap.size]? = some (.cells #[.string ⟨#[]⟩,.string ⟨#[]⟩,.string ⟨#[]⟩,.string ⟨#[]⟩,.int .i64 0,.slice none 0 0,.slice none 0 0] 25):=blk_new _ _
  have kX2:(V1.alloc (.cells #[.string ⟨#[]⟩,.string ⟨#[]⟩,.string ⟨#[]⟩,.string ⟨#[]⟩,.int .i64 0,.slice none 0 0,.slice none 0 0] 25)).heap[BX]? = some (.cells #[.string ⟨#[]⟩,.string ⟨#[]⟩,.string ⟨#[]⟩,.string ⟨#[]⟩,.int .i64 0,.slice none 0 0,.slice none 0 0] 25):=alloc_on kX1 _
  have hBne:BX ≠ V1.heap.size:=by have:=(Array.getElem?_eq_some_iff.1 kX1).1;omega
  have hBY:=Below.size hb1
  go_simp
  refine hK.out _ _ hb2 (fun hHeld=>?_)
  clear hK K
  try simp only [Act.put,List.setIfInBounds_toArray,List.set_cons_zero,List.set_cons_succ]
  generalize V1.alloc (.cells #[.string ⟨#[]⟩,.string ⟨#[]⟩,.string ⟨#[]⟩,.string ⟨#[]⟩,.int .i64 0,.slice none 0 0,.slice none 0 0] 25) = V2 at *
  generalize V1.heap.size = BY at *
  refine wpAnyH_ready (rs:=[10]) (by kernel_rfl) (by simp) (AllReadyH.cons (o:={ dst:=none,op:=Op.store 25 (.tmp 13) (.tmp 78),type:=_,pos:=_,after:=_,guard:=_ }) rfl (fun K hK=>?_) AllReadyH.nil)
  have hb3:Below W.heap.size W (V2.setCells BX 0 [.string x.ty,.string x.cs,.string x.id,.string x.loc,.int .i64 x.how,.slice xb xn xcb,.slice xk xm xck]):=setCells_below (W:=V2) hBX _ _ _ hb2
  have kX3:(V2.setCells BX 0 [.string x.ty,.string x.cs,.string x.id,.string x.loc,.int .i64 x.how,.slice xb xn xcb,.slice xk xm xck]).heap[BX]? = some (.cells #[.string x.ty,.string x.cs,.string x.id,.string x.loc,.int .i64 x.how,.slice xb xn xcb,.slice xk xm xck] 25):=seven_fill kX2 _ _ _ _ _ _ _
  have kY3:(V2.setCells BX 0 [.string x.ty,.string x.cs,.string x.id,.string x.loc,.int .i64 x.how,.slice xb xn xcb,.slice xk xm xck]).heap[BY]? = some (.cells #[.string ⟨#[]⟩,.string ⟨#[]⟩,.string ⟨#[]⟩,.string ⟨#[]⟩,.int .i64 0,.slice none 0 0,.slice none 0 0] 25):=by rw [setCells_block _ _ _ _ _ (Ne.symm hBne)];exact kY2
  have hth:V2.there BX 0 7:=there_seven kX2
  rw [if_pos (by rfl)]
  refine wp_store_mid _ _ _ rfl BX 0 #[.string x.ty,.string x.cs,.string x.id,.string x.loc,.int .i64 x.how,.slice xb xn xcb,.slice xk xm xck] rfl rfl hth (by kernel_rfl) (seven_all _ _ _ _ _ _ _ _ _ _ _) ?_
  refine hK.out _ _ hb3 (fun hHeld=>?_)
  clear hK K hth
  try simp only [Act.put]
  generalize hV3:V2.setCells BX 0 [.string x.ty,.string x.cs,.string x.id,.string x.loc,.int .i64 x.how,.slice xb xn xcb,.slice xk xm xck] = V3 at *
  clear hV3
  refine wpAnyH_ready (rs:=[11]) (by kernel_rfl) (by simp) (AllReadyH.cons (o:={ dst:=none,op:=Op.store 25 (.tmp 14) (.tmp 82),type:=_,pos:=_,after:=_,guard:=_ }) rfl (fun K hK=>?_) AllReadyH.nil)
  have hb4:Below W.heap.size W (V3.setCells BY 0 [.string y.ty,.string y.cs,.string y.id,.string y.loc,.int .i64 y.how,.slice yb yn ycb,.slice yk ym yck]):=setCells_below (W:=V3) hBY _ _ _ hb3
  have kY4:(V3.setCells BY 0 [.string y.ty,.string y.cs,.string y.id,.string y.loc,.int .i64 y.how,.slice yb yn ycb,.slice yk ym yck]).heap[BY]? = some (.cells #[.string y.ty,.string y.cs,.string y.id,.string y.loc,.int .i64 y.how,.slice yb yn ycb,.slice yk ym yck] 25):=seven_fill kY3 _ _ _ _ _ _ _
  have kX4:(V3.setCells BY 0 [.string y.ty,.string y.cs,.string y.id,.string y.loc,.int .i64 y.how,.slice yb yn ycb,.slice yk ym yck]).heap[BX]? = some (.cells #[.string x.ty,.string x.cs,.string x.id,.string x.loc,.int .i64 x.how,.slice xb xn xcb,.slice xk xm xck] 25):=by rw [setCells_block _ _ _ _ _ hBne];exact kX3
  have hth:V3.there BY 0 7:=there_seven kY3
  rw [if_pos (by rfl)]
  refine wp_store_mid _ _ _ rfl BY 0 #[.string y.ty,.string y.cs,.string y.id,.string y.loc,.int .i64 y.how,.slice yb yn ycb,.slice yk ym yck] rfl rfl hth (by kernel_rfl) (seven_all _ _ _ _ _ _ _ _ _ _ _) ?_
  refine hK.out _ _ hb4 (fun hHeld=>?_)
  clear hK K hth
  try simp only [Act.put]
  generalize hV4:V3.setCells BY 0 [.string y.ty,.string y.cs,.string y.id,.string y.loc,.int .i64 y.how,.slice yb yn ycb,.slice yk ym yck] = V4 at *
  clear hV4
  refine wpAnyH_done (by kernel_rfl) ?_ _
  refine NoPanic.normal ?_
  exact HX.out _ _ _ _ _ _ _ _ BX BY V4 hb4 hBX hBY hBne kX4 kY4
 ·have hb1:=Below.alloc hb0 (Below.size hb0) (.cells #[.string ⟨#[]⟩,.string ⟨#[]⟩,.string ⟨#[]⟩,.string ⟨#[]⟩,.int .i64 0,.slice none 0 0,.slice none 0 0] 25)
  have kY1:(V0.alloc (.cells #[.string ⟨#[]⟩,.string ⟨#[]⟩,.string ⟨#[]⟩,.string ⟨#[]⟩,.int .i64 0,.slice none 0 0,.slice none 0 0] 25)).heap[V0.heap.size]? = some (.cells #[.string ⟨#[]⟩,.string ⟨#[]⟩,.string ⟨#[]⟩,.string ⟨#[]⟩,.int .i64 0,.slice none 0 0,.slice none 0 0] 25):=blk_new _ _
  have hBY:=Below.size hb0
  go_simp
  refine hK.out _ _ hb1 (fun hHeld=>?_)
  clear hK K
  try simp only [Act.put,List.setIfInBounds_toArray,List.set_cons_zero,List.set_cons_succ]
  generalize V0.alloc (.cells #[.string ⟨#[]⟩,.string ⟨#[]⟩,.string ⟨#[]⟩,.string ⟨#[]⟩,.int .i64 0,.slice none 0 0,.slice none 0 0] 25) = V1 at *
  generalize V0.heap.size = BY at *
  refine wpAnyH_ready (rs:=[8]) (by kernel_rfl) (by simp) (AllReadyH.cons (o:={ dst:=some 13,op:=Op.alloc 25,type:=_,pos:=_,after:=_,guard:=_ }) rfl (fun K hK=>?_) AllReadyH.nil)
  have hb2:=Below.alloc hb1 (Below.size hb1) (.cells #[.string ⟨#[]⟩,.string ⟨#[]⟩,.string ⟨#[]⟩,.string ⟨#[]⟩,.int .i64 0,.slice none 0 0,.slice none 0 0] 25)
  have kX2:(V1.alloc (.cells #[.string ⟨#[]⟩,.string ⟨#[]⟩,.string ⟨#[]⟩,.string ⟨#[]⟩,.int .i64 0,.slice none 0 0,.slice none 0 0] 25)).heap[V1.heap.size]? = some (.cells #[.string ⟨#[]⟩,.string ⟨#[]⟩,.string ⟨#[]⟩,.string ⟨#[]⟩,.int .i64 0,.slice none 0 0,.slice none 0 0] 25):=blk_new _ _
  have kY2:(V1.alloc (.cells #[.string ⟨#[]⟩,.string ⟨#[]⟩,.string ⟨#[]⟩,.string ⟨#[]⟩,.int .i64 0,.slice none 0 0,.slice none 0 0] 25)).heap[BY]? = some (.cells #[.string ⟨#[]⟩,.string ⟨#[]⟩,.string ⟨#[]⟩,.string ⟨#[]⟩,.int .i64 0,.slice none 0 0,.slice none 0 0] 25):=alloc_on kY1 _
  have hBne:BY ≠ V1.heap.size:=by have:=(Array.getElem?_eq_some_iff.1 kY1).1;omega
  have hBX:=Below.size hb1
  go_simp
  refine hK.out _ _ hb2 (fun hHeld=>?_)
  clear hK K
  try simp only [Act.put,List.setIfInBounds_toArray,List.set_cons_zero,List.set_cons_succ]
  generalize V1.alloc (.cells #[.string ⟨#[]⟩,.string ⟨#[]⟩,.string ⟨#[]⟩,.string ⟨#[]⟩,.int .i64 0,.slice none 0 0,.slice none 0 0] 25) = V2 at *
  generalize V1.heap.size = BX at *
  refine wpAnyH_ready (rs:=[10]) (by kernel_rfl) (by simp) (AllReadyH.cons (o:={ dst:=none,op:=Op.store 25 (.tmp 13) (.tmp 78),type:=_,pos:=_,after:=_,guard:=_ }) rfl (fun K hK=>?_) AllReadyH.nil)
  have hb3:Below W.heap.size W (V2.setCells BX 0 [.string x.ty,.string x.cs,.string x.id,.string x.loc,.int .i64 x.how,.slice xb xn xcb,.slice xk xm xck]):=setCells_below (W:=V2) hBX _ _ _ hb2
  have kX3:(V2.setCells BX 0 [.string x.ty,.string x.cs,.string x.id,.string x.loc,.int .i64 x.how,.slice xb xn xcb,.slice xk xm xck]).heap[BX]? = some (.cells #[.string x.ty,.string x.cs,.string x.id,.string x.loc,.int .i64 x.how,.slice xb xn xcb,.slice xk xm xck] 25):=seven_fill kX2 _ _ _ _ _ _ _
  have kY3:(V2.setCells BX 0 [.string x.ty,.string x.cs,.string x.id,.string x.loc,.int .i64 x.how,.slice xb xn xcb,.slice xk xm xck]).heap[BY]? = some (.cells #[.string ⟨#[]⟩,.string ⟨#[]⟩,.string ⟨#[]⟩,.string ⟨#[]⟩,.int .i64 0,.slice none 0 0,.slice none 0 0] 25):=by rw [setCells_block _ _ _ _ _ hBne];exact kY2
  have hth:V2.there BX 0 7:=there_seven kX2
  rw [if_pos (by rfl)]
  refine wp_store_mid _ _ _ rfl BX 0 #[.string x.ty,.string x.cs,.string x.id,.string x.loc,.int .i64 x.how,.slice xb xn xcb,.slice xk xm xck] rfl rfl hth (by kernel_rfl) (seven_all _ _ _ _ _ _ _ _ _ _ _) ?_
  refine hK.out _ _ hb3 (fun hHeld=>?_)
  clear hK K hth
  try simp only [Act.put]
  generalize hV3:V2.setCells BX 0 [.string x.ty,.string x.cs,.string x.id,.string x.loc,.int .i64 x.how,.slice xb xn xcb,.slice xk xm xck] = V3 at *
  clear hV3
  refine wpAnyH_ready (rs:=[11]) (by kernel_rfl) (by simp) (AllReadyH.cons (o:={ dst:=none,op:=Op.store 25 (.tmp 14) (.tmp 82),type:=_,pos:=_,after:=_,guard:=_ }) rfl (fun K hK=>?_) AllReadyH.nil)
  have hb4:Below W.heap.size W (V3.setCells BY 0 [.string y.ty,.string y.cs,.string y.id,.string y.loc,.int .i64 y.how,.slice yb yn ycb,.slice yk ym yck]):=setCells_below (W:=V3) hBY _ _ _ hb3
  have kY4:(V3.setCells BY 0 [.string y.ty,.string y.cs,.string y.id,.string y.loc,.int .i64 y.how,.slice yb yn ycb,.slice yk ym yck]).heap[BY]? = some (.cells #[.string y.ty,.string y.cs,.string y.id,.string y.loc,.int .i64 y.how,.slice yb yn ycb,.slice yk ym yck] 25):=seven_fill kY3 _ _ _ _ _ _ _
  have kX4:(V3.setCells BY 0 [.string y.ty,.string y.cs,.string y.id,.string y.loc,.int .i64 y.how,.slice yb yn ycb,.slice yk ym yck]).heap[BX]? = some (.cells #[.string x.ty,.string x.cs,.string x.id,.string x.loc,.int .i64 x.how,.slice xb xn xcb,.slice xk xm xck] 25):=by rw [setCells_block _ _ _ _ _ (Ne.symm hBne)];exact kX3
  have hth:V3.there BY 0 7:=there_seven kY3
  rw [if_pos (by rfl)]
  refine wp_store_mid _ _ _ rfl BY 0 #[.string y.ty,.string y.cs,.string y.id,.string y.loc,.int .i64 y.how,.slice yb yn ycb,.slice yk ym yck] rfl rfl hth (by kernel_rfl) (seven_all _ _ _ _ _ _ _ _ _ _ _) ?_
  refine hK.out _ _ hb4 (fun hHeld=>?_)
  clear hK K hth
  try simp only [Act.put]
  generalize hV4:V3.setCells BY 0 [.string y.ty,.string y.cs,.string y.id,.string y.loc,.int .i64 y.how,.slice yb yn ycb,.slice yk ym yck] = V4 at *
  clear hV4
  refine wpAnyH_done (by kernel_rfl) ?_ _
  refine NoPanic.normal ?_
  exact HX.out _ _ _ _ _ _ _ _ BX BY V4 hb4 hBX hBY (Ne.symm hBne) kX4 kY4
set_option maxRecDepth 1000000 in
set_option maxHeartbeats 4000000 in
theorem loR30a (W:World) (lb ln lc n GB:Nat) (hn:n < ln) (T:ByteArray) (hl:W.cell? ⟨lb,n * 3 + 2,none⟩ = some (.string T)) (nb no nn nc j:Nat) (hj:j < nn) (hnm:W.cell? ⟨nb,no + j * 2 + 1,none⟩ = some (.string T)) (c0 c2 c3 c4 c5 c6 c7 c8 c9 c10 c11 c12 c13 c14 c15 c17 c18 c20 c23 c24 c25 c26 c27 c28 c29 c30 c31 c32 c33 c34 c35 c36 c37 c38 c39 c40 c41 c42 c43 c44 c45 c46 c47 c48 c49 c50 c51 c52 c53 c54 c55 c56 c57 c58 c59 c60 c61 c62 c63 c64 c65 c66 c67 c68 c69 c70 c71 c72 c73 c74 c75 c76 c77 c78 c79 c80 c81 c82 c83 c84 c85 c86 c87 c88 c89 c90 c91 c92 c93 c94 c95 c96 c97 c98 c99 c100 c101 c102 c103 c104 c105 c106 c107 c108 c109 c110 c111 c112 c113 c114 c115 c116 c117 c118 c119 c120 c121 c122 c123 c124 c125 c126 c127 c128 c129 c130 c131 c132 c133 c134 c135 c136 c137 c138 c139 c140 c141 c142 c143 c144 c145 c146 c147 c148 c149 c150 c151 c152 c153 c154 c155 c156 c157 c158 c159 c160 c161 c162 c163 c164 c165 c166 c167 c168 c169 c170 c171 c172 c173 c174 c175 c176 c177 c178 c179 c180 c181 c182 c183 c184 c185 c186 c187 c188 c189 c190 c191:Value) (Q:Exit→Act→World→Prop)
  (hexit:∀ u120 u121 u122 u123 u124 u125 u126 u127 u128 u129 u130 u131 u132 u133 u134 u135 u136 u137 u138 u139 u140 u141 u142 u143 u144 u145 u146 u147 u148 u149 u150 u151 u152 u153 u154:Value,∀ w':World,Below W.heap.size W w'→Q .normal ⟨(c0::.slice (some ⟨nb,no,none⟩) nn nc::c2::c3::c4::c5::c6::c7::c8::c9::c10::c11::c12::c13::c14::c15::.slice (some ⟨lb,0,none⟩) ln lc::c17::c18::.int .i64 (n:Int)::c20::.pointer (some ⟨GB,0,none⟩)::.int .i64 (j:Int)::c23::c24::c25::c26::c27::c28::c29::c30::c31::c32::c33::c34::c35::c36::c37::c38::c39::c40::c41::c42::c43::c44::c45::c46::c47::c48::c49::c50::c51::c52::c53::c54::c55::c56::c57::c58::c59::c60::c61::c62::c63::c64::c65::c66::c67::c68::c69::c70::c71::c72::c73::c74::c75::c76::c77::c78::c79::c80::c81::c82::c83::c84::c85::c86::c87::c88::c89::c90::c91::c92::c93::c94::c95::c96::c97::c98::c99::c100::c101::c102::c103::c104::c105::c106::c107::c108::c109::c110::c111::c112::c113::c114::c115::c116::c117::c118::c119::u120::u121::u122::u123::u124::u125::u126::u127::u128::u129::u130::u131::u132::u133::u134::u135::u136::u137::u138::u139::u140::u141::u142::u143::u144::u145::u146::u147::u148::u149::u150::u151::u152::u153::u154::.bool false::c156::c157::c158::c159::c160::c161::c162::c163::c164::c165::c166::c167::c168::c169::c170::c171::c172::c173::c174::c175::c176::c177::c178::c179::c180::c181::c182::c183::c184::c185::c186::c187::c188::c189::c190::c191::[]).toArray,[]⟩ w') :
  Code.wp Tryz.prog (regAt Tryz.f7 30) Q ⟨(c0::.slice (some ⟨nb,no,none⟩) nn nc::c2::c3::c4::c5::c6::c7::c8::c9::c10::c11::c12::c13::c14::c15::.slice (some ⟨lb,0,none⟩) ln lc::c17::c18::.int .i64 (n:Int)::c20::.pointer (some ⟨GB,0,none⟩)::.int .i64 (j:Int)::c23::c24::c25::c26::c27::c28::c29::c30::c31::c32::c33::c34::c35::c36::c37::c38::c39::c40::c41::c42::c43::c44::c45::c46::c47::c48::c49::c50::c51::c52::c53::c54::c55::c56::c57::c58::c59::c60::c61::c62::c63::c64::c65::c66::c67::c68::c69::c70::c71::c72::c73::c74::c75::c76::c77::c78::c79::c80::c81::c82::c83::c84::c85::c86::c87::c88::c89::c90::c91::c92::c93::c94::c95::c96::c97::c98::c99::c100::c101::c102::c103::c104::c105::c106::c107::c108::c109::c110::c111::c112::c113::c114::c115::c116::c117::c118::c119::c120::c121::c122::c123::c124::c125::c126::c127::c128::c129::c130::c131::c132::c133::c134::c135::c136::c137::c138::c139::c140::c141::c142::c143::c144::c145::c146::c147::c148::c149::c150::c151::c152::c153::c154::c155::c156::c157::c158::c159::c160::c161::c162::c163::c164::c165::c166::c167::c168::c169::c170::c171::c172::c173::c174::c175::c176::c177::c178::c179::c180::c181::c182::c183::c184::c185::c186::c187::c188::c189::c190::c191::[]).toArray,[]⟩ W:=by
 have HX:Hid _:=hexit
 clear hexit
 conv=>arg 2;whnf
 have hni:(n:Int) < (ln:Int):=by omega
 have hne:¬ (n:Int) = (ln:Int):=by omega
 have hnb:((n:Int) == (ln:Int)) = false:=by rw [beq_eq_false_iff_ne];exact hne
 have hji:(j:Int) < (nn:Int):=by omega
 have hj0:¬ (j:Int) < 0:=by omega
 have hj1:(0:Int)≤(j:Int):=by omega
 go_quiet (fail)
 go_wp2_with fail
 exact HX.out _ _ _ _ _ _ _ _ _ _ _ _ _ _ _ _ _ _ _ _ _ _ _ _ _ _ _ _ _ _ _ _ _ _ _ _ (below_drewN' (Below.refl _ _) _)
set_option maxRecDepth 1000000 in
set_option maxHeartbeats 4000000 in
theorem loR30b (W:World) (lb ln lc n GB:Nat) (hn:n < ln) (T:ByteArray) (hl:W.cell? ⟨lb,n * 3 + 2,none⟩ = some (.string T)) (hg:W.cell? ⟨GB,3,none⟩ = some (.string T)) (c0 c1 c2 c3 c4 c5 c6 c7 c8 c9 c10 c11 c12 c13 c14 c15 c17 c18 c20 c23 c24 c25 c26 c27 c28 c29 c30 c31 c32 c33 c34 c35 c36 c37 c38 c39 c40 c41 c42 c43 c44 c45 c46 c47 c48 c49 c50 c51 c52 c53 c54 c55 c56 c57 c58 c59 c60 c61 c62 c63 c64 c65 c66 c67 c68 c69 c70 c71 c72 c73 c74 c75 c76 c77 c78 c79 c80 c81 c82 c83 c84 c85 c86 c87 c88 c89 c90 c91 c92 c93 c94 c95 c96 c97 c98 c99 c100 c101 c102 c103 c104 c105 c106 c107 c108 c109 c110 c111 c112 c113 c114 c115 c116 c117 c118 c119 c120 c121 c122 c123 c124 c125 c126 c127 c128 c129 c130 c131 c132 c133 c134 c135 c136 c137 c138 c139 c140 c141 c142 c143 c144 c145 c146 c147 c148 c149 c150 c151 c152 c153 c154 c155 c156 c157 c158 c159 c160 c161 c162 c163 c164 c165 c166 c167 c168 c169 c170 c171 c172 c173 c174 c175 c176 c177 c178 c179 c180 c181 c182 c183 c184 c185 c186 c187 c188 c189 c190 c191:Value) (Q:Exit→Act→World→Prop)
  (hexit:∀ u120 u121 u122 u123 u124 u125 u126 u127 u128 u129 u130 u131 u132 u133 u134 u135 u136 u137 u138 u139 u140 u141 u142 u143 u144 u145 u146 u147 u148 u149 u150 u151 u152 u153 u154:Value,∀ w':World,Below W.heap.size W w'→Q .normal ⟨(c0::c1::c2::c3::c4::c5::c6::c7::c8::c9::c10::c11::c12::c13::c14::c15::.slice (some ⟨lb,0,none⟩) ln lc::c17::c18::.int .i64 (n:Int)::c20::.pointer (some ⟨GB,0,none⟩)::.int .i64 (-1)::c23::c24::c25::c26::c27::c28::c29::c30::c31::c32::c33::c34::c35::c36::c37::c38::c39::c40::c41::c42::c43::c44::c45::c46::c47::c48::c49::c50::c51::c52::c53::c54::c55::c56::c57::c58::c59::c60::c61::c62::c63::c64::c65::c66::c67::c68::c69::c70::c71::c72::c73::c74::c75::c76::c77::c78::c79::c80::c81::c82::c83::c84::c85::c86::c87::c88::c89::c90::c91::c92::c93::c94::c95::c96::c97::c98::c99::c100::c101::c102::c103::c104::c105::c106::c107::c108::c109::c110::c111::c112::c113::c114::c115::c116::c117::c118::c119::u120::u121::u122::u123::u124::u125::u126::u127::u128::u129::u130::u131::u132::u133::u134::u135::u136::u137::u138::u139::u140::u141::u142::u143::u144::u145::u146::u147::u148::u149::u150::u151::u152::u153::u154::.bool false::c156::c157::c158::c159::c160::c161::c162::c163::c164::c165::c166::c167::c168::c169::c170::c171::c172::c173::c174::c175::c176::c177::c178::c179::c180::c181::c182::c183::c184::c185::c186::c187::c188::c189::c190::c191::[]).toArray,[]⟩ w') :
  Code.wp Tryz.prog (regAt Tryz.f7 30) Q ⟨(c0::c1::c2::c3::c4::c5::c6::c7::c8::c9::c10::c11::c12::c13::c14::c15::.slice (some ⟨lb,0,none⟩) ln lc::c17::c18::.int .i64 (n:Int)::c20::.pointer (some ⟨GB,0,none⟩)::.int .i64 (-1)::c23::c24::c25::c26::c27::c28::c29::c30::c31::c32::c33::c34::c35::c36::c37::c38::c39::c40::c41::c42::c43::c44::c45::c46::c47::c48::c49::c50::c51::c52::c53::c54::c55::c56::c57::c58::c59::c60::c61::c62::c63::c64::c65::c66::c67::c68::c69::c70::c71::c72::c73::c74::c75::c76::c77::c78::c79::c80::c81::c82::c83::c84::c85::c86::c87::c88::c89::c90::c91::c92::c93::c94::c95::c96::c97::c98::c99::c100::c101::c102::c103::c104::c105::c106::c107::c108::c109::c110::c111::c112::c113::c114::c115::c116::c117::c118::c119::c120::c121::c122::c123::c124::c125::c126::c127::c128::c129::c130::c131::c132::c133::c134::c135::c136::c137::c138::c139::c140::c141::c142::c143::c144::c145::c146::c147::c148::c149::c150::c151::c152::c153::c154::c155::c156::c157::c158::c159::c160::c161::c162::c163::c164::c165::c166::c167::c168::c169::c170::c171::c172::c173::c174::c175::c176::c177::c178::c179::c180::c181::c182::c183::c184::c185::c186::c187::c188::c189::c190::c191::[]).toArray,[]⟩ W:=by
 have HX:Hid _:=hexit
 clear hexit
 conv=>arg 2;whnf
 have hni:(n:Int) < (ln:Int):=by omega
 have hne:¬ (n:Int) = (ln:Int):=by omega
 have hnb:((n:Int) == (ln:Int)) = false:=by rw [beq_eq_false_iff_ne];exact hne
 go_quiet (fail)
 go_wp2_with fail
 exact HX.out _ _ _ _ _ _ _ _ _ _ _ _ _ _ _ _ _ _ _ _ _ _ _ _ _ _ _ _ _ _ _ _ _ _ _ _ (below_drewN' (Below.refl _ _) _)
set_option maxRecDepth 1000000 in
set_option maxHeartbeats 4000000 in
theorem loR35 (w0:World) (B:Nat) (W:World) (hb:Below B w0 W) (hB:B≤W.heap.size) (qv:Option Addr) (nv cv:Nat) (hn:nv≤1000) (xs:List Value) (hO:W.ownsRow B 9 1 (.slice qv nv cv) nv xs) (T:ByteArray) (c0 c1 c2 c3 c4 c5 c6 c7 c8 c9 c10 c11 c12 c13 c14 c15 c16 c17 c19 c20 c21 c22 c24 c25 c26 c27 c28 c29 c30 c31 c32 c33 c34 c35 c36 c37 c38 c39 c40 c41 c42 c43 c44 c45 c46 c47 c48 c49 c50 c51 c52 c53 c54 c55 c56 c57 c58 c59 c60 c61 c62 c63 c64 c65 c66 c67 c68 c69 c70 c71 c72 c73 c74 c75 c76 c77 c78 c79 c80 c81 c82 c83 c84 c85 c86 c87 c88 c89 c90 c91 c92 c93 c94 c95 c96 c97 c98 c99 c100 c101 c102 c103 c104 c105 c106 c107 c108 c109 c110 c111 c112 c113 c114 c115 c116 c117 c118 c119 c120 c121 c122 c123 c124 c125 c126 c127 c128 c129 c130 c131 c132 c133 c134 c135 c136 c137 c138 c139 c140 c141 c142 c143 c144 c145 c146 c147 c148 c149 c150 c151 c152 c153 c154 c155 c156 c157 c158 c159 c160 c161 c162 c163 c164 c165 c166 c167 c168 c169 c170 c171 c172 c173 c174 c175 c176 c177 c178 c179 c180 c181 c182 c183 c184 c185 c186 c187 c188 c189 c190 c191:Value) (Q:Exit→Act→World→Prop)
  (hexit:∀ u163 u164 u165 u166:Value,∀ (qy:Option Addr) (cy:Nat) (w':World),Below B w0 w'→w'.ownsRow B 9 1 (.slice qy (nv + 1) cy) (nv + 1) (xs ++ [.string T])→Q .normal ⟨(c0::c1::c2::c3::c4::c5::c6::c7::c8::c9::c10::c11::c12::c13::c14::c15::c16::c17::.slice qy (nv + 1) cy::c19::c20::c21::c22::.string T::c24::c25::c26::c27::c28::c29::c30::c31::c32::c33::c34::c35::c36::c37::c38::c39::c40::c41::c42::c43::c44::c45::c46::c47::c48::c49::c50::c51::c52::c53::c54::c55::c56::c57::c58::c59::c60::c61::c62::c63::c64::c65::c66::c67::c68::c69::c70::c71::c72::c73::c74::c75::c76::c77::c78::c79::c80::c81::c82::c83::c84::c85::c86::c87::c88::c89::c90::c91::c92::c93::c94::c95::c96::c97::c98::c99::c100::c101::c102::c103::c104::c105::c106::c107::c108::c109::c110::c111::c112::c113::c114::c115::c116::c117::c118::c119::c120::c121::c122::c123::c124::c125::c126::c127::c128::c129::c130::c131::c132::c133::c134::c135::c136::c137::c138::c139::c140::c141::c142::c143::c144::c145::c146::c147::c148::c149::c150::c151::c152::c153::c154::c155::c156::c157::c158::c159::c160::c161::c162::u163::u164::u165::u166::c167::c168::c169::c170::c171::c172::c173::c174::c175::c176::c177::c178::c179::c180::c181::c182::c183::c184::c185::c186::c187::c188::c189::c190::c191::[]).toArray,[]⟩ w') :
  Code.wp Tryz.prog (regAt Tryz.f7 35) Q ⟨(c0::c1::c2::c3::c4::c5::c6::c7::c8::c9::c10::c11::c12::c13::c14::c15::c16::c17::.slice qv nv cv::c19::c20::c21::c22::.string T::c24::c25::c26::c27::c28::c29::c30::c31::c32::c33::c34::c35::c36::c37::c38::c39::c40::c41::c42::c43::c44::c45::c46::c47::c48::c49::c50::c51::c52::c53::c54::c55::c56::c57::c58::c59::c60::c61::c62::c63::c64::c65::c66::c67::c68::c69::c70::c71::c72::c73::c74::c75::c76::c77::c78::c79::c80::c81::c82::c83::c84::c85::c86::c87::c88::c89::c90::c91::c92::c93::c94::c95::c96::c97::c98::c99::c100::c101::c102::c103::c104::c105::c106::c107::c108::c109::c110::c111::c112::c113::c114::c115::c116::c117::c118::c119::c120::c121::c122::c123::c124::c125::c126::c127::c128::c129::c130::c131::c132::c133::c134::c135::c136::c137::c138::c139::c140::c141::c142::c143::c144::c145::c146::c147::c148::c149::c150::c151::c152::c153::c154::c155::c156::c157::c158::c159::c160::c161::c162::c163::c164::c165::c166::c167::c168::c169::c170::c171::c172::c173::c174::c175::c176::c177::c178::c179::c180::c181::c182::c183::c184::c185::c186::c187::c188::c189::c190::c191::[]).toArray,[]⟩ W:=by
 obtain ⟨i0,hi,hz0,hz1,hz2⟩:=info_parts info_strT
 have HX:Hid _:=hexit
 have HO:Hid (W.ownsRow B 9 1 (.slice qv nv cv) nv xs):=hO
 have HB:Hid (Below B w0 W):=hb
 clear hexit hO hb
 conv=>arg 2;whnf
 go_wp2_with (at_builtin;refine wpList_append_own _ rfl (.tmp 163) (.tmp 165) 26 rfl B 9 i0 (.string ⟨#[]⟩) 1 16 Tryz.underlying26 hi hz0 hz1 hz2 rfl (by decide) _ _ _ rfl (HO.out.alloc _) ⟨W.heap.size,0,none⟩ 1 1 [.string T] rfl rfl ?c1 ?c2 ?c3 ?c4 ?c5 ?_)
 case c1=>exact cell_one_new W _ _
 case c2=>exact fun u hu=>by simp at hu;subst hu;rfl
 case c3=>unfold maxLen;omega
 case c4=>omega
 case c5=>simp;omega
 intro v9 w9 own9 g9 _
 obtain ⟨q9,c9,rfl⟩:=owned_slice own9
 have HB9:Hid (Below B w0 w9):=(HB.out.alloc hB _).grown g9 (by simp;omega) (fun i hi=>(HO.out.lt i hi).1)
 have HR9:Hid (w9.ownsRow B 9 1 (.slice q9 (nv + 1) c9) (nv + 1) (xs ++ [.string T])):=own9
 clear own9 g9
 go_wp2_with fail
 exact HX.out _ _ _ _ q9 c9 w9 HB9.out HR9.out
end Go.Proofs.YtbbfcbodhmeanaaGreatDoor


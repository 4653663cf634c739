import Derived.Test.YtbbfcbodhmeanaaGreatDoorXrewritesays34
set_option maxHeartbeats 8000000
set_option maxRecDepth 1000000
namespace Go.Proofs.YtbbfcbodhmeanaaGreatDoor
open Go.Proofs.Tryz
open Go.RowKit
theorem aPo(W:World)(Y l q a B n nc:Nat)(m fd:Int)(ao:-9223372036854775808<=m)(ap:m<=9223372036854775807)(ca:-9223372036854775808<=fd)(cb:fd<=9223372036854775807)(cl:Int->jA)(z:jA)(bP:cl fd=z)(vf:Int->Value)(F:jO)(k E:Nat)(bS:vf m=.slice F k E)(x1 x2 x3 x4:Value)(xs:List Value)(hY:W.heap[Y]?=some (.cells #[.int .i64 m,x1,x2,x3,x4,.int .i64 fd] 42))(am:W.heap[l]?=some (.cells #[.map (some q)] 106))(aa:aAO W q n (.slice none 0 0) vf)(an:aAO W a nc (.string ⟨#[]⟩) (λi=>.string (cl i)))(hO:W.ownsRow B 9 1 (.slice F k E) k xs)(hB:B<=W.heap.size)(cd:k<=1000)(hn:n<=1000000)(L:l≠q/\Y≠q/\a≠q)(bR:(Value.slice F k E).ownBlock≠some l/\(Value.slice F k E).ownBlock≠some Y/\(Value.slice F k E).ownBlock≠some a/\(Value.slice F k E).ownBlock≠some q)(c0 c1 c2 c3 c4 c5 c6 c7 c8 c9 ax ay az aA aB aC aD aE aF aG aH aI aJ aK aL aM aN aO aP aQ aR aS aT aU aV aW aX aY aZ a0 a1 a2 a3 a4 a5 a6 a7 a8 a9 bb bc bd be bf bg bh bi bj bk bl bm bn bo bp bq br bs bt bw bx bz bT bU bV bW bX bY bZ b4 b5 b6 b7 b8 b9 bA bB bC bD bE bF bG bH bI bJ bK bL bM:Value)(Q:Exit->Act->World->Prop)
  (M:∀ce cf cg ch ci cj ck cm cn cp cq cr cs:Value,∀(g T:Nat) (p w':World),p.ownsRow B 9 1 (.slice (some ⟨g,0,none⟩) (k+1) T) (k+1) (xs++[.string z])->(W.alloc (.cells #[.string z] 9)).drew.grownBy p (Value.slice F k E).ownBlock->((Value.slice F k E).ownBlock=some g\/g=W.heap.size+1)->g<p.heap.size->aAO w' q (n+1) (.slice none 0 0) (λj=>if j=m then .slice (some ⟨g,0,none⟩) (k+1) T else vf j)->p.grownBy w' (some q)->Q .normal ⟨(c0::c1::c2::c3::c4::c5::c6::c7::c8::c9::ax::.map (some a)::ay::az::.pointer (some ⟨l,0,none⟩)::aA::.pointer (some ⟨Y,0,none⟩)::aB::aC::aD::aE::aF::aG::aH::aI::aJ::aK::aL::aM::aN::aO::aP::aQ::aR::aS::aT::aU::aV::aW::aX::aY::aZ::a0::a1::a2::a3::a4::a5::a6::a7::a8::a9::bb::bc::bd::be::bf::bg::bh::bi::bj::bk::bl::bm::bn::bo::bp::bq::br::bs::bt::bw::bx::bz::ce::cf::cg::ch::ci::cj::ck::cm::cn::cp::cq::cr::cs::bA::bB::bC::bD::bE::bF::bG::bH::bI::bJ::bK::bL::bM::[]).toArray,[]⟩ w'):
  Code.wp prog (aOP f22 21) Q ⟨(c0::c1::c2::c3::c4::c5::c6::c7::c8::c9::ax::.map (some a)::ay::az::.pointer (some ⟨l,0,none⟩)::aA::.pointer (some ⟨Y,0,none⟩)::aB::aC::aD::aE::aF::aG::aH::aI::aJ::aK::aL::aM::aN::aO::aP::aQ::aR::aS::aT::aU::aV::aW::aX::aY::aZ::a0::a1::a2::a3::a4::a5::a6::a7::a8::a9::bb::bc::bd::be::bf::bg::bh::bi::bj::bk::bl::bm::bn::bo::bp::bq::br::bs::bt::bw::bx::bz::bT::bU::bV::bW::bX::bY::bZ::b4::b5::b6::b7::b8::b9::bA::bB::bC::bD::bE::bF::bG::bH::bI::bJ::bK::bL::bM::[]).toArray,[]⟩ W:=by
 have HX:Hid _:=M
 clear M
 conv=>arg 2;whnf
 have y:Hid (∀V:World,(V.heap[l]?=W.heap[l]?/\V.heap[Y]?=W.heap[Y]?/\V.heap[a]?=W.heap[a]?)->V.cell? ⟨l,0,none⟩=some (.map (some q))/\V.cell? ⟨Y,0,none⟩=some (.int .i64 m)/\V.cell? ⟨Y,5,none⟩=some (.int .i64 fd)/\(Instr.lookup 105 (.map (some a)) (.int .i64 fd) false).run prog V=.ok (.string z) V):=λV h=>⟨(aDe (h.1.trans am) 0).trans rfl,(aDe (h.2.1.trans hY) 0).trans rfl,(aDe (h.2.1.trans hY) 5).trans rfl,by have:=(an.move h.2.2).look underlying105 (aVv V) fd ca cb;rw[bP]at this;exact this⟩
 have HO:Hid (W.ownsRow B 9 1 (.slice F k E) k xs):=hO
 have aw:Hid (aAO W q n (.slice none 0 0) vf):=aa
 have f:Hid (l<W.heap.size/\Y<W.heap.size/\a<W.heap.size/\q<W.heap.size):=⟨(jl.1 am).1,(jl.1 hY).1,an.lt,aa.lt⟩
 have J:Hid (l≠q/\Y≠q/\a≠q):=L
 have G:Hid ((Value.slice F k E).ownBlock≠some l/\(Value.slice F k E).ownBlock≠some Y/\(Value.slice F k E).ownBlock≠some a/\(Value.slice F k E).ownBlock≠some q):=bR
 have av:Hid (∀V:World,V.heap[q]?=W.heap[q]?->(Instr.lookup 106 (.map (some q)) (.int .i64 m) false).run prog V=.ok (.slice F k E) V):=λV h=>by have:=(aa.move h).look underlying106 (aVw V) m ao ap;rw[bS]at this;exact this
 have U:Hid (∀b,b<W.heap.size->(W.alloc (.cells #[.string z] 9)).heap[b]?=W.heap[b]?):=λb hb=>j9 _ _ _ hb
 have ab:k+1<=maxLen:=by unfold maxLen;omega
 have ac:(k+1)*16<=140737488355328:=by omega
 have bQ:n<maxLen:=by unfold maxLen;omega
 have bN:B<=(W.alloc (.cells #[.string z] 9)).heap.size:=by simp;omega
 have ad:(W.alloc (.cells #[.string z] 9)).heap.size=W.heap.size+1:=by simp
 have bO:W.drew.heap[l]?=W.heap[l]?/\W.drew.heap[Y]?=W.heap[Y]?/\W.drew.heap[a]?=W.heap[a]?:=⟨rfl,rfl,rfl⟩
 have al:Hid ((W.alloc (.cells #[.string z] 9)).heap[l]?=W.heap[l]?/\(W.alloc (.cells #[.string z] 9)).heap[Y]?=W.heap[Y]?/\(W.alloc (.cells #[.string z] 9)).heap[a]?=W.heap[a]?):=⟨U.out l f.out.1,U.out Y f.out.2.1,U.out a f.out.2.2.1⟩
 clear hO aa an L bR am hY hB cd hn bS bP
 refine wp_region_noPanic ?_
 refine wp_region_held_drew (S:=λV=>(V.heap[l]?=W.heap[l]?/\V.heap[Y]?=W.heap[Y]?/\V.heap[a]?=W.heap[a]?)) (by kernel_rfl) bO (λc=>?_)
 refine wpAnyH_take (i:=0) (oi:={dst:=some 74,op:=Op.load _ (.tmp 14),type:=_,pos:=_,after:=_,guard:=_}) (v:=.map (some q)) rfl (by kernel_rfl) (by kernel_rfl) (by kernel_rfl) (λ_ _ _ h=>h) (Or.inl ⟨by rfl,?_⟩) (by assumption) ?_
 ·intro C d
  obtain⟨b0,X,Z,b3⟩:=y.out C d
  clear d
  go_simp
 try simp only[Act.put,jn,jv,jw]
 refine wpAnyH_take (i:=1) (oi:={dst:=some 75,op:=Op.fieldAddr 42 (.tmp 16) 0,type:=_,pos:=_,after:=_,guard:=_}) (v:=.pointer (some ⟨Y,0,none⟩)) rfl (by kernel_rfl) (by kernel_rfl) (by kernel_rfl) (λ_ _ _ h=>h) (Or.inl ⟨by rfl,?_⟩) (by assumption) ?_
 ·intro C d
  obtain⟨b0,X,Z,b3⟩:=y.out C d
  clear d
  go_simp
 try simp only[Act.put,jn,jv,jw]
 refine wpAnyH_take (i:=2) (oi:={dst:=some 76,op:=Op.load _ (.tmp 75),type:=_,pos:=_,after:=_,guard:=_}) (v:=.int .i64 m) rfl (by kernel_rfl) (by kernel_rfl) (by kernel_rfl) (λ_ _ _ h=>h) (Or.inl ⟨by rfl,?_⟩) (by assumption) ?_
 ·intro C d
  obtain⟨b0,X,Z,b3⟩:=y.out C d
  clear d
  go_simp
 try simp only[Act.put,jn,jv,jw]
 refine wpAnyH_take (i:=3) (oi:={dst:=some 77,op:=Op.load _ (.tmp 14),type:=_,pos:=_,after:=_,guard:=_}) (v:=.map (some q)) rfl (by kernel_rfl) (by kernel_rfl) (by kernel_rfl) (λ_ _ _ h=>h) (Or.inl ⟨by rfl,?_⟩) (by assumption) ?_
 ·intro C d
  obtain⟨b0,X,Z,b3⟩:=y.out C d
  clear d
  go_simp
 try simp only[Act.put,jn,jv,jw]
 refine wpAnyH_take (i:=4) (oi:={dst:=some 78,op:=Op.fieldAddr 42 (.tmp 16) 0,type:=_,pos:=_,after:=_,guard:=_}) (v:=.pointer (some ⟨Y,0,none⟩)) rfl (by kernel_rfl) (by kernel_rfl) (by kernel_rfl) (λ_ _ _ h=>h) (Or.inl ⟨by rfl,?_⟩) (by assumption) ?_
 ·intro C d
  obtain⟨b0,X,Z,b3⟩:=y.out C d
  clear d
  go_simp
 try simp only[Act.put,jn,jv,jw]
 refine wpAnyH_take (i:=5) (oi:={dst:=some 79,op:=Op.load _ (.tmp 78),type:=_,pos:=_,after:=_,guard:=_}) (v:=.int .i64 m) rfl (by kernel_rfl) (by kernel_rfl) (by kernel_rfl) (λ_ _ _ h=>h) (Or.inl ⟨by rfl,?_⟩) (by assumption) ?_
 ·intro C d
  obtain⟨b0,X,Z,b3⟩:=y.out C d
  clear d
  go_simp
 try simp only[Act.put,jn,jv,jw]
 refine wpAnyH_take (i:=7) (oi:={dst:=some 81,op:=Op.move (.tmp 11),type:=_,pos:=_,after:=_,guard:=_}) (v:=.map (some a)) rfl (by kernel_rfl) (by kernel_rfl) (by kernel_rfl) (λ_ _ _ h=>h) (Or.inl ⟨by rfl,?_⟩) (by assumption) ?_
 ·intro C d
  obtain⟨b0,X,Z,b3⟩:=y.out C d
  clear d
  go_simp
 try simp only[Act.put,jn,jv,jw]
 refine wpAnyH_take (i:=8) (oi:={dst:=some 82,op:=Op.fieldAddr 42 (.tmp 16) 3,type:=_,pos:=_,after:=_,guard:=_}) (v:=.pointer (some ⟨Y,5,none⟩)) rfl (by kernel_rfl) (by kernel_rfl) (by kernel_rfl) (λ_ _ _ h=>h) (Or.inl ⟨by rfl,?_⟩) (by assumption) ?_
 ·intro C d
  obtain⟨b0,X,Z,b3⟩:=y.out C d
  clear d
  go_simp
 try simp only[Act.put,jn,jv,jw]
 refine wpAnyH_take (i:=9) (oi:={dst:=some 83,op:=Op.load _ (.tmp 82),type:=_,pos:=_,after:=_,guard:=_}) (v:=.int .i64 fd) rfl (by kernel_rfl) (by kernel_rfl) (by kernel_rfl) (λ_ _ _ h=>h) (Or.inl ⟨by rfl,?_⟩) (by assumption) ?_
 ·intro C d
  obtain⟨b0,X,Z,b3⟩:=y.out C d
  clear d
  go_simp
 try simp only[Act.put,jn,jv,jw]
 refine wpAnyH_take (i:=10) (oi:={dst:=some 84,op:=Op.lookup 105 (.tmp 81) (.tmp 83) false,type:=_,pos:=_,after:=_,guard:=_}) (v:=.string z) rfl (by kernel_rfl) (by kernel_rfl) (by kernel_rfl) (λ_ _ _ h=>h) (Or.inl ⟨by rfl,?_⟩) (by assumption) ?_
 ·intro C d
  obtain⟨b0,X,Z,b3⟩:=y.out C d
  clear d
  go_simp
 try simp only[Act.put,jn,jv,jw]
 refine wpAnyH_ready (rs:=[6,11]) (by kernel_rfl) (by simp) ?_
 refine AllReadyH.cons (o:={dst:=some 80,op:=Op.lookup 106 (.tmp 77) (.tmp 79) false,type:=_,pos:=_,after:=_,guard:=_}) rfl (λK r=>?_) (AllReadyH.cons (o:={dst:=some 85,op:=Op.buildSlice 26 1 _,type:=_,pos:=_,after:=_,guard:=_}) rfl (λK r=>?_) AllReadyH.nil)
 ·have z1:=av.out W.drew rfl
  clear c
  go_simp
  clear z1
  refine r.out _ _ bO (λc=>?_)
  clear r K
  try simp only[Act.put,jn,jv,jw]
  refine wpAnyH_ready (rs:=[11]) (by kernel_rfl) (by simp) (AllReadyH.cons (o:={dst:=some 85,op:=Op.buildSlice 26 1 _,type:=_,pos:=_,after:=_,guard:=_}) rfl (λK r=>?_) AllReadyH.nil)
  clear c
  go_simp
  refine r.out _ _ al.out (λc=>?_)
  clear r K
  try simp only[Act.put,jn,jv,jw]
  refine wpAnyH_ready (rs:=[12]) (by kernel_rfl) (by simp) (AllReadyH.cons (o:={dst:=some 86,op:=Op.call _,type:=_,pos:=_,after:=_,guard:=_}) rfl (λK r=>?_) AllReadyH.nil)
  obtain⟨i0,hi,O,P,R⟩:=jao aIN
  refine step_append_lies _ rfl (.tmp 80) (.tmp 85) 26 rfl B 9 i0 (.string ⟨#[]⟩) 1 16 underlying26 hi O P R rfl (by decide) (.slice F k E) k xs rfl (HO.out.alloc _) ⟨W.heap.size,0,none⟩ 1 1 [.string z] rfl rfl (aDJ W _ _) (aL0 _) (by decide) ab ac bN (W.heap.size+1) ad ?_
  intro g T p I D x H
  clear hi O P R
  have t:∀b,b<W.heap.size->(Value.slice F k E).ownBlock≠some b->p.heap[b]?=W.heap[b]?:=λb hb L=>by
   rw[D.block b (by show b<(W.alloc (.cells #[.string z] 9)).heap.size;simp;omega) (λe=>L e.symm)]
   exact j9 _ _ _ hb
  have A:Hid (p.heap[l]?=W.heap[l]?/\p.heap[Y]?=W.heap[Y]?/\p.heap[a]?=W.heap[a]?):=⟨t l f.out.1 G.out.1,t Y f.out.2.1 G.out.2.1,t a f.out.2.2.1 G.out.2.2.1⟩
  obtain⟨w',ar,N,s⟩:=(aw.out.move (t q f.out.2.2.2 G.out.2.2.2)).put underlying106 bQ m ao ap (.slice (some ⟨g,0,none⟩) (k+1) T)
  have aq:W.heap.size<=p.heap.size:=by have h:(W.alloc (.cells #[.string z] 9)).heap.size<=p.heap.size:=D.size;simp at h;omega
  have ak:Hid (w'.heap[l]?=W.heap[l]?/\w'.heap[Y]?=W.heap[Y]?/\w'.heap[a]?=W.heap[a]?):=⟨(s.block l (by have:=f.out.1;omega) (λe=>J.out.1 (jI e))).trans A.out.1,(s.block Y (by have:=f.out.2.1;omega) (λe=>J.out.2.1 (jI e))).trans A.out.2.1,(s.block a (by have:=f.out.2.2.1;omega) (λe=>J.out.2.2 (jI e))).trans A.out.2.2⟩
  have aj:Hid (p.ownsRow B 9 1 (.slice (some ⟨g,0,none⟩) (k+1) T) (k+1) (xs++[.string z])):=I
  have af:Hid _:=D
  have ah:Hid _:=x
  have ag:Hid (g<p.heap.size):=H
  have ai:Hid _:=N
  have ae:Hid (p.grownBy w' (some q)):=s
  clear I D x H t N s aq
  refine r.out _ _ A.out (λc=>?_)
  clear r K
  try simp only[Act.put,jn,jv,jw]
  refine wpAnyH_ready (rs:=[13]) (by kernel_rfl) (by simp) (AllReadyH.cons (o:={dst:=none,op:=Op.mapUpdate 106 (.tmp 74) (.tmp 76) (.tmp 86),type:=_,pos:=_,after:=_,guard:=_}) rfl (λK r=>?_) AllReadyH.nil)
  clear c
  go_simp
  refine r.out _ _ ak.out (λc=>?_)
  clear r K ar
  try simp only[Act.put]
  refine wpAnyH_done (by kernel_rfl) ?_ _
  refine NoPanic.normal ?_
  exact HX.out _ _ _ _ _ _ _ _ _ _ _ _ _ g T p w' aj.out af.out ah.out ag.out ai.out ae.out
 ·clear c
  go_simp
  refine r.out _ _ al.out (λc=>?_)
  clear r K
  try simp only[Act.put,jn,jv,jw]
  refine wpAnyH_ready (rs:=[6]) (by kernel_rfl) (by simp) (AllReadyH.cons (o:={dst:=some 80,op:=Op.lookup 106 (.tmp 77) (.tmp 79) false,type:=_,pos:=_,after:=_,guard:=_}) rfl (λK r=>?_) AllReadyH.nil)
  have z1:=av.out (W.alloc (.cells #[.string z] 9)).drew (U.out q f.out.2.2.2)
  clear c
  go_simp
  clear z1
  refine r.out _ _ al.out (λc=>?_)
  clear r K
  try simp only[Act.put,jn,jv,jw]
  refine wpAnyH_ready (rs:=[12]) (by kernel_rfl) (by simp) (AllReadyH.cons (o:={dst:=some 86,op:=Op.call _,type:=_,pos:=_,after:=_,guard:=_}) rfl (λK r=>?_) AllReadyH.nil)
  obtain⟨i0,hi,O,P,R⟩:=jao aIN
  refine step_append_lies _ rfl (.tmp 80) (.tmp 85) 26 rfl B 9 i0 (.string ⟨#[]⟩) 1 16 underlying26 hi O P R rfl (by decide) (.slice F k E) k xs rfl (HO.out.alloc _) ⟨W.heap.size,0,none⟩ 1 1 [.string z] rfl rfl (aDJ W _ _) (aL0 _) (by decide) ab ac bN (W.heap.size+1) ad ?_
  intro g T p I D x H
  clear hi O P R
  have t:∀b,b<W.heap.size->(Value.slice F k E).ownBlock≠some b->p.heap[b]?=W.heap[b]?:=λb hb L=>by
   rw[D.block b (by show b<(W.alloc (.cells #[.string z] 9)).heap.size;simp;omega) (λe=>L e.symm)]
   exact j9 _ _ _ hb
  have A:Hid (p.heap[l]?=W.heap[l]?/\p.heap[Y]?=W.heap[Y]?/\p.heap[a]?=W.heap[a]?):=⟨t l f.out.1 G.out.1,t Y f.out.2.1 G.out.2.1,t a f.out.2.2.1 G.out.2.2.1⟩
  obtain⟨w',ar,N,s⟩:=(aw.out.move (t q f.out.2.2.2 G.out.2.2.2)).put underlying106 bQ m ao ap (.slice (some ⟨g,0,none⟩) (k+1) T)
  have aq:W.heap.size<=p.heap.size:=by have h:(W.alloc (.cells #[.string z] 9)).heap.size<=p.heap.size:=D.size;simp at h;omega
  have ak:Hid (w'.heap[l]?=W.heap[l]?/\w'.heap[Y]?=W.heap[Y]?/\w'.heap[a]?=W.heap[a]?):=⟨(s.block l (by have:=f.out.1;omega) (λe=>J.out.1 (jI e))).trans A.out.1,(s.block Y (by have:=f.out.2.1;omega) (λe=>J.out.2.1 (jI e))).trans A.out.2.1,(s.block a (by have:=f.out.2.2.1;omega) (λe=>J.out.2.2 (jI e))).trans A.out.2.2⟩
  have aj:Hid (p.ownsRow B 9 1 (.slice (some ⟨g,0,none⟩) (k+1) T) (k+1) (xs++[.string z])):=I
  have af:Hid _:=D
  have ah:Hid _:=x
  have ag:Hid (g<p.heap.size):=H
  have ai:Hid _:=N
  have ae:Hid (p.grownBy w' (some q)):=s
  clear I D x H t N s aq
  refine r.out _ _ A.out (λc=>?_)
  clear r K
  try simp only[Act.put,jn,jv,jw]
  refine wpAnyH_ready (rs:=[13]) (by kernel_rfl) (by simp) (AllReadyH.cons (o:={dst:=none,op:=Op.mapUpdate 106 (.tmp 74) (.tmp 76) (.tmp 86),type:=_,pos:=_,after:=_,guard:=_}) rfl (λK r=>?_) AllReadyH.nil)
  clear c
  go_simp
  refine r.out _ _ ak.out (λc=>?_)
  clear r K ar
  try simp only[Act.put]
  refine wpAnyH_done (by kernel_rfl) ?_ _
  refine NoPanic.normal ?_
  exact HX.out _ _ _ _ _ _ _ _ _ _ _ _ _ g T p w' aj.out af.out ah.out ag.out ai.out ae.out
structure aBw(V:World)(TB mb:Nat)(tx:Int->List jA)(v:Int->Value)(n:Nat)(W:World):Prop where
 bel:jb V W
 tb:W.heap[TB]?=some (.cells #[.map (some mb)] 106)
 map:aAO W mb n (.slice none 0 0) v
 rows:∀k,W.ownsRow (V.heap.size+2) 9 1 (v k) (tx k).length (aRn (tx k))
 apart:∀i j,i≠j->∀b,(v i).ownBlock=some b->(v j).ownBlock≠some b
theorem aBw.below{V:World}{b d:Nat}{f:Int->List jA}{v:Int->Value}{n:Nat}{W c:World}(m:aBw V b d f v n W)(a:jb W c):aBw V b d f v n c:=
 ⟨m.bel.trans (a.mono m.bel.size),aDj m.tb a,m.map.move (a.block _ m.map.lt),λk=>aMm (m.rows k) a,m.apart⟩
theorem aBw.push{V:World}{s t:Nat}{c:Int->jA}{l:List GL}{x:GL}{v:Int->Value}{n:Nat}{W o w':World}{g C:Nat}(m:aBw V s t (aSG c l) v n W)(L:s=V.heap.size+1)(R:t=V.heap.size)
  (d:o.ownsRow (V.heap.size+2) 9 1 (.slice (some (jx g 0)) ((aSG c l x.part).length+1) C) ((aSG c l x.part).length+1) (aRn (aSG c l x.part)++[.string (c x.find)]))(F:(W.alloc (.cells #[.string (c x.find)] 9)).drew.grownBy o (v x.part).ownBlock)(O:(v x.part).ownBlock=some g\/g=W.heap.size+1)(_hlt:g<o.heap.size)
  (P:aAO w' t (n+1) (.slice none 0 0) (λj=>if j=x.part then .slice (some (jx g 0)) ((aSG c l x.part).length+1) C else v j))(r:o.grownBy w' (some t)):aBw V s t (aSG c (l++[x])) (λj=>if j=x.part then .slice (some (jx g 0)) ((aSG c l x.part).length+1) C else v j) (n+1) w':=by
 have f:=λk=>(m.rows k).lt
 have S:W.heap.size+1<=o.heap.size:=by have h:(W.alloc (.cells #[.string (c x.find)] 9)).heap.size<=o.heap.size:=F.size;simpa using h
 have E:s<W.heap.size:=(jl.1 m.tb).1
 have T:∀b,b<W.heap.size->(v x.part).ownBlock≠some b->o.heap[b]?=W.heap[b]?:=λb a H=>by
  rw[F.block b (by show b<(W.alloc (.cells #[.string (c x.find)] 9)).heap.size;simp;omega) (λe=>H e.symm)]
  exact j9 _ _ _ a
 have I:∀b,b<W.heap.size->(v x.part).ownBlock≠some b->b≠t->w'.heap[b]?=W.heap[b]?:=λb a D J=>(r.block b (by omega) (λe=>J (jI e))).trans (T b a D)
 have M:V.heap.size+2<=g:=(d.lt g rfl).1
 have y:jb V o:=by
  have D:jb V (W.alloc (.cells #[.string (c x.find)] 9)).drew:=(m.bel.alloc m.bel.size _).drew
  exact D.grown F (by show V.heap.size<=(W.alloc (.cells #[.string (c x.find)] 9)).heap.size;have:=m.bel.size;simp;omega) (λb a=>by have:=(f x.part b a).1;omega)
 refine⟨y.grown r y.size (λb a=>by have:=jI a;omega),(I s E (λe=>by have:=(f x.part s e).1;omega) (by omega)).trans m.tb,P,λk=>?_,λi j A b a=>?_⟩
 ·rw[aSJ]
  by_cases e:k=x.part
  ·subst e
   simp only[jdl]
   rw[je]
   have p:aRn (aSG c l x.part++[c x.find])=aRn (aSG c l x.part)++[.string (c x.find)]:=by simp[aRn]
   rw[p]
   refine aMo d (λb a=>r.block b (by have:=(d.lt b a).2;omega) (λe=>by have:=jI e;have:=(d.lt b a).1;omega))
  ·simp only[jh e]
   refine aMo (m.rows k) (λb a=>?_)
   have G:=f k b a
   exact I b G.2 (m.apart k x.part e b a) (by omega)
 ·have z:∀k,k≠x.part->(v k).ownBlock≠some g:=λk N B=>by
   rcases O with h|h
   ·exact m.apart k x.part N g B h
   ·have:=(f k g B).2;omega
  by_cases e1:i=x.part
  ·have p:j≠x.part:=λe=>A (e1.trans e.symm)
   simp only[jo e1]at a
   have q:g=b:=by simpa [Value.ownBlock] using a
   simp only[jh p]
   rw[<-q]
   exact z j p
  ·simp only[jh e1]at a
   by_cases p:j=x.part
   ·simp only[jo p]
    intro h
    have q:g=b:=by simpa [Value.ownBlock] using h
    rw[<-q]at a
    exact z i e1 a
   ·simp only[jh p]
    exact m.apart i j A b a
theorem aPn(V:World)(ga:jO)(f gc:Nat)(a:List GL)(bj:G6 V ga f a)(b6:f<=1000)(bk:∀g∈a,GIn g/\-1<=g.find)(p nc:Nat)(d:Int->jA)(D:aAO V p nc (.string ⟨#[]⟩) (λi=>.string (d i)))(n y:Nat)(bh:n=V.heap.size+1)(bm:y=V.heap.size)(W0:World)(h0:aBw V n y (aSG d []) (λ_=>.slice none 0 0) 0 W0){c0 c1 c2 c3 c4 c5 c6 c7 c8 c9 X Z aa ab bq ac ad ae af ag ah ai aj ak al am an ao ap aq ar av aw ax ay az aA aB aC aD aE aF aG aH aI aJ aK aL aM aN aO aP aQ aR aS aT aU aV aW aX aY aZ a0 a1 a2 a3 br bs bt bw bx bz bA bB bC bD bE bF bG bH bI bJ bK a4 a5 a6 a7 a8 a9 bb bc bd be bf bg:Value}(Q:Exit->Act->World->Prop)
  (L:∀{bN bO bP bQ bR bS bT bU bV bW bX bY bZ b0 b1 b2 b3 b4 b5:Value},∀(v:Int->Value) (w':World),aBw V n y (aSG d a) v f w'->Q (.exit 2) ⟨(c0::c1::c2::c3::c4::c5::c6::c7::c8::c9::X::.map (some p)::Z::aa::.pointer (some ⟨n,0,none⟩)::ab::bN::ac::ad::ae::af::ag::ah::ai::aj::ak::al::am::an::ao::ap::aq::ar::av::aw::ax::ay::az::aA::aB::aC::aD::aE::aF::aG::aH::aI::aJ::aK::aL::aM::aN::aO::aP::aQ::aR::aS::aT::aU::aV::aW::aX::aY::aZ::a0::a1::a2::a3::.slice ga f gc::.int .i64 (f:Int)::bO::bP::bQ::bR::bS::bT::bU::bV::bW::bX::bY::bZ::b0::b1::b2::b3::b4::b5::a4::a5::a6::a7::a8::a9::bb::bc::bd::be::bf::bg::[]).toArray,[]⟩ w'):
  Code.wp prog (Code.loop (aKD f22 1)) Q ⟨(c0::c1::c2::c3::c4::c5::c6::c7::c8::c9::X::.map (some p)::Z::aa::.pointer (some ⟨n,0,none⟩)::ab::bq::ac::ad::ae::af::ag::ah::ai::aj::ak::al::am::an::ao::ap::aq::ar::av::aw::ax::ay::az::aA::aB::aC::aD::aE::aF::aG::aH::aI::aJ::aK::aL::aM::aN::aO::aP::aQ::aR::aS::aT::aU::aV::aW::aX::aY::aZ::a0::a1::a2::a3::.slice ga f gc::.int .i64 (f:Int)::.int .i64 0::br::bs::bt::bw::bx::bz::bA::bB::bC::bD::bE::bF::bG::bH::bI::bJ::bK::a4::a5::a6::a7::a8::a9::bb::bc::bd::be::bf::bg::[]).toArray,[]⟩ W0:=by
 have HX:Hid _:=@L
 have O:Hid (∀W,jb V W->G6 W ga f a):=λW h=>bj.below h
 have bo:Hid (∀g∈a,GIn g/\-1<=g.find):=bk
 have bn:Hid (∀W,jb V W->aAO W p nc (.string ⟨#[]⟩) (λi=>.string (d i))):=λW h=>D.move (h.block _ D.lt)
 have N:Hid _:=D.lt
 have o:Hid (n=V.heap.size+1/\y=V.heap.size):=⟨bh,bm⟩
 have H0:Hid (aBw V n y (aSG d (a.take 0)) (λ_=>.slice none 0 0) 0 W0):=h0
 clear L bj bk D bh bm h0
 conv=>arg 2;arg 1;whnf
 go_loopw[70] (λiv wr=>∃(k:Nat) (v:Int->Value),k<=f/\iv=.int .i64 k/\Hid (aBw V n y (aSG d (a.take k)) v k wr)) (λiv _=>f-(intOf iv).toNat)
 case atStart=>exact⟨0,_,jy _,rfl,H0⟩
 case round=>
  obtain⟨k,v,hk,rfl,E⟩:=hrel
  clear H0
  by_cases bl:k<f
  ·have bM:(k:Int)<(f:Int):=by omega
   have hG:=O.out wr E.out.bel
   have s:k<a.length:=by rw[hG.1];exact bl
   obtain⟨gb,go,bL,r⟩:=hG.2 (by omega)
   subst bL
   obtain⟨e0,e1,e2,e3,e4,e5⟩:=r k bl
   have H:a.getD k gl0∈a:=by rw[jd,jc s];exact jQ s
   have J:=bo.out _ H
   have P:Hid (a.take (k+1)=a.take k++[a.getD k gl0]):=by unfold Hid;rw[jan,jc s,jd,jc s];rfl
   have R:Hid ((a.take k).length<=1000):=by unfold Hid;rw[jF];omega
   clear r hG s H
   generalize a.getD k gl0=x at*
   obtain⟨l,x1,x2,x3,x4,M⟩:=x
   simp only at e0 e1 e2 e3 e4 e5
   have A:Hid ((-9223372036854775808<=l/\l<=9223372036854775807)/\M<=9223372036854775807):=by
    obtain⟨⟨⟨m,hm,F⟩,G⟩,-⟩:=J
    simp only at F G
    refine⟨by omega,?_⟩
    rcases G with G|⟨q,hq,G⟩<;>omega
   obtain⟨U,C⟩:∃W,W=wr.alloc (.cells #[.int .i64 l,.int .i64 x1,.int .i64 x2,.string (tx8 x3),.string (tx8 x4),.int .i64 M] 42):=⟨_,rfl⟩
   have bi:jb wr U:=by rw[C];exact ja _ _
   have z:Hid (U.heap[wr.heap.size]?=some (.cells #[.int .i64 l,.int .i64 x1,.int .i64 x2,.string (tx8 x3),.string (tx8 x4),.int .i64 M] 42)):=by rw[C];exact aDi _ _
   have c:Hid (aBw V n y (aSG d (a.take k)) v k U):=E.out.below bi
   have S:Hid _:=C
   have I:Hid (V.heap.size+2<=wr.heap.size):=by have:=(jl.1 E.out.tb).1;have:=o.out;unfold Hid;omega
   have B:Hid (∀b,(v l).ownBlock=some b->b<wr.heap.size):=λb hb=>(E.out.rows l|>.lt b hb).2
   clear bi C E
   generalize tx8 x4=t4 at*
   generalize tx8 x3=t3 at*
   go_upto_region 21 with fail
   rw[<-S.out]
   clear S e0 e1 e2 e3 e4 e5
   obtain⟨Y,hY⟩:∃Y,wr.heap.size=Y:=⟨_,rfl⟩
   rw[hY]at z I B⊢
   clear hY
   have T:Hid (-9223372036854775808<=M):=by have h:=J.2;simp only at h;unfold Hid;omega
   obtain⟨qv,cv,t⟩:=aMi (c.out.rows l)
   have hO:=c.out.rows l
   rw[t]at hO B
   refine aPo U Y n y p (V.heap.size+2) k nc l M A.out.1.1 A.out.1.2 T.out A.out.2 d (d M) rfl v qv (aSG d (a.take k) l).length cv t _ _ _ _ _ z.out c.out.tb c.out.map (bn.out U c.out.bel) hO (by have:=(jl.1 z.out).1;have:=I.out;omega) (j1 (aSH _ _ _) R.out) (by omega) (by have:=o.out;have:=I.out;have:=N.out;omega) (by
    have F:=λb hb=>(hO.lt b hb).1
    have G:=o.out
    have h3:=N.out
    refine⟨λe=>?_,λe=>?_,λe=>?_,λe=>?_⟩
    ·have:=F _ e;omega
    ·have:=B.out _ e;omega
    ·have:=F _ e;omega
    ·have:=F _ e;omega) _ _ _ _ _ _ _ _ _ _ _ _ _ _ _ _ _ _ _ _ _ _ _ _ _ _ _ _ _ _ _ _ _ _ _ _ _ _ _ _ _ _ _ _ _ _ _ _ _ _ _ _ _ _ _ _ _ _ _ _ _ _ _ _ _ _ _ _ _ _ _ _ _ _ _ _ _ _ _ _ _ _ _ _ _ _ _ _ _ _ _ _ _ _ _ _ _ _ ?_
   intro b7 b8 b9 ca cb cd ce cf cg ch ci cj ck g cc w9 w' F G h3 h4 h5 h6
   have bp:Hid (aBw V n y (aSG d (a.take (k+1))) (λj=>if j=l then .slice (some ⟨g,0,none⟩) ((aSG d (a.take k) l).length+1) cc else v j) (k+1) w'):=by
    unfold Hid
    rw[P.out]
    exact c.out.push (x:=⟨l,x1,x2,x3,x4,M⟩) o.out.1 o.out.2 F (by simp only;rw[t];exact G) (by simp only;rw[t];exact h3) h4 h5 h6
   clear F G h3 h4 h5 h6 hO t B c z P R A J T
   go_wp2_with fail
   go_roundw
   case rel=>exact⟨k+1,_,by omega,by go_num,bp⟩
   case measure=>simp[intOf];omega
  ·obtain rfl:k=f:=by omega
   have bM:¬(k:Int)<(k:Int):=by omega
   have HF:Hid (aBw V n y (aSG d a) v k wr):=by
    have h:=E.out
    rw[jK (by rw[(O.out wr E.out.bel).1];exact jf _)]at h
    exact h
   clear E
   go_wp2_with fail
   exact HX.out v _ HF.out
end Go.Proofs.YtbbfcbodhmeanaaGreatDoor

import Derived.Test.YtbbfcbodhmeanaaGreatDoorXrewritesays43
set_option maxHeartbeats 8000000
set_option maxRecDepth 1000000
namespace Go.Proofs.YtbbfcbodhmeanaaGreatDoor
open Go.Proofs.Tryz
open Go.RowKit
theorem aQi(a b c:Int)(s t:jA)(d:Int):(#[Value.int .i64 a,.int .i64 b,.int .i64 c,.string s,.string t,.int .i64 d]:Array Value).all (·.oneCell')=true:=
 all_oneCell_toArray (cs:=[Value.int .i64 a,.int .i64 b,.int .i64 c,.string s,.string t,.int .i64 d]) (by
  intro u f
  simp at f
  rcases f with rfl|rfl|rfl|rfl|rfl|rfl<;>rfl)
theorem aSS{W:World}{G t:Nat}{a b c d e f:Value}(h:W.heap[G]?=some (.cells #[a,b,c,d,e,f] t)):W.there G 0 6:=by
 intro j g
 refine⟨?_,aDg h _⟩
 rw[aDe h (0+j)]
 have:j=0\/j=1\/j=2\/j=3\/j=4\/j=5:=by omega
 rcases this with rfl|rfl|rfl|rfl|rfl|rfl<;>rfl
theorem aCZ{w W:World}(h:jb w W)(a b c d f g:Value):jb w (W.setCells w.heap.size 0 [a,b,c,d,f,g]):=(j5 (p:=jx _ 5) (j5 (p:=jx _ 4) (j5 (p:=jx _ 3) (j5 (p:=jx _ 2) (j5 (p:=jx _ 1) (j5 (p:=jx _ 0) h (jf _) _) (jf _) _) (jf _) _) (jf _) _) (jf _) _) (jf _) _)
theorem aVp(w:World)(o:Obj):jb w (w.alloc o).drew:=((jr _ w).alloc (jf _) _).drew
theorem aVq(w:World)(o:Obj):(w.alloc o).drew.heap[w.heap.size]?=some o:=aDi w o
theorem aHJ{W:World}{G t:Nat}{a b c d e f:Value}(h:W.heap[G]?=some (.cells #[a,b,c,d,e,f] t))(g i j l m n:Value):(W.setCells G 0 [g,i,j,l,m,n]).heap[G]?=some (.cells #[g,i,j,l,m,n] t):=by
 have s:∀(V:World) (k:Nat) (c:Array Value) (x:Value),V.heap[G]?=some (.cells c t)->(V.setCell (jx G k) x).heap[G]?=some (.cells (c.setIfInBounds k x) t):=by
  intro V k c x o
  show(V.heap.modify G _)[G]?=_
  rw[jah,jo rfl,o]
  rfl
 exact s _ 5 _ n (s _ 4 _ m (s _ 3 _ l (s _ 2 _ j (s _ 1 _ i (s _ 0 _ g h)))))
theorem aJ9(w:World)(hM:∀W,jb w W->aAP W)(Z k:Nat)(F0 T0:Int)(d:jA)(g:jB)(bN:g.length<=maxLen)(ab:d.size<=maxLen)(hZ:w.heap[Z]?=some (.cells #[.int .i64 F0,.int .i64 T0,.string d] 40)){c0 c1 c2 c3 c4 c5 c6 c7 c9 af ag ah bF ai aj ak al am an ao ap aq ar av aw ax ay az aA aB aC aD aE aF aG aH aI aJ aK aL aM aN aO aP aQ aR aS aT aU aV aW bG bH bI bJ bK bL bM aX aY aZ a0 a1 a2 a3 a4 a5 a6 a7 a8 a9 bb bc bd be bf bg bh bi bj bk bl bm bn bo bp bq br bs bt bw bx bz bA bB bC bD l m n p q r s t x y z A B C D E H I J L M N O P R T U V X Y aa:Value}(Q:Exit->Act->World->Prop)
  (ac:∀{bO bP bQ bR bS bT bU:Value},∀(G:Nat) (w':World),jb w w'->w.heap.size<=G->w'.heap[G]?=some (.cells #[.int .i64 (k:Int),.int .i64 F0,.int .i64 T0,.string d,.string (tx8 (aJT g d.data.toList)),.int .i64 (-1)] 42)->Q .normal ⟨(c0::c1::c2::c3::c4::c5::c6::c7::.int .i64 (k:Int)::c9::af::ag::.string (tx8 g)::ah::.pointer (some ⟨Z,0,none⟩)::.pointer (some ⟨G,0,none⟩)::ai::aj::ak::al::am::an::ao::ap::aq::ar::av::aw::ax::ay::az::aA::aB::aC::aD::aE::aF::aG::aH::aI::aJ::aK::aL::aM::aN::aO::aP::aQ::aR::aS::aT::aU::aV::aW::bO::bP::bQ::bR::bS::bT::bU::aX::aY::aZ::a0::a1::a2::a3::a4::a5::a6::a7::a8::a9::bb::bc::bd::be::bf::bg::bh::bi::bj::bk::bl::bm::bn::bo::bp::bq::br::bs::bt::bw::bx::bz::bA::bB::bC::bD::l::m::n::p::q::r::s::t::x::y::z::A::B::C::D::E::H::I::J::L::M::N::O::P::R::T::U::V::X::Y::aa::[]).toArray,[]⟩ w'):
  Code.wp prog (aOP f14 17) Q ⟨(c0::c1::c2::c3::c4::c5::c6::c7::.int .i64 (k:Int)::c9::af::ag::.string (tx8 g)::ah::.pointer (some ⟨Z,0,none⟩)::bF::ai::aj::ak::al::am::an::ao::ap::aq::ar::av::aw::ax::ay::az::aA::aB::aC::aD::aE::aF::aG::aH::aI::aJ::aK::aL::aM::aN::aO::aP::aQ::aR::aS::aT::aU::aV::aW::bG::bH::bI::bJ::bK::bL::bM::aX::aY::aZ::a0::a1::a2::a3::a4::a5::a6::a7::a8::a9::bb::bc::bd::be::bf::bg::bh::bi::bj::bk::bl::bm::bn::bo::bp::bq::br::bs::bt::bw::bx::bz::bA::bB::bC::bD::l::m::n::p::q::r::s::t::x::y::z::A::B::C::D::E::H::I::J::L::M::N::O::P::R::T::U::V::X::Y::aa::[]).toArray,[]⟩ w:=by
 have HX:Hid _:=@ac
 clear ac
 conv=>arg 2;whnf
 have CL:Hid (∀W,jb w W->Calls prog 13 #[.string (tx8 g),.string d] W λe w'=>e=.returned (.string (tx8 (aJT g d.data.toList)))/\jb w w'):=λW hW=>(aPh (tx8 g) d (by rw[aTA];omega) ab W (hM W hW)).mono λe w' h=>⟨h.1,hW.trans (h.2.mono hW.size)⟩
 have e0:∀w',jb w w'->w'.cell? ⟨Z,0,none⟩=some (.int .i64 F0):=λw' hb=>(aDe (aDj hZ hb) 0).trans rfl
 have e1:∀w',jb w w'->w'.cell? ⟨Z,1,none⟩=some (.int .i64 T0):=λw' hb=>(aDe (aDj hZ hb) 1).trans rfl
 have e2:∀w',jb w w'->w'.cell? ⟨Z,2,none⟩=some (.string d):=λw' hb=>(aDe (aDj hZ hb) 2).trans rfl
 have j:jb w w.drew:=(jr _ _).drew
 have ad:∀W,jb w W->W.heap[w.heap.size]?=some (.cells #[.int .i64 0,.int .i64 0,.int .i64 0,.string ⟨#[]⟩,.string ⟨#[]⟩,.int .i64 0] 42)->Calls prog 13 #[.string (tx8 g),.string d] W λe w'=>e=.returned (.string (tx8 (aJT g d.data.toList)))/\jb w w'/\w'.heap[w.heap.size]?=some (.cells #[.int .i64 0,.int .i64 0,.int .i64 0,.string ⟨#[]⟩,.string ⟨#[]⟩,.int .i64 0] 42):=λW hW hz=>(aPh (tx8 g) d (by rw[aTA];omega) ab W (hM W hW)).mono λe w' h=>⟨h.1,hW.trans (h.2.mono hW.size),aDj hz h.2⟩
 generalize tx8 (aJT g d.data.toList)=LE at*
 generalize tx8 g=F at*
 clear bN ab hZ
 have CZ:Hid (∀W,jb w W->W.heap[w.heap.size]?=some (.cells #[.int .i64 0,.int .i64 0,.int .i64 0,.string ⟨#[]⟩,.string ⟨#[]⟩,.int .i64 0] 42)->Calls prog 13 #[.string F,.string d] W λe w'=>e=.returned (.string LE)/\jb w w'/\w'.heap[w.heap.size]?=some (.cells #[.int .i64 0,.int .i64 0,.int .i64 0,.string ⟨#[]⟩,.string ⟨#[]⟩,.int .i64 0] 42)):=ad
 clear ad
 refine wp_region_noPanic ?_
 refine wp_region_held_drew (S:=λW=>jb w W) (by kernel_rfl) j (λa=>?_)
 refine wpAnyH_take (i:=0) (oi:={dst:=some 54,op:=Op.move (.tmp 8),type:=_,pos:=_,after:=_,guard:=_}) (v:=.int .i64 (k:Int)) rfl (by kernel_rfl) (by kernel_rfl) (by kernel_rfl) (λ_ _ _ h=>h) (Or.inl ⟨by rfl,?_⟩) (by assumption) ?_
 ·intro W b
  try dsimp only at b
  go_simp
 try simp only[Act.put,jn,jv,jw]
 refine wpAnyH_take (i:=1) (oi:={dst:=some 55,op:=Op.load 40 (.tmp 14),type:=_,pos:=_,after:=_,guard:=_}) (v:=.agg #[.int .i64 F0,.int .i64 T0,.string d]) rfl (by kernel_rfl) (by kernel_rfl) (by kernel_rfl) (λ_ _ _ h=>h) (Or.inl ⟨by rfl,?_⟩) (by assumption) ?_
 ·intro W b
  try dsimp only at b
  go_simp
 try simp only[Act.put,jn,jv,jw]
 refine wpAnyH_take (i:=2) (oi:={dst:=some 56,op:=Op.move (.tmp 12),type:=_,pos:=_,after:=_,guard:=_}) (v:=.string F) rfl (by kernel_rfl) (by kernel_rfl) (by kernel_rfl) (λ_ _ _ h=>h) (Or.inl ⟨by rfl,?_⟩) (by assumption) ?_
 ·intro W b
  try dsimp only at b
  go_simp
 try simp only[Act.put,jn,jv,jw]
 refine wpAnyH_take (i:=3) (oi:={dst:=some 57,op:=Op.fieldAddr 40 (.tmp 14) 2,type:=_,pos:=_,after:=_,guard:=_}) (v:=.pointer (some ⟨Z,2,none⟩)) rfl (by kernel_rfl) (by kernel_rfl) (by kernel_rfl) (λ_ _ _ h=>h) (Or.inl ⟨by rfl,?_⟩) (by assumption) ?_
 ·intro W b
  try dsimp only at b
  go_simp
 try simp only[Act.put,jn,jv,jw]
 refine wpAnyH_take (i:=4) (oi:={dst:=some 58,op:=Op.load 9 (.tmp 57),type:=_,pos:=_,after:=_,guard:=_}) (v:=.string d) rfl (by kernel_rfl) (by kernel_rfl) (by kernel_rfl) (λ_ _ _ h=>h) (Or.inl ⟨by rfl,?_⟩) (by assumption) ?_
 ·intro W b
  try dsimp only at b
  go_simp
 try simp only[Act.put,jn,jv,jw]
 clear e0 e1 e2
 refine wpAnyH_ready (rs:=[5,7]) (by kernel_rfl) (by simp) ?_
 refine AllReadyH.cons (o:={dst:=some 59,op:=Op.call _,type:=_,pos:=_,after:=_,guard:=_}) rfl (λK f=>?_) (AllReadyH.cons (o:={dst:=some 15,op:=Op.alloc 42,type:=_,pos:=_,after:=_,guard:=_}) rfl (λK f=>?_) AllReadyH.nil)
 ·go_simp
  go_at_call 13
  refine(CL.out w.drew j).mono ?_
  rintro e w2 ⟨rfl,c⟩
  go_wp2_with fail
  refine f.out _ _ c (λa=>?_)
  clear f K
  try simp only[Act.put,jn,jv,jw]
  clear CL CZ j
  refine wpAnyH_take (i:=6) (oi:={dst:=some 60,op:=Op.build 42 _,type:=_,pos:=_,after:=_,guard:=_}) (v:=.agg #[.int .i64 (k:Int),.int .i64 F0,.int .i64 T0,.string d,.string LE,.int .i64 (-1)]) rfl (by kernel_rfl) (by kernel_rfl) (by kernel_rfl) (λ_ _ _ h=>h) (Or.inl ⟨by rfl,?_⟩) (by assumption) ?_
  ·intro W b
   try dsimp only at b
   go_simp
  try simp only[Act.put,jn,jv,jw]
  refine wpAnyH_ready (rs:=[7]) (by kernel_rfl) (by simp) (AllReadyH.cons (o:={dst:=some 15,op:=Op.alloc 42,type:=_,pos:=_,after:=_,guard:=_}) rfl (λK f=>?_) AllReadyH.nil)
  go_simp
  refine f.out _ _ (jcl c (Below.size c) _) (λa=>?_)
  clear f K
  try simp only[Act.put,jn,jv,jw]
  refine wpAnyH_ready (rs:=[8]) (by kernel_rfl) (by simp) (AllReadyH.cons (o:={dst:=none,op:=Op.store 42 (.tmp 15) (.tmp 60),type:=_,pos:=_,after:=_,guard:=_}) rfl (λK f=>?_) AllReadyH.nil)
  go_simp
  refine f.out _ _ (jcl c (Below.size c) _) (λa=>?_)
  clear f K
  try simp only[Act.put,jn,jv,jw]
  refine wpAnyH_done (by kernel_rfl) ?_ _
  refine NoPanic.normal ?_
  exact HX.out _ _ (jcl c (Below.size c) _) (Below.size c) (aDi _ _)
 ·go_simp
  refine f.out _ _ (aVp w _) (λa=>?_)
  clear f K
  try simp only[Act.put,jn,jv,jw]
  refine wpAnyH_ready (rs:=[5]) (by kernel_rfl) (by simp) (AllReadyH.cons (o:={dst:=some 59,op:=Op.call _,type:=_,pos:=_,after:=_,guard:=_}) rfl (λK f=>?_) AllReadyH.nil)
  go_simp
  go_at_call 13
  refine(CZ.out _ (aVp w _) (aVq w _)).mono ?_
  rintro e w2 ⟨rfl,c,bE⟩
  have ae:Hid _:=bE
  clear bE
  go_wp2_with fail
  refine f.out _ _ c (λa=>?_)
  clear f K
  try simp only[Act.put,jn,jv,jw]
  clear CL CZ j
  refine wpAnyH_take (i:=6) (oi:={dst:=some 60,op:=Op.build 42 _,type:=_,pos:=_,after:=_,guard:=_}) (v:=.agg #[.int .i64 (k:Int),.int .i64 F0,.int .i64 T0,.string d,.string LE,.int .i64 (-1)]) rfl (by kernel_rfl) (by kernel_rfl) (by kernel_rfl) (λ_ _ _ h=>h) (Or.inl ⟨by rfl,?_⟩) (by assumption) ?_
  ·intro W b
   try dsimp only at b
   go_simp
  try simp only[Act.put,jn,jv,jw]
  refine wpAnyH_ready (rs:=[8]) (by kernel_rfl) (by simp) (AllReadyH.cons (o:={dst:=none,op:=Op.store 42 (.tmp 15) (.tmp 60),type:=_,pos:=_,after:=_,guard:=_}) rfl (λK f=>?_) AllReadyH.nil)
  rw[jo (by rfl)]
  refine wp_store_mid _ _ _ rfl w.heap.size 0 #[.int .i64 (k:Int),.int .i64 F0,.int .i64 T0,.string d,.string LE,.int .i64 (-1)] rfl rfl (aSS ae.out) (by kernel_rfl) (aQi _ _ _ _ _ _) ?_
  refine f.out _ _ (aCZ c _ _ _ _ _ _) (λa=>?_)
  clear f K
  try simp only[Act.put]
  refine wpAnyH_done (by kernel_rfl) ?_ _
  refine NoPanic.normal ?_
  exact HX.out _ _ (aCZ c _ _ _ _ _ _) (jf _) (aHJ ae.out _ _ _ _ _ _)
theorem aAI.below{a w:World}(h:aAI a)(b:jb a w):aAI w:=λW c=>h W (b.trans (c.mono b.size))
theorem aAI.max{a w:World}(h:aAI a)(b:jb a w):aAP w:=(h w b).mx
theorem aHI(w:World)(t:TypeId)(a b c d f g:Value):∀j x,[a,b,c,d,f,g][j]?=some x->(w.alloc (.cells #[a,b,c,d,f,g] t)).cell? (((jx w.heap.size 0):Addr).add j)=some x:=by
 intro j x i
 rw[jaa,j0,aDe (aDi w _) j]
 rw[<-i]
 simp
theorem aHX(l:List PT)(c:List jB)(k N:Nat)(a:List GL)(b:List LK)(j:Nat)(d:j<b.length):a++(b.take (j+1)).map (aHE l c k N)=(a++(b.take j).map (aHE l c k N))++[aHE l c k N (b.getD j (0,[]))]:=by
 rw[jan,jc d,jbg,jd,jc d,jJ]
 rfl
theorem aHK{w:World}{B n j:Nat}{v:Value}{f:List Value}{c:Array Value}(h:w.ownsRow B 42 6 v n f)(a:w.heap[j]?=some (.cells c 40))(e:v.ownBlock=some j):False:=by
 rcases h.2 with⟨rfl,_⟩|⟨g,cap,b,rfl,_,d,_⟩
 ·simp[Value.ownBlock]at e
 ·simp[Value.ownBlock]at e
  subst e
  rw[d]at a
  injection a with a
  injection a with _ h _
  exact absurd h (by decide)
theorem aQj(a b c:Int)(s t:jA)(d:Int):∀u∈[Value.int .i64 a,.int .i64 b,.int .i64 c,.string s,.string t,.int .i64 d],u.oneCell'=true:=by
 intro u f
 simp at f
 rcases f with rfl|rfl|rfl|rfl|rfl|rfl<;>rfl
theorem aBJ{a b f:World}{o:Obj}{v:Value}{n j:Nat}{q:List Value}{c:Array Value}(l:jb a b)(k:b.ownsRow a.heap.size 42 6 v n q)(d:b.heap[j]?=some (.cells c 40))(g:(b.alloc o).grownBy f v.ownBlock):jb a f/\f.heap[j]?=some (.cells c 40):=by
 have p:=l.size
 refine⟨(l.alloc p _).grown g (by simp;omega) (λi m=>(k.lt i m).1),?_⟩
 refine(g.block j (by have:=(jl.1 d).1;simp;omega) (λe=>aHK k d e.symm)).trans (aDj d (ja _ _))
theorem aDb(p:PT)(pb:Option Addr)(cb:Nat)(pk:Option Addr)(ck F:Nat)(w:World)(hE:aAI w)(hH:aA3 w F p pb cb pk ck):
  Calls prog 9 #[.agg #[.string p.ty,.string p.cs,.string p.id,.string p.loc,.int .i64 p.how,.slice pb p.body.length cb,.slice pk p.kids.length ck]] w λe w'=>aAA w (aNh p) e w':=by
 obtain⟨i0,hi,bK,bL,bM⟩:=jao aIG
 have HE:Hid (aAI w):=hE
 have CS:Hid (∀W,Below w.heap.size w W->Calls prog 39 #[.agg #[.string p.ty,.string p.cs,.string p.id,.string p.loc,.int .i64 p.how,.slice pb p.body.length cb,.slice pk p.kids.length ck]] W λe w'=>aBl W (aNh p) e w'):=λW hb=>aQg p pb cb pk ck F W (hE.max hb) (hH.below hb)
 have bz:=aNk p
 generalize aNh p=R at*
 clear hE hH
 go_enter func9,ntmps9
 go_wp2_with fail
 have aL:Below w.heap.size w (w.alloc (.cells #[.string p.ty,.string p.cs,.string p.id,.string p.loc,.int .i64 p.how,.slice pb p.body.length cb,.slice pk p.kids.length ck] 25)):=(jr _ _).alloc (jf _) _
 refine(CS.out _ aL).mono ?_
 rintro e f ⟨a6,aP,aQ⟩
 have s:Below w.heap.size w f:=aL.trans (a6.mono (by simp))
 clear a6 aL CS
 by_cases h0:R.1=0
 ·obtain⟨g,q,c,rfl,hg,hS⟩:=aQ h0
  clear aP aQ
  have HR:Hid (R.1=0):=h0
  obtain⟨L,hL⟩:∃L,R.2.map (λx=>x.1.alone)=L:=⟨_,rfl⟩
  obtain⟨d,aR⟩:∃d,aU0 R.2=d:=⟨_,rfl⟩
  rw[hL,aR]at hS
  have bA:L.length<=12:=hS.few
  obtain⟨n,hn⟩:∃n,L.length=n:=⟨_,rfl⟩
  have HN:Hid (L.length=n):=hn
  have bH:=hS.slice
  rw[hn]at bH bA
  have HS:Hid (SAt f g q c L d):=hS
  have ay:=hS.cap
  rw[hn]at ay
  obtain⟨bP,bQ⟩:=ay
  have J:Hid (∀(e:Ending) (w':World),Below w.heap.size w w'->(match aHM aKG L d 0 L []with|none=>e=.returned (.tuple #[.slice none 0 0,.int .i64 2])|some l=>∃v,e=.returned (.tuple #[v,.int .i64 0])/\w'.ownsRow w.heap.size 42 6 v l.length (glv l))->aAA w R e w'):=λe w' hb h=>⟨hb,λh1=>absurd HR.out h1,λ_=>by rw[hL,aR];exact h⟩
  obtain⟨C,ad⟩:∃r,aHM aKG L d 0 L []=r:=⟨_,rfl⟩
  rw[ad]at J
  have ax:Hid (aHM aKG L d 0 (L.drop 0) []=C):=ad
  clear hS hg h0 hL aR hn ad HR bz
  go_wp2_with fail
  go_loopw[6,27] (λov iv wr=>∃(k:Nat) (a:List GL) (qv:Option Addr) (V cv:Nat),k<=n/\iv=.int .i64 k/\ov=.slice qv V cv/\Hid (V=a.length)/\V<=60*k/\Below f.heap.size f wr/\Hid (wr.ownsRow f.heap.size 42 6 (.slice qv V cv) V (glv a))/\Hid (aHM aKG L d k (L.drop k) a=C)) (λ_ iv _=>n-(intOf iv).toNat)
  case atStart=>exact⟨0,[],none,0,0,jy _,rfl,rfl,rfl,jy _,jr _ _,jT _ _ _ _,ax⟩
  case round=>
   obtain⟨k,a,qv,V,cv,hk,rfl,rfl,aC,bR,O,HO,HG⟩:=hrel
   clear ax
   have bh:=O.size
   by_cases bF:k<n
   ·have bG:(k:Int)<(n:Int):=by omega
    have av:k<L.length:=by rw[HN.out];exact bF
    obtain⟨b,o,rfl,bO,xb,ai,xk,bj,⟨c0,c1,c2,c3,c4,c5,c6⟩,hH⟩:=(HS.out.below O).part k av
    have ac:Hid (aAe wr xb (L.getD k pt0).body/\(xb=none->(L.getD k pt0).body.length=0/\ai=0)):=⟨hH.2.2.1,λe=>by have h1:=hH.2.1.2.2 e;have h2:=hH.2.1.1;exact⟨by omega,h1⟩⟩
    have M:Hid ((L.getD k pt0).ty.data.toList≠aIh->aHM aKG L d (k+1) (L.drop (k+1)) a=C):=λaO=>by rw[<-aHQ aKG L d L k a av aO];exact HG.out
    have B:Hid ((L.getD k pt0).ty.data.toList=aIh->((aGz aKG (L.getD k pt0).body).bind λi=>aHM aKG L d (k+1) (L.drop (k+1)) (a++i.map (aHE L d k (L.getD k pt0).body.length)))=C):=λaO=>by rw[<-aHP aKG L d L k a av aO];exact HG.out
    have an:Hid ((L.getD k pt0).ty.toList=(L.getD k pt0).ty.data.toList):=jj _
    clear hH HG av
    generalize (L.getD k pt0).kids.length=bm at*
    generalize (L.getD k pt0).how=aA at*
    generalize (L.getD k pt0).body=BO at*
    obtain⟨N,hN⟩:∃N,BO.length=N:=⟨_,rfl⟩
    have aZ:Hid (BO.length=N):=hN
    rw[hN]at c5 ac B
    clear hN
    generalize (L.getD k pt0).loc=aB at*
    generalize (L.getD k pt0).id=bl at*
    generalize (L.getD k pt0).cs=bk at*
    generalize (L.getD k pt0).ty=aj at*
    by_cases ab:aj.data.toList=aIh
    ·have hE:(aj.toList==[116,101,120,116,47,104,116,109,108])=true:=by rw[an.out,ab];rfl
     have HP:=B.out ab
     have am:Hid (((aGz aKG BO).bind λi=>aHM aKG L d (k+1) (L.drop (k+1)) (a++i.map (aHE L d k N)))=C):=HP
     clear HP M B an ab
     obtain⟨Z,aJ⟩:∃W,W=wr.alloc (.cells #[.string aj,.string bk,.string bl,.string aB,.int .i64 aA,.slice xb N ai,.slice xk bm bj] 25):=⟨_,rfl⟩
     have aq:Below wr.heap.size wr Z:=by rw[aJ];exact(jr _ _).alloc (jf _) _
     have a1:Hid (Z.ownsRow f.heap.size 42 6 (.slice qv V cv) V (glv a)):=aMm HO.out aq
     have af:Below f.heap.size f Z:=O.trans (aq.mono O.size)
     have bb:Below w.heap.size w Z:=s.trans (af.mono s.size)
     have CF:Hid (Calls prog 35 #[.slice xb N ai] Z λe w'=>aAv Z BO.length (aGz aKG BO) e w'):=aGF w HE.out xb N ai BO aZ.out.symm Z bb (ac.out.1.under aq) ac.out.2
     clear ac HO
     go_wp2_with fail
     rw[<-aJ]
     clear aJ aq O c0 c1 c2 c3 c4 c5 c6 bh
     refine CF.out.mono ?_
     rintro e w4 ⟨aM,hF⟩
     clear CF
     have ae:Below f.heap.size f w4:=af.trans (aM.mono af.size)
     have a0:Hid (w4.ownsRow f.heap.size 42 6 (.slice qv V cv) V (glv a)):=aMm a1.out aM
     clear a1
     cases H:aGz aKG BO with
     |none=>
      rw[H]at hF
      simp only at hF
      subst hF
      have HX:Hid (none=C):=by have h:=am.out;rw[H]at h;exact h
      clear am H
      go_wp2_with fail
      go_ret2
      refine J.out _ _ (s.trans (ae.mono s.size)) ?_
      rw[<-HX.out]
      rfl
     |some i=>
      rw[H]at hF
      simp only at hF
      obtain⟨v4,rfl,I⟩:=hF
      have bp:Hid (∀x∈i,(aTW x.2).length<=4000):=aGN H
      have bd:i.length<=60:=(aGK aKG BO i H).2.1
      have HX:Hid (aHM aKG L d (k+1) (L.drop (k+1)) (a++i.map (aHE L d k N))=C):=by have h:=am.out;rw[H]at h;exact h
      clear am H
      obtain⟨m,hm⟩:∃m,i.length=m:=⟨_,rfl⟩
      have HM:Hid (i.length=m):=hm
      rw[hm]at I bd
      rw[aZ.out]at I
      obtain⟨q4,aa,rfl⟩:=aMi I
      have aW:Hid (w4.ownsRow Z.heap.size 40 3 (.slice q4 m aa) m (lv N i)):=I
      clear hm I
      go_wp2_with fail
      go_loopw[6,46] (λov iv wy=>∃(j:Nat) (qy:Option Addr) (t cy:Nat),j<=m/\iv=.int .i64 j/\ov=.slice qy t cy/\Hid (t=(a++(i.take j).map (aHE L d k N)).length)/\t<=60*k+j/\Below f.heap.size f wy/\Hid (wy.ownsRow f.heap.size 42 6 (.slice qy t cy) t (glv (a++(i.take j).map (aHE L d k N))))/\Hid (wy.ownsRow Z.heap.size 40 3 (.slice q4 m aa) m (lv N i))) (λ_ iv _=>m-(intOf iv).toNat)
      case atStart=>exact⟨0,qv,V,cv,jy _,rfl,rfl,by unfold Hid;simpa using aC.out,by omega,ae,by unfold Hid;simpa using a0.out,aW⟩
      case round=>
       obtain⟨j,qy,t,cy,hj,rfl,rfl,aD,bS,ag,al,ak⟩:=hrel
       clear a0 aW aM ae
       have bI:=ag.size
       by_cases bD:j<m
       ·have bE:(j:Int)<(m:Int):=by omega
        have P:j<i.length:=by rw[HM.out];exact bD
        have a3:aAH wr q4 N i:=by
         have h:=ak.out
         rw[<-HM.out]at h
         obtain⟨p',c',e,_,_,_,hr⟩:=aMe h
         cases e
         exact hr
        obtain⟨b4,rfl,bc⟩:=a3 (λe=>by rw[e]at P;simp at P)
        obtain⟨l0,l1,l2⟩:=bc j P
        have aF:Hid (a++(i.take (j+1)).map (aHE L d k N)=(a++(i.take j).map (aHE L d k N))++[aHE L d k N (i.getD j (0,[]))]):=aHX L d k N a i j P
        have bw:Hid ((aTW (i.getD j (0,[])).2).length<=4000):=bp.out _ (by rw[jd,jc P];exact jQ P)
        generalize i.getD j (0,[])=y at*
        have aU:Hid (g1v (aHE L d k N y)=[.int .i64 (k:Int),.int .i64 ((N-y.1:Nat):Int),.int .i64 ((N-y.1+y.2.length:Nat):Int),.string (lba (aTW y.2)),.string (tx8 (aJT (aHn d k) (aTW y.2))),.int .i64 (aGC L d (aJT (aHn d k) (aTW y.2)))]):=rfl
        have aw:Hid (∀W,Below w.heap.size w W->Calls prog 12 #[.string (tx8 (aHn d k)),.string (lba (aTW y.2))] W λe w'=>e=.returned (.string (tx8 (aJT (aHn d k) (aTW y.2))))/\Below W.heap.size W w'):=λW hW=>aDc _ _ (by rw[aTA];have:=aHo d HS.out.short k;unfold maxLen;omega) (by have:=bw.out;show(tx8 (aTW y.2)).size<=maxLen;rw[aTA];unfold maxLen;omega) W (HE.out.max hW)
        have aS:Hid (∀W,Below f.heap.size f W->Calls prog 42 #[.pointer (some ⟨g,0,none⟩),.string (tx8 (aJT (aHn d k) (aTW y.2)))] W λe w'=>e=.returned (.int .i64 (aGC L d (aJT (aHn d k) (aTW y.2))))/\Below W.heap.size W w'):=λW hW=>aC9 _ (aJU _ _) W g (some ⟨b,o,none⟩) c L d (HS.out.below hW)
        have aT:Hid (∀W,Below f.heap.size f W->Calls prog 41 #[.pointer (some ⟨g,0,none⟩),.int .i64 (k:Int)] W λe w'=>e=.returned (.string (tx8 (aHn d k)))/\w'=W):=λW hW=>aHp (k:Int) (by omega) W g (some ⟨b,o,none⟩) c L d (HS.out.below hW)
        clear a3 bc P
        generalize aGC L d (aJT (aHn d k) (aTW y.2))=FI at*
        generalize aJT (aHn d k) (aTW y.2)=LE at*
        generalize aHn d k=FR at*
        generalize lba (aTW y.2)=S at*
        generalize ((N-y.1:Nat):Int)=X at*
        generalize ((N-y.1+y.2.length:Nat):Int)=Y at*
        obtain⟨T,ap⟩:∃W,W=wr.alloc (.cells #[.int .i64 X,.int .i64 Y,.string S] 40):=⟨_,rfl⟩
        have U:Below wr.heap.size wr T:=by rw[ap];exact(jr _ _).alloc (jf _) _
        have aN:T.heap[wr.heap.size]?=some (.cells #[.int .i64 X,.int .i64 Y,.string S] 40):=by rw[ap];exact aDi _ _
        have D:Below f.heap.size f T:=ag.trans (U.mono ag.size)
        have a2:Hid (T.ownsRow f.heap.size 42 6 (.slice qy t cy) t (glv (a++(i.take j).map (aHE L d k N)))):=aMm al.out U
        have aY:Hid (T.ownsRow Z.heap.size 40 3 (.slice (some ⟨b4,0,none⟩) m aa) m (lv N i)):=aMm ak.out U
        have aK:Below T.heap.size T T:=jr _ _
        have e2:∀w',Below T.heap.size T w'->w'.cell? ⟨wr.heap.size,2,none⟩=some (.string S):=λw' hb=>(aDe (aDj aN hb) 2).trans rfl
        go_upto_region 15 with fail
        rw[<-ap]
        clear ap U ag al ak l0 l1 l2 bI
        go_region_held3 (λw'=>Below T.heap.size T w') (first|assumption|exact aK.drew) (first
         |(go_at_call 41;refine(aT.out _ D.drew).mono ?_;rintro e w5 ⟨rfl,bJ⟩;have bi:=bJ.symm;subst bi)
         |(go_at_call 12;refine(aw.out _ (s.trans ((D.drew).mono s.size))).mono ?_;rintro e w6 ⟨rfl,a8⟩;have G:Below T.heap.size T w6:=(aK.drew).trans (a8.mono (jf _));clear a8))
        have ah:=aDj aN G
        have z:Below f.heap.size f w6:=D.trans (G.mono D.size)
        have aE:Hid (w6.ownsRow f.heap.size 42 6 (.slice qy t cy) t (glv (a++(i.take j).map (aHE L d k N)))):=aMm a2.out G
        have aX:Hid (w6.ownsRow Z.heap.size 40 3 (.slice (some ⟨b4,0,none⟩) m aa) m (lv N i)):=aMm aY.out G
        have bN:wr.heap.size<w6.heap.size:=(jl.1 ah).1
        clear a2 aY aT aw aK e2 aN D G
        have f0:∀w',(Below f.heap.size f w'/\w'.heap[wr.heap.size]?=some (.cells #[.int .i64 X,.int .i64 Y,.string S] 40))->w'.cell? ⟨wr.heap.size,0,none⟩=some (.int .i64 X):=λw' h=>(aDe h.2 0).trans rfl
        have f1:∀w',(Below f.heap.size f w'/\w'.heap[wr.heap.size]?=some (.cells #[.int .i64 X,.int .i64 Y,.string S] 40))->w'.cell? ⟨wr.heap.size,1,none⟩=some (.int .i64 Y):=λw' h=>(aDe h.2 1).trans rfl
        have f2:∀w',(Below f.heap.size f w'/\w'.heap[wr.heap.size]?=some (.cells #[.int .i64 X,.int .i64 Y,.string S] 40))->w'.cell? ⟨wr.heap.size,2,none⟩=some (.string S):=λw' h=>(aDe h.2 2).trans rfl
        obtain⟨GV,aG⟩:∃GV,GV=glv (a++(i.take j).map (aHE L d k N)):=⟨_,rfl⟩
        have aV:Hid (GV=glv (a++(i.take j).map (aHE L d k N))):=aG
        rw[<-aG]at aE
        clear aG
        have be:t+1<=maxLen:=by unfold maxLen;omega
        have bf:(t+1)*64<=140737488355328:=by omega
        have bB:Below f.heap.size f w6/\w6.heap[wr.heap.size]?=some (.cells #[.int .i64 X,.int .i64 Y,.string S] 40):=⟨z,ah⟩
        have a5:Below f.heap.size f w6.drew/\w6.drew.heap[wr.heap.size]?=some (.cells #[.int .i64 X,.int .i64 Y,.string S] 40):=⟨z.drew,ah⟩
        go_wp2_with fail
        go_region_held3 (λw'=>Below f.heap.size f w'/\w'.heap[wr.heap.size]?=some (.cells #[.int .i64 X,.int .i64 Y,.string S] 40)) (first|assumption|exact⟨A.alloc A.size _,aDj ar ((jr _ _).alloc (jf _) _)⟩|exact aI) (first
         |(go_at_call 42;refine(aS.out _ z.drew).mono ?_;rintro e w7 ⟨rfl,a9⟩;have E:Below w6.heap.size w6 w7:=((jr _ w6).drew).trans (a9.mono (jf _));have A:Below f.heap.size f w7:=z.trans (E.mono z.size);have ar:=aDj ah E;have ao:=aMm aE.out E;have aH:=aMm aX.out E;have bC:Below f.heap.size f w7/\w7.heap[wr.heap.size]?=some (.cells #[.int .i64 X,.int .i64 Y,.string S] 40):=⟨A,ar⟩;have bg:f.heap.size<=(w7.alloc (.cells #[.int .i64 (k:Int),.int .i64 X,.int .i64 Y,.string S,.string (tx8 LE),.int .i64 FI] 42)).heap.size:=(by have:=A.size;simp;omega);clear a9)
         |(refine aRc rfl (.tmp 56) (.tmp 64) 30 rfl f.heap.size 42 i0 (.agg #[.int .i64 0,.int .i64 0,.int .i64 0,.string ⟨#[]⟩,.string ⟨#[]⟩,.int .i64 0]) 6 64 underlying30 hi bK bL bM rfl (by decide) (.slice qy t cy) t GV rfl (ao.alloc _) ⟨w7.heap.size,0,none⟩ 1 1 [.int .i64 (k:Int),.int .i64 X,.int .i64 Y,.string S,.string (tx8 LE),.int .i64 FI] rfl rfl (aHI w7 _ _ _ _ _ _ _) (aQj _ _ _ _ _ _) be bf bg ?_;intro v9 w9 az g9;have aI:=aBJ A ao ar g9))
        have a4:w9.ownsRow Z.heap.size 40 3 (.slice (some ⟨b4,0,none⟩) m aa) m (lv N i):=(aH.alloc _).kept g9 (aMn (aH.alloc (.cells #[.int .i64 (k:Int),.int .i64 X,.int .i64 Y,.string S,.string (tx8 LE),.int .i64 FI] 42)) (ao.alloc _) (by decide))
        have R9:w9.ownsRow f.heap.size 42 6 v9 (t+1) (glv (a++(i.take (j+1)).map (aHE L d k N))):=by
         rw[aF.out,aHz,aU.out,<-aV.out]
         exact az
        obtain⟨q9,c9,rfl⟩:=aMi R9
        have bt:Hid (w9.ownsRow f.heap.size 42 6 (.slice q9 (t+1) c9) (t+1) (glv (a++(i.take (j+1)).map (aHE L d k N)))):=R9
        have bo:Hid (w9.ownsRow Z.heap.size 40 3 (.slice (some ⟨b4,0,none⟩) m aa) m (lv N i)):=a4
        have br:Hid (t+1=(a++(i.take (j+1)).map (aHE L d k N)).length):=by unfold Hid;rw[aF.out,je,<-aD.out];rfl
        have a7:=aI.1
        clear az g9 R9 a4 ao aH aI ar bC bg A E aV aF aU aE aX f0 f1 f2 bB a5 ah z be bf aS
        go_wp2_with fail
        go_roundw
        case rel=>exact⟨j+1,q9,t+1,c9,by omega,by go_num,rfl,br,by omega,a7,bt,bo⟩
        case measure=>simp[intOf];omega
       ·obtain rfl:j=m:=by omega
        have bE:¬(j:Int)<(j:Int):=by omega
        have bn:Hid (wr.ownsRow f.heap.size 42 6 (.slice qy t cy) t (glv (a++i.map (aHE L d k N)))):=by
         have h:=al.out
         rw[jK (by rw[HM.out];omega)]at h
         exact h
        have bq:Hid (t=(a++i.map (aHE L d k N)).length):=by
         have h:=aD.out
         rw[jK (by rw[HM.out];omega)]at h
         exact h
        clear al aD ak
        go_wp2_with fail
        go_roundw
        case rel=>exact⟨k+1,_,qy,t,cy,by omega,by go_num,rfl,bq,by omega,ag,bn,HX⟩
        case measure=>simp[intOf];omega
    ·have hE:(aj.toList==[116,101,120,116,47,104,116,109,108])=false:=by rw[an.out,jg];exact ab
     have HX:=M.out ab
     have bx:Hid (aHM aKG L d (k+1) (L.drop (k+1)) a=C):=HX
     clear HX M B an ab ac
     have bs:Hid ((wr.alloc (.cells #[.string aj,.string bk,.string bl,.string aB,.int .i64 aA,.slice xb N ai,.slice xk bm bj] 25)).ownsRow f.heap.size 42 6 (.slice qv V cv) V (glv a)):=HO.out.alloc _
     clear HO
     go_wp2_with fail
     go_roundw
     case rel=>exact⟨k+1,a,qv,V,cv,by omega,by go_num,rfl,aC,by omega,O.alloc bh _,bs,bx⟩
     case measure=>simp[intOf];omega
   ·obtain rfl:k=n:=by omega
    have bG:¬(k:Int)<(k:Int):=by omega
    have HF:Hid (some a=C):=by
     have h:=HG.out
     rw[jC (by rw[HN.out];omega),aHM]at h
     exact h
    clear HG
    go_wp2_with fail
    go_ret2
    refine J.out _ _ (s.trans (O.mono s.size)) ?_
    rw[<-HF.out]
    refine⟨_,rfl,?_⟩
    rw[<-aC.out]
    exact aMs HO.out s.size
 ·obtain rfl:=aP h0
  have hz:((R.1:Int)==0)=false:=by rw[jg];omega
  have HR:Hid (R.1≠0):=h0
  clear h0 aP aQ
  go_wp2_with fail
  go_ret2
  exact⟨s,λ_=>rfl,λh=>absurd h HR.out⟩
end Go.Proofs.YtbbfcbodhmeanaaGreatDoor

import Derived.Test.YtbbfcbodhmeanaaGreatDoorXrewritesays44
set_option maxHeartbeats 8000000
set_option maxRecDepth 1000000
namespace Go.Proofs.YtbbfcbodhmeanaaGreatDoor
open Go.Proofs.Tryz
open Go.RowKit
theorem aHH{a b c:World}{o:Obj}{v:Value}{n d m:Nat}{s p:List Value}{l:Value}(k:jb a b)(j:b.ownsRow a.heap.size 42 6 v n s)(g:b.ownsRow d 40 3 l m p)(f:(b.alloc o).grownBy c v.ownBlock):jb a c/\c.ownsRow d 40 3 l m p:=by
 have r:=k.size
 exact⟨(k.alloc r _).grown f (by simp;omega) (λi q=>(j.lt i q).1),(g.alloc _).kept f (aMn (g.alloc o) (j.alloc _) (by decide))⟩
theorem aHq{w:World}{G b c d f:Nat}{L:List PT}{a:List jB}(h:aAz w G b c d f L a)(i:Int):(aHn a i).length<=120:=by
 unfold aHn
 split
 ·rw[aLH];omega
 ·split
  ·rw[aLH];omega
  ·exact h.wl _
theorem aAz.later{w W:World}{G d f g j:Nat}{L:List PT}{i:List jB}(h:aAz w w.heap.size d f g j L i)(c:jb w W)(b:w.heap.size<=G):aAz W G d f g j L i:=
 ⟨λV a=>h.all V (c.trans (a.mono b)),λV a=>h.tel V (c.trans (a.mono b)),λV a=>h.mx V (c.trans (a.mono b)),h.len,h.wl,h.few⟩
theorem lg2(c:World)(ab ao wb wo n ca cw:Nat)(L:List PT)(d:List (List UInt8))(en:n=L.length)(hI:aAz c c.heap.size ab ao wb wo L d)(k N Bl m:Nat)(hk:k<=1000)(r:List UInt8)(X:r=aHn d k)(a:List GL)(b:List LK)(bx:∀x∈b,(aTW x.2).length<=4000)(eG:m<=60)(hm:b.length=m)(q4:Option Addr)(i:Nat)(w:World)(hb:Below c.heap.size c w)(bt:w.ownsRow Bl 40 3 (.slice q4 m i) m (lv N b))(qv:Option Addr)(nv cv:Nat)(bG:nv=a.length)(bF:nv<=60*k)(hO:w.ownsRow c.heap.size 42 6 (.slice qv nv cv) nv (glv a)){c0 c1 c2 c3 c9 an aC aW cx cz cA cB cC aX aY aZ a0 a1 a2 a3 a4 a5 a6 a7 a8 a9 bb bc bd be bf bg bh bi bj bk bl bm bn bo bp bq cD cE cF cG cH cI cJ cK cL cM cN cO cP cQ cR cS cT cU cV cW cX cY cZ c7 c8 da db dc dd de df dg dh di dj dk dl dm dn dp dq dr ds dt dv dw dx dy dz ap aq ar av aw ax ay az aA aB aD aE aF aG aH aI aJ aK aL aM aN aO aP aQ aR aS aT aU aV M O:Value}(Q:Exit->Act->World->Prop)
  (aa:∀{dH dI dJ dK dL dM dN dO dP cc cd ce cf cg ch ci dQ dR dS dT dU dV dW dX dY dZ ea eb ec ed ee ef eg eh ei ej ek em eo ep eq er es et ev ew ex ey ez eA eB eC eD eE eF bH bI bJ bK bL bM bN bO bP bQ bR bS bT bU bV bW bX bY bZ b0 b1 b2 b3 b5 b6 b7 b8 b9 cb:Value},∀(B:Option Addr) (f A:Nat) (w':World),Below c.heap.size c w'->f=(a++b.map (aHE L d k N)).length->f<=60*k+60->w'.ownsRow c.heap.size 42 6 (.slice B f A) f (glv (a++b.map (aHE L d k N)))->Q (.exit 2) ⟨(c0::c1::c2::c3::.slice (some ⟨ab,ao,none⟩) n ca::.slice (some ⟨wb,wo,none⟩) n cw::.func (Fn.func 56) #[] #[]::.slice B f A::.int .i64 (k:Int)::c9::an::aC::.string (tx8 r)::aW::dH::dI::dJ::dK::dL::aX::aY::aZ::a0::a1::a2::a3::a4::a5::a6::a7::a8::a9::bb::bc::bd::be::bf::bg::bh::bi::bj::bk::bl::bm::bn::bo::bp::bq::.slice q4 m i::.int .i64 (m:Int)::dM::dN::dO::dP::cc::cd::ce::cf::cg::ch::ci::dQ::dR::dS::dT::dU::dV::dW::dX::dY::dZ::ea::eb::ec::ed::ee::ef::eg::eh::ei::ej::ek::em::eo::ep::eq::er::es::et::ev::ew::ex::ey::ez::eA::eB::eC::eD::eE::eF::bH::bI::bJ::bK::bL::bM::bN::bO::bP::bQ::bR::bS::bT::bU::bV::bW::bX::bY::bZ::b0::b1::b2::b3::b5::b6::b7::b8::b9::cb::M::O::[]).toArray,[]⟩ w'):
  Code.wp prog (Code.loop (aKD f14 1)) Q ⟨(c0::c1::c2::c3::.slice (some ⟨ab,ao,none⟩) n ca::.slice (some ⟨wb,wo,none⟩) n cw::.func (Fn.func 56) #[] #[]::.slice qv nv cv::.int .i64 (k:Int)::c9::an::aC::.string (tx8 r)::aW::cx::cz::cA::cB::cC::aX::aY::aZ::a0::a1::a2::a3::a4::a5::a6::a7::a8::a9::bb::bc::bd::be::bf::bg::bh::bi::bj::bk::bl::bm::bn::bo::bp::bq::.slice q4 m i::.int .i64 (m:Int)::.int .i64 0::cD::cE::cF::cG::cH::cI::cJ::cK::cL::cM::cN::cO::cP::cQ::cR::cS::cT::cU::cV::cW::cX::cY::cZ::c7::c8::da::db::dc::dd::de::df::dg::dh::di::dj::dk::dl::dm::dn::dp::dq::dr::ds::dt::dv::dw::dx::dy::dz::ap::aq::ar::av::aw::ax::ay::az::aA::aB::aD::aE::aF::aG::aH::aI::aJ::aK::aL::aM::aN::aO::aP::aQ::aR::aS::aT::aU::aV::M::O::[]).toArray,[]⟩ w:=by
 obtain⟨i0,hi,dE,dF,dG⟩:=jao aIG
 have HX:Hid _:=@aa
 have HI:Hid (aAz c c.heap.size ab ao wb wo L d):=hI
 have HN:Hid (n=L.length):=en
 have cj:n<=1000:=by rw[en];exact hI.few
 have cq:Hid (∀x∈b,(aTW x.2).length<=4000):=bx
 have HM:Hid (b.length=m):=hm
 have cn:Hid (r=aHn d k):=X
 have cm:Hid (r.length<=120):=by unfold Hid;rw[X];exact aHq hI _
 have e8:IntKind.i64.wrap ((n:Int)-1)=(n:Int)-1:=by rw[ju];omega
 clear aa hI en bx hm X
 conv=>arg 2;arg 1;whnf
 go_loopw[7,50] (λov iv wy=>∃(j:Nat) (B:Option Addr) (f A:Nat),j<=m/\iv=.int .i64 j/\ov=.slice B f A/\Hid (f=(a++(b.take j).map (aHE L d k N)).length)/\f<=60*k+j/\Hid (Below c.heap.size c wy)/\Hid (wy.ownsRow c.heap.size 42 6 (.slice B f A) f (glv (a++(b.take j).map (aHE L d k N))))/\Hid (wy.ownsRow Bl 40 3 (.slice q4 m i) m (lv N b))) (λ_ iv _=>m-(intOf iv).toNat)
 case atStart=>exact⟨0,qv,nv,cv,jy _,rfl,rfl,by unfold Hid;simpa using bG,by omega,hb,by unfold Hid;simpa using hO,bt⟩
 case round=>
  obtain⟨j,B,f,A,hj,rfl,rfl,U,e7,C,F,D⟩:=hrel
  clear hO bt hb bG bF
  by_cases dA:j<m
  ·have dB:(j:Int)<(m:Int):=by omega
   have o:j<b.length:=by rw[HM.out];exact dA
   have bs:aAH wr q4 N b:=by
    have h:=D.out
    rw[<-HM.out]at h
    obtain⟨p',c',e,_,_,_,hr⟩:=aMe h
    cases e
    exact hr
   obtain⟨b4,dC,bC⟩:=bs (λe=>by rw[e]at o;simp at o)
   subst dC
   obtain⟨l0,l1,l2⟩:=bC j o
   have V:Hid (a++(b.take (j+1)).map (aHE L d k N)=(a++(b.take j).map (aHE L d k N))++[aHE L d k N (b.getD j (0,[]))]):=aHX L d k N a b j o
   have ak:Hid ((aTW (b.getD j (0,[])).2).length<=4000):=cq.out _ (by rw[jd,jc o];exact jQ o)
   clear bs bC o
   generalize b.getD j (0,[])=y at*
   have ad:Hid (g1v (aHE L d k N y)=[.int .i64 (k:Int),.int .i64 ((N-y.1:Nat):Int),.int .i64 ((N-y.1+y.2.length:Nat):Int),.string (lba (aTW y.2)),.string (tx8 (aJT r (lba (aTW y.2)).data.toList)),.int .i64 (aGC L d (aJT r (lba (aTW y.2)).data.toList))]):=by unfold Hid;rw[cn.out];rfl
   have al:Hid ((lba (aTW y.2)).size<=maxLen):=by have:=ak.out;show(tx8 (aTW y.2)).size<=maxLen;rw[aTA];unfold maxLen;omega
   clear ak
   generalize lba (aTW y.2)=s at*
   generalize ((N-y.1:Nat):Int)=I at*
   generalize ((N-y.1+y.2.length:Nat):Int)=J at*
   obtain⟨v,H⟩:∃W,W=wr.alloc (.cells #[.int .i64 I,.int .i64 J,.string s] 40):=⟨_,rfl⟩
   have q:Below wr.heap.size wr v:=by rw[H];exact(jr _ _).alloc (jf _) _
   have bE:v.heap[wr.heap.size]?=some (.cells #[.int .i64 I,.int .i64 J,.string s] 40):=by rw[H];exact aDi _ _
   have g:Hid (Below c.heap.size c v):=C.out.trans (q.mono C.out.size)
   have aj:Hid (v.ownsRow c.heap.size 42 6 (.slice B f A) f (glv (a++(b.take j).map (aHE L d k N)))):=aMm F.out q
   have ah:Hid (v.ownsRow Bl 40 3 (.slice (some ⟨b4,0,none⟩) m i) m (lv N b)):=aMm D.out q
   have T:Hid (v.heap[wr.heap.size]?=some (.cells #[.int .i64 I,.int .i64 J,.string s] 40)):=bE
   clear q bE C F D
   go_upto_region 17 with fail
   rw[<-H]
   clear H l0 l1 l2
   obtain⟨Z,hZ⟩:∃Z,wr.heap.size=Z:=⟨_,rfl⟩
   rw[hZ]at T⊢
   clear hZ
   refine aJ9 v (λW hW=>HI.out.mx W (g.out.trans (hW.mono g.out.size))) Z k I J s r (by have:=cm.out;unfold maxLen;omega) al.out T.out _ ?_
   intro cc cd ce cf cg ch ci G W7 bz br bD
   have ag:Hid ((aJT r s.data.toList).length<=120):=aJU _ _
   have ai:Hid (aJT r s.data.toList≠[]->aLy (aJT r s.data.toList)≠[]):=aLA _ _
   have R:Hid (Below v.heap.size v W7):=bz
   have S:Hid (v.heap.size<=G):=br
   have am:Hid (W7.heap[G]?=some (.cells #[.int .i64 (k:Int),.int .i64 I,.int .i64 J,.string s,.string (tx8 (aJT r s.data.toList)),.int .i64 (-1)] 42)):=bD
   generalize aJT r s.data.toList=LE at*
   clear bz br bD T al
   go_wp2_with fail
   refine lg3 W7 G ab ao wb wo n ca cw L d HN.out (HI.out.later (g.out.trans (R.out.mono g.out.size)) (j1 g.out.size S.out)) LE ag.out ai.out (k:Int) I J s am.out _ ?_
   intro e9 fa fb fc fd fe ff fg fh fi fj fk fl fm fn fo fp fq fr fs ft fv fw fx fy fz fA fB fC fD fE fF fG fH fI fJ fK fL fM eH eI eJ eK eL eM eN eO eP eQ eR eS eT eU eV eW eX eY eZ e2 e3 e4 e5 e6 t bA l
   have p:Below v.heap.size v t:=R.out.trans (bA.mono S.out)
   have z:Below c.heap.size c t:=g.out.trans (p.mono g.out.size)
   have E:Hid (t.ownsRow c.heap.size 42 6 (.slice B f A) f (glv (a++(b.take j).map (aHE L d k N)))):=aMm aj.out p
   have af:Hid (t.ownsRow Bl 40 3 (.slice (some ⟨b4,0,none⟩) m i) m (lv N b)):=aMm ah.out p
   have ac:Hid (Below c.heap.size c t):=z
   have dD:=z.size
   have x0:t.cell? ⟨G,0,none⟩=some (.int .i64 (k:Int)):=(aDe l 0).trans rfl
   have x1:t.cell? ⟨G,1,none⟩=some (.int .i64 I):=(aDe l 1).trans rfl
   have x2:t.cell? ⟨G,2,none⟩=some (.int .i64 J):=(aDe l 2).trans rfl
   have x3:t.cell? ⟨G,3,none⟩=some (.string s):=(aDe l 3).trans rfl
   have x4:t.cell? ⟨G,4,none⟩=some (.string (tx8 LE)):=(aDe l 4).trans rfl
   have x5:t.cell? ⟨G,5,none⟩=some (.int .i64 (aGC L d LE)):=(aDe l 5).trans rfl
   generalize aGC L d LE=FI at*
   obtain⟨GV,Y⟩:∃GV,GV=glv (a++(b.take j).map (aHE L d k N)):=⟨_,rfl⟩
   have ae:Hid (GV=glv (a++(b.take j).map (aHE L d k N))):=Y
   rw[<-Y]at E
   clear Y p bA l z R S am aj ah g ag ai
   go_wp2_with (at_builtin;refine jX _ rfl (.tmp 124) (.tmp 126) 30 rfl c.heap.size 42 i0 (.agg #[.int .i64 0,.int .i64 0,.int .i64 0,.string ⟨#[]⟩,.string ⟨#[]⟩,.int .i64 0]) 6 64 underlying30 hi dE dF dG rfl (by decide) _ _ _ rfl (E.out.alloc _) ⟨t.heap.size,0,none⟩ 1 1 [.int .i64 (k:Int),.int .i64 I,.int .i64 J,.string s,.string (tx8 LE),.int .i64 FI] rfl rfl ?c1 ?c2 ?c3 ?c4 ?c5 ?_)
   case c1=>exact aHI t _ _ _ _ _ _ _
   case c2=>exact aQj _ _ _ _ _ _
   case c3=>unfold maxLen;omega
   case c4=>omega
   case c5=>simp;omega
   intro v9 w9 P g9 _
   obtain⟨bB,bw⟩:=aHH ac.out E.out af.out g9
   have R9:w9.ownsRow c.heap.size 42 6 v9 (f+1) (glv (a++(b.take (j+1)).map (aHE L d k N))):=by
    rw[V.out,aHz,ad.out,<-ae.out]
    exact P
   obtain⟨q9,c9,rfl⟩:=aMi R9
   have ct:Hid (w9.ownsRow c.heap.size 42 6 (.slice q9 (f+1) c9) (f+1) (glv (a++(b.take (j+1)).map (aHE L d k N)))):=R9
   have cp:Hid (w9.ownsRow Bl 40 3 (.slice (some ⟨b4,0,none⟩) m i) m (lv N b)):=bw
   have ck:Hid (Below c.heap.size c w9):=bB
   have cs:Hid (f+1=(a++(b.take (j+1)).map (aHE L d k N)).length):=by unfold Hid;rw[V.out,je,<-U.out];rfl
   clear P g9 R9 bw bB x0 x1 x2 x3 x4 x5 V ad ae E af ac dD
   go_wp2_with fail
   go_roundw
   case rel=>exact⟨j+1,q9,f+1,c9,by omega,by go_num,rfl,cs,by omega,ck,ct,cp⟩
   case measure=>simp[intOf];omega
  ·obtain rfl:j=m:=by omega
   have dB:¬(j:Int)<(j:Int):=by omega
   have cl:Hid (wr.ownsRow c.heap.size 42 6 (.slice B f A) f (glv (a++b.map (aHE L d k N)))):=by
    have h:=F.out
    rw[jK (by rw[HM.out];omega)]at h
    exact h
   have cr:Hid (f=(a++b.map (aHE L d k N)).length):=by
    have h:=U.out
    rw[jK (by rw[HM.out];omega)]at h
    exact h
   clear F U D
   go_wp2_with fail
   exact HX.out B f A _ C.out cr.out (by omega) cl.out
theorem lg1(w0:World)(di:aAI w0)(ab ao wb wo n ca cw:Nat)(L:List PT)(f:List jB)(en:n=L.length)(c:World)(dj:jb w0 c)(hI:aAz c c.heap.size ab ao wb wo L f)(bF:∀W,jb c W->∀i,i<L.length->∃pb cb pk ck,aA1 W ab (ao+i*7) (L.getD i pt0) pb cb pk ck/\aAe W pb (L.getD i pt0).body/\(pb=none->(L.getD i pt0).body.length=0/\cb=0))(h4:∀i,i<L.length->(L.getD i pt0).body.length<=4000)(d:Option (List GL))(bE:aHM aQJ L f 0 L []=d){c0 c1 c2 c3 c8 c9 dx dy dz bM dA dB dC dD dE bN bO bP bQ dG dH dI dJ dL dM dN dO dP dQ dR dS dT dU dW dX dY dZ ea eb ec ed ee ef eg eh ei ej ek em eo ep eq er et ev ew ex ey ez eA eB eC eD eE eF eG eH eI eJ eK eL eM eN eO eP eQ eR eS eT eU eV eW eX eY eZ e2 e3 e4 e5 e6 e7 e8 e9 cD cE cF cG cH cI cJ cK cL cM cN cO cP cQ cR cS cT cU cV cW cX cY cZ c7 da db dc dd de df ap:Value}(Q:Exit->Act->World->Prop)
  (bT:∀{u2 u3 u8 u9 bW u11 u12 ay az aA aB aC bX bY bZ b0 b1 b2 b3 b4 b5 b6 b7 b8 b9 cc cd ce cf cg ch ci cj cl cm cn cp aD aE aF aG aH aI aJ aK aL aM aN aO aP aQ aR aS aT aU aV aW aX aY aZ a0 a1 a2 a3 a4 a5 a6 a7 a8 a9 bb bc bd be bf bg bh bi bj bk bl bm bn bo bp bq br q r s t v y z A B C D E F G H I J M O P R S T U V X Y Z aa ax:Value},∀(qy:jO) (ny cy:Nat) (w':World) (b:List GL),d=some b->jb c w'->ny=b.length->ny<=60*n->w'.ownsRow c.heap.size 42 6 (.slice qy ny cy) ny (glv b)->Q (.exit 0) ⟨(c0::c1::u2::u3::.slice (some ⟨ab,ao,none⟩) n ca::.slice (some ⟨wb,wo,none⟩) n cw::.func (Fn.func 56) #[] #[]::.slice qy ny cy::u8::u9::bW::u11::u12::bM::ay::az::aA::aB::aC::bN::bO::bP::bQ::.slice (some ⟨ab,ao,none⟩) n ca::.int .i64 (n:Int)::bX::bY::bZ::b0::b1::b2::b3::b4::b5::b6::b7::b8::b9::cc::cd::ce::cf::cg::ch::ci::cj::cl::cm::cn::cp::aD::aE::aF::aG::aH::aI::aJ::aK::aL::aM::aN::aO::aP::aQ::aR::aS::aT::aU::aV::aW::aX::aY::aZ::a0::a1::a2::a3::a4::a5::a6::a7::a8::a9::bb::bc::bd::be::bf::bg::bh::bi::bj::bk::bl::bm::bn::bo::bp::bq::br::q::r::s::t::v::y::z::A::B::C::D::E::F::G::H::I::J::M::O::P::R::S::T::U::V::X::Y::Z::aa::ax::ap::[]).toArray,[]⟩ w')
  (dm:∀{u7 u8 u9 bW u11 u12 ay az aA aB aC bX bY bZ b0 b1 b2 b3 b4 b5 b6 b7 b8 b9 cc cd ce cf cg ch ci cj cl cm cn cp aD aE aF aG aH aI aJ aK aL aM aN aO aP aQ aR aS aT aU aV aW aX aY aZ a0 a1 a2 a3 a4 a5 a6 a7 a8 a9 bb bc bd be bf bg bh bi bj bk bl bm bn bo bp bq br q r s t v y z A B C D E F G H I J M O P R S T U V X Y Z aa ax:Value},∀(w':World),d=none->jb c w'->Q .ret ⟨(c0::c1::.slice none 0 0::.int .i64 2::.slice (some ⟨ab,ao,none⟩) n ca::.slice (some ⟨wb,wo,none⟩) n cw::.func (Fn.func 56) #[] #[]::u7::u8::u9::bW::u11::u12::bM::ay::az::aA::aB::aC::bN::bO::bP::bQ::.slice (some ⟨ab,ao,none⟩) n ca::.int .i64 (n:Int)::bX::bY::bZ::b0::b1::b2::b3::b4::b5::b6::b7::b8::b9::cc::cd::ce::cf::cg::ch::ci::cj::cl::cm::cn::cp::aD::aE::aF::aG::aH::aI::aJ::aK::aL::aM::aN::aO::aP::aQ::aR::aS::aT::aU::aV::aW::aX::aY::aZ::a0::a1::a2::a3::a4::a5::a6::a7::a8::a9::bb::bc::bd::be::bf::bg::bh::bi::bj::bk::bl::bm::bn::bo::bp::bq::br::q::r::s::t::v::y::z::A::B::C::D::E::F::G::H::I::J::M::O::P::R::S::T::U::V::X::Y::Z::aa::ax::ap::[]).toArray,[]⟩ w'):
  Code.wp prog (Code.loop (aKD f14 0)) Q ⟨(c0::c1::c2::c3::.slice (some ⟨ab,ao,none⟩) n ca::.slice (some ⟨wb,wo,none⟩) n cw::.func (Fn.func 56) #[] #[]::.slice none 0 0::c8::c9::dx::dy::dz::bM::dA::dB::dC::dD::dE::bN::bO::bP::bQ::.slice (some ⟨ab,ao,none⟩) n ca::.int .i64 (n:Int)::.int .i64 0::dG::dH::dI::dJ::dL::dM::dN::dO::dP::dQ::dR::dS::dT::dU::dW::dX::dY::dZ::ea::eb::ec::ed::ee::ef::eg::eh::ei::ej::ek::em::eo::ep::eq::er::et::ev::ew::ex::ey::ez::eA::eB::eC::eD::eE::eF::eG::eH::eI::eJ::eK::eL::eM::eN::eO::eP::eQ::eR::eS::eT::eU::eV::eW::eX::eY::eZ::e2::e3::e4::e5::e6::e7::e8::e9::cD::cE::cF::cG::cH::cI::cJ::cK::cL::cM::cN::cO::cP::cQ::cR::cS::cT::cU::cV::cW::cX::cY::cZ::c7::da::db::dc::dd::de::df::ap::[]).toArray,[]⟩ c:=by
 have HX:Hid _:=@bT
 have HR:Hid _:=@dm
 have HI:Hid (aAz c c.heap.size ab ao wb wo L f):=hI
 have cA:Hid (∀W,jb c W->∀i,i<L.length->∃pb cb pk ck,aA1 W ab (ao+i*7) (L.getD i pt0) pb cb pk ck/\aAe W pb (L.getD i pt0).body/\(pb=none->(L.getD i pt0).body.length=0/\cb=0)):=bF
 have H4:Hid (∀i,i<L.length->(L.getD i pt0).body.length<=4000):=h4
 have HN:Hid _:=en
 have dq:Hid (aAI w0):=di
 have cx:Hid _:=dj
 have bD:Hid _:=bE
 have dn:n<=1000:=by rw[en];exact hI.few
 clear bT dm hI bF h4 en di dj bE
 conv=>arg 2;arg 1;whnf
 go_loopw[7,25] (λov iv wr=>∃(k:Nat) (b:List GL) (qv:jO) (nv cv:Nat),k<=n/\iv=.int .i64 k/\ov=.slice qv nv cv/\Hid (nv=b.length)/\nv<=60*k/\Hid (jb c wr)/\Hid (wr.ownsRow c.heap.size 42 6 (.slice qv nv cv) nv (glv b))/\Hid (aHM aQJ L f k (L.drop k) b=d)) (λ_ iv _=>n-(intOf iv).toNat)
 case atStart=>exact⟨0,[],none,0,0,jy _,rfl,rfl,rfl,jy _,jr _ _,jT _ _ _ _,bD⟩
 case round=>
  obtain⟨k,b,qv,nv,cv,hk,rfl,rfl,af,bV,j,HO,HG⟩:=hrel
  clear bD
  by_cases fa:k<n
  ·have fb:(k:Int)<(n:Int):=by omega
   have ah:k<L.length:=by rw[<-HN.out];exact fa
   obtain⟨xb,aj,xk,cq,⟨dv,dw,dF,dK,dV,dg,es⟩,bH,bG⟩:=cA.out wr j.out k ah
   have ae:Hid (aAe wr xb (L.getD k pt0).body/\(xb=none->(L.getD k pt0).body.length=0/\aj=0)):=⟨bH,bG⟩
   have cz:Hid ((L.getD k pt0).body.length<=4000):=H4.out k ah
   have an:Hid (∀W,jb c W->W.cell? ⟨wb,wo+k,none⟩=some (.string (tx8 (f.getD k [])))):=λW hW=>HI.out.tel W hW k ah
   have ac:Hid ((L.getD k pt0).ty.data.toList≠aIh->aHM aQJ L f (k+1) (L.drop (k+1)) b=d):=λbU=>by rw[<-aHQ aQJ L f L k b ah bU];exact HG.out
   have g:Hid ((L.getD k pt0).ty.data.toList=aIh->((aGz aQJ (L.getD k pt0).body).bind λls=>aHM aQJ L f (k+1) (L.drop (k+1)) (b++ls.map (aHE L f k (L.getD k pt0).body.length)))=d):=λbU=>by rw[<-aHP aQJ L f L k b ah bU];exact HG.out
   have bB:Hid ((L.getD k pt0).ty.toList=(L.getD k pt0).ty.data.toList):=jj _
   clear HG ah bH bG
   generalize (L.getD k pt0).kids.length=ct at*
   generalize (L.getD k pt0).how=bs at*
   generalize (L.getD k pt0).body=BO at*
   obtain⟨N,hN⟩:∃N,BO.length=N:=⟨_,rfl⟩
   have bz:Hid _:=hN
   rw[hN]at dg ae g
   clear hN
   generalize (L.getD k pt0).loc=bt at*
   generalize (L.getD k pt0).id=cs at*
   generalize (L.getD k pt0).cs=cr at*
   generalize (L.getD k pt0).ty=ak at*
   by_cases ai:ak.data.toList=aIh
   ·have hE:(ak.toList==[116,101,120,116,47,104,116,109,108])=true:=by rw[bB.out,ai];rfl
    have bA:Hid (((aGz aQJ BO).bind λls=>aHM aQJ L f (k+1) (L.drop (k+1)) (b++ls.map (aHE L f k N)))=d):=g.out ai
    clear ac g bB ai
    obtain⟨Wx,bR⟩:∃W,W=wr.alloc (.cells #[.string ak,.string cr,.string cs,.string bt,.int .i64 bs,.slice xb N aj,.slice xk ct cq] 25):=⟨_,rfl⟩
    have bC:jb wr Wx:=by rw[bR];exact ja _ _
    have cC:Hid _:=aMm HO.out bC
    have bw:Hid _:=j.out.trans (bC.mono j.out.size)
    have CF:Hid (Calls prog 58 #[.slice xb N aj] Wx λe w'=>aAv Wx BO.length (aGz aQJ BO) e w'):=aPk w0 dq.out xb N aj BO bz.out.symm cz.out Wx (cx.out.trans (bw.out.mono cx.out.size)) (ae.out.1.under bC) (by rw[<-bz.out];exact λe=>⟨by rw[bz.out];exact(ae.out.2 e).1,(ae.out.2 e).2⟩)
    clear ae HO bC j
    go_wp2_with fail
    rw[<-bR]
    clear bR dv dw dF dK dV dg es
    refine CF.out.mono ?_
    rintro e w4 ⟨bS,hF⟩
    clear CF
    have ad:Hid _:=bw.out.trans (bS.mono bw.out.size)
    have am:Hid _:=aMm cC.out bS
    clear cC bS bw
    cases o:aGz aQJ BO with
    |none=>
     rw[o]at hF
     simp only at hF
     subst hF
     have dt:Hid (d=none):=by have h:=bA.out;rw[o]at h;exact h.symm
     clear bA o am
     go_wp2_with fail
     exact HR.out _ dt.out ad.out
    |some ls=>
     rw[o]at hF
     simp only at hF
     obtain⟨v4,rfl,p⟩:=hF
     have cB:Hid (∀x∈ls,(aTW x.2).length<=4000):=aGN ((aGJ BO).trans o)
     have av:ls.length<=60:=(aGK aQJ BO ls o).2.1
     have al:Hid (aHM aQJ L f (k+1) (L.drop (k+1)) (b++ls.map (aHE L f k N))=d):=by have h:=bA.out;rw[o]at h;exact h
     clear bA o
     obtain⟨m,hm⟩:∃m,ls.length=m:=⟨_,rfl⟩
     have HM:Hid _:=hm
     rw[hm]at p av
     rw[bz.out]at p
     obtain⟨q4,dh,rfl⟩:=aMi p
     have bx:Hid _:=p
     have tl:=an.out w4 ad.out
     clear hm p an
     have ag:=aHB (f.getD k [])
     cases hw:f.getD k []with
     |nil=>
      rw[hw]at tl ag
      have bJ:Hid (aLG=aHn f k):=by unfold Hid aHn;rw[jh (by omega),jco,jo hw]
      have dk:(tx8 []).toList.isEmpty=true:=ag
      clear ag hw
      go_wp2_with fail
      refine lg2 c ab ao wb wo n ca cw L f HN.out HI.out k N Wx.heap.size m (by omega) aLG (bJ.out) b ls cB.out av HM.out q4 dh w4 ad.out bx.out qv nv cv af.out bV am.out _ ?_
      intro ay az aA aB aC aD aE aF aG aH aI aJ aK aL aM aN aO aP aQ aR aS aT aU aV aW aX aY aZ a0 a1 a2 a3 a4 a5 a6 a7 a8 a9 bb bc bd be bf bg bh bi bj bk bl bm bn bo bp bq br q r s t v y z A B C D E F G H I J M O P R S T U V X Y Z aa qy ny cy w9 ar aw dl aq
      have bI:Hid _:=ar
      have bK:Hid _:=aw
      have bL:Hid _:=aq
      clear ar aw aq am bx ad af
      go_wp2_with fail
      go_roundw
      case rel=>exact⟨k+1,_,qy,ny,cy,by omega,by go_num,rfl,bK,by omega,bI,bL,al⟩
      case measure=>simp[intOf];omega
     |cons a l=>
      rw[hw]at tl ag
      have bJ:Hid (a::l=aHn f k):=by unfold Hid aHn;rw[jh (by omega),jco,jh (by rw[hw];simp),hw]
      have dk:(tx8 (a::l)).toList.isEmpty=false:=ag
      clear ag hw
      generalize a::l=FR at*
      go_wp2_with fail
      refine lg2 c ab ao wb wo n ca cw L f HN.out HI.out k N Wx.heap.size m (by omega) FR (bJ.out) b ls cB.out av HM.out q4 dh w4 ad.out bx.out qv nv cv af.out bV am.out _ ?_
      intro ay az aA aB aC aD aE aF aG aH aI aJ aK aL aM aN aO aP aQ aR aS aT aU aV aW aX aY aZ a0 a1 a2 a3 a4 a5 a6 a7 a8 a9 bb bc bd be bf bg bh bi bj bk bl bm bn bo bp bq br q r s t v y z A B C D E F G H I J M O P R S T U V X Y Z aa qy ny cy w9 ar aw dl aq
      have bI:Hid _:=ar
      have bK:Hid _:=aw
      have bL:Hid _:=aq
      clear ar aw aq am bx ad af
      go_wp2_with fail
      go_roundw
      case rel=>exact⟨k+1,_,qy,ny,cy,by omega,by go_num,rfl,bK,by omega,bI,bL,al⟩
      case measure=>simp[intOf];omega
   ·have hE:(ak.toList==[116,101,120,116,47,104,116,109,108])=false:=by rw[bB.out,jg];exact ai
    have ds:Hid (aHM aQJ L f (k+1) (L.drop (k+1)) b=d):=ac.out ai
    clear ac g bB ai ae an
    have dr:Hid ((wr.alloc (.cells #[.string ak,.string cr,.string cs,.string bt,.int .i64 bs,.slice xb N aj,.slice xk ct cq] 25)).ownsRow c.heap.size 42 6 (.slice qv nv cv) nv (glv b)):=HO.out.alloc _
    have dp:Hid (jb c (wr.alloc (.cells #[.string ak,.string cr,.string cs,.string bt,.int .i64 bs,.slice xb N aj,.slice xk ct cq] 25))):=j.out.alloc j.out.size _
    clear HO j
    go_wp2_with fail
    go_roundw
    case rel=>exact⟨k+1,b,qv,nv,cv,by omega,by go_num,rfl,af,by omega,dp,dr,ds⟩
    case measure=>simp[intOf];omega
  ·obtain rfl:k=n:=by omega
   have fb:¬(k:Int)<(k:Int):=by omega
   have HF:Hid (d=some b):=by
    have h:=HG.out
    rw[jC (by rw[<-HN.out];omega),aHM]at h
    exact h.symm
   clear HG
   go_wp2_with fail
   exact HX.out qv nv cv _ b HF.out j.out af.out bV HO.out
end Go.Proofs.YtbbfcbodhmeanaaGreatDoor

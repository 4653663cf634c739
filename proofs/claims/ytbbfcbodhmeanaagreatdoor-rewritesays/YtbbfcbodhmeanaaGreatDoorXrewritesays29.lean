import Derived.Test.YtbbfcbodhmeanaaGreatDoorXrewritesays28
set_option maxHeartbeats 8000000
set_option maxRecDepth 1000000
namespace Go.Proofs.YtbbfcbodhmeanaaGreatDoor
open Go.Proofs.Tryz
open Go.RowKit
theorem aKr(g:Nat)(p:jA)(yb:jB)(a:Suf p yb)(w:World)(hg:w.cell? ⟨g,0,none⟩=some (.string p)){c0 c1 c2 c3 c4 c6 c7 c8 c9 dl dm dn dp dq dr ds dt dy dG dH dI dJ dK dL dM dN dO dP dQ dR dS dT dU dV dW dX dY dZ ea eb ec ed ee ef eg eh ei ej ek em en eo ep eq er es et ev ew ex ey ez eA eB eC eD eE eF eG eH eI eJ eK eL eM eN eO eP eQ eR eS eT eU eV eW eX eY eZ e2 e3 e4 e5 e6 e7 e8 e9 fa fb c f i j k l m n o q r s t v x y z A B C D E F G H I J L M N O P R S T U V W X Y Z aa ab ac ad ae af ag ah ai aj ak al am an ao ap aq ar av aw ax ay az aA aB aC aD aE aF aG aH aI aJ aK aL aM aN aO aP aQ aR aS aT aU aV aW dv dw dx dz dA dB dC dD dE dF aX aY aZ a0 a1 a2 a3 a4 a5 a6 a7 a8 a9 bb bc bd be bf bg bh bi bj bk bl bm bn bo bp bq br bs bt bw bx bz bA bB bC bD bE bF bG bH bI bJ bK bL bM bN bO bP bQ bR bS bT bU bV bW bX bY bZ b0 b1 b2 b3 b4 b5 b6 b7 b8 b9 ca cb cc cd ce cf cg ch ci cj ck cl cm cn cp cq cr cs ct cv cw cx cy cz cA cB cC cD cE cF cG cH cI cJ cK cL cM cN cO cP cQ cR cS cT cU cV cW cX cY cZ da db dc dd de df dg dh di:Value}(Q:Exit->Act->World->Prop)
  (dk:∀{fe ff fg fh fi fj fk fl fm:Value},Q .normal ⟨(c0::c1::c2::c3::c4::.pointer (some ⟨g,0,none⟩)::c6::c7::c8::c9::dl::dm::dn::dp::dq::.int .i64 ((pos p yb:Nat):Int)::dr::ds::dt::dy::dG::dH::dI::dJ::dK::dL::dM::dN::dO::dP::dQ::dR::dS::dT::dU::dV::dW::dX::dY::dZ::ea::eb::ec::ed::ee::ef::eg::eh::ei::ej::ek::em::en::eo::ep::eq::er::es::et::ev::ew::ex::ey::ez::eA::eB::eC::eD::eE::eF::eG::eH::eI::eJ::eK::eL::eM::eN::eO::eP::eQ::eR::eS::eT::eU::eV::eW::eX::eY::eZ::e2::e3::e4::e5::e6::e7::e8::e9::fa::fb::c::f::i::j::k::l::m::n::o::q::r::s::t::v::x::y::z::A::B::C::D::E::F::G::H::I::J::L::M::N::O::P::R::S::T::U::V::W::X::Y::Z::aa::ab::ac::ad::ae::af::ag::ah::ai::aj::ak::al::am::an::ao::ap::aq::ar::av::aw::ax::ay::az::aA::aB::aC::aD::aE::aF::aG::aH::aI::aJ::aK::aL::aM::aN::aO::aP::aQ::aR::aS::aT::aU::aV::aW::fe::ff::fg::fh::fi::fj::fk::fl::fm::.bool (eqB yb)::aX::aY::aZ::a0::a1::a2::a3::a4::a5::a6::a7::a8::a9::bb::bc::bd::be::bf::bg::bh::bi::bj::bk::bl::bm::bn::bo::bp::bq::br::bs::bt::bw::bx::bz::bA::bB::bC::bD::bE::bF::bG::bH::bI::bJ::bK::bL::bM::bN::bO::bP::bQ::bR::bS::bT::bU::bV::bW::bX::bY::bZ::b0::b1::b2::b3::b4::b5::b6::b7::b8::b9::ca::cb::cc::cd::ce::cf::cg::ch::ci::cj::ck::cl::cm::cn::cp::cq::cr::cs::ct::cv::cw::cx::cy::cz::cA::cB::cC::cD::cE::cF::cG::cH::cI::cJ::cK::cL::cM::cN::cO::cP::cQ::cR::cS::cT::cU::cV::cW::cX::cY::cZ::da::db::dc::dd::de::df::dg::dh::di::[]).toArray,[]⟩ w):
  Code.wp prog (aOP f58 36) Q ⟨(c0::c1::c2::c3::c4::.pointer (some ⟨g,0,none⟩)::c6::c7::c8::c9::dl::dm::dn::dp::dq::.int .i64 ((pos p yb:Nat):Int)::dr::ds::dt::dy::dG::dH::dI::dJ::dK::dL::dM::dN::dO::dP::dQ::dR::dS::dT::dU::dV::dW::dX::dY::dZ::ea::eb::ec::ed::ee::ef::eg::eh::ei::ej::ek::em::en::eo::ep::eq::er::es::et::ev::ew::ex::ey::ez::eA::eB::eC::eD::eE::eF::eG::eH::eI::eJ::eK::eL::eM::eN::eO::eP::eQ::eR::eS::eT::eU::eV::eW::eX::eY::eZ::e2::e3::e4::e5::e6::e7::e8::e9::fa::fb::c::f::i::j::k::l::m::n::o::q::r::s::t::v::x::y::z::A::B::C::D::E::F::G::H::I::J::L::M::N::O::P::R::S::T::U::V::W::X::Y::Z::aa::ab::ac::ad::ae::af::ag::ah::ai::aj::ak::al::am::an::ao::ap::aq::ar::av::aw::ax::ay::az::aA::aB::aC::aD::aE::aF::aG::aH::aI::aJ::aK::aL::aM::aN::aO::aP::aQ::aR::aS::aT::aU::aV::aW::dv::dw::dx::dz::dA::dB::dC::dD::dE::dF::aX::aY::aZ::a0::a1::a2::a3::a4::a5::a6::a7::a8::a9::bb::bc::bd::be::bf::bg::bh::bi::bj::bk::bl::bm::bn::bo::bp::bq::br::bs::bt::bw::bx::bz::bA::bB::bC::bD::bE::bF::bG::bH::bI::bJ::bK::bL::bM::bN::bO::bP::bQ::bR::bS::bT::bU::bV::bW::bX::bY::bZ::b0::b1::b2::b3::b4::b5::b6::b7::b8::b9::ca::cb::cc::cd::ce::cf::cg::ch::ci::cj::ck::cl::cm::cn::cp::cq::cr::cs::ct::cv::cw::cx::cy::cz::cA::cB::cC::cD::cE::cF::cG::cH::cI::cJ::cK::cL::cM::cN::cO::cP::cQ::cR::cS::cT::cU::cV::cW::cX::cY::cZ::da::db::dc::dd::de::df::dg::dh::di::[]).toArray,[]⟩ w:=by
 have HX:Hid _:=@dk
 clear dk
 conv=>arg 2;whnf
 cases yb with
 |nil=>
  have fd:pos p []=p.size:=rfl
  rw[fd]at HX⊢
  have fn:decide ((p.size:Int)<(p.size:Int))=false:=by simp
  clear fd a
  go_wp2_with fail
  exact HX.out
 |cons d y2=>
  obtain⟨kb,fc,fq,fr,b⟩:=aCe a
  have fo:(kb:Int)<(p.size:Int):=by omega
  rw[fc]at HX⊢
  clear fc b a
  by_cases dj:d=61
  ·subst dj
   go_wp2_with fail
   exact HX.out
  ·have fp:((d.toNat:Int)==61)=false:=by rw[jg];intro e;exact dj (by rw[<-jM];exact jal e)
   rw[aFW y2 dj]at HX
   go_wp2_with fail
   exact HX.out
theorem aKs(p:jA)(w1 i:World)(ya yb yd:jB)(L:Nat)(hA:LkA w1 p ya yb L yd i)(d:jB)(a:List jB)(pn:jO)(ln cn:Nat)(fn:ln=a.length)(hn:a.length<=4000)(hr:aAT i pn a){c0 c1 c2 c3 c4 c5 c6 c7 c8 c9 dp dq dr ds dt dv dw dx dy dz dA dB dC dD dE dH dS dY dZ ea eb ec ed ee ef eg ei ej ek em en eo ep eq er et ev ew ex ey ez eA eB eC eD eE eF eG eH eI eJ eK eL eM eN eO eP eQ eR eS eT eU eV eW eX eY eZ e2 e3 e4 e5 e6 e7 e8 e9 fa fb fc fd fe ff fg fh fi fj fk fl l m n o q r s t v y z A B C D E F G H I J M N O P R T U V W X Y Z aa ab ac ad ae af ag ah ai aj ak al am an ao ap aq ar av aw ax ay az aA aB aC aD aE aF aG aH aI aJ aK aL aM aN aO aP aQ aR aS aT aU aV aW aX aY aZ a0 a1 a2 a3 a4 a5 a6 a7 a8 a9 bb bc bd be bf bg bh bi bj bk bl bm bn bo bp bq br bs bt bw bx bz bA bB bC bD bE bF bG bH bI bJ bK bL bM bN bO bP bQ bR bS bT bU bV bW bX bY bZ b0 b1 b2 b3 b4 b5 b6 b7 b8 b9 ca cb cc cd ce cf cg ch ci cj ck cl cm cp cq cr cs ct cv cw cx cy cz cA cB cC cD cE dF dG dI dJ dK dL dM dN dO dP dQ dR dT dU dV dW dX cF cG cH cI cJ cK cL cM cN cO cP cQ cR cS cT cU cV cW cX cY cZ da db dc dd de df dg dh di dj dk:Value}(Q:Exit->Act->World->Prop)
  (dl:∀{fq fr fs ft fv fw fx fy fz fA fB fC fD fE fF fG:Value},∀(b:Bool) (x:LK),LkX p yb L i d a b x->Q .normal ⟨(c0::c1::c2::c3::c4::c5::c6::c7::c8::c9::dp::dq::.slice pn ln cn::dr::.string (lba d)::ds::.pointer (some ⟨L,0,none⟩)::dt::dv::dw::dx::dy::dz::dA::dB::dC::dD::dE::dH::dS::dY::dZ::ea::eb::ec::ed::ee::ef::eg::ei::ej::ek::em::en::eo::ep::eq::er::et::ev::ew::ex::ey::ez::eA::eB::eC::eD::eE::eF::eG::eH::eI::eJ::eK::eL::eM::eN::eO::eP::eQ::eR::eS::eT::eU::eV::eW::eX::eY::eZ::e2::e3::e4::e5::e6::e7::e8::e9::fa::fb::fc::fd::fe::ff::fg::fh::fi::fj::fk::fl::l::m::n::o::q::r::s::t::v::y::z::A::B::C::D::E::F::G::H::I::J::M::N::O::P::R::T::U::V::W::X::Y::Z::aa::ab::ac::ad::ae::af::ag::ah::ai::aj::ak::al::am::an::ao::ap::aq::ar::av::aw::ax::ay::az::aA::aB::aC::aD::aE::aF::aG::aH::aI::aJ::aK::aL::aM::aN::aO::aP::aQ::aR::aS::aT::aU::aV::aW::aX::aY::aZ::a0::a1::a2::a3::a4::a5::a6::a7::a8::a9::bb::bc::bd::be::bf::bg::bh::bi::bj::bk::bl::bm::bn::bo::bp::bq::br::bs::bt::bw::bx::bz::bA::bB::bC::bD::bE::bF::bG::bH::bI::bJ::bK::bL::bM::bN::bO::bP::bQ::bR::bS::bT::bU::bV::bW::bX::bY::bZ::b0::b1::b2::b3::b4::b5::b6::b7::b8::b9::ca::cb::cc::cd::ce::cf::cg::ch::ci::cj::ck::cl::cm::cp::cq::cr::cs::ct::cv::cw::cx::cy::cz::cA::cB::cC::cD::cE::fq::fr::fs::ft::fv::fw::fx::fy::fz::fA::fB::fC::fD::fE::fF::fG::.bool b::cF::cG::cH::cI::cJ::cK::cL::cM::cN::cO::cP::cQ::cR::cS::cT::cU::cV::cW::cX::cY::cZ::da::db::dc::dd::de::df::dg::dh::di::dj::dk::[]).toArray,[]⟩ i):
  Code.wp prog (aOP f58 49) Q ⟨(c0::c1::c2::c3::c4::c5::c6::c7::c8::c9::dp::dq::.slice pn ln cn::dr::.string (lba d)::ds::.pointer (some ⟨L,0,none⟩)::dt::dv::dw::dx::dy::dz::dA::dB::dC::dD::dE::dH::dS::dY::dZ::ea::eb::ec::ed::ee::ef::eg::ei::ej::ek::em::en::eo::ep::eq::er::et::ev::ew::ex::ey::ez::eA::eB::eC::eD::eE::eF::eG::eH::eI::eJ::eK::eL::eM::eN::eO::eP::eQ::eR::eS::eT::eU::eV::eW::eX::eY::eZ::e2::e3::e4::e5::e6::e7::e8::e9::fa::fb::fc::fd::fe::ff::fg::fh::fi::fj::fk::fl::l::m::n::o::q::r::s::t::v::y::z::A::B::C::D::E::F::G::H::I::J::M::N::O::P::R::T::U::V::W::X::Y::Z::aa::ab::ac::ad::ae::af::ag::ah::ai::aj::ak::al::am::an::ao::ap::aq::ar::av::aw::ax::ay::az::aA::aB::aC::aD::aE::aF::aG::aH::aI::aJ::aK::aL::aM::aN::aO::aP::aQ::aR::aS::aT::aU::aV::aW::aX::aY::aZ::a0::a1::a2::a3::a4::a5::a6::a7::a8::a9::bb::bc::bd::be::bf::bg::bh::bi::bj::bk::bl::bm::bn::bo::bp::bq::br::bs::bt::bw::bx::bz::bA::bB::bC::bD::bE::bF::bG::bH::bI::bJ::bK::bL::bM::bN::bO::bP::bQ::bR::bS::bT::bU::bV::bW::bX::bY::bZ::b0::b1::b2::b3::b4::b5::b6::b7::b8::b9::ca::cb::cc::cd::ce::cf::cg::ch::ci::cj::ck::cl::cm::cp::cq::cr::cs::ct::cv::cw::cx::cy::cz::cA::cB::cC::cD::cE::dF::dG::dI::dJ::dK::dL::dM::dN::dO::dP::dQ::dR::dT::dU::dV::dW::dX::cF::cG::cH::cI::cJ::cK::cL::cM::cN::cO::cP::cQ::cR::cS::cT::cU::cV::cW::cX::cY::cZ::da::db::dc::dd::de::df::dg::dh::di::dj::dk::[]).toArray,[]⟩ i:=by
 have HX:Hid _:=@dl
 clear dl
 conv=>arg 2;whnf
 have CC:Hid (Calls prog 113 #[.slice pn ln cn,.string (lba d)] i λe w'=>e=.returned (.bool (a.contains d))/\w'=i):=aEC pn ln cn a fn d i (by omega) hr
 have eh:=aRh (lba d)
 have es:=aRj (lba d)
 rw[aJA]at eh es
 obtain⟨NS,fp⟩:∃S,lba d=S:=⟨_,rfl⟩
 rw[fp]at CC eh es HX⊢
 obtain⟨fm,j⟩:∃b,a.contains d=b:=⟨_,rfl⟩
 have dn:Hid _:=j
 rw[j]at CC
 clear j fp fn hr
 rcases hA.2.2 with⟨h5,h6,h7⟩|⟨y2,h5,h6,h7⟩
 ·obtain⟨z0,z1,z2,zf⟩:=aJE h7
  have f:LkX p yb L i d a false (0,[]):=Or.inl ⟨h5,rfl⟩
  clear h5 h6 h7 zf z1 z2
  by_cases hh:d=aIg
  ·rw[j3 hh]at eh
   clear hh
   go_wp2_with fail
   exact HX.out _ _ f
  ·rw[jV hh]at eh
   by_cases c:d=aQ8
   ·rw[j3 c]at es
    clear hh c
    go_wp2_with fail
    exact HX.out _ _ f
   ·rw[jV c]at es
    clear hh c
    go_wp2_with fail
    exact HX.out _ _ f
 ·obtain⟨z0,z1,z2,zf⟩:=aJE h7
  have g:Hid (∀b,b=((decide (d=aIg)||decide (d=aQ8))&&!a.contains d)->LkX p yb L i d a b (aUr y2)):=λb hb=>Or.inr ⟨y2,h5,rfl,hb,h7⟩
  obtain⟨K0,fo⟩:∃K,pos p (aUs (y2.dropWhile spB)).1=K:=⟨_,rfl⟩
  rw[fo]at z0
  have fI:decide ((0:Int)<=(K0:Int))=true:=by simp
  have fH:(0:Int)<=(K0:Int):=by omega
  clear h5 h6 h7 zf z1 z2 fo
  by_cases hh:d=aIg
  ·rw[j3 hh]at eh
   have f:LkX p yb L i d a (!fm) (aUr y2):=g.out _ (by rw[j3 hh,dn.out];simp)
   clear hh g
   go_wp2_with fail
   refine CC.out.mono ?_
   rintro e w' ⟨rfl,dm⟩
   have k:=dm.symm
   subst k
   go_wp2_with fail
   exact HX.out _ _ f
  ·rw[jV hh]at eh
   by_cases c:d=aQ8
   ·rw[j3 c]at es
    have f:LkX p yb L i d a (!fm) (aUr y2):=g.out _ (by rw[j3 c,dn.out];simp)
    clear hh c g
    go_wp2_with fail
    refine CC.out.mono ?_
    rintro e w' ⟨rfl,dm⟩
    have k:=dm.symm
    subst k
    go_wp2_with fail
    exact HX.out _ _ f
   ·rw[jV c]at es
    have f:LkX p yb L i d a false (aUr y2):=g.out _ (by rw[jV hh,jV c];simp)
    clear hh c g
    go_wp2_with fail
    exact HX.out _ _ f
theorem aKn(g:Nat)(p:jA)(_hp:p.size<=4000)(s:jB)(hS:Suf p s)(w:World)(hg:w.cell? ⟨g,0,none⟩=some (.string p)){c0 c1 c2 c3 c4 c6 c7 c8 dw dx dy dz dA dB dC dD dE dF dG dH dI dJ dK dL dM dN dO dP dQ dR fa fb fc fd dS dT dU dV dW dX dY dZ ea eb ed ee ef eg eh ei ej ek em en eo ep eq er es et ev ew ex ey ez eA eB eC eD eE eF eG eH eI eJ eK eL eM eN eO eP eQ eR eS eT eU eV eW eX eY eZ e2 e3 e4 e5 e6 e7 e8 a b c d f i j l m n o q r t v x y z A B C D E F G H I J L M N O P R S T U V X Y Z aa ab ac ad ae af ag ah ai aj ak al am an ao ap aq ar av aw ax ay az aA aB aC aD aE aF aG aH aI aJ aK aL aM aN aO aP aQ aR aS aT aU aV aW aX aY aZ a0 a1 a2 a3 a4 a5 a6 a7 a8 a9 bb bc bd be bf bg bh bi bj bk bl bm bn bo bp bq br bs bt bw bx bz bA bB bC bD bE bF bG bH bI bJ bK bL bM bN bO bP bQ bR bS bT bU bV bW bX bY bZ b0 b2 b3 b4 b5 b6 b7 b8 b9 ca cb cc cd ce cf cg ch ci cj ck cl cm cn cp cq cr cs ct cv cw cx cy cz cA cB cC cD cE cF cG cH cI cJ cK cL cM cN cO cP cQ cR cS cT cU cV cW cX cY cZ c9 da db dc dd de df dg dh di dj dk dl dm dn dp dq dr ds dt:Value}(Q:Exit->Act->World->Prop)
  (dv:∀{ff fg fh:Value},Q .normal ⟨(c0::c1::c2::c3::c4::.pointer (some ⟨g,0,none⟩)::c6::c7::c8::.int .i64 ((pos p s:Nat):Int)::dw::dx::dy::dz::dA::dB::dC::dD::dE::dF::dG::dH::dI::dJ::dK::dL::dM::dN::dO::dP::dQ::dR::ff::fg::fh::.bool (aEm.isPrefixOf s)::dS::dT::dU::dV::dW::dX::dY::dZ::ea::eb::ed::ee::ef::eg::eh::ei::ej::ek::em::en::eo::ep::eq::er::es::et::ev::ew::ex::ey::ez::eA::eB::eC::eD::eE::eF::eG::eH::eI::eJ::eK::eL::eM::eN::eO::eP::eQ::eR::eS::eT::eU::eV::eW::eX::eY::eZ::e2::e3::e4::e5::e6::e7::e8::a::b::c::d::f::i::j::l::m::n::o::q::r::t::v::x::y::z::A::B::C::D::E::F::G::H::I::J::L::M::N::O::P::R::S::T::U::V::X::Y::Z::aa::ab::ac::ad::ae::af::ag::ah::ai::aj::ak::al::am::an::ao::ap::aq::ar::av::aw::ax::ay::az::aA::aB::aC::aD::aE::aF::aG::aH::aI::aJ::aK::aL::aM::aN::aO::aP::aQ::aR::aS::aT::aU::aV::aW::aX::aY::aZ::a0::a1::a2::a3::a4::a5::a6::a7::a8::a9::bb::bc::bd::be::bf::bg::bh::bi::bj::bk::bl::bm::bn::bo::bp::bq::br::bs::bt::bw::bx::bz::bA::bB::bC::bD::bE::bF::bG::bH::bI::bJ::bK::bL::bM::bN::bO::bP::bQ::bR::bS::bT::bU::bV::bW::bX::bY::bZ::b0::b2::b3::b4::b5::b6::b7::b8::b9::ca::cb::cc::cd::ce::cf::cg::ch::ci::cj::ck::cl::cm::cn::cp::cq::cr::cs::ct::cv::cw::cx::cy::cz::cA::cB::cC::cD::cE::cF::cG::cH::cI::cJ::cK::cL::cM::cN::cO::cP::cQ::cR::cS::cT::cU::cV::cW::cX::cY::cZ::c9::da::db::dc::dd::de::df::dg::dh::di::dj::dk::dl::dm::dn::dp::dq::dr::ds::dt::[]).toArray,[]⟩ w):
  Code.wp prog (aOP f58 10) Q ⟨(c0::c1::c2::c3::c4::.pointer (some ⟨g,0,none⟩)::c6::c7::c8::.int .i64 ((pos p s:Nat):Int)::dw::dx::dy::dz::dA::dB::dC::dD::dE::dF::dG::dH::dI::dJ::dK::dL::dM::dN::dO::dP::dQ::dR::fa::fb::fc::fd::dS::dT::dU::dV::dW::dX::dY::dZ::ea::eb::ed::ee::ef::eg::eh::ei::ej::ek::em::en::eo::ep::eq::er::es::et::ev::ew::ex::ey::ez::eA::eB::eC::eD::eE::eF::eG::eH::eI::eJ::eK::eL::eM::eN::eO::eP::eQ::eR::eS::eT::eU::eV::eW::eX::eY::eZ::e2::e3::e4::e5::e6::e7::e8::a::b::c::d::f::i::j::l::m::n::o::q::r::t::v::x::y::z::A::B::C::D::E::F::G::H::I::J::L::M::N::O::P::R::S::T::U::V::X::Y::Z::aa::ab::ac::ad::ae::af::ag::ah::ai::aj::ak::al::am::an::ao::ap::aq::ar::av::aw::ax::ay::az::aA::aB::aC::aD::aE::aF::aG::aH::aI::aJ::aK::aL::aM::aN::aO::aP::aQ::aR::aS::aT::aU::aV::aW::aX::aY::aZ::a0::a1::a2::a3::a4::a5::a6::a7::a8::a9::bb::bc::bd::be::bf::bg::bh::bi::bj::bk::bl::bm::bn::bo::bp::bq::br::bs::bt::bw::bx::bz::bA::bB::bC::bD::bE::bF::bG::bH::bI::bJ::bK::bL::bM::bN::bO::bP::bQ::bR::bS::bT::bU::bV::bW::bX::bY::bZ::b0::b2::b3::b4::b5::b6::b7::b8::b9::ca::cb::cc::cd::ce::cf::cg::ch::ci::cj::ck::cl::cm::cn::cp::cq::cr::cs::ct::cv::cw::cx::cy::cz::cA::cB::cC::cD::cE::cF::cG::cH::cI::cJ::cK::cL::cM::cN::cO::cP::cQ::cR::cS::cT::cU::cV::cW::cX::cY::cZ::c9::da::db::dc::dd::de::df::dg::dh::di::dj::dk::dl::dm::dn::dp::dq::dr::ds::dt::[]).toArray,[]⟩ w:=by
 have HX:Hid _:=@dv
 clear dv
 conv=>arg 2;whnf
 have hx:=aF5 hS
 have fj:=aNB p s
 have fi:((pos p s:Nat):Int)<=(p.size:Int):=by omega
 have C1:Hid (∀W,Calls prog 59 #[.string (lba s),.string ⟨#[60,33,45,45]⟩] W λe w'=>e=.returned (.bool ((([60,33,45,45]:jB)).isPrefixOf s))/\w'=W):=λW=>aNM s ⟨#[60,33,45,45]⟩ _ rfl W
 have ec:([60,33,45,45]:jB).isPrefixOf s=aEm.isPrefixOf s:=rfl
 rw[ec]at C1
 generalize aEm.isPrefixOf s=b1 at*
 generalize pos p s=k at*
 clear hS ec
 go_wp2_with fail
 refine(C1.out _).mono ?_
 rintro e w' ⟨rfl,fe⟩
 have e9:=fe.symm
 subst e9
 go_wp2_with fail
 exact HX.out
theorem aKo(g:Nat)(p:jA)(_hp:p.size<=4000)(s:jB)(hS:Suf p s)(w:World)(hg:w.cell? ⟨g,0,none⟩=some (.string p)){c0 c1 c2 c3 c4 c6 c7 c8 dz dA dB dC dD dE dF dG dH dI dJ dK dL dM dN dO dP dQ dR dS dT dU dV dW dX dY dZ ea eb ec e5 e6 e7 e8 e9 fa fb fc fd fe ed ee ef eg eh ei ej ek em en eo ep eq er es et ev ew ex ey ez eA eB eC eD eE eF eG eH eI eJ eK eL eM eN eO eP eQ eR eS eT eU eV eW eX eY eZ e2 e3 e4 c d f i j l m n o q r t v x y z A B C D E F G H I J L M N O P R S T U V X Y Z aa ab ac ad ae af ag ah ai aj ak al am an ao ap aq ar av aw ax ay az aA aB aC aD aE aF aG aH aI aJ aK aL aM aN aO aP aQ aR aS aT aU aV aW aX aY aZ a0 a1 a2 a3 a4 a5 a6 a7 a8 a9 bb bc bd be bf bg bh bi bj bk bl bm bn bo bp bq br bs bt bw bx bz bA bB bC bD bE bF bG bH bI bJ bK bL bM bN bO bP bQ bR bS bT bU bV bW bX bY bZ b0 b3 b4 b5 b6 b7 b8 b9 ca cb cc cd ce cf cg ch ci cj ck cl cm cn cp cq cr cs ct cv cw cx cy cz cA cB cC cD cE cF cG cH cI cJ cK cL cM cN cO cP cQ cR cS cT cU cV cW cX cY cZ c9 da db dc dd de df dg dh di dj dk dl dm dn dp dq dr ds dt dv dw dx:Value}(Q:Exit->Act->World->Prop)
  (dy:∀{ff fg fh fi fj fk fl fm fn:Value},Q .normal ⟨(c0::c1::c2::c3::c4::.pointer (some ⟨g,0,none⟩)::c6::c7::c8::.int .i64 ((pos p s:Nat):Int)::dz::dA::dB::dC::dD::dE::dF::dG::dH::dI::dJ::dK::dL::dM::dN::dO::dP::dQ::dR::dS::dT::dU::dV::dW::dX::dY::dZ::ea::eb::ec::ff::fg::fh::fi::fj::fk::fl::fm::fn::.bool (([60,33]:jB).isPrefixOf s||([60,63]:jB).isPrefixOf s)::ed::ee::ef::eg::eh::ei::ej::ek::em::en::eo::ep::eq::er::es::et::ev::ew::ex::ey::ez::eA::eB::eC::eD::eE::eF::eG::eH::eI::eJ::eK::eL::eM::eN::eO::eP::eQ::eR::eS::eT::eU::eV::eW::eX::eY::eZ::e2::e3::e4::c::d::f::i::j::l::m::n::o::q::r::t::v::x::y::z::A::B::C::D::E::F::G::H::I::J::L::M::N::O::P::R::S::T::U::V::X::Y::Z::aa::ab::ac::ad::ae::af::ag::ah::ai::aj::ak::al::am::an::ao::ap::aq::ar::av::aw::ax::ay::az::aA::aB::aC::aD::aE::aF::aG::aH::aI::aJ::aK::aL::aM::aN::aO::aP::aQ::aR::aS::aT::aU::aV::aW::aX::aY::aZ::a0::a1::a2::a3::a4::a5::a6::a7::a8::a9::bb::bc::bd::be::bf::bg::bh::bi::bj::bk::bl::bm::bn::bo::bp::bq::br::bs::bt::bw::bx::bz::bA::bB::bC::bD::bE::bF::bG::bH::bI::bJ::bK::bL::bM::bN::bO::bP::bQ::bR::bS::bT::bU::bV::bW::bX::bY::bZ::b0::b3::b4::b5::b6::b7::b8::b9::ca::cb::cc::cd::ce::cf::cg::ch::ci::cj::ck::cl::cm::cn::cp::cq::cr::cs::ct::cv::cw::cx::cy::cz::cA::cB::cC::cD::cE::cF::cG::cH::cI::cJ::cK::cL::cM::cN::cO::cP::cQ::cR::cS::cT::cU::cV::cW::cX::cY::cZ::c9::da::db::dc::dd::de::df::dg::dh::di::dj::dk::dl::dm::dn::dp::dq::dr::ds::dt::dv::dw::dx::[]).toArray,[]⟩ w):
  Code.wp prog (aOP f58 12) Q ⟨(c0::c1::c2::c3::c4::.pointer (some ⟨g,0,none⟩)::c6::c7::c8::.int .i64 ((pos p s:Nat):Int)::dz::dA::dB::dC::dD::dE::dF::dG::dH::dI::dJ::dK::dL::dM::dN::dO::dP::dQ::dR::dS::dT::dU::dV::dW::dX::dY::dZ::ea::eb::ec::e5::e6::e7::e8::e9::fa::fb::fc::fd::fe::ed::ee::ef::eg::eh::ei::ej::ek::em::en::eo::ep::eq::er::es::et::ev::ew::ex::ey::ez::eA::eB::eC::eD::eE::eF::eG::eH::eI::eJ::eK::eL::eM::eN::eO::eP::eQ::eR::eS::eT::eU::eV::eW::eX::eY::eZ::e2::e3::e4::c::d::f::i::j::l::m::n::o::q::r::t::v::x::y::z::A::B::C::D::E::F::G::H::I::J::L::M::N::O::P::R::S::T::U::V::X::Y::Z::aa::ab::ac::ad::ae::af::ag::ah::ai::aj::ak::al::am::an::ao::ap::aq::ar::av::aw::ax::ay::az::aA::aB::aC::aD::aE::aF::aG::aH::aI::aJ::aK::aL::aM::aN::aO::aP::aQ::aR::aS::aT::aU::aV::aW::aX::aY::aZ::a0::a1::a2::a3::a4::a5::a6::a7::a8::a9::bb::bc::bd::be::bf::bg::bh::bi::bj::bk::bl::bm::bn::bo::bp::bq::br::bs::bt::bw::bx::bz::bA::bB::bC::bD::bE::bF::bG::bH::bI::bJ::bK::bL::bM::bN::bO::bP::bQ::bR::bS::bT::bU::bV::bW::bX::bY::bZ::b0::b3::b4::b5::b6::b7::b8::b9::ca::cb::cc::cd::ce::cf::cg::ch::ci::cj::ck::cl::cm::cn::cp::cq::cr::cs::ct::cv::cw::cx::cy::cz::cA::cB::cC::cD::cE::cF::cG::cH::cI::cJ::cK::cL::cM::cN::cO::cP::cQ::cR::cS::cT::cU::cV::cW::cX::cY::cZ::c9::da::db::dc::dd::de::df::dg::dh::di::dj::dk::dl::dm::dn::dp::dq::dr::ds::dt::dv::dw::dx::[]).toArray,[]⟩ w:=by
 have HX:Hid _:=@dy
 clear dy
 conv=>arg 2;whnf
 have hx:=aF5 hS
 have fp:=aNB p s
 have fo:((pos p s:Nat):Int)<=(p.size:Int):=by omega
 have C1:Hid (∀W,Calls prog 59 #[.string (lba s),.string ⟨#[60,33]⟩] W λe w'=>e=.returned (.bool ((([60,33]:jB)).isPrefixOf s))/\w'=W):=λW=>aNM s ⟨#[60,33]⟩ _ rfl W
 have C2:Hid (∀W,Calls prog 59 #[.string (lba s),.string ⟨#[60,63]⟩] W λe w'=>e=.returned (.bool ((([60,63]:jB)).isPrefixOf s))/\w'=W):=λW=>aNM s ⟨#[60,63]⟩ _ rfl W
 generalize ([60,33]:jB).isPrefixOf s=b1 at*
 generalize ([60,63]:jB).isPrefixOf s=b2 at*
 generalize pos p s=k at*
 clear hS
 cases b1 with
 |true=>
  go_wp2_with fail
  refine(C1.out _).mono ?_
  rintro e w' ⟨rfl,b⟩
  have a:=b.symm
  subst a
  go_wp2_with fail
  exact HX.out
 |false=>
  go_wp2_with fail
  refine(C1.out _).mono ?_
  rintro e w' ⟨rfl,b⟩
  have a:=b.symm
  subst a
  go_wp2_with fail
  refine(C2.out _).mono ?_
  rintro e w' ⟨rfl,b⟩
  have a:=b.symm
  subst a
  go_wp2_with fail
  exact HX.out
theorem aKp(g:Nat)(p:jA)(hp:p.size<=4000)(s:jB)(hS:Suf p s)(w:World)(hg:w.cell? ⟨g,0,none⟩=some (.string p)){c0 c1 c2 c3 c4 c6 c8 e6 dz dA dB dC dD dE dF dG dH dI dJ dK dL dM dN dO dP dQ dR dS dT dU dV dW dX dY dZ ea eb ec ed ee ef eg eh ei ej ek em en eo ep e7 e8 e9 fa fb fc fd fe ff fg eq er es et ev ew ex ey ez eA eB eC eD eE eF eG eH eI eJ eK eL eM eN eO eP eQ eR eS eT eU eV eW eX eY eZ e2 e3 b c d f i j l m n o q r t v x y z A B C D E F G H I J L M N O P R S T U V X Y Z aa ab ac ad ae af ag ah ai aj ak al am an ao ap aq ar av aw ax ay az aA aB aC aD aE aF aG aH aI aJ aK aL aM aN aO aP aQ aR aS aT aU aV aW aX aY aZ a0 a1 a2 a3 a4 a5 a6 a7 a8 a9 bb bc bd be bf bg bh bi bj bk bl bm bn bo bp bq br bs bt bw bx bz bA bB bC bD bE bF bG bH bI bJ bK bL bM bN bO bP bQ bR bS bT bU bV bW bX bY bZ b0 b3 b4 b5 b6 b7 b8 b9 ca cb cc cd ce cf cg ch ci cj ck cl cm cn cp cq cr cs ct cv cw cx cy cz cA cB cC cD cE cF cG cH cI cJ cK cL cM cN cO cP cQ cR cS cT cU cV cW cX cY cZ c7 c9 da db dc dd de df dg dh di dj dk dl dm dn dp dq dr ds dt dv:Value}(Q:Exit->Act->World->Prop)
  (dw:∀{fh fi fj fk fl fm fn fo fp:Value},∀w':World,jb w w'->Q .normal ⟨(c0::c1::c2::c3::c4::.pointer (some ⟨g,0,none⟩)::c6::.func (Fn.func 110) #[] #[.pointer (some ⟨g,0,none⟩)]::c8::.int .i64 ((pos p s:Nat):Int)::.bool (aRw [60,47] s)::dz::dA::dB::dC::dD::dE::dF::dG::dH::dI::dJ::dK::dL::dM::dN::dO::dP::dQ::dR::dS::dT::dU::dV::dW::dX::dY::dZ::ea::eb::ec::ed::ee::ef::eg::eh::ei::ej::ek::em::en::eo::ep::fh::fi::fj::fk::fl::fm::fn::fo::fp::.bool (aRw [60,47] s)::eq::er::es::et::ev::ew::ex::ey::ez::eA::eB::eC::eD::eE::eF::eG::eH::eI::eJ::eK::eL::eM::eN::eO::eP::eQ::eR::eS::eT::eU::eV::eW::eX::eY::eZ::e2::e3::b::c::d::f::i::j::l::m::n::o::q::r::t::v::x::y::z::A::B::C::D::E::F::G::H::I::J::L::M::N::O::P::R::S::T::U::V::X::Y::Z::aa::ab::ac::ad::ae::af::ag::ah::ai::aj::ak::al::am::an::ao::ap::aq::ar::av::aw::ax::ay::az::aA::aB::aC::aD::aE::aF::aG::aH::aI::aJ::aK::aL::aM::aN::aO::aP::aQ::aR::aS::aT::aU::aV::aW::aX::aY::aZ::a0::a1::a2::a3::a4::a5::a6::a7::a8::a9::bb::bc::bd::be::bf::bg::bh::bi::bj::bk::bl::bm::bn::bo::bp::bq::br::bs::bt::bw::bx::bz::bA::bB::bC::bD::bE::bF::bG::bH::bI::bJ::bK::bL::bM::bN::bO::bP::bQ::bR::bS::bT::bU::bV::bW::bX::bY::bZ::b0::b3::b4::b5::b6::b7::b8::b9::ca::cb::cc::cd::ce::cf::cg::ch::ci::cj::ck::cl::cm::cn::cp::cq::cr::cs::ct::cv::cw::cx::cy::cz::cA::cB::cC::cD::cE::cF::cG::cH::cI::cJ::cK::cL::cM::cN::cO::cP::cQ::cR::cS::cT::cU::cV::cW::cX::cY::cZ::c7::c9::da::db::dc::dd::de::df::dg::dh::di::dj::dk::dl::dm::dn::dp::dq::dr::ds::dt::dv::[]).toArray,[]⟩ w'):
  Code.wp prog (aOP f58 14) Q ⟨(c0::c1::c2::c3::c4::.pointer (some ⟨g,0,none⟩)::c6::.func (Fn.func 110) #[] #[.pointer (some ⟨g,0,none⟩)]::c8::.int .i64 ((pos p s:Nat):Int)::e6::dz::dA::dB::dC::dD::dE::dF::dG::dH::dI::dJ::dK::dL::dM::dN::dO::dP::dQ::dR::dS::dT::dU::dV::dW::dX::dY::dZ::ea::eb::ec::ed::ee::ef::eg::eh::ei::ej::ek::em::en::eo::ep::e7::e8::e9::fa::fb::fc::fd::fe::ff::fg::eq::er::es::et::ev::ew::ex::ey::ez::eA::eB::eC::eD::eE::eF::eG::eH::eI::eJ::eK::eL::eM::eN::eO::eP::eQ::eR::eS::eT::eU::eV::eW::eX::eY::eZ::e2::e3::b::c::d::f::i::j::l::m::n::o::q::r::t::v::x::y::z::A::B::C::D::E::F::G::H::I::J::L::M::N::O::P::R::S::T::U::V::X::Y::Z::aa::ab::ac::ad::ae::af::ag::ah::ai::aj::ak::al::am::an::ao::ap::aq::ar::av::aw::ax::ay::az::aA::aB::aC::aD::aE::aF::aG::aH::aI::aJ::aK::aL::aM::aN::aO::aP::aQ::aR::aS::aT::aU::aV::aW::aX::aY::aZ::a0::a1::a2::a3::a4::a5::a6::a7::a8::a9::bb::bc::bd::be::bf::bg::bh::bi::bj::bk::bl::bm::bn::bo::bp::bq::br::bs::bt::bw::bx::bz::bA::bB::bC::bD::bE::bF::bG::bH::bI::bJ::bK::bL::bM::bN::bO::bP::bQ::bR::bS::bT::bU::bV::bW::bX::bY::bZ::b0::b3::b4::b5::b6::b7::b8::b9::ca::cb::cc::cd::ce::cf::cg::ch::ci::cj::ck::cl::cm::cn::cp::cq::cr::cs::ct::cv::cw::cx::cy::cz::cA::cB::cC::cD::cE::cF::cG::cH::cI::cJ::cK::cL::cM::cN::cO::cP::cQ::cR::cS::cT::cU::cV::cW::cX::cY::cZ::c7::c9::da::db::dc::dd::de::df::dg::dh::di::dj::dk::dl::dm::dn::dp::dq::dr::ds::dt::dv::[]).toArray,[]⟩ w:=by
 have HX:Hid _:=@dw
 clear dw
 conv=>arg 2;whnf
 have hx:=aF5 hS
 have fr:=aNB p s
 have fq:((pos p s:Nat):Int)<=(p.size:Int):=by omega
 have C1:Hid (∀W,Calls prog 59 #[.string (lba s),.string ⟨#[60,47]⟩] W λe w'=>e=.returned (.bool ((([60,47]:jB)).isPrefixOf s))/\w'=W):=λW=>aNM s ⟨#[60,47]⟩ _ rfl W
 have CL:Hid (∀W,W.cell? ⟨g,0,none⟩=some (.string p)->Calls prog 110 #[.int .i64 ((pos p s:Nat)+2:Int),.pointer (some ⟨g,0,none⟩)] W λe w'=>e=.returned (.bool (aH9 (s.drop 2)))/\jb W w'):=λW hW=>by
  have h:=aPj g p (pos p s+2) hp (by omega) W hW
  rw[<-jay,hS.drop]at h
  exact h
 have fs:IntKind.i64.wrap (((pos p s:Nat):Int)+2)=((pos p s:Nat):Int)+2:=by rw[ju];omega
 have dy:Hid (aRw [60,47] s=(([60,47]:jB).isPrefixOf s&&aH9 (s.drop 2))):=rfl
 generalize ([60,47]:jB).isPrefixOf s=b1 at*
 generalize aH9 (s.drop 2)=b2 at*
 rw[dy.out]at HX
 generalize pos p s=k at*
 clear hS dy
 cases b1 with
 |true=>
  go_wp2_with fail
  refine(C1.out _).mono ?_
  rintro e w' ⟨rfl,dx⟩
  have a:=dx.symm
  subst a
  go_wp2_with fail
  refine(CL.out _ hg).mono ?_
  rintro e w2 ⟨rfl,e4⟩
  have e5:Hid _:=e4
  clear CL e4
  go_wp2_with fail
  exact HX.out _ e5.out
 |false=>
  go_wp2_with fail
  refine(C1.out _).mono ?_
  rintro e w' ⟨rfl,dx⟩
  have a:=dx.symm
  subst a
  go_wp2_with fail
  exact HX.out _ (jr _ _)
theorem aKq(g:Nat)(p:jA)(hp:p.size<=4000)(s:jB)(hS:Suf p s)(w:World)(hg:w.cell? ⟨g,0,none⟩=some (.string p))(sh:Bool){c0 c1 c2 c3 c4 c6 c8 dv dw dx dy dz dA dB dC dD dE dF dG dH dI dJ dK dL dM dN dO dP dQ dR dS dT dU dV dW dX dY dZ ea eb ec ed ee ef eg eh ei ej ek em en eo ep eq er es et ev ew e3 e4 e5 e6 e7 e8 e9 fa fb ex ey ez eA eB eC eD eE eF eG eH eI eJ eK eL eM eN eO eP eQ eR eS eT eU eV eW eX eY a b c d f i j l m n o q r t v x y z A B C D E F G H I J L M N O P R S T U V X Y Z aa ab ac ad ae af ag ah ai aj ak al am an ao ap aq ar av aw ax ay az aA aB aC aD aE aF aG aH aI aJ aK aL aM aN aO aP aQ aR aS aT aU aV aW aX aY aZ a0 a1 a2 a3 a4 a5 a6 a7 a8 a9 bb bc bd be bf bg bh bi bj bk bl bm bn bo bp bq br bs bt bw bx bz bA bB bC bD bE bF bG bH bI bJ bK bL bM bN bO bP bQ bR bS bT bU bV bW bX bY bZ b0 b1 b3 b4 b5 b6 b7 b8 b9 ca cb cc cd ce cf cg ch ci cj ck cl cm cn cp cq cr cs ct cv cw cx cy cz cA cB cC cD cE cF cG cH cI cJ cK cL cM cN cO cP cQ cR cS cT cU cV cW cX cY cZ c7 c9 da db dc dd de df dg dh di dj dk dl dm dn dp dq dr ds:Value}(Q:Exit->Act->World->Prop)
  (dt:∀{fc fd fe ff fg fh fi fj:Value},∀w':World,jb w w'->Q .normal ⟨(c0::c1::c2::c3::c4::.pointer (some ⟨g,0,none⟩)::c6::.func (Fn.func 110) #[] #[.pointer (some ⟨g,0,none⟩)]::c8::.int .i64 ((pos p s:Nat):Int)::.bool sh::dv::dw::dx::dy::dz::dA::dB::dC::dD::dE::dF::dG::dH::dI::dJ::dK::dL::dM::dN::dO::dP::dQ::dR::dS::dT::dU::dV::dW::dX::dY::dZ::ea::eb::ec::ed::ee::ef::eg::eh::ei::ej::ek::em::en::eo::ep::eq::er::es::et::ev::ew::fc::fd::fe::ff::fg::fh::fi::fj::.bool (!sh&&!aH9 (s.drop 1))::ex::ey::ez::eA::eB::eC::eD::eE::eF::eG::eH::eI::eJ::eK::eL::eM::eN::eO::eP::eQ::eR::eS::eT::eU::eV::eW::eX::eY::a::b::c::d::f::i::j::l::m::n::o::q::r::t::v::x::y::z::A::B::C::D::E::F::G::H::I::J::L::M::N::O::P::R::S::T::U::V::X::Y::Z::aa::ab::ac::ad::ae::af::ag::ah::ai::aj::ak::al::am::an::ao::ap::aq::ar::av::aw::ax::ay::az::aA::aB::aC::aD::aE::aF::aG::aH::aI::aJ::aK::aL::aM::aN::aO::aP::aQ::aR::aS::aT::aU::aV::aW::aX::aY::aZ::a0::a1::a2::a3::a4::a5::a6::a7::a8::a9::bb::bc::bd::be::bf::bg::bh::bi::bj::bk::bl::bm::bn::bo::bp::bq::br::bs::bt::bw::bx::bz::bA::bB::bC::bD::bE::bF::bG::bH::bI::bJ::bK::bL::bM::bN::bO::bP::bQ::bR::bS::bT::bU::bV::bW::bX::bY::bZ::b0::b1::b3::b4::b5::b6::b7::b8::b9::ca::cb::cc::cd::ce::cf::cg::ch::ci::cj::ck::cl::cm::cn::cp::cq::cr::cs::ct::cv::cw::cx::cy::cz::cA::cB::cC::cD::cE::cF::cG::cH::cI::cJ::cK::cL::cM::cN::cO::cP::cQ::cR::cS::cT::cU::cV::cW::cX::cY::cZ::c7::c9::da::db::dc::dd::de::df::dg::dh::di::dj::dk::dl::dm::dn::dp::dq::dr::ds::[]).toArray,[]⟩ w'):
  Code.wp prog (aOP f58 15) Q ⟨(c0::c1::c2::c3::c4::.pointer (some ⟨g,0,none⟩)::c6::.func (Fn.func 110) #[] #[.pointer (some ⟨g,0,none⟩)]::c8::.int .i64 ((pos p s:Nat):Int)::.bool sh::dv::dw::dx::dy::dz::dA::dB::dC::dD::dE::dF::dG::dH::dI::dJ::dK::dL::dM::dN::dO::dP::dQ::dR::dS::dT::dU::dV::dW::dX::dY::dZ::ea::eb::ec::ed::ee::ef::eg::eh::ei::ej::ek::em::en::eo::ep::eq::er::es::et::ev::ew::e3::e4::e5::e6::e7::e8::e9::fa::fb::ex::ey::ez::eA::eB::eC::eD::eE::eF::eG::eH::eI::eJ::eK::eL::eM::eN::eO::eP::eQ::eR::eS::eT::eU::eV::eW::eX::eY::a::b::c::d::f::i::j::l::m::n::o::q::r::t::v::x::y::z::A::B::C::D::E::F::G::H::I::J::L::M::N::O::P::R::S::T::U::V::X::Y::Z::aa::ab::ac::ad::ae::af::ag::ah::ai::aj::ak::al::am::an::ao::ap::aq::ar::av::aw::ax::ay::az::aA::aB::aC::aD::aE::aF::aG::aH::aI::aJ::aK::aL::aM::aN::aO::aP::aQ::aR::aS::aT::aU::aV::aW::aX::aY::aZ::a0::a1::a2::a3::a4::a5::a6::a7::a8::a9::bb::bc::bd::be::bf::bg::bh::bi::bj::bk::bl::bm::bn::bo::bp::bq::br::bs::bt::bw::bx::bz::bA::bB::bC::bD::bE::bF::bG::bH::bI::bJ::bK::bL::bM::bN::bO::bP::bQ::bR::bS::bT::bU::bV::bW::bX::bY::bZ::b0::b1::b3::b4::b5::b6::b7::b8::b9::ca::cb::cc::cd::ce::cf::cg::ch::ci::cj::ck::cl::cm::cn::cp::cq::cr::cs::ct::cv::cw::cx::cy::cz::cA::cB::cC::cD::cE::cF::cG::cH::cI::cJ::cK::cL::cM::cN::cO::cP::cQ::cR::cS::cT::cU::cV::cW::cX::cY::cZ::c7::c9::da::db::dc::dd::de::df::dg::dh::di::dj::dk::dl::dm::dn::dp::dq::dr::ds::[]).toArray,[]⟩ w:=by
 have HX:Hid _:=@dt
 clear dt
 conv=>arg 2;whnf
 have hx:=aF5 hS
 have fl:=aNB p s
 have fk:((pos p s:Nat):Int)<=(p.size:Int):=by omega
 have CL:Hid (∀W,W.cell? ⟨g,0,none⟩=some (.string p)->Calls prog 110 #[.int .i64 ((pos p s:Nat)+1:Int),.pointer (some ⟨g,0,none⟩)] W λe w'=>e=.returned (.bool (aH9 (s.drop 1)))/\jb W w'):=λW hW=>by
  have h:=aPj g p (pos p s+1) hp (by omega) W hW
  rw[<-jay,hS.drop]at h
  exact h
 have fm:IntKind.i64.wrap (((pos p s:Nat):Int)+1)=((pos p s:Nat):Int)+1:=by rw[ju];omega
 generalize aH9 (s.drop 1)=b2 at*
 generalize pos p s=k at*
 clear hS
 cases sh with
 |true=>
  go_wp2_with fail
  exact HX.out _ (jr _ _)
 |false=>
  go_wp2_with fail
  refine(CL.out _ hg).mono ?_
  rintro e w2 ⟨rfl,eZ⟩
  have e2:Hid _:=eZ
  clear CL eZ
  go_wp2_with fail
  exact HX.out _ e2.out
end Go.Proofs.YtbbfcbodhmeanaaGreatDoor

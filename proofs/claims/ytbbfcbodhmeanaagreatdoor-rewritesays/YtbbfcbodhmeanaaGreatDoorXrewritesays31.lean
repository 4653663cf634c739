import Derived.Test.YtbbfcbodhmeanaaGreatDoorXrewritesays30
set_option maxHeartbeats 8000000
set_option maxRecDepth 1000000
namespace Go.Proofs.YtbbfcbodhmeanaaGreatDoor
open Go.Proofs.Tryz
open Go.RowKit
theorem aKt(g:Nat)(p:jA)(hp:p.size<=4000)(ya yb:jB)(fw:Suf p ya)(cc:Suf p yb)(w1 wc:World)(L:Nat)(B2:Below L w1 wc)(Q2:wc.heap[L]?=some (.cells #[.int .i64 (-1),.int .i64 0,.string ⟨#[]⟩] 40))(cf:g≠L)(n:wc.cell? ⟨g,0,none⟩=some (.string p)){c0 c1 c2 c3 c4 c7 c8 ck cl cm cn cp cq cr cs cx cI cT dd dp dB dM dX eg eh ei ej ek em en eo ep eq er es et ev ew ex ey ez eA eB eC eD eE eF eG eH eI eJ eK eL eM eN eO eP eQ eR eS eT eU eV eW eX eY eZ e2 e3 e4 e5 e6 e7 e8 e9 fa fb fc fd fe ff fg fh fi fj fk fl fm fn fo fp fq fr fs ft s t z A B C D E F G H I J M N O P R S T U V W X Y Z aa ab ac ad ae af ag ah ai aj ak al am an ao ap aq ar av aw ax ay az aA aB aC aD aE aF aG aH aI aJ aK aL aM aN aO aP aQ aR aS aT aU aV aW aX aY aZ a0 a1 a2 a3 a4 a5 a6 a7 a8 a9 bb bc bd be bf bg bh bi bj bk bl ct cv cw cy cz cA cB cC cD cE cF cG cH cJ cK cL cM cN cO cP cQ cR cS cU cV cW cX cY cZ c9 da db dc de df dg dh di dj dk dl dm dn dq dr ds dt dv dw dx dy dz dA dC dD dE dF dG dH dI dJ dK dL dN dO dP dQ dR dS dT dU dV dW dY dZ ea eb ec ed ee ef bm bn bo bp bq br bs bt bw bx bz bA bB bC bD bE bF bG bH bI bJ bK bL bM bN bO bP bQ bR bS bT bU bV bW bX bY bZ b0 b1 b2 b3 b4 b5 b6 b7 b8 b9 ca cb:Value}(Q:Exit->Act->World->Prop)
  (cg:∀{hZ gz gA gB gC gD gE gF gG gH gI gJ gK gL gM gN gO gP gQ gR gS gT gU gV gW gX gY gZ g0 g1 g2 g3 g4 g5 g6 g7 g8 g9 ha hb hc hd he hf hg hh hi hj hk hl hm hn ho hq hr hs ht hv hw hx hy hz hA hB hC hD hF hG hH hI hJ hK hL hM hN hO hP hQ hR hS hT hU:Value},∀(yd:jB) (wx:World),LkA w1 p ya yb L yd wx->Q .normal ⟨(c0::c1::c2::c3::c4::.pointer (some ⟨g,0,none⟩)::.func (Fn.func 109) #[] #[.pointer (some ⟨g,0,none⟩)]::c7::c8::.int .i64 ((pos p yd:Nat):Int)::ck::cl::cm::cn::cp::hZ::.pointer (some ⟨L,0,none⟩)::cq::cr::cs::cx::cI::cT::dd::dp::dB::dM::dX::eg::eh::ei::ej::ek::em::en::eo::ep::eq::er::es::et::ev::ew::ex::ey::ez::eA::eB::eC::eD::eE::eF::eG::eH::eI::eJ::eK::eL::eM::eN::eO::eP::eQ::eR::eS::eT::eU::eV::eW::eX::eY::eZ::e2::e3::e4::e5::e6::e7::e8::e9::fa::fb::fc::fd::fe::ff::fg::fh::fi::fj::fk::fl::fm::fn::fo::fp::fq::fr::fs::ft::s::t::z::A::B::C::D::E::F::G::H::I::J::M::N::O::P::R::S::T::U::V::W::X::Y::Z::aa::ab::ac::ad::ae::af::ag::ah::ai::aj::ak::al::am::an::ao::ap::aq::ar::av::aw::ax::ay::az::aA::aB::aC::aD::aE::aF::aG::aH::aI::aJ::aK::aL::aM::aN::aO::aP::aQ::aR::aS::aT::aU::aV::aW::aX::aY::aZ::a0::a1::a2::a3::a4::a5::a6::a7::a8::a9::bb::bc::bd::be::bf::bg::bh::bi::bj::bk::bl::.bool (eqB yb)::gz::gA::gB::gC::gD::gE::gF::gG::gH::gI::gJ::gK::gL::gM::gN::gO::gP::gQ::gR::gS::gT::gU::gV::gW::gX::gY::gZ::g0::g1::g2::g3::g4::g5::g6::g7::g8::g9::ha::hb::hc::hd::he::hf::hg::hh::hi::hj::hk::hl::hm::hn::ho::hq::hr::hs::ht::hv::hw::hx::hy::hz::hA::hB::hC::hD::hF::hG::hH::hI::hJ::hK::hL::hM::hN::hO::hP::hQ::hR::hS::hT::hU::bm::bn::bo::bp::bq::br::bs::bt::bw::bx::bz::bA::bB::bC::bD::bE::bF::bG::bH::bI::bJ::bK::bL::bM::bN::bO::bP::bQ::bR::bS::bT::bU::bV::bW::bX::bY::bZ::b0::b1::b2::b3::b4::b5::b6::b7::b8::b9::ca::cb::[]).toArray,[]⟩ wx):
  Code.wp prog (aEA f58 11) Q ⟨(c0::c1::c2::c3::c4::.pointer (some ⟨g,0,none⟩)::.func (Fn.func 109) #[] #[.pointer (some ⟨g,0,none⟩)]::c7::c8::.int .i64 ((pos p ya:Nat):Int)::ck::cl::cm::cn::cp::.int .i64 ((pos p yb:Nat):Int)::.pointer (some ⟨L,0,none⟩)::cq::cr::cs::cx::cI::cT::dd::dp::dB::dM::dX::eg::eh::ei::ej::ek::em::en::eo::ep::eq::er::es::et::ev::ew::ex::ey::ez::eA::eB::eC::eD::eE::eF::eG::eH::eI::eJ::eK::eL::eM::eN::eO::eP::eQ::eR::eS::eT::eU::eV::eW::eX::eY::eZ::e2::e3::e4::e5::e6::e7::e8::e9::fa::fb::fc::fd::fe::ff::fg::fh::fi::fj::fk::fl::fm::fn::fo::fp::fq::fr::fs::ft::s::t::z::A::B::C::D::E::F::G::H::I::J::M::N::O::P::R::S::T::U::V::W::X::Y::Z::aa::ab::ac::ad::ae::af::ag::ah::ai::aj::ak::al::am::an::ao::ap::aq::ar::av::aw::ax::ay::az::aA::aB::aC::aD::aE::aF::aG::aH::aI::aJ::aK::aL::aM::aN::aO::aP::aQ::aR::aS::aT::aU::aV::aW::aX::aY::aZ::a0::a1::a2::a3::a4::a5::a6::a7::a8::a9::bb::bc::bd::be::bf::bg::bh::bi::bj::bk::bl::.bool (eqB yb)::ct::cv::cw::cy::cz::cA::cB::cC::cD::cE::cF::cG::cH::cJ::cK::cL::cM::cN::cO::cP::cQ::cR::cS::cU::cV::cW::cX::cY::cZ::c9::da::db::dc::de::df::dg::dh::di::dj::dk::dl::dm::dn::dq::dr::ds::dt::dv::dw::dx::dy::dz::dA::dC::dD::dE::dF::dG::dH::dI::dJ::dK::dL::dN::dO::dP::dQ::dR::dS::dT::dU::dV::dW::dY::dZ::ea::eb::ec::ed::ee::ef::bm::bn::bo::bp::bq::br::bs::bt::bw::bx::bz::bA::bB::bC::bD::bE::bF::bG::bH::bI::bJ::bK::bL::bM::bN::bO::bP::bQ::bR::bS::bT::bU::bV::bW::bX::bY::bZ::b0::b1::b2::b3::b4::b5::b6::b7::b8::b9::ca::cb::[]).toArray,[]⟩ wc:=by
 have HX:Hid _:=@cg
 clear cg
 conv=>arg 2;whnf
 cases hE:eqB yb with
 |false=>
  have r:LkA w1 p ya yb L ya wc:=⟨B2,fw,Or.inl ⟨hE,rfl,Q2⟩⟩
  rw[hE]at HX
  clear hE
  go_wp2_with fail
  exact HX.out _ _ r
 |true=>
  rw[hE]at HX
  obtain⟨l,rfl⟩:=aFX hE
  obtain⟨kb,fv,ih,hX,fy⟩:=aCe cc
  have ce:(kb:Int)+1=((pos p l:Nat):Int):=by rw[fy];rfl
  have hY:IntKind.i64.wrap ((kb:Int)+1)=((kb+1:Nat):Int):=by rw[ju];omega
  have cd:Suf p l:=cc.tl
  have o:Hid _:=ce
  rw[fv]
  clear hE fy fv hX ce
  go_wp2_with fail
  rw[o.out]
  refine lk7 g p hp l cd wc n _ ?_
  intro h2 h3 h4 h5 h6 h7 h8 h9 ia ib ic
  obtain⟨y3,m⟩:∃y,l.dropWhile spB=y:=⟨_,rfl⟩
  have a:Suf p y3:=by rw[<-m];exact cd.dw _
  have d:Hid _:=m
  rw[m]
  clear m hY o
  obtain⟨z0,z1,z2,zf⟩:=aJE Q2
  have ik:=zf 0
  have il:=zf 1
  have cj:Hid (∀v,(wc.setCell ⟨L,0,none⟩ v).cell? ⟨g,0,none⟩=some (.string p)):=λv=>(jae _ _ _ _ (λe=>cf (by injection e with e _ _;exact e.symm))).trans n
  have ci:Hid _:=Q2
  have c:Hid (∀x y:Int,Below L w1 ((wc.setCell ⟨L,0,none⟩ (.int .i64 x)).setCell ⟨L,1,none⟩ (.int .i64 y))/\((wc.setCell ⟨L,0,none⟩ (.int .i64 x)).setCell ⟨L,1,none⟩ (.int .i64 y)).heap[L]?=some (.cells #[.int .i64 x,.int .i64 y,.string ⟨#[]⟩] 40)):=λx y=>⟨(B2.setCell (p:=⟨L,0,none⟩) (jf _) _).setCell (p:=⟨L,1,none⟩) (jf _) _,aKj Q2 _ _⟩
  clear zf B2 Q2
  cases y3 with
  |nil=>
   have r:Hid (LkA w1 p ya (61::l) L [] ((wc.setCell ⟨L,0,none⟩ (.int .i64 (p.size:Int))).setCell ⟨L,1,none⟩ (.int .i64 (p.size:Int)))):=⟨(c.out _ _).1,a,Or.inr ⟨l,rfl,by rw[d.out];rfl,by rw[d.out];exact(c.out _ _).2⟩⟩
   have fx:pos p []=p.size:=rfl
   rw[fx]
   have h0:decide ((p.size:Int)<(p.size:Int))=false:=by simp
   clear fx c d
   go_wp2_with fail
   refine lk8 g p hp [] a _ (cj.out _) _ ?_
   intro gf gg gh gi gj gl gm gn go gp gq gr gs gt gv gw gx gy
   rw[show List.dropWhile aIs []=[]from rfl,show pos p []=p.size from rfl]
   go_wp2_with fail
   exact HX.out [] _ r.out
  |cons q f=>
   obtain⟨kq,j,ii,ij,hW⟩:=aCe a
   have h1:(kq:Int)<(p.size:Int):=by omega
   clear hW
   by_cases i:qB q=true
   ·have b:=aUt (q:=q) f i
    have ch:=(aOC a).2.2
    have r:Hid (LkA w1 p ya (61::l) L ((f.dropWhile (aLF q)).drop 1) ((wc.setCell ⟨L,0,none⟩ (.int .i64 ((pos p (q::f)+1:Nat):Int))).setCell ⟨L,1,none⟩ (.int .i64 ((pos p (q::f)+1+(f.takeWhile (aLF q)).length:Nat):Int))).drew):=⟨(c.out _ _).1.drew,(a.tl.dw _).dr 1,Or.inr ⟨l,rfl,by rw[d.out,b],by rw[d.out,b];show _=some (Obj.cells #[.int .i64 ((pos p f:Nat):Int),.int .i64 ((pos p f+(f.takeWhile (aLF q)).length:Nat):Int),_] _);rw[ch];exact(c.out _ _).2⟩⟩
    rcases (show q=34\/q=39 by simpa [qB] using i)with rfl|rfl
    ·clear b ch c d i
     rw[j]
     go_upto_if 225 with fail
     rw[<-j]
     refine lkQ g p hp 34 f a wc n L _ _ _ ci.out cf _ ?_
     intro fC fD fE fF fG fH fI fJ fK fL fM fN fO fP fQ fR fS fT fU fV fW fX fY fZ ga gb gc gd ge
     go_wp2_with fail
     exact HX.out _ _ r.out
    ·clear b ch c d i
     rw[j]
     go_upto_if 225 with fail
     rw[<-j]
     refine lkQ g p hp 39 f a wc n L _ _ _ ci.out cf _ ?_
     intro fC fD fE fF fG fH fI fJ fK fL fM fN fO fP fQ fR fS fT fU fV fW fX fY fZ ga gb gc gd ge
     go_wp2_with fail
     exact HX.out _ _ r.out
   ·subst j
    have fA:¬q=34:=λe=>i (by rw[e];rfl)
    have fB:¬q=39:=λe=>i (by rw[e];rfl)
    have ie:((q.toNat:Int)==34)=false:=by rw[jg];intro e;exact fA (by rw[<-jM];exact jal e)
    have ig:((q.toNat:Int)==39)=false:=by rw[jg];intro e;exact fB (by rw[<-jM];exact jal e)
    obtain⟨y5,k⟩:∃y,(q::f).dropWhile aIs=y:=⟨_,rfl⟩
    have b:aUs (q::f)=(q::f,(q::f).takeWhile aIs,y5):=by rw[<-k];show(if qB q=true then _ else _)=_;rw[jh i]
    have fz:pos p y5=pos p (q::f)+((q::f).takeWhile aIs).length:=by rw[<-k];exact aND a (aTs aIs (q::f))
    have r:Hid (LkA w1 p ya (61::l) L y5 ((wc.setCell ⟨L,0,none⟩ (.int .i64 ((pos p (q::f):Nat):Int))).setCell ⟨L,1,none⟩ (.int .i64 ((pos p y5:Nat):Int)))):=⟨(c.out _ _).1,by rw[<-k];exact a.dw _,Or.inr ⟨l,rfl,by rw[d.out,b],by rw[d.out,b];show _=some (Obj.cells #[_,.int .i64 ((pos p (q::f)+((q::f).takeWhile aIs).length:Nat):Int),_] _);rw[<-fz];exact(c.out _ _).2⟩⟩
    have hV:Hid _:=k
    clear fz b c d fA fB i k
    go_wp2_with fail
    refine lk8 g p hp (q::f) a _ (cj.out _) _ ?_
    intro gf gg gh gi gj gl gm gn go gp gq gr gs gt gv gw gx gy
    rw[hV.out]
    go_wp2_with fail
    exact HX.out y5 _ r.out
theorem lk5(g:Nat)(p:jA)(hp:p.size<=4000)(s:jB)(hS:Suf p s)(w:World)(hg:w.cell? ⟨g,0,none⟩=some (.string p)){c0 c1 c2 c3 c4 c7 c8 c9 da db dc de dq dC dM dN dO dP dQ dR dS dT dU dV dW dX dY dZ ea eb ec ed ee ef eg eh ei ej em en eo ep eq er es et ev ew ex ey ez eA eB eC eD eE eF eG eH eI eJ eK eL eM eN eO eP eQ eR eS eT eU eV eW eX eY eZ e2 e3 e4 e5 e6 e7 e8 e9 fa fb fc fd fe ff fg fh fi fj fk fl o q r v x y z A B C D E F G H I J L M N O P R S T U V W X Y Z aa ab ac ad ae af ag ah dd df dg dh di dj dk dl dm dn dp dr ds dt dv dw dx dy dz dA dB dD dE dF dG dH dI dJ dK dL ai aj ak al am an ao ap aq ar av aw ax ay az aA aB aC aD aE aF aG aH aI aJ aK aL aM aN aO aP aQ aR aS aT aU aV aW aX aY aZ a0 a1 a2 a3 a4 a5 a6 a7 a8 a9 bb bc bd be bf bg bh bi bj bk bl bm bn bo bp bq br bs bt bw bx bz bA bB bC bD bE bF bG bH bI bJ bK bL bM bN bO bP bQ bR bS bT bU bV bW bX bY bZ b0 b1 b2 b3 b4 b5 b6 b7 b8 b9 ca cb cc cd ce cf cg ch ci cj ck cl cm cn cp cq cr cs ct cv cw cx cy cz cA cB cC cD cE cF cG cH cI cJ cK cL cM cN cO cP cQ cR cS cT cU cV cW cX cY:Value}(Q:Exit->Act->World->Prop)
  (cZ:∀{fr fs ft fv fw fx fy fz fA fB fC fD fE fF fG fH fI fJ fK fL fM fN fO fP fQ fR fS fT fU fV:Value},Q (.exit 8) ⟨(c0::c1::c2::c3::c4::.pointer (some ⟨g,0,none⟩)::.func (Fn.func 109) #[] #[.pointer (some ⟨g,0,none⟩)]::c7::c8::.int .i64 ((pos p (s.dropWhile aIr):Nat):Int)::c9::da::db::dc::de::dq::dC::dM::dN::dO::dP::dQ::dR::dS::dT::dU::dV::dW::dX::dY::dZ::ea::eb::ec::ed::ee::ef::eg::eh::ei::ej::em::en::eo::ep::eq::er::es::et::ev::ew::ex::ey::ez::eA::eB::eC::eD::eE::eF::eG::eH::eI::eJ::eK::eL::eM::eN::eO::eP::eQ::eR::eS::eT::eU::eV::eW::eX::eY::eZ::e2::e3::e4::e5::e6::e7::e8::e9::fa::fb::fc::fd::fe::ff::fg::fh::fi::fj::fk::fl::o::q::r::v::x::y::z::A::B::C::D::E::F::G::H::I::J::L::M::N::O::P::R::S::T::U::V::W::X::Y::Z::aa::ab::ac::ad::ae::af::ag::ah::fr::fs::ft::fv::fw::fx::fy::fz::fA::fB::fC::fD::fE::fF::fG::fH::fI::fJ::fK::fL::fM::fN::fO::fP::fQ::fR::fS::fT::fU::fV::ai::aj::ak::al::am::an::ao::ap::aq::ar::av::aw::ax::ay::az::aA::aB::aC::aD::aE::aF::aG::aH::aI::aJ::aK::aL::aM::aN::aO::aP::aQ::aR::aS::aT::aU::aV::aW::aX::aY::aZ::a0::a1::a2::a3::a4::a5::a6::a7::a8::a9::bb::bc::bd::be::bf::bg::bh::bi::bj::bk::bl::bm::bn::bo::bp::bq::br::bs::bt::bw::bx::bz::bA::bB::bC::bD::bE::bF::bG::bH::bI::bJ::bK::bL::bM::bN::bO::bP::bQ::bR::bS::bT::bU::bV::bW::bX::bY::bZ::b0::b1::b2::b3::b4::b5::b6::b7::b8::b9::ca::cb::cc::cd::ce::cf::cg::ch::ci::cj::ck::cl::cm::cn::cp::cq::cr::cs::ct::cv::cw::cx::cy::cz::cA::cB::cC::cD::cE::cF::cG::cH::cI::cJ::cK::cL::cM::cN::cO::cP::cQ::cR::cS::cT::cU::cV::cW::cX::cY::[]).toArray,[]⟩ w):
  Code.wp prog (Code.loop (aKD f58 4)) Q ⟨(c0::c1::c2::c3::c4::.pointer (some ⟨g,0,none⟩)::.func (Fn.func 109) #[] #[.pointer (some ⟨g,0,none⟩)]::c7::c8::.int .i64 ((pos p s:Nat):Int)::c9::da::db::dc::de::dq::dC::dM::dN::dO::dP::dQ::dR::dS::dT::dU::dV::dW::dX::dY::dZ::ea::eb::ec::ed::ee::ef::eg::eh::ei::ej::em::en::eo::ep::eq::er::es::et::ev::ew::ex::ey::ez::eA::eB::eC::eD::eE::eF::eG::eH::eI::eJ::eK::eL::eM::eN::eO::eP::eQ::eR::eS::eT::eU::eV::eW::eX::eY::eZ::e2::e3::e4::e5::e6::e7::e8::e9::fa::fb::fc::fd::fe::ff::fg::fh::fi::fj::fk::fl::o::q::r::v::x::y::z::A::B::C::D::E::F::G::H::I::J::L::M::N::O::P::R::S::T::U::V::W::X::Y::Z::aa::ab::ac::ad::ae::af::ag::ah::dd::df::dg::dh::di::dj::dk::dl::dm::dn::dp::dr::ds::dt::dv::dw::dx::dy::dz::dA::dB::dD::dE::dF::dG::dH::dI::dJ::dK::dL::ai::aj::ak::al::am::an::ao::ap::aq::ar::av::aw::ax::ay::az::aA::aB::aC::aD::aE::aF::aG::aH::aI::aJ::aK::aL::aM::aN::aO::aP::aQ::aR::aS::aT::aU::aV::aW::aX::aY::aZ::a0::a1::a2::a3::a4::a5::a6::a7::a8::a9::bb::bc::bd::be::bf::bg::bh::bi::bj::bk::bl::bm::bn::bo::bp::bq::br::bs::bt::bw::bx::bz::bA::bB::bC::bD::bE::bF::bG::bH::bI::bJ::bK::bL::bM::bN::bO::bP::bQ::bR::bS::bT::bU::bV::bW::bX::bY::bZ::b0::b1::b2::b3::b4::b5::b6::b7::b8::b9::ca::cb::cc::cd::ce::cf::cg::ch::ci::cj::ck::cl::cm::cn::cp::cq::cr::cs::ct::cv::cw::cx::cy::cz::cA::cB::cC::cD::cE::cF::cG::cH::cI::cJ::cK::cL::cM::cN::cO::cP::cQ::cR::cS::cT::cU::cV::cW::cX::cY::[]).toArray,[]⟩ w:=by
 have j:Hid _:=@cZ
 clear cZ
 conv=>arg 2;arg 1;whnf
 go_loopw[9] (λiv wr=>∃sj:jB,iv=.int .i64 ((pos p sj:Nat):Int)/\Suf p sj/\Hid (s.dropWhile aIr=sj.dropWhile aIr)/\wr=w) (λiv _=>p.size-(intOf iv).toNat)
 case atStart=>exact⟨s,rfl,hS,rfl,rfl⟩
 case round=>
  obtain⟨sj,rfl,f,HD,rfl⟩:=hrel
  cases sj with
  |nil=>
   have hk:pos p []=p.size:=rfl
   rw[HD.out]at j
   rw[show List.dropWhile aIr []=[]from rfl,hk]at j
   rw[hk]
   have ga:decide ((p.size:Int)<(p.size:Int))=false:=by simp
   clear hS f HD hk
   go_wp2_with fail
   exact j.out
  |cons c t=>
   obtain⟨k,ek,hk,gb,i⟩:=aCe f
   have ga:(k:Int)<(p.size:Int):=by omega
   have gc:IntKind.i64.wrap ((k:Int)+1)=((k+1:Nat):Int):=by rw[ju];omega
   have d:Hid (Calls prog 109 #[.int .i64 (k:Int),.pointer (some ⟨g,0,none⟩)] wr λe w'=>e=.returned (.bool (spB c))/\w'=wr):=by rw[<-gb];exact aPI g p k hk wr hg
   have fp:Suf p t:=f.tl
   rw[HD.out]at j
   rw[ek]
   cases hq:aIr c with
   |true=>
    have fW:Hid (s.dropWhile aIr=t.dropWhile aIr):=by unfold Hid;rw[HD.out,jaj hq]
    clear HD f
    have ha:spB c=false/\c≠47/\c≠62/\c≠61:=by simpa [aIr,and_assoc] using hq
    obtain⟨hs,l,n,m⟩:=ha
    rw[hs]at d
    have fX:((c.toNat:Int) !=47)=true:=by rw[jbb];intro e;exact l (by rw[<-jM];exact jal e)
    have fZ:((c.toNat:Int) !=62)=true:=by rw[jbb];intro e;exact n (by rw[<-jM];exact jal e)
    have fY:((c.toNat:Int) !=61)=true:=by rw[jbb];intro e;exact m (by rw[<-jM];exact jal e)
    go_wp2_with fail
    refine d.out.mono ?_
    rintro e w' ⟨rfl,b⟩
    have a:=b.symm
    subst a
    clear d
    go_wp2_with fail
    go_roundw
    case rel=>exact⟨t,by rw[i];rfl,fp,fW,trivial⟩
    case measure=>simp[intOf];omega
   |false=>
    rw[jai (by rw[hq];simp),ek]at j
    clear HD f fp i
    by_cases hs:spB c=true
    ·rw[hs]at d
     go_wp2_with fail
     refine d.out.mono ?_
     rintro e w' ⟨rfl,b⟩
     have a:=b.symm
     subst a
     clear d
     go_wp2_with fail
     exact j.out
    ·have fq:spB c=false:=by simpa using hs
     clear hs
     rw[fq]at d
     by_cases fm:c=47
     ·subst fm
      go_wp2_with fail
      refine d.out.mono ?_
      rintro e w' ⟨rfl,b⟩
      have a:=b.symm
      subst a
      clear d
      go_wp2_with fail
      exact j.out
     have l:c≠47:=fm
     have fX:((c.toNat:Int) !=47)=true:=by rw[jbb];intro e;exact l (by rw[<-jM];exact jal e)
     by_cases fo:c=62
     ·subst fo
      go_wp2_with fail
      refine d.out.mono ?_
      rintro e w' ⟨rfl,b⟩
      have a:=b.symm
      subst a
      clear d
      go_wp2_with fail
      exact j.out
     have n:c≠62:=fo
     have fZ:((c.toNat:Int) !=62)=true:=by rw[jbb];intro e;exact n (by rw[<-jM];exact jal e)
     by_cases fn:c=61
     ·subst fn
      go_wp2_with fail
      refine d.out.mono ?_
      rintro e w' ⟨rfl,b⟩
      have a:=b.symm
      subst a
      clear d
      go_wp2_with fail
      exact j.out
     have m:c≠61:=fn
     have fY:((c.toNat:Int) !=61)=true:=by rw[jbb];intro e;exact m (by rw[<-jM];exact jal e)
     exact absurd hq (by simp[aIr,fq,l,n,m])
theorem lk6(g:Nat)(p:jA)(hp:p.size<=4000)(s:jB)(hS:Suf p s)(w:World)(hg:w.cell? ⟨g,0,none⟩=some (.string p)){c0 c1 c2 c3 c4 c7 c8 c9 dp dq dr ds dt dv dw dC dJ dK dL dM dN dO dP dQ dR dS dT dU dV dW dX dY dZ ea eb ec ed ee ef eg eh ei ej em en eo ep eq er es et ev ew ex ey ez eA eB eC eD eE eF eG eH eI eJ eK eL eM eN eO eP eQ eR eS eT eU eV eW eX eY eZ e2 e3 e4 e5 e6 e7 e8 e9 fa fb fc fd fe ff fg f i j l m n o q r v x y z A B C D E F G H I J L M N O P R S T U V W X Y Z aa ab ac ad ae af ag ah ai aj ak al am an ao ap aq ar av aw ax ay az aA aB aC aD aE aF aG aH aI aJ aK aL aM aN aO dx dy dz dA dB dD dE dF dG dH dI aP aQ aR aS aT aU aV aW aX aY aZ a0 a1 a2 a3 a4 a5 a6 a7 a8 a9 bb bc bd be bf bg bh bi bj bk bl bm bn bo bp bq br bs bt bw bx bz bA bB bC bD bE bF bG bH bI bJ bK bL bM bN bO bP bQ bR bS bT bU bV bW bX bY bZ b0 b1 b2 b3 b4 b5 b6 b7 b8 b9 ca cb cc cd ce cf cg ch ci cj ck cl cm cn cp cq cr cs ct cv cw cx cy cz cA cB cC cD cE cF cG cH cI cJ cK cL cM cN cO cP cQ cR cS cT cU cV cW cX cY cZ da db dc dd de df dg dh di dj dk dl:Value}(Q:Exit->Act->World->Prop)
  (dm:∀{fi fj fk fl fm fn fo fp fq fr fs:Value},Q (.exit 10) ⟨(c0::c1::c2::c3::c4::.pointer (some ⟨g,0,none⟩)::.func (Fn.func 109) #[] #[.pointer (some ⟨g,0,none⟩)]::c7::c8::c9::dp::dq::dr::ds::dt::.int .i64 ((pos p (s.dropWhile spB):Nat):Int)::dv::dw::dC::dJ::dK::dL::dM::dN::dO::dP::dQ::dR::dS::dT::dU::dV::dW::dX::dY::dZ::ea::eb::ec::ed::ee::ef::eg::eh::ei::ej::em::en::eo::ep::eq::er::es::et::ev::ew::ex::ey::ez::eA::eB::eC::eD::eE::eF::eG::eH::eI::eJ::eK::eL::eM::eN::eO::eP::eQ::eR::eS::eT::eU::eV::eW::eX::eY::eZ::e2::e3::e4::e5::e6::e7::e8::e9::fa::fb::fc::fd::fe::ff::fg::f::i::j::l::m::n::o::q::r::v::x::y::z::A::B::C::D::E::F::G::H::I::J::L::M::N::O::P::R::S::T::U::V::W::X::Y::Z::aa::ab::ac::ad::ae::af::ag::ah::ai::aj::ak::al::am::an::ao::ap::aq::ar::av::aw::ax::ay::az::aA::aB::aC::aD::aE::aF::aG::aH::aI::aJ::aK::aL::aM::aN::aO::fi::fj::fk::fl::fm::fn::fo::fp::fq::fr::fs::aP::aQ::aR::aS::aT::aU::aV::aW::aX::aY::aZ::a0::a1::a2::a3::a4::a5::a6::a7::a8::a9::bb::bc::bd::be::bf::bg::bh::bi::bj::bk::bl::bm::bn::bo::bp::bq::br::bs::bt::bw::bx::bz::bA::bB::bC::bD::bE::bF::bG::bH::bI::bJ::bK::bL::bM::bN::bO::bP::bQ::bR::bS::bT::bU::bV::bW::bX::bY::bZ::b0::b1::b2::b3::b4::b5::b6::b7::b8::b9::ca::cb::cc::cd::ce::cf::cg::ch::ci::cj::ck::cl::cm::cn::cp::cq::cr::cs::ct::cv::cw::cx::cy::cz::cA::cB::cC::cD::cE::cF::cG::cH::cI::cJ::cK::cL::cM::cN::cO::cP::cQ::cR::cS::cT::cU::cV::cW::cX::cY::cZ::da::db::dc::dd::de::df::dg::dh::di::dj::dk::dl::[]).toArray,[]⟩ w):
  Code.wp prog (Code.loop (aKD f58 5)) Q ⟨(c0::c1::c2::c3::c4::.pointer (some ⟨g,0,none⟩)::.func (Fn.func 109) #[] #[.pointer (some ⟨g,0,none⟩)]::c7::c8::c9::dp::dq::dr::ds::dt::.int .i64 ((pos p s:Nat):Int)::dv::dw::dC::dJ::dK::dL::dM::dN::dO::dP::dQ::dR::dS::dT::dU::dV::dW::dX::dY::dZ::ea::eb::ec::ed::ee::ef::eg::eh::ei::ej::em::en::eo::ep::eq::er::es::et::ev::ew::ex::ey::ez::eA::eB::eC::eD::eE::eF::eG::eH::eI::eJ::eK::eL::eM::eN::eO::eP::eQ::eR::eS::eT::eU::eV::eW::eX::eY::eZ::e2::e3::e4::e5::e6::e7::e8::e9::fa::fb::fc::fd::fe::ff::fg::f::i::j::l::m::n::o::q::r::v::x::y::z::A::B::C::D::E::F::G::H::I::J::L::M::N::O::P::R::S::T::U::V::W::X::Y::Z::aa::ab::ac::ad::ae::af::ag::ah::ai::aj::ak::al::am::an::ao::ap::aq::ar::av::aw::ax::ay::az::aA::aB::aC::aD::aE::aF::aG::aH::aI::aJ::aK::aL::aM::aN::aO::dx::dy::dz::dA::dB::dD::dE::dF::dG::dH::dI::aP::aQ::aR::aS::aT::aU::aV::aW::aX::aY::aZ::a0::a1::a2::a3::a4::a5::a6::a7::a8::a9::bb::bc::bd::be::bf::bg::bh::bi::bj::bk::bl::bm::bn::bo::bp::bq::br::bs::bt::bw::bx::bz::bA::bB::bC::bD::bE::bF::bG::bH::bI::bJ::bK::bL::bM::bN::bO::bP::bQ::bR::bS::bT::bU::bV::bW::bX::bY::bZ::b0::b1::b2::b3::b4::b5::b6::b7::b8::b9::ca::cb::cc::cd::ce::cf::cg::ch::ci::cj::ck::cl::cm::cn::cp::cq::cr::cs::ct::cv::cw::cx::cy::cz::cA::cB::cC::cD::cE::cF::cG::cH::cI::cJ::cK::cL::cM::cN::cO::cP::cQ::cR::cS::cT::cU::cV::cW::cX::cY::cZ::da::db::dc::dd::de::df::dg::dh::di::dj::dk::dl::[]).toArray,[]⟩ w:=by
 have HX:Hid _:=@dm
 clear dm
 conv=>arg 2;arg 1;whnf
 go_loopw[15] (λiv wr=>∃sj:jB,iv=.int .i64 ((pos p sj:Nat):Int)/\Suf p sj/\Hid (s.dropWhile spB=sj.dropWhile spB)/\wr=w) (λiv _=>p.size-(intOf iv).toNat)
 case atStart=>exact⟨s,rfl,hS,rfl,rfl⟩
 case round=>
  obtain⟨sj,rfl,a,HD,rfl⟩:=hrel
  cases sj with
  |nil=>
   have hk:pos p []=p.size:=rfl
   rw[HD.out]at HX
   rw[show List.dropWhile spB []=[]from rfl,hk]at HX
   rw[hk]
   have fv:decide ((p.size:Int)<(p.size:Int))=false:=by simp
   clear hS a HD hk
   go_wp2_with fail
   exact HX.out
  |cons c t=>
   obtain⟨k,ek,hk,fw,b⟩:=aCe a
   have fv:(k:Int)<(p.size:Int):=by omega
   have fx:IntKind.i64.wrap ((k:Int)+1)=((k+1:Nat):Int):=by rw[ju];omega
   have CS:Hid (Calls prog 109 #[.int .i64 (k:Int),.pointer (some ⟨g,0,none⟩)] wr λe w'=>e=.returned (.bool (spB c))/\w'=wr):=by rw[<-fw];exact aPI g p k hk wr hg
   have fh:Suf p t:=a.tl
   rw[HD.out]at HX
   rw[ek]
   cases hq:spB c with
   |true=>
    have ft:Hid (s.dropWhile spB=t.dropWhile spB):=by unfold Hid;rw[HD.out,jaj hq]
    clear HD a
    rw[hq]at CS
    go_wp2_with fail
    refine CS.out.mono ?_
    rintro e w' ⟨rfl,dn⟩
    have d:=dn.symm
    subst d
    clear CS
    go_wp2_with fail
    go_roundw
    case rel=>exact⟨t,by rw[b];rfl,fh,ft,trivial⟩
    case measure=>simp[intOf];omega
   |false=>
    rw[jai (by rw[hq];simp),ek]at HX
    clear HD a fh b
    rw[hq]at CS
    go_wp2_with fail
    refine CS.out.mono ?_
    rintro e w' ⟨rfl,dn⟩
    have d:=dn.symm
    subst d
    clear CS
    go_wp2_with fail
    exact HX.out
end Go.Proofs.YtbbfcbodhmeanaaGreatDoor

import Derived.Test.YtbbfcbodhmeanaaGreatDoorXrewritesays29
set_option maxHeartbeats 8000000
set_option maxRecDepth 1000000
namespace Go.Proofs.YtbbfcbodhmeanaaGreatDoor
open Go.Proofs.Tryz
open Go.RowKit
def slB(sh:Bool)(c:UInt8):Bool:=c==47&&sh
theorem lk2(g:Nat)(p:jA)(hp:p.size<=4000)(s:jB)(hS:Suf p s)(w:World)(hg:w.cell? ⟨g,0,none⟩=some (.string p))(sh:Bool){c0 c1 c2 c3 c4 c6 c7 c8 dA dB dC dD dE dF dG dH dI dJ dK dL dM dN dO dP dQ dR dS dT dU dV dW dX dY dZ ea eb ec ed ee ef eg eh ei ej em en eo ep eq er es et ev ew ex ey ez eA eB eC eD eE eF eG eH eI eJ eK eL eM eN eO eP e4 e5 e6 e7 e8 e9 fa fb fc fd fe ff fg fh fi eQ eR eS eT eU eV eW eX eY f i j l m n o q r v x y z A B C D E F G H I J L M N O P R S T U V W X Y Z aa ab ac ad ae af ag ah ai aj ak al am an ao ap aq ar av aw ax ay az aA aB aC aD aE aF aG aH aI aJ aK aL aM aN aO aP aQ aR aS aT aU aV aW aX aY aZ a0 a1 a2 a3 a4 a5 a6 a7 a8 a9 bb bc bd be bf bg bh bi bj bk bl bm bn bo bp bq br bs bt bw bx bz bA bB bC bD bE bF bG bH bI bJ bK bL bM bN bO bP bQ bR bS bT bU bV bW bX bY bZ b0 b1 b2 b3 b4 b5 b6 b7 b8 b9 ca cb cc cd ce cf cg ch ci cj ck cl cm cn cp cq cr cs ct cv cw cx cy cz cA cB cC cD cE cF cG cH cI cJ cK cL cM cN cO cP cQ cR cS cT cU cV cW cX cY cZ c9 da db dc dd de df dg dh di dj dk dl dm dn dp dq dr ds dt dv dw dx:Value}(Q:Exit->Act->World->Prop)
  (dz:∀{fk fl fm fn fo fp fq fr fs ft fv fw fx fy fz:Value},Q (.exit 2) ⟨(c0::c1::c2::c3::c4::.pointer (some ⟨g,0,none⟩)::c6::c7::c8::.int .i64 ((pos p (s.dropWhile (slB sh)):Nat):Int)::.bool sh::dA::dB::dC::dD::dE::dF::dG::dH::dI::dJ::dK::dL::dM::dN::dO::dP::dQ::dR::dS::dT::dU::dV::dW::dX::dY::dZ::ea::eb::ec::ed::ee::ef::eg::eh::ei::ej::em::en::eo::ep::eq::er::es::et::ev::ew::ex::ey::ez::eA::eB::eC::eD::eE::eF::eG::eH::eI::eJ::eK::eL::eM::eN::eO::eP::fk::fl::fm::fn::fo::fp::fq::fr::fs::ft::fv::fw::fx::fy::fz::eQ::eR::eS::eT::eU::eV::eW::eX::eY::f::i::j::l::m::n::o::q::r::v::x::y::z::A::B::C::D::E::F::G::H::I::J::L::M::N::O::P::R::S::T::U::V::W::X::Y::Z::aa::ab::ac::ad::ae::af::ag::ah::ai::aj::ak::al::am::an::ao::ap::aq::ar::av::aw::ax::ay::az::aA::aB::aC::aD::aE::aF::aG::aH::aI::aJ::aK::aL::aM::aN::aO::aP::aQ::aR::aS::aT::aU::aV::aW::aX::aY::aZ::a0::a1::a2::a3::a4::a5::a6::a7::a8::a9::bb::bc::bd::be::bf::bg::bh::bi::bj::bk::bl::bm::bn::bo::bp::bq::br::bs::bt::bw::bx::bz::bA::bB::bC::bD::bE::bF::bG::bH::bI::bJ::bK::bL::bM::bN::bO::bP::bQ::bR::bS::bT::bU::bV::bW::bX::bY::bZ::b0::b1::b2::b3::b4::b5::b6::b7::b8::b9::ca::cb::cc::cd::ce::cf::cg::ch::ci::cj::ck::cl::cm::cn::cp::cq::cr::cs::ct::cv::cw::cx::cy::cz::cA::cB::cC::cD::cE::cF::cG::cH::cI::cJ::cK::cL::cM::cN::cO::cP::cQ::cR::cS::cT::cU::cV::cW::cX::cY::cZ::c9::da::db::dc::dd::de::df::dg::dh::di::dj::dk::dl::dm::dn::dp::dq::dr::ds::dt::dv::dw::dx::[]).toArray,[]⟩ w):
  Code.wp prog (Code.loop (aKD f58 1)) Q ⟨(c0::c1::c2::c3::c4::.pointer (some ⟨g,0,none⟩)::c6::c7::c8::.int .i64 ((pos p s:Nat):Int)::.bool sh::dA::dB::dC::dD::dE::dF::dG::dH::dI::dJ::dK::dL::dM::dN::dO::dP::dQ::dR::dS::dT::dU::dV::dW::dX::dY::dZ::ea::eb::ec::ed::ee::ef::eg::eh::ei::ej::em::en::eo::ep::eq::er::es::et::ev::ew::ex::ey::ez::eA::eB::eC::eD::eE::eF::eG::eH::eI::eJ::eK::eL::eM::eN::eO::eP::e4::e5::e6::e7::e8::e9::fa::fb::fc::fd::fe::ff::fg::fh::fi::eQ::eR::eS::eT::eU::eV::eW::eX::eY::f::i::j::l::m::n::o::q::r::v::x::y::z::A::B::C::D::E::F::G::H::I::J::L::M::N::O::P::R::S::T::U::V::W::X::Y::Z::aa::ab::ac::ad::ae::af::ag::ah::ai::aj::ak::al::am::an::ao::ap::aq::ar::av::aw::ax::ay::az::aA::aB::aC::aD::aE::aF::aG::aH::aI::aJ::aK::aL::aM::aN::aO::aP::aQ::aR::aS::aT::aU::aV::aW::aX::aY::aZ::a0::a1::a2::a3::a4::a5::a6::a7::a8::a9::bb::bc::bd::be::bf::bg::bh::bi::bj::bk::bl::bm::bn::bo::bp::bq::br::bs::bt::bw::bx::bz::bA::bB::bC::bD::bE::bF::bG::bH::bI::bJ::bK::bL::bM::bN::bO::bP::bQ::bR::bS::bT::bU::bV::bW::bX::bY::bZ::b0::b1::b2::b3::b4::b5::b6::b7::b8::b9::ca::cb::cc::cd::ce::cf::cg::ch::ci::cj::ck::cl::cm::cn::cp::cq::cr::cs::ct::cv::cw::cx::cy::cz::cA::cB::cC::cD::cE::cF::cG::cH::cI::cJ::cK::cL::cM::cN::cO::cP::cQ::cR::cS::cT::cU::cV::cW::cX::cY::cZ::c9::da::db::dc::dd::de::df::dg::dh::di::dj::dk::dl::dm::dn::dp::dq::dr::ds::dt::dv::dw::dx::[]).toArray,[]⟩ w:=by
 have d:Hid _:=@dz
 clear dz
 conv=>arg 2;arg 1;whnf
 go_loopw[9] (λiv wr=>∃sj:jB,iv=.int .i64 ((pos p sj:Nat):Int)/\Suf p sj/\Hid (s.dropWhile (slB sh)=sj.dropWhile (slB sh))/\wr=w) (λiv _=>p.size-(intOf iv).toNat)
 case atStart=>exact⟨s,rfl,hS,rfl,rfl⟩
 case round=>
  obtain⟨sj,rfl,b,HD,rfl⟩:=hrel
  cases sj with
  |nil=>
   have hk:pos p []=p.size:=rfl
   rw[HD.out]at d
   rw[show List.dropWhile (slB sh) []=[]from rfl,hk]at d
   rw[hk]
   have fj:decide ((p.size:Int)<(p.size:Int))=false:=by simp
   clear hS b HD hk
   go_wp2_with fail
   exact d.out
  |cons c t=>
   obtain⟨k,ek,hk,fB,a⟩:=aCe b
   have fj:(k:Int)<(p.size:Int):=by omega
   have fC:IntKind.i64.wrap ((k:Int)+1)=((k+1:Nat):Int):=by rw[ju];omega
   have dy:Suf p t:=b.tl
   rw[HD.out]at d
   rw[ek]
   by_cases eZ:c=47
   ·subst eZ
    cases sh with
    |true=>
     have e3:Hid (s.dropWhile (slB true)=t.dropWhile (slB true)):=by unfold Hid;rw[HD.out,jaj rfl]
     clear HD b
     go_wp2_with fail
     go_roundw
     case rel=>exact⟨t,by rw[a];rfl,dy,e3,trivial⟩
     case measure=>simp[intOf];omega
    |false=>
     rw[jai (by decide),ek]at d
     clear HD b dy a
     go_wp2_with fail
     exact d.out
   ·have e2:c≠47:=eZ
    have fA:((c.toNat:Int)==47)=false:=by rw[jg];intro e;exact e2 (by rw[<-jM];exact jal e)
    rw[jai (by simp[slB,e2]),ek]at d
    clear HD b dy a
    go_wp2_with fail
    exact d.out
structure aAy(w:World)(p:jA)(b:jB)(v:Value)(wr:World)(sj:jB)(acc:List LK):Prop where
 la:acc.length<=60
 suf:Suf p sj
 bel:jb w wr
 own:wr.ownsRow w.heap.size 40 3 v acc.length (lv p.size acc)
 eq:aGz aQJ b=aGw aQJ sj.length acc sj
theorem aAy.piece{w:World}{p:jA}{b:jB}{v:Value}{wr:World}{c:UInt8}{t:jB}{a:List LK}(h:aAy w p b v wr (c::t) a){i:List LK}{d:jB}(f:aMT aQJ (c::t)=(i,d)):
  aGz aQJ b=(if 60<(a++i).length then none else aGw aQJ d.length (a++i) d)/\d.length<(c::t).length/\Suf p d/\i.length<=4000+p.size:=by
 have g:=aM3 aQJ c t
 have k:=(aNb aQJ (c::t)).trans h.suf
 have j:=aM0 aQJ (c::t)
 have l:=h.suf.len
 refine⟨?_,by rw[f]at g;exact g,by rw[f]at k;exact k,by rw[f]at j;simp only at j;omega⟩
 rw[h.eq,jm,aGw,jh (by simp),f]
 simp only
 rw[f]at g
 simp only[jm]at g
 rw[aGx aQJ t.length d.length _ _ (by omega) (jf _)]
theorem aAy.pass{w:World}{p:jA}{b:jB}{v:Value}{wr w':World}{c:UInt8}{t:jB}{a:List LK}(h:aAy w p b v wr (c::t) a){d:jB}(k:aMT aQJ (c::t)=([],d))(g:jb wr w'):aAy w p b v w' d a:=by
 obtain⟨f,_,i,_⟩:=h.piece k
 have j:=h.la
 rw[j6,jh (by omega)]at f
 exact⟨h.la,i,h.bel.trans (g.mono h.bel.size),aMm h.own g,f⟩
theorem aAy.fin{w:World}{p:jA}{b:jB}{v:Value}{wr:World}{a:List LK}(h:aAy w p b v wr [] a):aGz aQJ b=some a:=by rw[h.eq];rfl
theorem aJs{c:UInt8}(t:jB)(h:c≠60):aMT aQJ (c::t)=([],t):=by
 have a:((60:UInt8)==c)=false:=by rw[jg];exact λe=>h e.symm
 unfold aMT aRw aEm
 rw[jh (by simp[List.isPrefixOf,a]),jh (by simp[List.isPrefixOf,a]),jh (by simp[List.isPrefixOf,a]),jh (by simp[List.isPrefixOf,a])]
 rfl
theorem aJq{s:jB}(h:aEm.isPrefixOf s=true):aMT aQJ s=([],aCT aEl (s.drop 4)):=by
 unfold aMT
 rw[jo h]
theorem aJr{s:jB}(h:aEm.isPrefixOf s=false)(a:(([60,33]:jB).isPrefixOf s||([60,63]:jB).isPrefixOf s)=true):aMT aQJ s=([],aCT [62] s):=by
 unfold aMT
 rw[jh (by rw[h];simp),jo (by simpa using a)]
theorem aJt{t:jB}(h:aEm.isPrefixOf (60::t)=false)(a:(([60,33]:jB).isPrefixOf (60::t)||([60,63]:jB).isPrefixOf (60::t))=false)(b:(!aRw [60,47] (60::t)&&!aH9 ((60::t).drop 1))=true):aMT aQJ (60::t)=([],t):=by
 rw[j7,jde,jde]at b
 unfold aMT
 rw[jh (by rw[h];simp),jh (by rw[jep]at a;rw[a.1,a.2];simp),jh (by unfold aRw;show¬(true&&aH9 ((60::t).drop 1))=true;rw[b.2];simp),jh (by rw[b.1];simp)]
 rfl
def aQ9(sh:Bool)(t:jB):jB:=(t.dropWhile (slB sh)).dropWhile aIv
theorem aQB(t:jB):t.dropWhile (slB false)=t:=by
 cases t with
 |nil=>rfl
 |cons c t=>rw[jai (by simp[slB])]
theorem aJ4{c:UInt8}(h:aJ3 c=true):c≠47:=by
 rintro rfl
 exact absurd h (by decide)
theorem aJv{t:jB}{a:Bool}(h:aEm.isPrefixOf (60::t)=false)(i:(([60,33]:jB).isPrefixOf (60::t)||([60,63]:jB).isPrefixOf (60::t))=false)(f:aRw [60,47] (60::t)=a)(k:(!a&&!aH9 ((60::t).drop 1))=false):aMT aQJ (60::t)=(if a=true then []else(aRI aQJ [] (aQ9 a t)).1.getD [],(aRI aQJ [] (aQ9 a t)).2):=by
 unfold aMT
 rw[jh (by rw[h];simp),jh (by rw[jep]at i;rw[i.1,i.2];simp)]
 cases a with
 |true=>
  have b:=f
  unfold aRw at b
  rw[j7]at b
  obtain⟨j,l⟩:=b
  cases t with
  |nil=>simp[List.isPrefixOf]at j
  |cons c u=>
   have q:c=47:=by
    have o:(true&&((47:UInt8)==c&&true))=true:=j
    have g:((47:UInt8)==c)=true:=by simpa using o
    exact(jbp.1 g).symm
   subst q
   have m:aH9 u=true:=l
   rw[jh (show¬aRw [60] (60::47::u)=true from(by decide:¬(true&&aJ3 47)=true)),jo f,jo rfl]
   have hst:aQ9 true (47::u)=u.dropWhile aIv:=by
    unfold aQ9
    rw[jaj rfl]
    cases u with
    |nil=>rfl
    |cons d u=>
     have n:aJ3 d=true:=m
     rw[jai (p:=slB true) (by simp[slB];exact aJ4 n)]
   rw[hst]
   rfl
 |false=>
  have b:aH9 t=true:=by simpa using k
  rw[jo (by unfold aRw;show(true&&aH9 ((60::t).drop 1))=true;exact(by simpa using b)),jh (by simp)]
  have hst:aQ9 false t=t.dropWhile aIv:=by unfold aQ9;rw[aQB]
  rw[hst]
  rfl
theorem lk3(g:Nat)(p:jA)(hp:p.size<=4000)(s:jB)(hS:Suf p s)(w:World)(hg:w.cell? ⟨g,0,none⟩=some (.string p)){c0 c1 c2 c3 c4 c7 c8 dn dA dG dH dI dJ dK dL dM dN dO dP dQ dR dS dT dU dV dW dX dY dZ ea eb ec ed ee ef eg eh ei ej em en eo ep eq er es et ev ew ex ey ez eA eB eC eD eE eF eG eH eI eJ eK eL eM eN eO eP eQ eR eS eT eU eV eW eX eY eZ e2 e3 e4 e5 e6 e7 e8 e9 fa fb fx fy fz fA fB fC fD fE fF dp dq dr ds dt dv dw dx dy dz dB dC dD dE dF n o q r v x y z A B C D E F G H I J L M N O P R S T U V W X Y Z aa ab ac ad ae af ag ah ai aj ak al am an ao ap aq ar av aw ax ay az aA aB aC aD aE aF aG aH aI aJ aK aL aM aN aO aP aQ aR aS aT aU aV aW aX aY aZ a0 a1 a2 a3 a4 a5 a6 a7 a8 a9 bb bc bd be bf bg bh bi bj bk bl bm bn bo bp bq br bs bt bw bx bz bA bB bC bD bE bF bG bH bI bJ bK bL bM bN bO bP bQ bR bS bT bU bV bW bX bY bZ b0 b1 b2 b3 b4 b5 b6 b7 b8 b9 ca cb cc cd ce cf cg ch ci cj ck cl cm cn cp cq cr cs ct cv cw cx cy cz cA cB cC cD cE cF cG cH cI cJ cK cL cM cN cO cP cQ cR cS cT cU cV cW cX cY cZ c9 da db dc dd de df dg dh di dj dk dl:Value}(Q:Exit->Act->World->Prop)
  (dm:∀{fK fL fM fN fO fP fQ fR fS fg fh fi fj fk fl fm fn fo fp fq fr fs ft fv:Value},Q (.exit 4) ⟨(c0::c1::c2::c3::c4::.pointer (some ⟨g,0,none⟩)::.func (Fn.func 109) #[] #[.pointer (some ⟨g,0,none⟩)]::c7::c8::.int .i64 ((pos p (s.dropWhile aIv):Nat):Int)::dn::dA::dG::dH::dI::dJ::dK::dL::dM::dN::dO::dP::dQ::dR::dS::dT::dU::dV::dW::dX::dY::dZ::ea::eb::ec::ed::ee::ef::eg::eh::ei::ej::em::en::eo::ep::eq::er::es::et::ev::ew::ex::ey::ez::eA::eB::eC::eD::eE::eF::eG::eH::eI::eJ::eK::eL::eM::eN::eO::eP::eQ::eR::eS::eT::eU::eV::eW::eX::eY::eZ::e2::e3::e4::e5::e6::e7::e8::e9::fa::fb::fK::fL::fM::fN::fO::fP::fQ::fR::fS::fg::fh::fi::fj::fk::fl::fm::fn::fo::fp::fq::fr::fs::ft::fv::n::o::q::r::v::x::y::z::A::B::C::D::E::F::G::H::I::J::L::M::N::O::P::R::S::T::U::V::W::X::Y::Z::aa::ab::ac::ad::ae::af::ag::ah::ai::aj::ak::al::am::an::ao::ap::aq::ar::av::aw::ax::ay::az::aA::aB::aC::aD::aE::aF::aG::aH::aI::aJ::aK::aL::aM::aN::aO::aP::aQ::aR::aS::aT::aU::aV::aW::aX::aY::aZ::a0::a1::a2::a3::a4::a5::a6::a7::a8::a9::bb::bc::bd::be::bf::bg::bh::bi::bj::bk::bl::bm::bn::bo::bp::bq::br::bs::bt::bw::bx::bz::bA::bB::bC::bD::bE::bF::bG::bH::bI::bJ::bK::bL::bM::bN::bO::bP::bQ::bR::bS::bT::bU::bV::bW::bX::bY::bZ::b0::b1::b2::b3::b4::b5::b6::b7::b8::b9::ca::cb::cc::cd::ce::cf::cg::ch::ci::cj::ck::cl::cm::cn::cp::cq::cr::cs::ct::cv::cw::cx::cy::cz::cA::cB::cC::cD::cE::cF::cG::cH::cI::cJ::cK::cL::cM::cN::cO::cP::cQ::cR::cS::cT::cU::cV::cW::cX::cY::cZ::c9::da::db::dc::dd::de::df::dg::dh::di::dj::dk::dl::[]).toArray,[]⟩ w):
  Code.wp prog (Code.loop (aKD f58 2)) Q ⟨(c0::c1::c2::c3::c4::.pointer (some ⟨g,0,none⟩)::.func (Fn.func 109) #[] #[.pointer (some ⟨g,0,none⟩)]::c7::c8::.int .i64 ((pos p s:Nat):Int)::dn::dA::dG::dH::dI::dJ::dK::dL::dM::dN::dO::dP::dQ::dR::dS::dT::dU::dV::dW::dX::dY::dZ::ea::eb::ec::ed::ee::ef::eg::eh::ei::ej::em::en::eo::ep::eq::er::es::et::ev::ew::ex::ey::ez::eA::eB::eC::eD::eE::eF::eG::eH::eI::eJ::eK::eL::eM::eN::eO::eP::eQ::eR::eS::eT::eU::eV::eW::eX::eY::eZ::e2::e3::e4::e5::e6::e7::e8::e9::fa::fb::fx::fy::fz::fA::fB::fC::fD::fE::fF::dp::dq::dr::ds::dt::dv::dw::dx::dy::dz::dB::dC::dD::dE::dF::n::o::q::r::v::x::y::z::A::B::C::D::E::F::G::H::I::J::L::M::N::O::P::R::S::T::U::V::W::X::Y::Z::aa::ab::ac::ad::ae::af::ag::ah::ai::aj::ak::al::am::an::ao::ap::aq::ar::av::aw::ax::ay::az::aA::aB::aC::aD::aE::aF::aG::aH::aI::aJ::aK::aL::aM::aN::aO::aP::aQ::aR::aS::aT::aU::aV::aW::aX::aY::aZ::a0::a1::a2::a3::a4::a5::a6::a7::a8::a9::bb::bc::bd::be::bf::bg::bh::bi::bj::bk::bl::bm::bn::bo::bp::bq::br::bs::bt::bw::bx::bz::bA::bB::bC::bD::bE::bF::bG::bH::bI::bJ::bK::bL::bM::bN::bO::bP::bQ::bR::bS::bT::bU::bV::bW::bX::bY::bZ::b0::b1::b2::b3::b4::b5::b6::b7::b8::b9::ca::cb::cc::cd::ce::cf::cg::ch::ci::cj::ck::cl::cm::cn::cp::cq::cr::cs::ct::cv::cw::cx::cy::cz::cA::cB::cC::cD::cE::cF::cG::cH::cI::cJ::cK::cL::cM::cN::cO::cP::cQ::cR::cS::cT::cU::cV::cW::cX::cY::cZ::c9::da::db::dc::dd::de::df::dg::dh::di::dj::dk::dl::[]).toArray,[]⟩ w:=by
 have m:Hid _:=@dm
 clear dm
 conv=>arg 2;arg 1;whnf
 go_loopw[9] (λiv wr=>∃sj:jB,iv=.int .i64 ((pos p sj:Nat):Int)/\Suf p sj/\Hid (s.dropWhile aIv=sj.dropWhile aIv)/\wr=w) (λiv _=>p.size-(intOf iv).toNat)
 case atStart=>exact⟨s,rfl,hS,rfl,rfl⟩
 case round=>
  obtain⟨sj,rfl,f,HD,rfl⟩:=hrel
  cases sj with
  |nil=>
   have hk:pos p []=p.size:=rfl
   rw[HD.out]at m
   rw[show List.dropWhile aIv []=[]from rfl,hk]at m
   rw[hk]
   have fI:decide ((p.size:Int)<(p.size:Int))=false:=by simp
   clear hS f HD hk
   go_wp2_with fail
   exact m.out
  |cons c t=>
   obtain⟨k,ek,hk,fJ,i⟩:=aCe f
   have fI:(k:Int)<(p.size:Int):=by omega
   have fT:IntKind.i64.wrap ((k:Int)+1)=((k+1:Nat):Int):=by rw[ju];omega
   have d:Hid (Calls prog 109 #[.int .i64 (k:Int),.pointer (some ⟨g,0,none⟩)] wr λe w'=>e=.returned (.bool (spB c))/\w'=wr):=by rw[<-fJ];exact aPI g p k hk wr hg
   have fe:Suf p t:=f.tl
   rw[HD.out]at m
   rw[ek]
   cases hq:aIv c with
   |true=>
    have fw:Hid (s.dropWhile aIv=t.dropWhile aIv):=by unfold Hid;rw[HD.out,jaj hq]
    clear HD f
    have ha:spB c=false/\c≠47/\c≠62:=by simpa [aIv,and_assoc] using hq
    obtain⟨hs,j,l⟩:=ha
    rw[hs]at d
    have fG:((c.toNat:Int) !=47)=true:=by rw[jbb];intro e;exact j (by rw[<-jM];exact jal e)
    have fH:((c.toNat:Int) !=62)=true:=by rw[jbb];intro e;exact l (by rw[<-jM];exact jal e)
    go_wp2_with fail
    refine d.out.mono ?_
    rintro e w' ⟨rfl,b⟩
    have a:=b.symm
    subst a
    clear d
    go_wp2_with fail
    go_roundw
    case rel=>exact⟨t,by rw[i];rfl,fe,fw,trivial⟩
    case measure=>simp[intOf];omega
   |false=>
    rw[jai (by rw[hq];simp),ek]at m
    clear HD f fe i
    by_cases hs:spB c=true
    ·rw[hs]at d
     go_wp2_with fail
     refine d.out.mono ?_
     rintro e w' ⟨rfl,b⟩
     have a:=b.symm
     subst a
     clear d
     go_wp2_with fail
     exact m.out
    ·have ff:spB c=false:=by simpa using hs
     clear hs
     rw[ff]at d
     by_cases fc:c=47
     ·subst fc
      go_wp2_with fail
      refine d.out.mono ?_
      rintro e w' ⟨rfl,b⟩
      have a:=b.symm
      subst a
      clear d
      go_wp2_with fail
      exact m.out
     have j:c≠47:=fc
     have fG:((c.toNat:Int) !=47)=true:=by rw[jbb];intro e;exact j (by rw[<-jM];exact jal e)
     by_cases fd:c=62
     ·subst fd
      go_wp2_with fail
      refine d.out.mono ?_
      rintro e w' ⟨rfl,b⟩
      have a:=b.symm
      subst a
      clear d
      go_wp2_with fail
      exact m.out
     have l:c≠62:=fd
     have fH:((c.toNat:Int) !=62)=true:=by rw[jbb];intro e;exact l (by rw[<-jM];exact jal e)
     exact absurd hq (by simp[aIv,ff,j,l])
theorem lk7(g:Nat)(p:jA)(hp:p.size<=4000)(s:jB)(hS:Suf p s)(w:World)(hg:w.cell? ⟨g,0,none⟩=some (.string p)){c0 c1 c2 c3 c4 c7 c8 c9 dp dq dr ds dt dv dw dx dy dA dL dM dN dO dP dQ dR dS dT dU dV dW dX dY dZ ea eb ec ed ee ef eg eh ei ej em en eo ep eq er es et ev ew ex ey ez eA eB eC eD eE eF eG eH eI eJ eK eL eM eN eO eP eQ eR eS eT eU eV eW eX eY eZ e2 e3 e4 e5 e6 e7 e8 e9 fa fb fc fd fe ff fg f i j l m n o q r v x y z A B C D E F G H I J L M N O P R S T U V W X Y Z aa ab ac ad ae af ag ah ai aj ak al am an ao ap aq ar av aw ax ay az aA aB aC aD aE aF aG aH aI aJ aK aL aM aN aO aP aQ aR aS aT aU aV aW aX aY aZ a0 a1 a2 a3 a4 a5 a6 a7 a8 a9 bb bc bd dz dB dC dD dE dF dG dH dI dJ dK be bf bg bh bi bj bk bl bm bn bo bp bq br bs bt bw bx bz bA bB bC bD bE bF bG bH bI bJ bK bL bM bN bO bP bQ bR bS bT bU bV bW bX bY bZ b0 b1 b2 b3 b4 b5 b6 b7 b8 b9 ca cb cc cd ce cf cg ch ci cj ck cl cm cn cp cq cr cs ct cv cw cx cy cz cA cB cC cD cE cF cG cH cI cJ cK cL cM cN cO cP cQ cR cS cT cU cV cW cX cY cZ da db dc dd de df dg dh di dj dk dl:Value}(Q:Exit->Act->World->Prop)
  (dm:∀{fi fj fk fl fm fn fo fp fq fr fs:Value},Q (.exit 12) ⟨(c0::c1::c2::c3::c4::.pointer (some ⟨g,0,none⟩)::.func (Fn.func 109) #[] #[.pointer (some ⟨g,0,none⟩)]::c7::c8::c9::dp::dq::dr::ds::dt::.int .i64 ((pos p (s.dropWhile spB):Nat):Int)::dv::dw::dx::dy::dA::dL::dM::dN::dO::dP::dQ::dR::dS::dT::dU::dV::dW::dX::dY::dZ::ea::eb::ec::ed::ee::ef::eg::eh::ei::ej::em::en::eo::ep::eq::er::es::et::ev::ew::ex::ey::ez::eA::eB::eC::eD::eE::eF::eG::eH::eI::eJ::eK::eL::eM::eN::eO::eP::eQ::eR::eS::eT::eU::eV::eW::eX::eY::eZ::e2::e3::e4::e5::e6::e7::e8::e9::fa::fb::fc::fd::fe::ff::fg::f::i::j::l::m::n::o::q::r::v::x::y::z::A::B::C::D::E::F::G::H::I::J::L::M::N::O::P::R::S::T::U::V::W::X::Y::Z::aa::ab::ac::ad::ae::af::ag::ah::ai::aj::ak::al::am::an::ao::ap::aq::ar::av::aw::ax::ay::az::aA::aB::aC::aD::aE::aF::aG::aH::aI::aJ::aK::aL::aM::aN::aO::aP::aQ::aR::aS::aT::aU::aV::aW::aX::aY::aZ::a0::a1::a2::a3::a4::a5::a6::a7::a8::a9::bb::bc::bd::fi::fj::fk::fl::fm::fn::fo::fp::fq::fr::fs::be::bf::bg::bh::bi::bj::bk::bl::bm::bn::bo::bp::bq::br::bs::bt::bw::bx::bz::bA::bB::bC::bD::bE::bF::bG::bH::bI::bJ::bK::bL::bM::bN::bO::bP::bQ::bR::bS::bT::bU::bV::bW::bX::bY::bZ::b0::b1::b2::b3::b4::b5::b6::b7::b8::b9::ca::cb::cc::cd::ce::cf::cg::ch::ci::cj::ck::cl::cm::cn::cp::cq::cr::cs::ct::cv::cw::cx::cy::cz::cA::cB::cC::cD::cE::cF::cG::cH::cI::cJ::cK::cL::cM::cN::cO::cP::cQ::cR::cS::cT::cU::cV::cW::cX::cY::cZ::da::db::dc::dd::de::df::dg::dh::di::dj::dk::dl::[]).toArray,[]⟩ w):
  Code.wp prog (Code.loop (aKD f58 6)) Q ⟨(c0::c1::c2::c3::c4::.pointer (some ⟨g,0,none⟩)::.func (Fn.func 109) #[] #[.pointer (some ⟨g,0,none⟩)]::c7::c8::c9::dp::dq::dr::ds::dt::.int .i64 ((pos p s:Nat):Int)::dv::dw::dx::dy::dA::dL::dM::dN::dO::dP::dQ::dR::dS::dT::dU::dV::dW::dX::dY::dZ::ea::eb::ec::ed::ee::ef::eg::eh::ei::ej::em::en::eo::ep::eq::er::es::et::ev::ew::ex::ey::ez::eA::eB::eC::eD::eE::eF::eG::eH::eI::eJ::eK::eL::eM::eN::eO::eP::eQ::eR::eS::eT::eU::eV::eW::eX::eY::eZ::e2::e3::e4::e5::e6::e7::e8::e9::fa::fb::fc::fd::fe::ff::fg::f::i::j::l::m::n::o::q::r::v::x::y::z::A::B::C::D::E::F::G::H::I::J::L::M::N::O::P::R::S::T::U::V::W::X::Y::Z::aa::ab::ac::ad::ae::af::ag::ah::ai::aj::ak::al::am::an::ao::ap::aq::ar::av::aw::ax::ay::az::aA::aB::aC::aD::aE::aF::aG::aH::aI::aJ::aK::aL::aM::aN::aO::aP::aQ::aR::aS::aT::aU::aV::aW::aX::aY::aZ::a0::a1::a2::a3::a4::a5::a6::a7::a8::a9::bb::bc::bd::dz::dB::dC::dD::dE::dF::dG::dH::dI::dJ::dK::be::bf::bg::bh::bi::bj::bk::bl::bm::bn::bo::bp::bq::br::bs::bt::bw::bx::bz::bA::bB::bC::bD::bE::bF::bG::bH::bI::bJ::bK::bL::bM::bN::bO::bP::bQ::bR::bS::bT::bU::bV::bW::bX::bY::bZ::b0::b1::b2::b3::b4::b5::b6::b7::b8::b9::ca::cb::cc::cd::ce::cf::cg::ch::ci::cj::ck::cl::cm::cn::cp::cq::cr::cs::ct::cv::cw::cx::cy::cz::cA::cB::cC::cD::cE::cF::cG::cH::cI::cJ::cK::cL::cM::cN::cO::cP::cQ::cR::cS::cT::cU::cV::cW::cX::cY::cZ::da::db::dc::dd::de::df::dg::dh::di::dj::dk::dl::[]).toArray,[]⟩ w:=by
 have HX:Hid _:=@dm
 clear dm
 conv=>arg 2;arg 1;whnf
 go_loopw[15] (λiv wr=>∃sj:jB,iv=.int .i64 ((pos p sj:Nat):Int)/\Suf p sj/\Hid (s.dropWhile spB=sj.dropWhile spB)/\wr=w) (λiv _=>p.size-(intOf iv).toNat)
 case atStart=>exact⟨s,rfl,hS,rfl,rfl⟩
 case round=>
  obtain⟨sj,rfl,a,HD,rfl⟩:=hrel
  cases sj with
  |nil=>
   have hk:pos p []=p.size:=rfl
   rw[HD.out]at HX
   rw[show List.dropWhile spB []=[]from rfl,hk]at HX
   rw[hk]
   have fv:decide ((p.size:Int)<(p.size:Int))=false:=by simp
   clear hS a HD hk
   go_wp2_with fail
   exact HX.out
  |cons c t=>
   obtain⟨k,ek,hk,fw,b⟩:=aCe a
   have fv:(k:Int)<(p.size:Int):=by omega
   have fx:IntKind.i64.wrap ((k:Int)+1)=((k+1:Nat):Int):=by rw[ju];omega
   have CS:Hid (Calls prog 109 #[.int .i64 (k:Int),.pointer (some ⟨g,0,none⟩)] wr λe w'=>e=.returned (.bool (spB c))/\w'=wr):=by rw[<-fw];exact aPI g p k hk wr hg
   have fh:Suf p t:=a.tl
   rw[HD.out]at HX
   rw[ek]
   cases hq:spB c with
   |true=>
    have ft:Hid (s.dropWhile spB=t.dropWhile spB):=by unfold Hid;rw[HD.out,jaj hq]
    clear HD a
    rw[hq]at CS
    go_wp2_with fail
    refine CS.out.mono ?_
    rintro e w' ⟨rfl,dn⟩
    have d:=dn.symm
    subst d
    clear CS
    go_wp2_with fail
    go_roundw
    case rel=>exact⟨t,by rw[b];rfl,fh,ft,trivial⟩
    case measure=>simp[intOf];omega
   |false=>
    rw[jai (by rw[hq];simp),ek]at HX
    clear HD a fh b
    rw[hq]at CS
    go_wp2_with fail
    refine CS.out.mono ?_
    rintro e w' ⟨rfl,dn⟩
    have d:=dn.symm
    subst d
    clear CS
    go_wp2_with fail
    exact HX.out
theorem lk8(g:Nat)(p:jA)(hp:p.size<=4000)(s:jB)(hS:Suf p s)(w:World)(hg:w.cell? ⟨g,0,none⟩=some (.string p)){c0 c1 c2 c3 c4 c7 c8 di dj dk dl dm dn dp dq dr ds dt dv dw dx dy dz dC dN dU dV dW dX dY dZ ea eb ec ed ee ef eg eh ei ej em en eo ep eq er es et ev ew ex ey ez eA eB eC eD eE eF eG eH eI eJ eK eL eM eN eO eP eQ eR eS eT eU eV eW eX eY eZ e2 e3 e4 e5 e6 e7 e8 e9 fa fb fc fd fe ff fg fh fi l m n o q r v x y z A B C D E F G H I J L M N O P R S T U V W X Y Z aa ab ac ad ae af ag ah ai aj ak al am an ao ap aq ar av aw ax ay az aA aB aC aD aE aF aG aH aI aJ aK aL aM aN aO aP aQ aR aS aT aU aV aW aX aY aZ a0 a1 a2 a3 a4 a5 a6 a7 a8 a9 bb bc bd be bf bg bh bi bj bk bl bm bn bo bp bq br bs bt bw bx bz bA bB bC bD bE bF bG bH bI bJ bK bL bM bN bO bP bQ bR bS bT bU bV bW bX bY bZ b0 b1 b2 b3 b4 b5 b6 b7 b8 b9 ca cb cc cd ce cf cg dA dB dD dE dF dG dH dI dJ dK dL dM dO dP dQ dR dS dT ch ci cj ck cl cm cn cp cq cr cs ct cv cw cx cy cz cA cB cC cD cE cF cG cH cI cJ cK cL cM cN cO cP cQ cR cS cT cU cV cW cX cY cZ c9 da db dc dd de df dg:Value}(Q:Exit->Act->World->Prop)
  (dh:∀{fm fn fo fp fq fr fs ft fv fw fx fy fz fA fB fC fD fE:Value},Q (.exit 14) ⟨(c0::c1::c2::c3::c4::.pointer (some ⟨g,0,none⟩)::.func (Fn.func 109) #[] #[.pointer (some ⟨g,0,none⟩)]::c7::c8::.int .i64 ((pos p (s.dropWhile aIs):Nat):Int)::di::dj::dk::dl::dm::dn::dp::dq::dr::ds::dt::dv::dw::dx::dy::dz::dC::dN::dU::dV::dW::dX::dY::dZ::ea::eb::ec::ed::ee::ef::eg::eh::ei::ej::em::en::eo::ep::eq::er::es::et::ev::ew::ex::ey::ez::eA::eB::eC::eD::eE::eF::eG::eH::eI::eJ::eK::eL::eM::eN::eO::eP::eQ::eR::eS::eT::eU::eV::eW::eX::eY::eZ::e2::e3::e4::e5::e6::e7::e8::e9::fa::fb::fc::fd::fe::ff::fg::fh::fi::l::m::n::o::q::r::v::x::y::z::A::B::C::D::E::F::G::H::I::J::L::M::N::O::P::R::S::T::U::V::W::X::Y::Z::aa::ab::ac::ad::ae::af::ag::ah::ai::aj::ak::al::am::an::ao::ap::aq::ar::av::aw::ax::ay::az::aA::aB::aC::aD::aE::aF::aG::aH::aI::aJ::aK::aL::aM::aN::aO::aP::aQ::aR::aS::aT::aU::aV::aW::aX::aY::aZ::a0::a1::a2::a3::a4::a5::a6::a7::a8::a9::bb::bc::bd::be::bf::bg::bh::bi::bj::bk::bl::bm::bn::bo::bp::bq::br::bs::bt::bw::bx::bz::bA::bB::bC::bD::bE::bF::bG::bH::bI::bJ::bK::bL::bM::bN::bO::bP::bQ::bR::bS::bT::bU::bV::bW::bX::bY::bZ::b0::b1::b2::b3::b4::b5::b6::b7::b8::b9::ca::cb::cc::cd::ce::cf::cg::fm::fn::fo::fp::fq::fr::fs::ft::fv::fw::fx::fy::fz::fA::fB::fC::fD::fE::ch::ci::cj::ck::cl::cm::cn::cp::cq::cr::cs::ct::cv::cw::cx::cy::cz::cA::cB::cC::cD::cE::cF::cG::cH::cI::cJ::cK::cL::cM::cN::cO::cP::cQ::cR::cS::cT::cU::cV::cW::cX::cY::cZ::c9::da::db::dc::dd::de::df::dg::[]).toArray,[]⟩ w):
  Code.wp prog (Code.loop (aKD f58 7)) Q ⟨(c0::c1::c2::c3::c4::.pointer (some ⟨g,0,none⟩)::.func (Fn.func 109) #[] #[.pointer (some ⟨g,0,none⟩)]::c7::c8::.int .i64 ((pos p s:Nat):Int)::di::dj::dk::dl::dm::dn::dp::dq::dr::ds::dt::dv::dw::dx::dy::dz::dC::dN::dU::dV::dW::dX::dY::dZ::ea::eb::ec::ed::ee::ef::eg::eh::ei::ej::em::en::eo::ep::eq::er::es::et::ev::ew::ex::ey::ez::eA::eB::eC::eD::eE::eF::eG::eH::eI::eJ::eK::eL::eM::eN::eO::eP::eQ::eR::eS::eT::eU::eV::eW::eX::eY::eZ::e2::e3::e4::e5::e6::e7::e8::e9::fa::fb::fc::fd::fe::ff::fg::fh::fi::l::m::n::o::q::r::v::x::y::z::A::B::C::D::E::F::G::H::I::J::L::M::N::O::P::R::S::T::U::V::W::X::Y::Z::aa::ab::ac::ad::ae::af::ag::ah::ai::aj::ak::al::am::an::ao::ap::aq::ar::av::aw::ax::ay::az::aA::aB::aC::aD::aE::aF::aG::aH::aI::aJ::aK::aL::aM::aN::aO::aP::aQ::aR::aS::aT::aU::aV::aW::aX::aY::aZ::a0::a1::a2::a3::a4::a5::a6::a7::a8::a9::bb::bc::bd::be::bf::bg::bh::bi::bj::bk::bl::bm::bn::bo::bp::bq::br::bs::bt::bw::bx::bz::bA::bB::bC::bD::bE::bF::bG::bH::bI::bJ::bK::bL::bM::bN::bO::bP::bQ::bR::bS::bT::bU::bV::bW::bX::bY::bZ::b0::b1::b2::b3::b4::b5::b6::b7::b8::b9::ca::cb::cc::cd::ce::cf::cg::dA::dB::dD::dE::dF::dG::dH::dI::dJ::dK::dL::dM::dO::dP::dQ::dR::dS::dT::ch::ci::cj::ck::cl::cm::cn::cp::cq::cr::cs::ct::cv::cw::cx::cy::cz::cA::cB::cC::cD::cE::cF::cG::cH::cI::cJ::cK::cL::cM::cN::cO::cP::cQ::cR::cS::cT::cU::cV::cW::cX::cY::cZ::c9::da::db::dc::dd::de::df::dg::[]).toArray,[]⟩ w:=by
 have HX:Hid _:=@dh
 clear dh
 conv=>arg 2;arg 1;whnf
 go_loopw[9] (λiv wr=>∃sj:jB,iv=.int .i64 ((pos p sj:Nat):Int)/\Suf p sj/\Hid (s.dropWhile aIs=sj.dropWhile aIs)/\wr=w) (λiv _=>p.size-(intOf iv).toNat)
 case atStart=>exact⟨s,rfl,hS,rfl,rfl⟩
 case round=>
  obtain⟨sj,rfl,b,HD,rfl⟩:=hrel
  cases sj with
  |nil=>
   have hk:pos p []=p.size:=rfl
   rw[HD.out]at HX
   rw[show List.dropWhile aIs []=[]from rfl,hk]at HX
   rw[hk]
   have fH:decide ((p.size:Int)<(p.size:Int))=false:=by simp
   clear hS b HD hk
   go_wp2_with fail
   exact HX.out
  |cons c t=>
   obtain⟨k,ek,hk,fI,d⟩:=aCe b
   have fH:(k:Int)<(p.size:Int):=by omega
   have fJ:IntKind.i64.wrap ((k:Int)+1)=((k+1:Nat):Int):=by rw[ju];omega
   have i:Hid (Calls prog 109 #[.int .i64 (k:Int),.pointer (some ⟨g,0,none⟩)] wr λe w'=>e=.returned (.bool (spB c))/\w'=wr):=by rw[<-fI];exact aPI g p k hk wr hg
   have fk:Suf p t:=b.tl
   rw[HD.out]at HX
   rw[ek]
   cases hq:aIs c with
   |true=>
    have fF:Hid (s.dropWhile aIs=t.dropWhile aIs):=by unfold Hid;rw[HD.out,jaj hq]
    clear HD b
    have ha:spB c=false/\c≠62:=by simpa [aIs,and_assoc] using hq
    obtain⟨hs,j⟩:=ha
    rw[hs]at i
    have fG:((c.toNat:Int) !=62)=true:=by rw[jbb];intro e;exact j (by rw[<-jM];exact jal e)
    go_wp2_with fail
    refine i.out.mono ?_
    rintro e w' ⟨rfl,f⟩
    have a:=f.symm
    subst a
    clear i
    go_wp2_with fail
    go_roundw
    case rel=>exact⟨t,by rw[d];rfl,fk,fF,trivial⟩
    case measure=>simp[intOf];omega
   |false=>
    rw[jai (by rw[hq];simp),ek]at HX
    clear HD b fk d
    by_cases hs:spB c=true
    ·rw[hs]at i
     go_wp2_with fail
     refine i.out.mono ?_
     rintro e w' ⟨rfl,f⟩
     have a:=f.symm
     subst a
     clear i
     go_wp2_with fail
     exact HX.out
    ·have fl:spB c=false:=by simpa using hs
     clear hs
     rw[fl]at i
     by_cases fj:c=62
     ·subst fj
      go_wp2_with fail
      refine i.out.mono ?_
      rintro e w' ⟨rfl,f⟩
      have a:=f.symm
      subst a
      clear i
      go_wp2_with fail
      exact HX.out
     have j:c≠62:=fj
     have fG:((c.toNat:Int) !=62)=true:=by rw[jbb];intro e;exact j (by rw[<-jM];exact jal e)
     exact absurd hq (by simp[aIs,fl,j])
end Go.Proofs.YtbbfcbodhmeanaaGreatDoor

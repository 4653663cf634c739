import Derived.Test.YtbbfcbodhmeanaaGreatDoorXrewritesays32
set_option maxHeartbeats 8000000
set_option maxRecDepth 1000000
namespace Go.Proofs.YtbbfcbodhmeanaaGreatDoor
open Go.Proofs.Tryz
open Go.RowKit
theorem lk1(w0:World)(HE:aAI w0)(g:Nat)(p:ByteArray)(hp:p.size<=4000)(b:List UInt8)(eH:p.data.toList=b)(w:World)(dX:Below w0.heap.size w0 w)(m1:g<w.heap.size)(hg:w.cell? ⟨g,0,none⟩=some (.string p)){c0 c1 c2 c3 lC lD lE lF lG lH lI ep eq er es et lJ lK lL lM lN lO lP lQ lR lS lT lU lV lW lX lY lZ l0 l1 l2 l3 l4 l5 l6 l7 l8 l9 ma mb mc md me mf mg mh mi mj mk ml mm mn mo mp mq mr ms mv mw mx my mz mA mB mC mD mE mF mG mH mI mJ mK mL mM mN mO mP mQ mR mS mT mU mV mW mX mY mZ m0 gm gn go gp gq gr gs gt gv gw gx gy gz gA gB gC gD gE gF gG gH gI gJ gK gL gM gN gO gP gQ gR gS gT gU gV gW gX gY gZ g0 g1 g2 g3 g4 g5 g6 g7 g8 g9 ha hb hc hd he hf hh hi hj hl hm hn ho hq hs ht hv hw hx hy hz hA hB hC hD hE hF hG hH hI hJ hK hL hN hO hP hQ hR hS hT hU hV hX hY hZ h0 h5 h6 h7 h8 h9 ia ib ic ie ig ih ii ij ik il im io ip iq ir is it iw ix iy iz iA iB iC iD iE iF iG iH iI iJ iK iL iM iN iO iP iQ iR iS iT iU iV iW iX iY iZ i0 i1 i2 i3 i4 i5 i6 i7 i8 i9 ka kb kc kd ke kf kg kh ki kj kk kl km kn ko kp kq kr ks kt kv kw kx ky kz kA kB kC kD kE kF kG kH kI kJ kK kL kM kN kO kP kQ kR kS kT kU kV kW kX kY kZ k0 k1 k2 k3 k5 k6 k7 k8 k9 la lb lc ld le lf lg lh li E:Value}(Q:Exit->Act->World->Prop)
  (eD:∀{u2 u3 u9 eJ u11 u12 eK eL eM eN eO eP eQ eR eS eT eU eV eW eX eY eZ e2 e3 e4 e5 e6 e7 e8 e9 fa fb fc fd fe ff fg fh fi fj fk fl fm fn fo fp fq fr fs ft fv fw fx fy fz fA fB fC fD fE fF fG fH fI fJ fK fL fM fN fO fP fQ fR fS fT fU fV fW fX fY fZ ga gb gc gd ge gf gg M N O P S T U V X Y Z aa ab ac ad ae af ag ah ai aj ak al am an ao ap aq ar av aw ax ay az aA aB aC aD aE aF aG aH aI aJ aK aL aM aN aO aP aQ aR aS aT aU aV aW aX aY aZ a0 a1 a2 a3 a4 a6 a7 a8 a9 bb bc bd be bf bg bh bi bj bk bl bm bn bo bp bq br bs bt bw bx bz bA bB bC bD bE bF bG bH bI bJ bK bL bM bN bO bP bQ bR bS bT bU bV bW bX bY bZ b0 b1 b2 b3 b4 b5 b6 b7 b8 b9 ca cb cc cd ce cf cg ch ci cj ck cl cm cn cp cq cr cs ct cv cw cx cy cz cA cB cC cD cE cF cG cH cI cJ cK cL cM cN cO cP cQ cR cS cT cU cV cW cX cY cZ c7 c8 c9 da db dc dd de df dg dh di dj dk dl dm dn dp dq dr ds dt dv dw dx dy dz dA dB dC dD dE dF dG dH dI dJ dK dL dM dN dO dP dQ dR dS dT dU dV:Value}(v4:Value),∀(wr:World) (a:List LK),aGz aQJ b=some a->Below w.heap.size w wr->wr.ownsRow w.heap.size 40 3 v4 a.length (lv p.size a)->Q (.exit 0) ⟨(c0::c1::u2::u3::v4::.pointer (some ⟨g,0,none⟩)::.func (Fn.func 109) #[] #[.pointer (some ⟨g,0,none⟩)]::.func (Fn.func 110) #[] #[.pointer (some ⟨g,0,none⟩)]::.func (Fn.func 112) #[] #[.pointer (some ⟨g,0,none⟩)]::u9::eJ::u11::u12::eK::eL::eM::eN::ep::eq::er::es::et::eO::eP::eQ::eR::eS::eT::eU::eV::eW::eX::eY::eZ::e2::e3::e4::e5::e6::e7::e8::e9::fa::fb::fc::fd::fe::ff::fg::fh::fi::fj::fk::fl::fm::fn::fo::fp::fq::fr::fs::ft::fv::fw::fx::fy::fz::fA::fB::fC::fD::fE::fF::fG::fH::fI::fJ::fK::fL::fM::fN::fO::fP::fQ::fR::fS::fT::fU::fV::fW::fX::fY::fZ::ga::gb::gc::gd::ge::gf::gg::M::N::O::P::S::T::U::V::X::Y::Z::aa::ab::ac::ad::ae::af::ag::ah::ai::aj::ak::al::am::an::ao::ap::aq::ar::av::aw::ax::ay::az::aA::aB::aC::aD::aE::aF::aG::aH::aI::aJ::aK::aL::aM::aN::aO::aP::aQ::aR::aS::aT::aU::aV::aW::aX::aY::aZ::a0::a1::a2::a3::a4::a6::a7::a8::a9::bb::bc::bd::be::bf::bg::bh::bi::bj::bk::bl::bm::bn::bo::bp::bq::br::bs::bt::bw::bx::bz::bA::bB::bC::bD::bE::bF::bG::bH::bI::bJ::bK::bL::bM::bN::bO::bP::bQ::bR::bS::bT::bU::bV::bW::bX::bY::bZ::b0::b1::b2::b3::b4::b5::b6::b7::b8::b9::ca::cb::cc::cd::ce::cf::cg::ch::ci::cj::ck::cl::cm::cn::cp::cq::cr::cs::ct::cv::cw::cx::cy::cz::cA::cB::cC::cD::cE::cF::cG::cH::cI::cJ::cK::cL::cM::cN::cO::cP::cQ::cR::cS::cT::cU::cV::cW::cX::cY::cZ::c7::c8::c9::da::db::dc::dd::de::df::dg::dh::di::dj::dk::dl::dm::dn::dp::dq::dr::ds::dt::dv::dw::dx::dy::dz::dA::dB::dC::dD::dE::dF::dG::dH::dI::dJ::dK::dL::dM::dN::dO::dP::dQ::dR::dS::dT::dU::dV::E::[]).toArray,[]⟩ wr)
  (lw:∀{u9 eJ u11 u12 eK eL eM eN eO eP eQ eR eS eT eU eV eW eX eY eZ e2 e3 e4 e5 e6 e7 e8 e9 fa fb fc fd fe ff fg fh fi fj fk fl fm fn fo fp fq fr fs ft fv fw fx fy fz fA fB fC fD fE fF fG fH fI fJ fK fL fM fN fO fP fQ fR fS fT fU fV fW fX fY fZ ga gb gc gd ge gf gg M N O P S T U V X Y Z aa ab ac ad ae af ag ah ai aj ak al am an ao ap aq ar av aw ax ay az aA aB aC aD aE aF aG aH aI aJ aK aL aM aN aO aP aQ aR aS aT aU aV aW aX aY aZ a0 a1 a2 a3 a4 a6 a7 a8 a9 bb bc bd be bf bg bh bi bj bk bl bm bn bo bp bq br bs bt bw bx bz bA bB bC bD bE bF bG bH bI bJ bK bL bM bN bO bP bQ bR bS bT bU bV bW bX bY bZ b0 b1 b2 b3 b4 b5 b6 b7 b8 b9 ca cb cc cd ce cf cg ch ci cj ck cl cm cn cp cq cr cs ct cv cw cx cy cz cA cB cC cD cE cF cG cH cI cJ cK cL cM cN cO cP cQ cR cS cT cU cV cW cX cY cZ c7 c8 c9 da db dc dd de df dg dh di dj dk dl dm dn dp dq dr ds dt dv dw dx dy dz dA dB dC dD dE dF dG dH dI dJ dK dL dM dN dO dP dQ dR dS dT dU dV:Value}(v4:Value),∀(wr:World),aGz aQJ b=none->Below w.heap.size w wr->Q .ret ⟨(c0::c1::.slice none 0 0::.int .i64 2::v4::.pointer (some ⟨g,0,none⟩)::.func (Fn.func 109) #[] #[.pointer (some ⟨g,0,none⟩)]::.func (Fn.func 110) #[] #[.pointer (some ⟨g,0,none⟩)]::.func (Fn.func 112) #[] #[.pointer (some ⟨g,0,none⟩)]::u9::eJ::u11::u12::eK::eL::eM::eN::ep::eq::er::es::et::eO::eP::eQ::eR::eS::eT::eU::eV::eW::eX::eY::eZ::e2::e3::e4::e5::e6::e7::e8::e9::fa::fb::fc::fd::fe::ff::fg::fh::fi::fj::fk::fl::fm::fn::fo::fp::fq::fr::fs::ft::fv::fw::fx::fy::fz::fA::fB::fC::fD::fE::fF::fG::fH::fI::fJ::fK::fL::fM::fN::fO::fP::fQ::fR::fS::fT::fU::fV::fW::fX::fY::fZ::ga::gb::gc::gd::ge::gf::gg::M::N::O::P::S::T::U::V::X::Y::Z::aa::ab::ac::ad::ae::af::ag::ah::ai::aj::ak::al::am::an::ao::ap::aq::ar::av::aw::ax::ay::az::aA::aB::aC::aD::aE::aF::aG::aH::aI::aJ::aK::aL::aM::aN::aO::aP::aQ::aR::aS::aT::aU::aV::aW::aX::aY::aZ::a0::a1::a2::a3::a4::a6::a7::a8::a9::bb::bc::bd::be::bf::bg::bh::bi::bj::bk::bl::bm::bn::bo::bp::bq::br::bs::bt::bw::bx::bz::bA::bB::bC::bD::bE::bF::bG::bH::bI::bJ::bK::bL::bM::bN::bO::bP::bQ::bR::bS::bT::bU::bV::bW::bX::bY::bZ::b0::b1::b2::b3::b4::b5::b6::b7::b8::b9::ca::cb::cc::cd::ce::cf::cg::ch::ci::cj::ck::cl::cm::cn::cp::cq::cr::cs::ct::cv::cw::cx::cy::cz::cA::cB::cC::cD::cE::cF::cG::cH::cI::cJ::cK::cL::cM::cN::cO::cP::cQ::cR::cS::cT::cU::cV::cW::cX::cY::cZ::c7::c8::c9::da::db::dc::dd::de::df::dg::dh::di::dj::dk::dl::dm::dn::dp::dq::dr::ds::dt::dv::dw::dx::dy::dz::dA::dB::dC::dD::dE::dF::dG::dH::dI::dJ::dK::dL::dM::dN::dO::dP::dQ::dR::dS::dT::dU::dV::E::[]).toArray,[]⟩ wr):
  Code.wp prog (Code.loop (aKD f58 0)) Q ⟨(c0::c1::c2::c3::.slice none 0 0::.pointer (some ⟨g,0,none⟩)::.func (Fn.func 109) #[] #[.pointer (some ⟨g,0,none⟩)]::.func (Fn.func 110) #[] #[.pointer (some ⟨g,0,none⟩)]::.func (Fn.func 112) #[] #[.pointer (some ⟨g,0,none⟩)]::.int .i64 0::lC::lD::lE::lF::lG::lH::lI::ep::eq::er::es::et::lJ::lK::lL::lM::lN::lO::lP::lQ::lR::lS::lT::lU::lV::lW::lX::lY::lZ::l0::l1::l2::l3::l4::l5::l6::l7::l8::l9::ma::mb::mc::md::me::mf::mg::mh::mi::mj::mk::ml::mm::mn::mo::mp::mq::mr::ms::mv::mw::mx::my::mz::mA::mB::mC::mD::mE::mF::mG::mH::mI::mJ::mK::mL::mM::mN::mO::mP::mQ::mR::mS::mT::mU::mV::mW::mX::mY::mZ::m0::gm::gn::go::gp::gq::gr::gs::gt::gv::gw::gx::gy::gz::gA::gB::gC::gD::gE::gF::gG::gH::gI::gJ::gK::gL::gM::gN::gO::gP::gQ::gR::gS::gT::gU::gV::gW::gX::gY::gZ::g0::g1::g2::g3::g4::g5::g6::g7::g8::g9::ha::hb::hc::hd::he::hf::hh::hi::hj::hl::hm::hn::ho::hq::hs::ht::hv::hw::hx::hy::hz::hA::hB::hC::hD::hE::hF::hG::hH::hI::hJ::hK::hL::hN::hO::hP::hQ::hR::hS::hT::hU::hV::hX::hY::hZ::h0::h5::h6::h7::h8::h9::ia::ib::ic::ie::ig::ih::ii::ij::ik::il::im::io::ip::iq::ir::is::it::iw::ix::iy::iz::iA::iB::iC::iD::iE::iF::iG::iH::iI::iJ::iK::iL::iM::iN::iO::iP::iQ::iR::iS::iT::iU::iV::iW::iX::iY::iZ::i0::i1::i2::i3::i4::i5::i6::i7::i8::i9::ka::kb::kc::kd::ke::kf::kg::kh::ki::kj::kk::kl::km::kn::ko::kp::kq::kr::ks::kt::kv::kw::kx::ky::kz::kA::kB::kC::kD::kE::kF::kG::kH::kI::kJ::kK::kL::kM::kN::kO::kP::kQ::kR::kS::kT::kU::kV::kW::kX::kY::kZ::k0::k1::k2::k3::k5::k6::k7::k8::k9::la::lb::lc::ld::le::lf::lg::lh::li::E::[]).toArray,[]⟩ w:=by
 have HX:Hid _:=@eD
 have HR:Hid _:=@lw
 clear eD lw
 have hM:∀W,Below w.heap.size w W->∃m:Int,W.cell? ⟨0,0,none⟩=some (.int .i64 m):=λW hW=>(HE W (dX.trans (hW.mono dX.size))).mx
 have lx:p.size=b.length:=by rw[<-eH];exact Lib.size_eq p
 have gh:aAy w p b (.slice none 0 0) w b []:=⟨by simp,by unfold Suf;rw[eH];exact List.suffix_refl _,jr _ _,jT _ _ _ _,by unfold aGz;rw[jh (by omega)]⟩
 have ly:(Value.int .i64 0)=.int .i64 ((pos p b:Nat):Int):=by unfold pos;rw[lx,jbh];rfl
 conv=>arg 2;arg 1;whnf
 go_loopw[4,9] (λov iv wr=>∃(sj:List UInt8) (a:List LK) (A:Option Addr) (lo co:Nat),iv=.int .i64 ((pos p sj:Nat):Int)/\ov=.slice A lo co/\lo=a.length/\Hid (aAy w p b (.slice A lo co) wr sj a)) (λ_ iv _=>p.size-(intOf iv).toNat)
 case atStart=>exact⟨b,[],none,0,0,ly,rfl,rfl,gh⟩
 case round=>
  obtain⟨sj,a,A,lo,co,rfl,rfl,rfl,i⟩:=hrel
  have y:wr.cell? ⟨g,0,none⟩=some (.string p):=(i.out.bel.cell (p:=⟨g,0,none⟩) m1).trans hg
  clear ly gh lx eH
  cases sj with
  |nil=>as_aux_lemma=>
   have hk:pos p []=p.size:=rfl
   rw[hk]
   have m2:decide ((p.size:Int)<(p.size:Int))=false:=by simp
   clear hk
   go_wp2_with fail
   exact HX.out _ _ _ i.out.fin i.out.bel i.out.own
  |cons c t=>
   obtain⟨k,ek,hk,qR,z⟩:=aCe i.out.suf
   have m2:(k:Int)<(p.size:Int):=by omega
   have m8:IntKind.i64.wrap ((k:Int)+1)=((k+1:Nat):Int):=by rw[ju];omega
   have m9:IntKind.i64.wrap ((k:Int)+4)=((k+4:Nat):Int):=by rw[ju];omega
   have hst:t.length+1<=p.size:=i.out.suf.len
   have ej:Hid (pos p t=k+1):=z
   have l:Hid (pos p (c::t)=k):=ek
   rw[ek]
   by_cases ev:c=60
   ·subst ev
    have s:Suf p (60::t):=i.out.suf
    clear z ek
    go_upto_region 10 with fail
    rw[<-l.out]
    refine aKn g p hp (60::t) s wr y _ ?_
    intro qX qY qZ
    rw[l.out]
    cases j:aEm.isPrefixOf (60::t)with
    |true=>as_aux_lemma=>
     have h4:pos p ((60::t).drop 4)=k+4:=by rw[aNN s 4 (aNO j),l.out]
     have CB:Hid (Calls prog 112 #[.int .i64 ((k+4:Nat):Int),.string ⟨#[45,45,62]⟩,.pointer (some ⟨g,0,none⟩)] wr λe w'=>e=.returned (.int .i64 ((pos p (aCT aEl ((60::t).drop 4)):Nat):Int))/\w'=wr):=aOI g p ⟨#[45,45,62]⟩ ((60::t).drop 4) (s.dr 4) (by decide) hp (k+4) h4.symm wr (hM wr i.out.bel) y
     have f:Hid (aAy w p b (.slice A a.length co) wr (aCT aEl ((60::t).drop 4)) a):=i.out.pass (aJq j) (jr _ _)
     have eF:=(i.out.piece (aJq j)).2.1
     generalize aCT aEl ((60::t).drop 4)=R at*
     clear h4 j
     have ey:=f.out.suf
     go_wp2_with fail
     refine CB.out.mono ?_
     rintro e w' ⟨rfl,eI⟩
     have L:=eI.symm
     subst L
     clear CB
     go_wp2_with fail
     go_roundw
     case rel=>exact⟨R,a,A,_,co,rfl,rfl,rfl,f⟩
     case measure=>have h1:=ey.len;have h2:=l.out;unfold pos at*;simp only[jm]at*;simp[intOf];omega
    |false=>as_aux_lemma=>
     go_upto_region 12 with fail
     rw[<-l.out]
     refine aKo g p hp (60::t) s wr y _ ?_
     intro q0 q1 q2 q3 q4 q5 q6 q7 q8
     rw[l.out]
     cases G:(([60,33]:List UInt8).isPrefixOf (60::t)||([60,63]:List UInt8).isPrefixOf (60::t))with
     |true=>as_aux_lemma=>
      have CB:Hid (Calls prog 112 #[.int .i64 (k:Int),.string ⟨#[62]⟩,.pointer (some ⟨g,0,none⟩)] wr λe w'=>e=.returned (.int .i64 ((pos p (aCT [62] (60::t)):Nat):Int))/\w'=wr):=aOI g p ⟨#[62]⟩ (60::t) s (by decide) hp k l.out.symm wr (hM wr i.out.bel) y
      have f:Hid (aAy w p b (.slice A a.length co) wr (aCT [62] (60::t)) a):=i.out.pass (aJr j G) (jr _ _)
      have eF:=(i.out.piece (aJr j G)).2.1
      generalize aCT [62] (60::t)=R at*
      clear j G
      have ey:=f.out.suf
      go_wp2_with fail
      refine CB.out.mono ?_
      rintro e w' ⟨rfl,eI⟩
      have L:=eI.symm
      subst L
      clear CB
      go_wp2_with fail
      go_roundw
      case rel=>exact⟨R,a,A,_,co,rfl,rfl,rfl,f⟩
      case measure=>have h1:=ey.len;have h2:=l.out;unfold pos at*;simp only[jm]at*;simp[intOf];omega
     |false=>as_aux_lemma=>
      have D:Hid (aEm.isPrefixOf (60::t)=false):=j
      have eh:Hid ((([60,33]:List UInt8).isPrefixOf (60::t)||([60,63]:List UInt8).isPrefixOf (60::t))=false):=G
      clear j G
      go_upto_region 14 with fail
      rw[<-l.out]
      refine aKp g p hp (60::t) s wr y _ ?_
      intro q9 ra rb rc re rf rh ri rj w1 dY
      obtain⟨v,ew⟩:∃x,aRw [60,47] (60::t)=x:=⟨_,rfl⟩
      have gl:Hid (aRw [60,47] (60::t)=v):=ew
      rw[ew]
      clear ew
      have dZ:w1.cell? ⟨g,0,none⟩=some (.string p):=(dY.cell (p:=⟨g,0,none⟩) (ji wr _ y)).trans y
      rw[l.out]
      go_upto_region 15 with fail
      rw[<-l.out]
      refine aKq g p hp (60::t) s w1 dZ v _ ?_
      intro rk rl rm rn ro rp rq rr w2 eA
      have o:Below wr.heap.size wr w2:=dY.trans (eA.mono dY.size)
      have H:w2.cell? ⟨g,0,none⟩=some (.string p):=(eA.cell (p:=⟨g,0,none⟩) (ji w1 _ dZ)).trans dZ
      clear dY dZ eA
      rw[l.out]
      cases ea:(!v&&!aH9 ((60::t).drop 1))with
      |true=>as_aux_lemma=>
       have f:Hid (aAy w p b (.slice A a.length co) w2 t a):=i.out.pass (aJt D.out eh.out (by rw[gl.out];exact ea)) o
       clear ea i o
       go_wp2_with fail
       go_roundw
       case rel=>exact⟨t,a,A,_,co,by rw[ej.out];rfl,rfl,rfl,f⟩
       case measure=>simp[intOf];omega
      |false=>as_aux_lemma=>
       have eo:Hid (aMT aQJ (60::t)=(if v=true then []else(aRI aQJ [] (aQ9 v t)).1.getD [],(aRI aQJ [] (aQ9 v t)).2)):=aJv D.out eh.out gl.out ea
       have ez:Suf p t:=s.tl
       have lr:(k:Int)+1=((pos p t:Nat):Int):=by rw[ej.out];rfl
       have eb:Hid ((k:Int)+1=((pos p t:Nat):Int)):=lr
       clear ea lr D eh
       go_wp2_with fail
       rw[eb.out]
       refine lk2 g p hp t ez w2 H v _ ?_
       intro rs rt rv rx ry rz rA rB rC rD rE rF rG rH rI
       have F:Suf p (t.dropWhile (slB v)):=ez.dw _
       go_wp2_with fail
       refine lk3 g p hp (t.dropWhile (slB v)) F w2 H _ ?_
       intro rJ rK rL rM rN rO rP rQ rR nf ng nh ni nj nk nl nm no np nr ns nt nv nw
       have ed:Suf p (aQ9 v t):=F.dw _
       rw[show(t.dropWhile (slB v)).dropWhile aIv=aQ9 v t from rfl]
       have ef:g<w2.heap.size:=ji w2 _ H
       have lA:Hid (Below w.heap.size w w2):=i.out.bel.trans (o.mono i.out.bel.size)
       generalize aQ9 v t=s0 at*
       go_wp2_with fail
       refine lk4 w0 HE g p hp s0 ed w2 (dX.trans (lA.out.mono dX.size)) ef H _ ?_
       intro qT qU qV qW nx ny nz nA nB nC nD nE nF nG nH nI nJ nK nL nM nN nO nP nQ nR nS nT nU nV nW nX nY nZ n0 n1 n2 n3 n4 n5 n6 n7 n8 n9 oa ob oc od oe of og oh oi oj ok ol om on oo op oq or os ot ow ox oy oz oA oB oC oD oE oF oG oH oI oJ oK oL oM oN oO oP oQ oR oS oT oU oV oW oX oY oZ o0 o1 o2 o3 o4 o5 o6 o7 o8 o9 pa pb pc pd pe pf pg ph pi pj pk pl pm pn pp pq pr ps pt pv pw px py pz pA pB pC pD pE pF pG pH pI pJ pK pL pM pN pO pP pQ pR pS pT pU pV pW pX pY pZ p0 p1 p2 p3 p5 p6 p7 p8 p9 qa qb qc qd qe qf qg qh qi qj qk ql qm qn qo qp qq qr qs qt qv qw qx qy qz qA qC qD qE qF qG qH qI qJ qK qL qM qN qO v9 na rS w4 ln
       as_aux_lemma=>
       obtain⟨s4,d,rfl,ex,eB,qQ,I,eC⟩:=ln
       have nb:w4.cell? ⟨g,0,none⟩=some (.string p):=(eB.cell (p:=⟨g,0,none⟩) ef).trans H
       have ee:Below wr.heap.size wr w4:=o.trans (eB.mono o.size)
       have em:Hid (w4.ownsRow w2.heap.size 40 3 na d.length (lv p.size d)):=I
       have B:Hid (Below wr.heap.size wr w4):=ee
       clear I eB ee o ez F ed m8 m9 eb
       rcases eC with⟨rfl,hr⟩|⟨t4,rfl,hr⟩
       ·as_aux_lemma=>
        have eE:pos p []=p.size:=rfl
        have f:Hid (aAy w p b (.slice A a.length co) w4 [] a):=i.out.pass (by rw[eo.out,hr];cases v<;>rfl) B.out
        rw[eE]
        have qP:((p.size:Int)==(p.size:Int))=true:=by simp
        clear hr eE ex
        go_wp2_with fail
        exact HX.out _ _ _ f.out.fin f.out.bel f.out.own
       ·obtain⟨k4,lj,eE,m4,lq⟩:=aCe ex
        have nc:((k4:Int)==(p.size:Int))=false:=by rw[jg];omega
        have ne:IntKind.i64.wrap ((k4:Int)+1)=((k4+1:Nat):Int):=by rw[ju];omega
        have ei:Hid (pos p t4=k4+1):=lq
        rw[lj]
        have r:Hid (aMT aQJ (60::t)=(if v=true then []else d,t4)):=by unfold Hid;rw[eo.out,hr];rfl
        have eF:=(i.out.piece r.out).2.1
        have nd:k<k4+1:=by have h1:=ei.out;have h2:=l.out;have h3:=ex.len;unfold pos at*;simp only[jm]at*;omega
        clear hr eo lq lj m4
        cases v with
        |true=>as_aux_lemma=>
         have f:Hid (aAy w p b (.slice A a.length co) w4 t4 a):=i.out.pass r.out B.out
         have m3:=i.out.la
         have C:¬(60:Int)<((a.length:Nat):Int):=by omega
         clear i r
         go_wp2_with fail
         go_roundw
         case rel=>exact⟨t4,a,A,_,co,by rw[ei.out];rfl,rfl,rfl,f⟩
         case measure=>simp[intOf];omega
        |false=>as_aux_lemma=>
         have ls:aMT aQJ (60::t)=(d,t4):=r.out
         obtain⟨lt,m5,m6,qS⟩:=i.out.piece ls
         have dW:Hid (aGz aQJ b=(if 60<(a++d).length then none else aGw aQJ t4.length (a++d) t4)):=lt
         have HO:Hid (w4.ownsRow w.heap.size 40 3 (.slice A a.length co) a.length (lv p.size a)):=aMm i.out.own B.out
         have gi:Hid (Below w.heap.size w w4):=i.out.bel.trans (B.out.mono i.out.bel.size)
         have m3:=i.out.la
         have m7:=gi.out.size
         obtain⟨p4,c4,rfl,_⟩:=aQC em.out
         clear ls lt r m5 eF i
         go_wp2_with (at_builtin;refine aB5 rfl (.tmp 320) (.tmp 321) rfl w.heap.size _ a.length (lv p.size a) rfl HO.out _ _ p.size d rfl em.out (by omega) (by omega) ?_)
         intro v5 w5 J lp
         have ll:Below w.heap.size w w5:=gi.out.grown lp m7 (λk hk=>(HO.out.lt k hk).1)
         have q:w5.ownsRow w.heap.size 40 3 v5 (a++d).length (lv p.size (a++d)):=by rw[aKY,je];exact J
         obtain⟨a5,c5,rfl,lk,lm,_⟩:=aQC q
         have en:Hid (w5.ownsRow w.heap.size 40 3 (.slice a5 (a++d).length c5) (a++d).length (lv p.size (a++d))):=q
         have eg:Hid (Below w.heap.size w w5):=ll
         clear J lp ll q HO em lm lk
         by_cases C:60<(a++d).length
         ·as_aux_lemma=>
          have ec:(60:Int)<(((a++d).length:Nat):Int):=by omega
          have HN:Hid (aGz aQJ b=none):=by unfold Hid;rw[dW.out,jo C]
          clear dW en C
          generalize (a++d).length=nn at*
          go_wp2_with fail
          exact HR.out _ _ HN.out eg.out
         ·as_aux_lemma=>
          have ec:¬(60:Int)<(((a++d).length:Nat):Int):=by omega
          have gj:Hid (aAy w p b (.slice a5 (a++d).length c5) w5 t4 (a++d)):=⟨by omega,m6,eg.out,en.out,by rw[dW.out,jh C]⟩
          clear dW en eg C
          obtain⟨nn,eG⟩:∃n,(a++d).length=n:=⟨_,rfl⟩
          have lB:Hid ((a++d).length=nn):=eG
          rw[eG]at ec gj⊢
          clear eG
          go_wp2_with fail
          go_roundw
          case rel=>exact⟨t4,a++d,a5,nn,c5,by rw[ei.out];rfl,rfl,lB.out.symm,gj⟩
          case measure=>simp[intOf];omega
   ·as_aux_lemma=>
    have lz:c≠60:=ev
    have C:((c.toNat:Int) !=60)=true:=by rw[jbb];intro e;exact lz (by rw[<-jM];exact jal e)
    have f:Hid (aAy w p b (.slice A a.length co) wr t a):=i.out.pass (aJs t lz) (jr _ _)
    clear i z ek ev
    go_wp2_with fail
    go_roundw
    case rel=>exact⟨t,a,A,_,co,by rw[ej.out];rfl,rfl,rfl,f⟩
    case measure=>simp[intOf];omega
end Go.Proofs.YtbbfcbodhmeanaaGreatDoor

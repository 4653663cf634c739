import Derived.Test.YtbbfcbodhmeanaaGreatDoorXrewritesays31
set_option maxHeartbeats 8000000
set_option maxRecDepth 1000000
namespace Go.Proofs.YtbbfcbodhmeanaaGreatDoor
open Go.Proofs.Tryz
open Go.RowKit
theorem lk4(w0:World)(HE:aAI w0)(g:Nat)(p:ByteArray)(hp:p.size<=4000)(R:List UInt8)(hS:Suf p R)(w:World)(aX:Below w0.heap.size w0 w)(gy:g<w.heap.size)(hg:w.cell? ⟨g,0,none⟩=some (.string p)){c0 c1 c2 c3 c4 c7 c8 a8 le lf lg lh b6 ch cw cH cS dc dn dA dL dW eh ev eG eR e4 e7 e8 e9 fa fb fc fd fe ff fg fh fi fj fk fl fm fn fo fp fq fr fs ft fv fw fx fy fz fA fB fC fD fE fF fG fH fI fJ fK fL fM fN fO fP fQ fR fS fT fU fV fW fX fY fZ ga gb gc gd ge gf gg gh gi gj gl gm gn go aa ab ac ad ae af ag ah ai aj ak al am an ao a9 bb bc bd be bf bg bh bi bj bk bl bm bn bo bp bq br bs bt bw bx bz bA bB bC bD bE bF bG bH bI bJ bK bL bM bN bO bP bQ bR bS bT bU bV bW bX bY bZ b0 b1 b2 b3 b4 b5 b7 b8 b9 ca cb cc cd ce cf cg ci cj ck cl cp cq cr cs ct cv cx cy cz cA cB cC cD cE cF cG cI cJ cK cL cM cN cO cP cQ cR cT cU cV cW cX cY cZ c9 da db dd de df dg dh di dj dk dl dm dp dq dr ds dt dv dw dx dy dz dB dC dD dE dF dG dH dI dJ dK dM dN dO dP dQ dR dS dT dU dV dX dY dZ ea eb ec ed ee ef eg ei ej em en eo ep eq er es et ew ex ey ez eA eB eC eD eE eF eH eI eJ eK eL eM eN eO eP eQ eS eT eU eV eW eX eY eZ e2 e3 e5 e6 ap aq ar av aw ax ay az aA aB aC aD aE aF aG:Value}(Q:Exit->Act->World->Prop)
  (aY:∀{lC lD lE lF gF gG gH gI gJ gK gL gM gN gO gP gQ gR gS gT gU gV gW gX gY gZ g0 g1 g2 g3 g4 g5 g6 g7 g8 g9 ha hb hc hd he hf hh hj hl hm hn ho hq hr ht hv hw hx hy hz hA hB hC hD hE hF hG hH hI hJ hK hN hO hP hQ hR hT hU hV hX hY hZ h0 h6 h7 h8 h9 ia ib ic ie ig ih ii ij ik il im io ip iq ir is it iw ix iy iz iA iB iC iD iE iF iG iH iI iJ iK iL iM iN iO iP iQ iR iS iT iU iV iW iX iY iZ i0 i2 i3 i4 i5 i6 i7 i8 i9 ka kb kc kd ke kf kg kh ki kj kk kl km kn ko kp kq kr ks kt kv kw kx ky kz kA kB kC kD kE kF kG kH kI kJ kK kL kM kN kO kP kQ kR kS kT kU kV kW kX kY kZ k0 k1 k2 k3 k4 k5 k6 k7 k8 k9 la lb:Value}(v9 s Z:Value),∀wr,aBt w p (aRI aQJ [] R) v9 s wr->Q (.exit 6) ⟨(c0::c1::c2::c3::c4::.pointer (some ⟨g,0,none⟩)::.func (Fn.func 109) #[] #[.pointer (some ⟨g,0,none⟩)]::c7::c8::v9::a8::s::Z::lC::lD::lE::lF::b6::ch::cw::cH::cS::dc::dn::dA::dL::dW::eh::ev::eG::eR::e4::e7::e8::e9::fa::fb::fc::fd::fe::ff::fg::fh::fi::fj::fk::fl::fm::fn::fo::fp::fq::fr::fs::ft::fv::fw::fx::fy::fz::fA::fB::fC::fD::fE::fF::fG::fH::fI::fJ::fK::fL::fM::fN::fO::fP::fQ::fR::fS::fT::fU::fV::fW::fX::fY::fZ::ga::gb::gc::gd::ge::gf::gg::gh::gi::gj::gl::gm::gn::go::aa::ab::ac::ad::ae::af::ag::ah::ai::aj::ak::al::am::an::ao::gF::gG::gH::gI::gJ::gK::gL::gM::gN::gO::gP::gQ::gR::gS::gT::gU::gV::gW::gX::gY::gZ::g0::g1::g2::g3::g4::g5::g6::g7::g8::g9::ha::hb::hc::hd::he::hf::hh::hj::hl::hm::hn::ho::hq::hr::ht::hv::hw::hx::hy::hz::hA::hB::hC::hD::hE::hF::hG::hH::hI::hJ::hK::hN::hO::hP::hQ::hR::hT::hU::hV::hX::hY::hZ::h0::h6::h7::h8::h9::ia::ib::ic::ie::ig::ih::ii::ij::ik::il::im::io::ip::iq::ir::is::it::iw::ix::iy::iz::iA::iB::iC::iD::iE::iF::iG::iH::iI::iJ::iK::iL::iM::iN::iO::iP::iQ::iR::iS::iT::iU::iV::iW::iX::iY::iZ::i0::i2::i3::i4::i5::i6::i7::i8::i9::ka::kb::kc::kd::ke::kf::kg::kh::ki::kj::kk::kl::km::kn::ko::kp::kq::kr::ks::kt::kv::kw::kx::ky::kz::kA::kB::kC::kD::kE::kF::kG::kH::kI::kJ::kK::kL::kM::kN::kO::kP::kQ::kR::kS::kT::kU::kV::kW::kX::kY::kZ::k0::k1::k2::k3::k4::k5::k6::k7::k8::k9::la::lb::ap::aq::ar::av::aw::ax::ay::az::aA::aB::aC::aD::aE::aF::aG::[]).toArray,[]⟩ wr):
  Code.wp prog (Code.loop (aKD f58 3)) Q ⟨(c0::c1::c2::c3::c4::.pointer (some ⟨g,0,none⟩)::.func (Fn.func 109) #[] #[.pointer (some ⟨g,0,none⟩)]::c7::c8::.int .i64 ((pos p R:Nat):Int)::a8::.slice none 0 0::.slice none 0 0::le::lf::lg::lh::b6::ch::cw::cH::cS::dc::dn::dA::dL::dW::eh::ev::eG::eR::e4::e7::e8::e9::fa::fb::fc::fd::fe::ff::fg::fh::fi::fj::fk::fl::fm::fn::fo::fp::fq::fr::fs::ft::fv::fw::fx::fy::fz::fA::fB::fC::fD::fE::fF::fG::fH::fI::fJ::fK::fL::fM::fN::fO::fP::fQ::fR::fS::fT::fU::fV::fW::fX::fY::fZ::ga::gb::gc::gd::ge::gf::gg::gh::gi::gj::gl::gm::gn::go::aa::ab::ac::ad::ae::af::ag::ah::ai::aj::ak::al::am::an::ao::a9::bb::bc::bd::be::bf::bg::bh::bi::bj::bk::bl::bm::bn::bo::bp::bq::br::bs::bt::bw::bx::bz::bA::bB::bC::bD::bE::bF::bG::bH::bI::bJ::bK::bL::bM::bN::bO::bP::bQ::bR::bS::bT::bU::bV::bW::bX::bY::bZ::b0::b1::b2::b3::b4::b5::b7::b8::b9::ca::cb::cc::cd::ce::cf::cg::ci::cj::ck::cl::cp::cq::cr::cs::ct::cv::cx::cy::cz::cA::cB::cC::cD::cE::cF::cG::cI::cJ::cK::cL::cM::cN::cO::cP::cQ::cR::cT::cU::cV::cW::cX::cY::cZ::c9::da::db::dd::de::df::dg::dh::di::dj::dk::dl::dm::dp::dq::dr::ds::dt::dv::dw::dx::dy::dz::dB::dC::dD::dE::dF::dG::dH::dI::dJ::dK::dM::dN::dO::dP::dQ::dR::dS::dT::dU::dV::dX::dY::dZ::ea::eb::ec::ed::ee::ef::eg::ei::ej::em::en::eo::ep::eq::er::es::et::ew::ex::ey::ez::eA::eB::eC::eD::eE::eF::eH::eI::eJ::eK::eL::eM::eN::eO::eP::eQ::eS::eT::eU::eV::eW::eX::eY::eZ::e2::e3::e5::e6::ap::aq::ar::av::aw::ax::ay::az::aA::aB::aC::aD::aE::aF::aG::[]).toArray,[]⟩ w:=by
 have HX:Hid _:=@aY
 clear aY
 have hM:∀W,Below w.heap.size w W->∃m:Int,W.cell? ⟨0,0,none⟩=some (.int .i64 m):=λW hW=>(HE W (aX.trans (hW.mono aX.size))).mx
 conv=>arg 2;arg 1;whnf
 go_loopw[9,11,12] (λiv mv nv wr=>∃(sj:List UInt8) (a:List (List UInt8)) (d:List LK) (C D:Option Addr) (v B z G:Nat),iv=.int .i64 ((pos p sj:Nat):Int)/\mv=.slice C v B/\nv=.slice D z G/\v=d.length/\z=a.length/\Hid (aBs w p R (.slice C v B) (.slice D z G) wr sj a d)) (λiv _ _ _=>p.size-(intOf iv).toNat)
 case atStart=>exact⟨R,[],[],none,none,0,0,0,0,rfl,rfl,rfl,rfl,rfl,⟨by have:=hS.len;simp;omega,by have:=hS.len;simp;omega,hS,jr _ _,jT _ _ _ _,jT _ _ _ _,by simp⟩⟩
 case round=>
  obtain⟨sj,a,d,C,D,v,B,z,G,rfl,rfl,rfl,gr,gs,i⟩:=hrel
  have aM:Hid (v=d.length):=gr
  have o:Hid (z=a.length):=gs
  have r:wr.cell? ⟨g,0,none⟩=some (.string p):=(i.out.bel.cell (p:=⟨g,0,none⟩) gy).trans hg
  clear gr gs
  cases sj with
  |nil=>
   have j:pos p []=p.size:=rfl
   rw[j]
   have lq:decide ((p.size:Int)<(p.size:Int))=false:=by simp
   have HF:=i.out.nil
   have aK:Hid (aBt w p (aRI aQJ [] R) (.int .i64 ((p.size:Nat):Int)) (.slice C v B) wr):=HF
   clear HF hS j i
   go_wp2_with fail
   exact HX.out _ _ _ _ aK.out
  |cons c t=>
   obtain⟨k,ek,j,gC,f⟩:=aCe i.out.suf
   have lq:(k:Int)<(p.size:Int):=by omega
   have lt:IntKind.i64.wrap ((k:Int)+1)=((k+1:Nat):Int):=by rw[ju];omega
   have S:Hid (Calls prog 109 #[.int .i64 (k:Int),.pointer (some ⟨g,0,none⟩)] wr λe w'=>e=.returned (.bool (spB c))/\w'=wr):=by rw[<-gC];exact aPI g p k j wr r
   rw[ek]
   by_cases gq:c=62
   ·subst gq
    have aK:Hid (aBt w p (aRI aQJ [] R) (.int .i64 (k:Int)) (.slice C v B) wr):=i.out.fin ek
    clear i S f
    go_wp2_with fail
    exact HX.out _ _ _ _ aK.out
   ·have gE:c≠62:=gq
    have ll:((c.toNat:Int) !=62)=true:=by rw[jbb];intro e;exact gE (by rw[<-jM];exact jal e)
    cases hs:spB c with
    |true=>
     rw[hs]at S
     have aR:Hid (aBs w p R (.slice C v B) (.slice D z G) wr t a d):=i.out.gap (by unfold aIt;rw[hs];rfl)
     clear i
     go_wp2_with fail
     refine S.out.mono ?_
     rintro e w' ⟨rfl,P⟩
     have l:=P.symm
     subst l
     clear S
     go_wp2_with fail
     go_roundw
     case rel=>exact⟨t,a,d,C,D,v,B,z,G,by rw[f];rfl,rfl,rfl,aM.out,o.out,aR⟩
     case measure=>simp[intOf];omega
    |false=>
     rw[hs]at S
     by_cases gp:c=47
     ·subst gp
      have aR:Hid (aBs w p R (.slice C v B) (.slice D z G) wr t a d):=i.out.gap rfl
      clear i
      go_wp2_with fail
      refine S.out.mono ?_
      rintro e w' ⟨rfl,P⟩
      have l:=P.symm
      subst l
      clear S
      go_wp2_with fail
      go_roundw
      case rel=>exact⟨t,a,d,C,D,v,B,z,G,by rw[f];rfl,rfl,rfl,aM.out,o.out,aR⟩
      case measure=>simp[intOf];omega
     ·have gD:c≠47:=gp
      have lk:((c.toNat:Int)==47)=false:=by rw[jg];intro e;exact gD (by rw[<-jM];exact jal e)
      have gw:Suf p t:=i.out.suf.tl
      go_wp2_with fail
      refine S.out.mono ?_
      rintro e w' ⟨rfl,P⟩
      have l:=P.symm
      subst l
      clear S
      go_wp2_with fail
      have gA:(k:Int)+1=((pos p t:Nat):Int):=by rw[f];rfl
      rw[gA]
      refine lk5 g p hp t gw wr r _ ?_
      intro lI lJ lK lL lM lN lO lP lQ lR lS lT lU lV lW lX lY lZ l0 l1 l2 l3 l4 l5 l6 l7 l8 l9 ma mb
      obtain⟨n,H⟩:∃u,t.dropWhile aIr=u:=⟨_,rfl⟩
      have I:Suf p n:=by rw[<-H];exact gw.dw _
      have aS:Hid (t.dropWhile aIr=n):=H
      have N:aLm (c::t)++n=c::t:=by rw[<-H];show c::(t.takeWhile aIr++t.dropWhile aIr)=_;rw[jak]
      have lw:p.extract k (pos p n)=lba (aLm (c::t)):=by rw[<-ek];exact aF6 i.out.suf N
      have O:pos p n=k+(aLm (c::t)).length:=by rw[<-ek];exact aND i.out.suf N
      have os:(k:Int)<=((pos p n:Nat):Int):=by omega
      have ot:((pos p n:Nat):Int)<=(p.size:Int):=by have:=aNB p n;omega
      rw[H]
      have lr:(aLm (c::t)).length<=4000:=by have:=jab List.length N;have:=i.out.suf.len;rw[je]at*;omega
      have aH:Hid (∀W,Calls prog 100 #[.string (lba (aLm (c::t)))] W λe w'=>e=.returned (.string (lba (aQJ (aLm (c::t)))))/\Below W.heap.size W w'):=λW=>aPG (lba (aLm (c::t))) W (by rw[aJC];omega)
      have op:Hid (aLm (c::t)++n=c::t):=N
      obtain⟨nm,aV⟩:∃x,aLm (c::t)=x:=⟨_,rfl⟩
      have ld:Hid (aLm (c::t)=nm):=aV
      rw[aV]at lw aH O
      have oq:Hid (pos p n=k+nm.length):=O
      have or:Hid (pos p t=k+1):=f
      have lc:Hid (pos p (c::t)=k):=ek
      clear N lr H aV gA O f ek gC lk ll lt
      go_wp2_with fail
      refine(aH.out _).mono ?_
      rintro e E ⟨rfl,y⟩
      have Y:E.cell? ⟨g,0,none⟩=some (.string p):=(y.cell (p:=⟨g,0,none⟩) (ji wr _ r)).trans r
      go_wp2_with fail
      refine lk6 g p hp n I E Y _ ?_
      intro mc md me mf mg mh mi mj mk ml mm
      obtain⟨yb,V⟩:∃u,n.dropWhile spB=u:=⟨_,rfl⟩
      have J:Suf p yb:=by rw[<-V];exact I.dw _
      have aT:Hid (n.dropWhile spB=yb):=V
      rw[V]
      clear V
      go_upto_region 36 with fail
      obtain⟨W2,X⟩:∃W,W=E.alloc (.cells #[.int .i64 (-1),.int .i64 0,.string ⟨#[]⟩] 40):=⟨_,rfl⟩
      have B2:Below E.heap.size E W2:=by rw[X];exact(jr _ _).alloc (jf _) _
      have Q2:W2.heap[E.heap.size]?=some (.cells #[.int .i64 (-1),.int .i64 0,.string ⟨#[]⟩] 40):=by rw[X];exact aKx _ _
      have aZ:W2.cell? ⟨g,0,none⟩=some (.string p):=(B2.cell (p:=⟨g,0,none⟩) (ji E _ Y)).trans Y
      rw[<-X]
      clear X aH
      obtain⟨L,hL⟩:∃L,E.heap.size=L:=⟨_,rfl⟩
      have HL:Hid (E.heap.size=L):=hL
      rw[hL]at Q2 B2⊢
      clear hL
      refine aKr g p yb J W2 aZ _ ?_
      intro mn mo mp mq mr ms mw mx my
      go_upto_if 196 with fail
      have lo:g≠L:=by have h1:=i.out.bel.size;have h2:=y.size;have h3:=HL.out;omega
      refine aKt g p hp n yb I J E W2 L B2 Q2 lo aZ _ ?_
      intro ov mz mA mB mC mD mE mF mG mH mI mJ mK mL mM mN mO mP mQ mR mS mT mU mV mW mX mY mZ m0 m1 m2 m3 m4 m5 m6 m7 m8 m9 na nb nc nd ne nf ng nh ni nj nk nl nn no np nr ns nt nw nx ny nz nA nB nC nD nE nF nG nH nI nJ nK nL nM nN nO nP nQ nR nS nT nU nV yd A HA
      have F:Hid (LkA E p n yb L yd A):=HA
      have M:Below wr.heap.size wr A:=by
       have h3:=HL.out
       have h4:=HA.1
       rw[<-h3]at h4
       exact y.trans (h4.mono y.size)
      have gz:A.cell? ⟨g,0,none⟩=some (.string p):=(M.cell (p:=⟨g,0,none⟩) (ji wr _ r)).trans r
      have gv:L<A.heap.size:=by
       rcases HA.2.2 with⟨_,_,h5⟩|⟨_,_,_,h5⟩<;>(rw[jl]at h5;exact h5.1)
      have gt:wr.heap.size<=L:=by have:=y.size;have:=HL.out;omega
      have aP:Hid (A.ownsRow w.heap.size 40 3 (.slice C v B) d.length (lv p.size d)):=aMm i.out.om M
      have T:Hid (A.ownsRow w.heap.size 9 1 (.slice D z G) a.length (a.map λx=>Value.string (lba x))):=aMm i.out.on M
      have aQ:Hid (∀k,(Value.slice C v B).ownBlock=some k->w.heap.size<=k/\k<L):=λk j=>by have:=i.out.om.lt k j;omega
      have a6:Hid (∀k,(Value.slice D z G).ownBlock=some k->w.heap.size<=k/\k<L):=λk j=>by have:=i.out.on.lt k j;omega
      have aI:Hid (Below w.heap.size w A):=i.out.bel.trans (M.mono i.out.bel.size)
      have q:Hid (w.heap.size<=L/\L<A.heap.size):=⟨j1 i.out.bel.size gt,gv⟩
      have aL:Hid (d.length<=4000/\a.length<=4000):=⟨by have:=i.out.la;omega,by have:=i.out.ls;omega⟩
      have a5:Hid (aAT A D a):=by have h:=T.out;rw[<-o.out]at h;exact aAT.of_own h
      clear B2 Q2 aZ M gv gt HA Y y
      go_upto_region 49 with fail
      refine aKs p E A n yb yd L F.out (aQJ nm) a D z G o.out aL.out.2 a5.out _ ?_
      intro nW nX nY nZ n0 n1 n2 n3 n4 n5 n6 n7 n8 n9 oa ob b x a7
      have aU:Hid (LkX p yb L A (aQJ nm) a b x):=a7
      clear a7
      go_upto_if 294 with fail
      refine lkM g p hp A b w.heap.size d C v B aM.out L x aP.out (jds (Nat.lt_of_le_of_lt q.out.1 q.out.2)) (λk j=>by have:=aQ.out k j;omega) q.out.2 (aU.out.cells J) aL.out.1 gz (hM A aI.out) _ ?_
      intro oc od oe of og oh oi oj ok ol om on oo s wy gB aW
      have aJ:Hid (Below w.heap.size w wy):=aW.below aI.out (jds (Nat.lt_of_le_of_lt q.out.1 q.out.2)) q.out.1 (λk j=>(aQ.out k j).1)
      have U:Hid (wy.ownsRow w.heap.size 9 1 (.slice D a.length G) a.length (a.map λx=>Value.string (lba x))):=by
       have h:=aW.owns T.out (λk j=>⟨by have:=a6.out k j;omega,λe=>by
        rcases aPv T.out aP.out (by decide)with h2|h2
        ·rw[h2]at j;cases j
        ·exact h2 (j.trans e)⟩)
       rw[o.out]at h
       exact h
      have aN:Hid (wy.ownsRow w.heap.size 40 3 s (d++aBI b x).length (lv p.size (d++aBI b x))):=gB
      have ls:w.heap.size<=wy.heap.size:=aJ.out.size
      have lG:=aL.out.2
      obtain⟨i1,hi,lx,ly,lz⟩:=jao aIM
      obtain rfl:z=a.length:=o.out
      clear aW gB gz o a6 aQ aP T aI q a5 r gy hg aX
      go_wp2_with (at_builtin;refine jX _ rfl (.tmp 308) (.tmp 310) 26 rfl w.heap.size 9 i1 (.string ⟨#[]⟩) 1 16 underlying26 hi lx ly lz rfl (by decide) _ _ _ rfl (U.out.alloc _) ⟨wy.heap.size,0,none⟩ 1 1 [.string (lba (aQJ nm))] rfl rfl (aDI _ _ _) (aLZ _) ?d1 ?d2 ?d3 ?_)
      case d1=>unfold maxLen;omega
      case d2=>omega
      case d3=>simp;omega
      intro Z wz a2 a0 _
      have a3:Hid (Below w.heap.size w wz):=(aJ.out.alloc ls _).grown a0 (by simp;omega) (λk j=>(U.out.lt k j).1)
      have aO:Hid (wz.ownsRow w.heap.size 40 3 s (d++aBI b x).length (lv p.size (d++aBI b x))):=(aN.out.alloc _).kept a0 (aPv aN.out U.out (by decide))
      have gx:aIt c=false:=by unfold aIt;rw[hs];simpa using gD
      have a4:Hid (aBs w p R s Z wz yd (a++[aQJ nm]) (d++aBI b x)):=by
       have a1:=ld.out
       have h:=i.out.next (u11:=s) (u12:=Z) (wz:=wz) gE gx F.out aS.out aT.out (b:=b) (x:=x) (by rw[a1];exact aU.out.mine aS.out aT.out) a3.out aO.out (by rw[a1];exact a2)
       rw[a1]at h
       exact h
      have lH:=F.out.len (c:=c) aS.out aT.out
      have lp:=F.out.2.1
      obtain⟨lA,li,rfl,_⟩:=aQC aO.out
      obtain⟨lB,lj,rfl,_⟩:=aQC a2
      clear aN U aJ a2 a0 aO a3 F aU
      go_wp2_with fail
      go_roundw
      case rel=>exact⟨yd,a++[aQJ nm],d++aBI b x,lA,lB,_,li,_,lj,rfl,rfl,rfl,rfl,by simp,a4⟩
      case measure=>have h1:=lp.len;have h2:=i.out.suf.len;have h3:=lc.out;unfold pos at*;simp only[jm]at*;simp[intOf];omega
theorem lk1(w0:World)(HE:aAI w0)(g:Nat)(p:ByteArray)(hp:p.size<=4000)(b:List UInt8)(eH:p.data.toList=b)(w:World)(dX:Below w0.heap.size w0 w)(m1:g<w.heap.size)(hg:w.cell? ⟨g,0,none⟩=some (.string p)){c0 c1 c2 c3 lC lD lE lF lG lH lI ep eq er es et lJ lK lL lM lN lO lP lQ lR lS lT lU lV lW lX lY lZ l0 l1 l2 l3 l4 l5 l6 l7 l8 l9 ma mb mc md me mf mg mh mi mj mk ml mm mn mo mp mq mr ms mv mw mx my mz mA mB mC mD mE mF mG mH mI mJ mK mL mM mN mO mP mQ mR mS mT mU mV mW mX mY mZ m0 gm gn go gp gq gr gs gt gv gw gx gy gz gA gB gC gD gE gF gG gH gI gJ gK gL gM gN gO gP gQ gR gS gT gU gV gW gX gY gZ g0 g1 g2 g3 g4 g5 g6 g7 g8 g9 ha hb hc hd he hf hh hi hj hl hm hn ho hq hs ht hv hw hx hy hz hA hB hC hD hE hF hG hH hI hJ hK hL hN hO hP hQ hR hS hT hU hV hX hY hZ h0 h5 h6 h7 h8 h9 ia ib ic ie ig ih ii ij ik il im io ip iq ir is it iw ix iy iz iA iB iC iD iE iF iG iH iI iJ iK iL iM iN iO iP iQ iR iS iT iU iV iW iX iY iZ i0 i1 i2 i3 i4 i5 i6 i7 i8 i9 ka kb kc kd ke kf kg kh ki kj kk kl km kn ko kp kq kr ks kt kv kw kx ky kz kA kB kC kD kE kF kG kH kI kJ kK kL kM kN kO kP kQ kR kS kT kU kV kW kX kY kZ k0 k1 k2 k3 k5 k6 k7 k8 k9 la lb lc ld le lf lg lh li E:Value}(Q:Exit->Act->World->Prop)
  (eD:∀{u2 u3 u9 eJ u11 u12 eK eL eM eN eO eP eQ eR eS eT eU eV eW eX eY eZ e2 e3 e4 e5 e6 e7 e8 e9 fa fb fc fd fe ff fg fh fi fj fk fl fm fn fo fp fq fr fs ft fv fw fx fy fz fA fB fC fD fE fF fG fH fI fJ fK fL fM fN fO fP fQ fR fS fT fU fV fW fX fY fZ ga gb gc gd ge gf gg M N O P S T U V X Y Z aa ab ac ad ae af ag ah ai aj ak al am an ao ap aq ar av aw ax ay az aA aB aC aD aE aF aG aH aI aJ aK aL aM aN aO aP aQ aR aS aT aU aV aW aX aY aZ a0 a1 a2 a3 a4 a6 a7 a8 a9 bb bc bd be bf bg bh bi bj bk bl bm bn bo bp bq br bs bt bw bx bz bA bB bC bD bE bF bG bH bI bJ bK bL bM bN bO bP bQ bR bS bT bU bV bW bX bY bZ b0 b1 b2 b3 b4 b5 b6 b7 b8 b9 ca cb cc cd ce cf cg ch ci cj ck cl cm cn cp cq cr cs ct cv cw cx cy cz cA cB cC cD cE cF cG cH cI cJ cK cL cM cN cO cP cQ cR cS cT cU cV cW cX cY cZ c7 c8 c9 da db dc dd de df dg dh di dj dk dl dm dn dp dq dr ds dt dv dw dx dy dz dA dB dC dD dE dF dG dH dI dJ dK dL dM dN dO dP dQ dR dS dT dU dV:Value}(v4:Value),∀(wr:World) (a:List LK),aGz aQJ b=some a->Below w.heap.size w wr->wr.ownsRow w.heap.size 40 3 v4 a.length (lv p.size a)->Q (.exit 0) ⟨(c0::c1::u2::u3::v4::.pointer (some ⟨g,0,none⟩)::.func (Fn.func 109) #[] #[.pointer (some ⟨g,0,none⟩)]::.func (Fn.func 110) #[] #[.pointer (some ⟨g,0,none⟩)]::.func (Fn.func 112) #[] #[.pointer (some ⟨g,0,none⟩)]::u9::eJ::u11::u12::eK::eL::eM::eN::ep::eq::er::es::et::eO::eP::eQ::eR::eS::eT::eU::eV::eW::eX::eY::eZ::e2::e3::e4::e5::e6::e7::e8::e9::fa::fb::fc::fd::fe::ff::fg::fh::fi::fj::fk::fl::fm::fn::fo::fp::fq::fr::fs::ft::fv::fw::fx::fy::fz::fA::fB::fC::fD::fE::fF::fG::fH::fI::fJ::fK::fL::fM::fN::fO::fP::fQ::fR::fS::fT::fU::fV::fW::fX::fY::fZ::ga::gb::gc::gd::ge::gf::gg::M::N::O::P::S::T::U::V::X::Y::Z::aa::ab::ac::ad::ae::af::ag::ah::ai::aj::ak::al::am::an::ao::ap::aq::ar::av::aw::ax::ay::az::aA::aB::aC::aD::aE::aF::aG::aH::aI::aJ::aK::aL::aM::aN::aO::aP::aQ::aR::aS::aT::aU::aV::aW::aX::aY::aZ::a0::a1::a2::a3::a4::a6::a7::a8::a9::bb::bc::bd::be::bf::bg::bh::bi::bj::bk::bl::bm::bn::bo::bp::bq::br::bs::bt::bw::bx::bz::bA::bB::bC::bD::bE::bF::bG::bH::bI::bJ::bK::bL::bM::bN::bO::bP::bQ::bR::bS::bT::bU::bV::bW::bX::bY::bZ::b0::b1::b2::b3::b4::b5::b6::b7::b8::b9::ca::cb::cc::cd::ce::cf::cg::ch::ci::cj::ck::cl::cm::cn::cp::cq::cr::cs::ct::cv::cw::cx::cy::cz::cA::cB::cC::cD::cE::cF::cG::cH::cI::cJ::cK::cL::cM::cN::cO::cP::cQ::cR::cS::cT::cU::cV::cW::cX::cY::cZ::c7::c8::c9::da::db::dc::dd::de::df::dg::dh::di::dj::dk::dl::dm::dn::dp::dq::dr::ds::dt::dv::dw::dx::dy::dz::dA::dB::dC::dD::dE::dF::dG::dH::dI::dJ::dK::dL::dM::dN::dO::dP::dQ::dR::dS::dT::dU::dV::E::[]).toArray,[]⟩ wr)
  (lw:∀{u9 eJ u11 u12 eK eL eM eN eO eP eQ eR eS eT eU eV eW eX eY eZ e2 e3 e4 e5 e6 e7 e8 e9 fa fb fc fd fe ff fg fh fi fj fk fl fm fn fo fp fq fr fs ft fv fw fx fy fz fA fB fC fD fE fF fG fH fI fJ fK fL fM fN fO fP fQ fR fS fT fU fV fW fX fY fZ ga gb gc gd ge gf gg M N O P S T U V X Y Z aa ab ac ad ae af ag ah ai aj ak al am an ao ap aq ar av aw ax ay az aA aB aC aD aE aF aG aH aI aJ aK aL aM aN aO aP aQ aR aS aT aU aV aW aX aY aZ a0 a1 a2 a3 a4 a6 a7 a8 a9 bb bc bd be bf bg bh bi bj bk bl bm bn bo bp bq br bs bt bw bx bz bA bB bC bD bE bF bG bH bI bJ bK bL bM bN bO bP bQ bR bS bT bU bV bW bX bY bZ b0 b1 b2 b3 b4 b5 b6 b7 b8 b9 ca cb cc cd ce cf cg ch ci cj ck cl cm cn cp cq cr cs ct cv cw cx cy cz cA cB cC cD cE cF cG cH cI cJ cK cL cM cN cO cP cQ cR cS cT cU cV cW cX cY cZ c7 c8 c9 da db dc dd de df dg dh di dj dk dl dm dn dp dq dr ds dt dv dw dx dy dz dA dB dC dD dE dF dG dH dI dJ dK dL dM dN dO dP dQ dR dS dT dU dV:Value}(v4:Value),∀(wr:World),aGz aQJ b=none->Below w.heap.size w wr->Q .ret ⟨(c0::c1::.slice none 0 0::.int .i64 2::v4::.pointer (some ⟨g,0,none⟩)::.func (Fn.func 109) #[] #[.pointer (some ⟨g,0,none⟩)]::.func (Fn.func 110) #[] #[.pointer (some ⟨g,0,none⟩)]::.func (Fn.func 112) #[] #[.pointer (some ⟨g,0,none⟩)]::u9::eJ::u11::u12::eK::eL::eM::eN::ep::eq::er::es::et::eO::eP::eQ::eR::eS::eT::eU::eV::eW::eX::eY::eZ::e2::e3::e4::e5::e6::e7::e8::e9::fa::fb::fc::fd::fe::ff::fg::fh::fi::fj::fk::fl::fm::fn::fo::fp::fq::fr::fs::ft::fv::fw::fx::fy::fz::fA::fB::fC::fD::fE::fF::fG::fH::fI::fJ::fK::fL::fM::fN::fO::fP::fQ::fR::fS::fT::fU::fV::fW::fX::fY::fZ::ga::gb::gc::gd::ge::gf::gg::M::N::O::P::S::T::U::V::X::Y::Z::aa::ab::ac::ad::ae::af::ag::ah::ai::aj::ak::al::am::an::ao::ap::aq::ar::av::aw::ax::ay::az::aA::aB::aC::aD::aE::aF::aG::aH::aI::aJ::aK::aL::aM::aN::aO::aP::aQ::aR::aS::aT::aU::aV::aW::aX::aY::aZ::a0::a1::a2::a3::a4::a6::a7::a8::a9::bb::bc::bd::be::bf::bg::bh::bi::bj::bk::bl::bm::bn::bo::bp::bq::br::bs::bt::bw::bx::bz::bA::bB::bC::bD::bE::bF::bG::bH::bI::bJ::bK::bL::bM::bN::bO::bP::bQ::bR::bS::bT::bU::bV::bW::bX::bY::bZ::b0::b1::b2::b3::b4::b5::b6::b7::b8::b9::ca::cb::cc::cd::ce::cf::cg::ch::ci::cj::ck::cl::cm::cn::cp::cq::cr::cs::ct::cv::cw::cx::cy::cz::cA::cB::cC::cD::cE::cF::cG::cH::cI::cJ::cK::cL::cM::cN::cO::cP::cQ::cR::cS::cT::cU::cV::cW::cX::cY::cZ::c7::c8::c9::da::db::dc::dd::de::df::dg::dh::di::dj::dk::dl::dm::dn::dp::dq::dr::ds::dt::dv::dw::dx::dy::dz::dA::dB::dC::dD::dE::dF::dG::dH::dI::dJ::dK::dL::dM::dN::dO::dP::dQ::dR::dS::dT::dU::dV::E::[]).toArray,[]⟩ wr):
  Code.wp prog (Code.loop (aKD f58 0)) Q ⟨(c0::c1::c2::c3::.slice none 0 0::.pointer (some ⟨g,0,none⟩)::.func (Fn.func 109) #[] #[.pointer (some ⟨g,0,none⟩)]::.func (Fn.func 110) #[] #[.pointer (some ⟨g,0,none⟩)]::.func (Fn.func 112) #[] #[.pointer (some ⟨g,0,none⟩)]::.int .i64 0::lC::lD::lE::lF::lG::lH::lI::ep::eq::er::es::et::lJ::lK::lL::lM::lN::lO::lP::lQ::lR::lS::lT::lU::lV::lW::lX::lY::lZ::l0::l1::l2::l3::l4::l5::l6::l7::l8::l9::ma::mb::mc::md::me::mf::mg::mh::mi::mj::mk::ml::mm::mn::mo::mp::mq::mr::ms::mv::mw::mx::my::mz::mA::mB::mC::mD::mE::mF::mG::mH::mI::mJ::mK::mL::mM::mN::mO::mP::mQ::mR::mS::mT::mU::mV::mW::mX::mY::mZ::m0::gm::gn::go::gp::gq::gr::gs::gt::gv::gw::gx::gy::gz::gA::gB::gC::gD::gE::gF::gG::gH::gI::gJ::gK::gL::gM::gN::gO::gP::gQ::gR::gS::gT::gU::gV::gW::gX::gY::gZ::g0::g1::g2::g3::g4::g5::g6::g7::g8::g9::ha::hb::hc::hd::he::hf::hh::hi::hj::hl::hm::hn::ho::hq::hs::ht::hv::hw::hx::hy::hz::hA::hB::hC::hD::hE::hF::hG::hH::hI::hJ::hK::hL::hN::hO::hP::hQ::hR::hS::hT::hU::hV::hX::hY::hZ::h0::h5::h6::h7::h8::h9::ia::ib::ic::ie::ig::ih::ii::ij::ik::il::im::io::ip::iq::ir::is::it::iw::ix::iy::iz::iA::iB::iC::iD::iE::iF::iG::iH::iI::iJ::iK::iL::iM::iN::iO::iP::iQ::iR::iS::iT::iU::iV::iW::iX::iY::iZ::i0::i1::i2::i3::i4::i5::i6::i7::i8::i9::ka::kb::kc::kd::ke::kf::kg::kh::ki::kj::kk::kl::km::kn::ko::kp::kq::kr::ks::kt::kv::kw::kx::ky::kz::kA::kB::kC::kD::kE::kF::kG::kH::kI::kJ::kK::kL::kM::kN::kO::kP::kQ::kR::kS::kT::kU::kV::kW::kX::kY::kZ::k0::k1::k2::k3::k5::k6::k7::k8::k9::la::lb::lc::ld::le::lf::lg::lh::li::E::[]).toArray,[]⟩ w:=by
 have HX:Hid _:=@eD
 have HR:Hid _:=@lw
 clear eD lw
 have hM:∀W,Below w.heap.size w W->∃m:Int,W.cell? ⟨0,0,none⟩=some (.int .i64 m):=λW hW=>(HE W (dX.trans (hW.mono dX.size))).mx
 have lx:p.size=b.length:=by rw[<-eH];exact Lib.size_eq p
 have gh:aAy w p b (.slice none 0 0) w b []:=⟨by simp,by unfold Suf;rw[eH];exact List.suffix_refl _,jr _ _,jT _ _ _ _,by unfold aGz;rw[jh (by omega)]⟩
 have ly:(Value.int .i64 0)=.int .i64 ((pos p b:Nat):Int):=by unfold pos;rw[lx,jbh];rfl
 conv=>arg 2;arg 1;whnf
 go_loopw[4,9] (λov iv wr=>∃(sj:List UInt8) (a:List LK) (A:Option Addr) (lo co:Nat),iv=.int .i64 ((pos p sj:Nat):Int)/\ov=.slice A lo co/\lo=a.length/\Hid (aAy w p b (.slice A lo co) wr sj a)) (λ_ iv _=>p.size-(intOf iv).toNat)
 case atStart=>exact⟨b,[],none,0,0,ly,rfl,rfl,gh⟩
 case round=>
  obtain⟨sj,a,A,lo,co,rfl,rfl,rfl,i⟩:=hrel
  have y:wr.cell? ⟨g,0,none⟩=some (.string p):=(i.out.bel.cell (p:=⟨g,0,none⟩) m1).trans hg
  clear ly gh lx eH
  cases sj with
  |nil=>
   have hk:pos p []=p.size:=rfl
   rw[hk]
   have m2:decide ((p.size:Int)<(p.size:Int))=false:=by simp
   clear hk
   go_wp2_with fail
   exact HX.out _ _ _ i.out.fin i.out.bel i.out.own
  |cons c t=>
   obtain⟨k,ek,hk,qR,z⟩:=aCe i.out.suf
   have m2:(k:Int)<(p.size:Int):=by omega
   have m8:IntKind.i64.wrap ((k:Int)+1)=((k+1:Nat):Int):=by rw[ju];omega
   have m9:IntKind.i64.wrap ((k:Int)+4)=((k+4:Nat):Int):=by rw[ju];omega
   have hst:t.length+1<=p.size:=i.out.suf.len
   have ej:Hid (pos p t=k+1):=z
   have l:Hid (pos p (c::t)=k):=ek
   rw[ek]
   by_cases ev:c=60
   ·subst ev
    have s:Suf p (60::t):=i.out.suf
    clear z ek
    go_upto_region 10 with fail
    rw[<-l.out]
    refine aKn g p hp (60::t) s wr y _ ?_
    intro qX qY qZ
    rw[l.out]
    cases j:aEm.isPrefixOf (60::t)with
    |true=>
     have h4:pos p ((60::t).drop 4)=k+4:=by rw[aNN s 4 (aNO j),l.out]
     have CB:Hid (Calls prog 112 #[.int .i64 ((k+4:Nat):Int),.string ⟨#[45,45,62]⟩,.pointer (some ⟨g,0,none⟩)] wr λe w'=>e=.returned (.int .i64 ((pos p (aCT aEl ((60::t).drop 4)):Nat):Int))/\w'=wr):=aOI g p ⟨#[45,45,62]⟩ ((60::t).drop 4) (s.dr 4) (by decide) hp (k+4) h4.symm wr (hM wr i.out.bel) y
     have f:Hid (aAy w p b (.slice A a.length co) wr (aCT aEl ((60::t).drop 4)) a):=i.out.pass (aJq j) (jr _ _)
     have eF:=(i.out.piece (aJq j)).2.1
     generalize aCT aEl ((60::t).drop 4)=R at*
     clear h4 j
     have ey:=f.out.suf
     go_wp2_with fail
     refine CB.out.mono ?_
     rintro e w' ⟨rfl,eI⟩
     have L:=eI.symm
     subst L
     clear CB
     go_wp2_with fail
     go_roundw
     case rel=>exact⟨R,a,A,_,co,rfl,rfl,rfl,f⟩
     case measure=>have h1:=ey.len;have h2:=l.out;unfold pos at*;simp only[jm]at*;simp[intOf];omega
    |false=>as_aux_lemma=>
     go_upto_region 12 with fail
     rw[<-l.out]
     refine aKo g p hp (60::t) s wr y _ ?_
     intro q0 q1 q2 q3 q4 q5 q6 q7 q8
     rw[l.out]
     cases G:(([60,33]:List UInt8).isPrefixOf (60::t)||([60,63]:List UInt8).isPrefixOf (60::t))with
     |true=>
      have CB:Hid (Calls prog 112 #[.int .i64 (k:Int),.string ⟨#[62]⟩,.pointer (some ⟨g,0,none⟩)] wr λe w'=>e=.returned (.int .i64 ((pos p (aCT [62] (60::t)):Nat):Int))/\w'=wr):=aOI g p ⟨#[62]⟩ (60::t) s (by decide) hp k l.out.symm wr (hM wr i.out.bel) y
      have f:Hid (aAy w p b (.slice A a.length co) wr (aCT [62] (60::t)) a):=i.out.pass (aJr j G) (jr _ _)
      have eF:=(i.out.piece (aJr j G)).2.1
      generalize aCT [62] (60::t)=R at*
      clear j G
      have ey:=f.out.suf
      go_wp2_with fail
      refine CB.out.mono ?_
      rintro e w' ⟨rfl,eI⟩
      have L:=eI.symm
      subst L
      clear CB
      go_wp2_with fail
      go_roundw
      case rel=>exact⟨R,a,A,_,co,rfl,rfl,rfl,f⟩
      case measure=>have h1:=ey.len;have h2:=l.out;unfold pos at*;simp only[jm]at*;simp[intOf];omega
     |false=>as_aux_lemma=>
      have D:Hid (aEm.isPrefixOf (60::t)=false):=j
      have eh:Hid ((([60,33]:List UInt8).isPrefixOf (60::t)||([60,63]:List UInt8).isPrefixOf (60::t))=false):=G
      clear j G
      go_upto_region 14 with fail
      rw[<-l.out]
      refine aKp g p hp (60::t) s wr y _ ?_
      intro q9 ra rb rc re rf rh ri rj w1 dY
      obtain⟨v,ew⟩:∃x,aRw [60,47] (60::t)=x:=⟨_,rfl⟩
      have gl:Hid (aRw [60,47] (60::t)=v):=ew
      rw[ew]
      clear ew
      have dZ:w1.cell? ⟨g,0,none⟩=some (.string p):=(dY.cell (p:=⟨g,0,none⟩) (ji wr _ y)).trans y
      rw[l.out]
      go_upto_region 15 with fail
      rw[<-l.out]
      refine aKq g p hp (60::t) s w1 dZ v _ ?_
      intro rk rl rm rn ro rp rq rr w2 eA
      have o:Below wr.heap.size wr w2:=dY.trans (eA.mono dY.size)
      have H:w2.cell? ⟨g,0,none⟩=some (.string p):=(eA.cell (p:=⟨g,0,none⟩) (ji w1 _ dZ)).trans dZ
      clear dY dZ eA
      rw[l.out]
      cases ea:(!v&&!aH9 ((60::t).drop 1))with
      |true=>
       have f:Hid (aAy w p b (.slice A a.length co) w2 t a):=i.out.pass (aJt D.out eh.out (by rw[gl.out];exact ea)) o
       clear ea i o
       go_wp2_with fail
       go_roundw
       case rel=>exact⟨t,a,A,_,co,by rw[ej.out];rfl,rfl,rfl,f⟩
       case measure=>simp[intOf];omega
      |false=>as_aux_lemma=>
       have eo:Hid (aMT aQJ (60::t)=(if v=true then []else(aRI aQJ [] (aQ9 v t)).1.getD [],(aRI aQJ [] (aQ9 v t)).2)):=aJv D.out eh.out gl.out ea
       have ez:Suf p t:=s.tl
       have lr:(k:Int)+1=((pos p t:Nat):Int):=by rw[ej.out];rfl
       have eb:Hid ((k:Int)+1=((pos p t:Nat):Int)):=lr
       clear ea lr D eh
       go_wp2_with fail
       rw[eb.out]
       refine lk2 g p hp t ez w2 H v _ ?_
       intro rs rt rv rx ry rz rA rB rC rD rE rF rG rH rI
       have F:Suf p (t.dropWhile (slB v)):=ez.dw _
       go_wp2_with fail
       refine lk3 g p hp (t.dropWhile (slB v)) F w2 H _ ?_
       intro rJ rK rL rM rN rO rP rQ rR nf ng nh ni nj nk nl nm no np nr ns nt nv nw
       have ed:Suf p (aQ9 v t):=F.dw _
       rw[show(t.dropWhile (slB v)).dropWhile aIv=aQ9 v t from rfl]
       have ef:g<w2.heap.size:=ji w2 _ H
       have lA:Hid (Below w.heap.size w w2):=i.out.bel.trans (o.mono i.out.bel.size)
       generalize aQ9 v t=s0 at*
       go_wp2_with fail
       refine lk4 w0 HE g p hp s0 ed w2 (dX.trans (lA.out.mono dX.size)) ef H _ ?_
       intro qT qU qV qW nx ny nz nA nB nC nD nE nF nG nH nI nJ nK nL nM nN nO nP nQ nR nS nT nU nV nW nX nY nZ n0 n1 n2 n3 n4 n5 n6 n7 n8 n9 oa ob oc od oe of og oh oi oj ok ol om on oo op oq or os ot ow ox oy oz oA oB oC oD oE oF oG oH oI oJ oK oL oM oN oO oP oQ oR oS oT oU oV oW oX oY oZ o0 o1 o2 o3 o4 o5 o6 o7 o8 o9 pa pb pc pd pe pf pg ph pi pj pk pl pm pn pp pq pr ps pt pv pw px py pz pA pB pC pD pE pF pG pH pI pJ pK pL pM pN pO pP pQ pR pS pT pU pV pW pX pY pZ p0 p1 p2 p3 p5 p6 p7 p8 p9 qa qb qc qd qe qf qg qh qi qj qk ql qm qn qo qp qq qr qs qt qv qw qx qy qz qA qC qD qE qF qG qH qI qJ qK qL qM qN qO v9 na rS w4 ln
       as_aux_lemma=>
       obtain⟨s4,d,rfl,ex,eB,qQ,I,eC⟩:=ln
       have nb:w4.cell? ⟨g,0,none⟩=some (.string p):=(eB.cell (p:=⟨g,0,none⟩) ef).trans H
       have ee:Below wr.heap.size wr w4:=o.trans (eB.mono o.size)
       have em:Hid (w4.ownsRow w2.heap.size 40 3 na d.length (lv p.size d)):=I
       have B:Hid (Below wr.heap.size wr w4):=ee
       clear I eB ee o ez F ed m8 m9 eb
       rcases eC with⟨rfl,hr⟩|⟨t4,rfl,hr⟩
       ·as_aux_lemma=>
        have eE:pos p []=p.size:=rfl
        have f:Hid (aAy w p b (.slice A a.length co) w4 [] a):=i.out.pass (by rw[eo.out,hr];cases v<;>rfl) B.out
        rw[eE]
        have qP:((p.size:Int)==(p.size:Int))=true:=by simp
        clear hr eE ex
        go_wp2_with fail
        exact HX.out _ _ _ f.out.fin f.out.bel f.out.own
       ·obtain⟨k4,lj,eE,m4,lq⟩:=aCe ex
        have nc:((k4:Int)==(p.size:Int))=false:=by rw[jg];omega
        have ne:IntKind.i64.wrap ((k4:Int)+1)=((k4+1:Nat):Int):=by rw[ju];omega
        have ei:Hid (pos p t4=k4+1):=lq
        rw[lj]
        have r:Hid (aMT aQJ (60::t)=(if v=true then []else d,t4)):=by unfold Hid;rw[eo.out,hr];rfl
        have eF:=(i.out.piece r.out).2.1
        have nd:k<k4+1:=by have h1:=ei.out;have h2:=l.out;have h3:=ex.len;unfold pos at*;simp only[jm]at*;omega
        clear hr eo lq lj m4
        cases v with
        |true=>
         have f:Hid (aAy w p b (.slice A a.length co) w4 t4 a):=i.out.pass r.out B.out
         have m3:=i.out.la
         have C:¬(60:Int)<((a.length:Nat):Int):=by omega
         clear i r
         go_wp2_with fail
         go_roundw
         case rel=>exact⟨t4,a,A,_,co,by rw[ei.out];rfl,rfl,rfl,f⟩
         case measure=>simp[intOf];omega
        |false=>as_aux_lemma=>
         have ls:aMT aQJ (60::t)=(d,t4):=r.out
         obtain⟨lt,m5,m6,qS⟩:=i.out.piece ls
         have dW:Hid (aGz aQJ b=(if 60<(a++d).length then none else aGw aQJ t4.length (a++d) t4)):=lt
         have HO:Hid (w4.ownsRow w.heap.size 40 3 (.slice A a.length co) a.length (lv p.size a)):=aMm i.out.own B.out
         have gi:Hid (Below w.heap.size w w4):=i.out.bel.trans (B.out.mono i.out.bel.size)
         have m3:=i.out.la
         have m7:=gi.out.size
         obtain⟨p4,c4,rfl,_⟩:=aQC em.out
         clear ls lt r m5 eF i
         go_wp2_with (at_builtin;refine aB5 rfl (.tmp 320) (.tmp 321) rfl w.heap.size _ a.length (lv p.size a) rfl HO.out _ _ p.size d rfl em.out (by omega) (by omega) ?_)
         intro v5 w5 J lp
         have ll:Below w.heap.size w w5:=gi.out.grown lp m7 (λk hk=>(HO.out.lt k hk).1)
         have q:w5.ownsRow w.heap.size 40 3 v5 (a++d).length (lv p.size (a++d)):=by rw[aKY,je];exact J
         obtain⟨a5,c5,rfl,lk,lm,_⟩:=aQC q
         have en:Hid (w5.ownsRow w.heap.size 40 3 (.slice a5 (a++d).length c5) (a++d).length (lv p.size (a++d))):=q
         have eg:Hid (Below w.heap.size w w5):=ll
         clear J lp ll q HO em lm lk
         by_cases C:60<(a++d).length
         ·have ec:(60:Int)<(((a++d).length:Nat):Int):=by omega
          have HN:Hid (aGz aQJ b=none):=by unfold Hid;rw[dW.out,jo C]
          clear dW en C
          generalize (a++d).length=nn at*
          go_wp2_with fail
          exact HR.out _ _ HN.out eg.out
         ·have ec:¬(60:Int)<(((a++d).length:Nat):Int):=by omega
          have gj:Hid (aAy w p b (.slice a5 (a++d).length c5) w5 t4 (a++d)):=⟨by omega,m6,eg.out,en.out,by rw[dW.out,jh C]⟩
          clear dW en eg C
          obtain⟨nn,eG⟩:∃n,(a++d).length=n:=⟨_,rfl⟩
          have lB:Hid ((a++d).length=nn):=eG
          rw[eG]at ec gj⊢
          clear eG
          go_wp2_with fail
          go_roundw
          case rel=>exact⟨t4,a++d,a5,nn,c5,by rw[ei.out];rfl,rfl,lB.out.symm,gj⟩
          case measure=>simp[intOf];omega
   ·have lz:c≠60:=ev
    have C:((c.toNat:Int) !=60)=true:=by rw[jbb];intro e;exact lz (by rw[<-jM];exact jal e)
    have f:Hid (aAy w p b (.slice A a.length co) wr t a):=i.out.pass (aJs t lz) (jr _ _)
    clear i z ek ev
    go_wp2_with fail
    go_roundw
    case rel=>exact⟨t,a,A,_,co,by rw[ej.out];rfl,rfl,rfl,f⟩
    case measure=>simp[intOf];omega
end Go.Proofs.YtbbfcbodhmeanaaGreatDoor

import Derived.Test.YtbbfcbodhmeanaaGreatDoorXrewritesays31
set_option maxHeartbeats 8000000
set_option maxRecDepth 1000000
namespace Go.Proofs.YtbbfcbodhmeanaaGreatDoor
open Go.Proofs.Tryz
open Go.RowKit
theorem lk4(w0:World)(HE:aAI w0)(g:Nat)(p:ByteArray)(hp:p.size<=4000)(R:List UInt8)(hS:Suf p R)(w:World)(aX:Below w0.heap.size w0 w)(gy:g<w.heap.size)(hg:w.cell? ⟨g,0,none⟩=some (.string p)){c0 c1 c2 c3 c4 c7 c8 a8 le lf lg lh b6 ch cw cH cS dc dn dA dL dW eh ev eG eR e4 e7 e8 e9 fa fb fc fd fe ff fg fh fi fj fk fl fm fn fo fp fq fr fs ft fv fw fx fy fz fA fB fC fD fE fF fG fH fI fJ fK fL fM fN fO fP fQ fR fS fT fU fV fW fX fY fZ ga gb gc gd ge gf gg gh gi gj gl gm gn go aa ab ac ad ae af ag ah ai aj ak al am an ao a9 bb bc bd be bf bg bh bi bj bk bl bm bn bo bp bq br bs bt bw bx bz bA bB bC bD bE bF bG bH bI bJ bK bL bM bN bO bP bQ bR bS bT bU bV bW bX bY bZ b0 b1 b2 b3 b4 b5 b7 b8 b9 ca cb cc cd ce cf cg ci cj ck cl cp cq cr cs ct cv cx cy cz cA cB cC cD cE cF cG cI cJ cK cL cM cN cO cP cQ cR cT cU cV cW cX cY cZ c9 da db dd de df dg dh di dj dk dl dm dp dq dr ds dt dv dw dx dy dz dB dC dD dE dF dG dH dI dJ dK dM dN dO dP dQ dR dS dT dU dV dX dY dZ ea eb ec ed ee ef eg ei ej em en eo ep eq er es et ew ex ey ez eA eB eC eD eE eF eH eI eJ eK eL eM eN eO eP eQ eS eT eU eV eW eX eY eZ e2 e3 e5 e6 ap aq ar av aw ax ay az aA aB aC aD aE aF aG:Value}(Q:Exit->Act->World->Prop)
  (aY:∀{lC lD lE lF gF gG gH gI gJ gK gL gM gN gO gP gQ gR gS gT gU gV gW gX gY gZ g0 g1 g2 g3 g4 g5 g6 g7 g8 g9 ha hb hc hd he hf hh hj hl hm hn ho hq hr ht hv hw hx hy hz hA hB hC hD hE hF hG hH hI hJ hK hN hO hP hQ hR hT hU hV hX hY hZ h0 h6 h7 h8 h9 ia ib ic ie ig ih ii ij ik il im io ip iq ir is it iw ix iy iz iA iB iC iD iE iF iG iH iI iJ iK iL iM iN iO iP iQ iR iS iT iU iV iW iX iY iZ i0 i2 i3 i4 i5 i6 i7 i8 i9 ka kb kc kd ke kf kg kh ki kj kk kl km kn ko kp kq kr ks kt kv kw kx ky kz kA kB kC kD kE kF kG kH kI kJ kK kL kM kN kO kP kQ kR kS kT kU kV kW kX kY kZ k0 k1 k2 k3 k4 k5 k6 k7 k8 k9 la lb:Value}(v9 s Z:Value),∀wr,aBt w p (aRI aQJ [] R) v9 s wr->Q (.exit 6) ⟨(c0::c1::c2::c3::c4::.pointer (some ⟨g,0,none⟩)::.func (Fn.func 109) #[] #[.pointer (some ⟨g,0,none⟩)]::c7::c8::v9::a8::s::Z::lC::lD::lE::lF::b6::ch::cw::cH::cS::dc::dn::dA::dL::dW::eh::ev::eG::eR::e4::e7::e8::e9::fa::fb::fc::fd::fe::ff::fg::fh::fi::fj::fk::fl::fm::fn::fo::fp::fq::fr::fs::ft::fv::fw::fx::fy::fz::fA::fB::fC::fD::fE::fF::fG::fH::fI::fJ::fK::fL::fM::fN::fO::fP::fQ::fR::fS::fT::fU::fV::fW::fX::fY::fZ::ga::gb::gc::gd::ge::gf::gg::gh::gi::gj::gl::gm::gn::go::aa::ab::ac::ad::ae::af::ag::ah::ai::aj::ak::al::am::an::ao::gF::gG::gH::gI::gJ::gK::gL::gM::gN::gO::gP::gQ::gR::gS::gT::gU::gV::gW::gX::gY::gZ::g0::g1::g2::g3::g4::g5::g6::g7::g8::g9::ha::hb::hc::hd::he::hf::hh::hj::hl::hm::hn::ho::hq::hr::ht::hv::hw::hx::hy::hz::hA::hB::hC::hD::hE::hF::hG::hH::hI::hJ::hK::hN::hO::hP::hQ::hR::hT::hU::hV::hX::hY::hZ::h0::h6::h7::h8::h9::ia::ib::ic::ie::ig::ih::ii::ij::ik::il::im::io::ip::iq::ir::is::it::iw::ix::iy::iz::iA::iB::iC::iD::iE::iF::iG::iH::iI::iJ::iK::iL::iM::iN::iO::iP::iQ::iR::iS::iT::iU::iV::iW::iX::iY::iZ::i0::i2::i3::i4::i5::i6::i7::i8::i9::ka::kb::kc::kd::ke::kf::kg::kh::ki::kj::kk::kl::km::kn::ko::kp::kq::kr::ks::kt::kv::kw::kx::ky::kz::kA::kB::kC::kD::kE::kF::kG::kH::kI::kJ::kK::kL::kM::kN::kO::kP::kQ::kR::kS::kT::kU::kV::kW::kX::kY::kZ::k0::k1::k2::k3::k4::k5::k6::k7::k8::k9::la::lb::ap::aq::ar::av::aw::ax::ay::az::aA::aB::aC::aD::aE::aF::aG::[]).toArray,[]⟩ wr):
  Code.wp prog (Code.loop (aKD f58 3)) Q ⟨(c0::c1::c2::c3::c4::.pointer (some ⟨g,0,none⟩)::.func (Fn.func 109) #[] #[.pointer (some ⟨g,0,none⟩)]::c7::c8::.int .i64 ((pos p R:Nat):Int)::a8::.slice none 0 0::.slice none 0 0::le::lf::lg::lh::b6::ch::cw::cH::cS::dc::dn::dA::dL::dW::eh::ev::eG::eR::e4::e7::e8::e9::fa::fb::fc::fd::fe::ff::fg::fh::fi::fj::fk::fl::fm::fn::fo::fp::fq::fr::fs::ft::fv::fw::fx::fy::fz::fA::fB::fC::fD::fE::fF::fG::fH::fI::fJ::fK::fL::fM::fN::fO::fP::fQ::fR::fS::fT::fU::fV::fW::fX::fY::fZ::ga::gb::gc::gd::ge::gf::gg::gh::gi::gj::gl::gm::gn::go::aa::ab::ac::ad::ae::af::ag::ah::ai::aj::ak::al::am::an::ao::a9::bb::bc::bd::be::bf::bg::bh::bi::bj::bk::bl::bm::bn::bo::bp::bq::br::bs::bt::bw::bx::bz::bA::bB::bC::bD::bE::bF::bG::bH::bI::bJ::bK::bL::bM::bN::bO::bP::bQ::bR::bS::bT::bU::bV::bW::bX::bY::bZ::b0::b1::b2::b3::b4::b5::b7::b8::b9::ca::cb::cc::cd::ce::cf::cg::ci::cj::ck::cl::cp::cq::cr::cs::ct::cv::cx::cy::cz::cA::cB::cC::cD::cE::cF::cG::cI::cJ::cK::cL::cM::cN::cO::cP::cQ::cR::cT::cU::cV::cW::cX::cY::cZ::c9::da::db::dd::de::df::dg::dh::di::dj::dk::dl::dm::dp::dq::dr::ds::dt::dv::dw::dx::dy::dz::dB::dC::dD::dE::dF::dG::dH::dI::dJ::dK::dM::dN::dO::dP::dQ::dR::dS::dT::dU::dV::dX::dY::dZ::ea::eb::ec::ed::ee::ef::eg::ei::ej::em::en::eo::ep::eq::er::es::et::ew::ex::ey::ez::eA::eB::eC::eD::eE::eF::eH::eI::eJ::eK::eL::eM::eN::eO::eP::eQ::eS::eT::eU::eV::eW::eX::eY::eZ::e2::e3::e5::e6::ap::aq::ar::av::aw::ax::ay::az::aA::aB::aC::aD::aE::aF::aG::[]).toArray,[]⟩ w:=by
 have HX:Hid _:=@aY
 clear aY
 have hM:∀W,Below w.heap.size w W->∃m:Int,W.cell? ⟨0,0,none⟩=some (.int .i64 m):=λW hW=>(HE W (aX.trans (hW.mono aX.size))).mx
 conv=>arg 2;arg 1;whnf
 go_loopw[9,11,12] (λiv mv nv wr=>∃(sj:List UInt8) (a:List (List UInt8)) (d:List LK) (C D:Option Addr) (v B z G:Nat),iv=.int .i64 ((pos p sj:Nat):Int)/\mv=.slice C v B/\nv=.slice D z G/\v=d.length/\z=a.length/\Hid (aBs w p R (.slice C v B) (.slice D z G) wr sj a d)) (λiv _ _ _=>p.size-(intOf iv).toNat)
 case atStart=>exact⟨R,[],[],none,none,0,0,0,0,rfl,rfl,rfl,rfl,rfl,⟨by have:=hS.len;simp;omega,by have:=hS.len;simp;omega,hS,jr _ _,jT _ _ _ _,jT _ _ _ _,by simp⟩⟩
 case round=>
  obtain⟨sj,a,d,C,D,v,B,z,G,rfl,rfl,rfl,gr,gs,i⟩:=hrel
  have aM:Hid (v=d.length):=gr
  have o:Hid (z=a.length):=gs
  have r:wr.cell? ⟨g,0,none⟩=some (.string p):=(i.out.bel.cell (p:=⟨g,0,none⟩) gy).trans hg
  clear gr gs
  cases sj with
  |nil=>
   have j:pos p []=p.size:=rfl
   rw[j]
   have lq:decide ((p.size:Int)<(p.size:Int))=false:=by simp
   have HF:=i.out.nil
   have aK:Hid (aBt w p (aRI aQJ [] R) (.int .i64 ((p.size:Nat):Int)) (.slice C v B) wr):=HF
   clear HF hS j i
   go_wp2_with fail
   exact HX.out _ _ _ _ aK.out
  |cons c t=>
   obtain⟨k,ek,j,gC,f⟩:=aCe i.out.suf
   have lq:(k:Int)<(p.size:Int):=by omega
   have lt:IntKind.i64.wrap ((k:Int)+1)=((k+1:Nat):Int):=by rw[ju];omega
   have S:Hid (Calls prog 109 #[.int .i64 (k:Int),.pointer (some ⟨g,0,none⟩)] wr λe w'=>e=.returned (.bool (spB c))/\w'=wr):=by rw[<-gC];exact aPI g p k j wr r
   rw[ek]
   by_cases gq:c=62
   ·subst gq
    have aK:Hid (aBt w p (aRI aQJ [] R) (.int .i64 (k:Int)) (.slice C v B) wr):=i.out.fin ek
    clear i S f
    go_wp2_with fail
    exact HX.out _ _ _ _ aK.out
   ·have gE:c≠62:=gq
    have ll:((c.toNat:Int) !=62)=true:=by rw[jbb];intro e;exact gE (by rw[<-jM];exact jal e)
    cases hs:spB c with
    |true=>
     rw[hs]at S
     have aR:Hid (aBs w p R (.slice C v B) (.slice D z G) wr t a d):=i.out.gap (by unfold aIt;rw[hs];rfl)
     clear i
     go_wp2_with fail
     refine S.out.mono ?_
     rintro e w' ⟨rfl,P⟩
     have l:=P.symm
     subst l
     clear S
     go_wp2_with fail
     go_roundw
     case rel=>exact⟨t,a,d,C,D,v,B,z,G,by rw[f];rfl,rfl,rfl,aM.out,o.out,aR⟩
     case measure=>simp[intOf];omega
    |false=>
     rw[hs]at S
     by_cases gp:c=47
     ·subst gp
      have aR:Hid (aBs w p R (.slice C v B) (.slice D z G) wr t a d):=i.out.gap rfl
      clear i
      go_wp2_with fail
      refine S.out.mono ?_
      rintro e w' ⟨rfl,P⟩
      have l:=P.symm
      subst l
      clear S
      go_wp2_with fail
      go_roundw
      case rel=>exact⟨t,a,d,C,D,v,B,z,G,by rw[f];rfl,rfl,rfl,aM.out,o.out,aR⟩
      case measure=>simp[intOf];omega
     ·have gD:c≠47:=gp
      have lk:((c.toNat:Int)==47)=false:=by rw[jg];intro e;exact gD (by rw[<-jM];exact jal e)
      have gw:Suf p t:=i.out.suf.tl
      go_wp2_with fail
      refine S.out.mono ?_
      rintro e w' ⟨rfl,P⟩
      have l:=P.symm
      subst l
      clear S
      go_wp2_with fail
      have gA:(k:Int)+1=((pos p t:Nat):Int):=by rw[f];rfl
      rw[gA]
      refine lk5 g p hp t gw wr r _ ?_
      intro lI lJ lK lL lM lN lO lP lQ lR lS lT lU lV lW lX lY lZ l0 l1 l2 l3 l4 l5 l6 l7 l8 l9 ma mb
      obtain⟨n,H⟩:∃u,t.dropWhile aIr=u:=⟨_,rfl⟩
      have I:Suf p n:=by rw[<-H];exact gw.dw _
      have aS:Hid (t.dropWhile aIr=n):=H
      have N:aLm (c::t)++n=c::t:=by rw[<-H];show c::(t.takeWhile aIr++t.dropWhile aIr)=_;rw[jak]
      have lw:p.extract k (pos p n)=lba (aLm (c::t)):=by rw[<-ek];exact aF6 i.out.suf N
      have O:pos p n=k+(aLm (c::t)).length:=by rw[<-ek];exact aND i.out.suf N
      have os:(k:Int)<=((pos p n:Nat):Int):=by omega
      have ot:((pos p n:Nat):Int)<=(p.size:Int):=by have:=aNB p n;omega
      rw[H]
      have lr:(aLm (c::t)).length<=4000:=by have:=jab List.length N;have:=i.out.suf.len;rw[je]at*;omega
      have aH:Hid (∀W,Calls prog 100 #[.string (lba (aLm (c::t)))] W λe w'=>e=.returned (.string (lba (aQJ (aLm (c::t)))))/\Below W.heap.size W w'):=λW=>aPG (lba (aLm (c::t))) W (by rw[aJC];omega)
      have op:Hid (aLm (c::t)++n=c::t):=N
      obtain⟨nm,aV⟩:∃x,aLm (c::t)=x:=⟨_,rfl⟩
      have ld:Hid (aLm (c::t)=nm):=aV
      rw[aV]at lw aH O
      have oq:Hid (pos p n=k+nm.length):=O
      have or:Hid (pos p t=k+1):=f
      have lc:Hid (pos p (c::t)=k):=ek
      clear N lr H aV gA O f ek gC lk ll lt
      go_wp2_with fail
      refine(aH.out _).mono ?_
      rintro e E ⟨rfl,y⟩
      have Y:E.cell? ⟨g,0,none⟩=some (.string p):=(y.cell (p:=⟨g,0,none⟩) (ji wr _ r)).trans r
      go_wp2_with fail
      refine lk6 g p hp n I E Y _ ?_
      intro mc md me mf mg mh mi mj mk ml mm
      obtain⟨yb,V⟩:∃u,n.dropWhile spB=u:=⟨_,rfl⟩
      have J:Suf p yb:=by rw[<-V];exact I.dw _
      have aT:Hid (n.dropWhile spB=yb):=V
      rw[V]
      clear V
      go_upto_region 36 with fail
      obtain⟨W2,X⟩:∃W,W=E.alloc (.cells #[.int .i64 (-1),.int .i64 0,.string ⟨#[]⟩] 40):=⟨_,rfl⟩
      have B2:Below E.heap.size E W2:=by rw[X];exact(jr _ _).alloc (jf _) _
      have Q2:W2.heap[E.heap.size]?=some (.cells #[.int .i64 (-1),.int .i64 0,.string ⟨#[]⟩] 40):=by rw[X];exact aKx _ _
      have aZ:W2.cell? ⟨g,0,none⟩=some (.string p):=(B2.cell (p:=⟨g,0,none⟩) (ji E _ Y)).trans Y
      rw[<-X]
      clear X aH
      obtain⟨L,hL⟩:∃L,E.heap.size=L:=⟨_,rfl⟩
      have HL:Hid (E.heap.size=L):=hL
      rw[hL]at Q2 B2⊢
      clear hL
      refine aKr g p yb J W2 aZ _ ?_
      intro mn mo mp mq mr ms mw mx my
      go_upto_if 196 with fail
      have lo:g≠L:=by have h1:=i.out.bel.size;have h2:=y.size;have h3:=HL.out;omega
      refine aKt g p hp n yb I J E W2 L B2 Q2 lo aZ _ ?_
      intro ov mz mA mB mC mD mE mF mG mH mI mJ mK mL mM mN mO mP mQ mR mS mT mU mV mW mX mY mZ m0 m1 m2 m3 m4 m5 m6 m7 m8 m9 na nb nc nd ne nf ng nh ni nj nk nl nn no np nr ns nt nw nx ny nz nA nB nC nD nE nF nG nH nI nJ nK nL nM nN nO nP nQ nR nS nT nU nV yd A HA
      have F:Hid (LkA E p n yb L yd A):=HA
      have M:Below wr.heap.size wr A:=by
       have h3:=HL.out
       have h4:=HA.1
       rw[<-h3]at h4
       exact y.trans (h4.mono y.size)
      have gz:A.cell? ⟨g,0,none⟩=some (.string p):=(M.cell (p:=⟨g,0,none⟩) (ji wr _ r)).trans r
      have gv:L<A.heap.size:=by
       rcases HA.2.2 with⟨_,_,h5⟩|⟨_,_,_,h5⟩<;>(rw[jl]at h5;exact h5.1)
      have gt:wr.heap.size<=L:=by have:=y.size;have:=HL.out;omega
      have aP:Hid (A.ownsRow w.heap.size 40 3 (.slice C v B) d.length (lv p.size d)):=aMm i.out.om M
      have T:Hid (A.ownsRow w.heap.size 9 1 (.slice D z G) a.length (a.map λx=>Value.string (lba x))):=aMm i.out.on M
      have aQ:Hid (∀k,(Value.slice C v B).ownBlock=some k->w.heap.size<=k/\k<L):=λk j=>by have:=i.out.om.lt k j;omega
      have a6:Hid (∀k,(Value.slice D z G).ownBlock=some k->w.heap.size<=k/\k<L):=λk j=>by have:=i.out.on.lt k j;omega
      have aI:Hid (Below w.heap.size w A):=i.out.bel.trans (M.mono i.out.bel.size)
      have q:Hid (w.heap.size<=L/\L<A.heap.size):=⟨j1 i.out.bel.size gt,gv⟩
      have aL:Hid (d.length<=4000/\a.length<=4000):=⟨by have:=i.out.la;omega,by have:=i.out.ls;omega⟩
      have a5:Hid (aAT A D a):=by have h:=T.out;rw[<-o.out]at h;exact aAT.of_own h
      clear B2 Q2 aZ M gv gt HA Y y
      go_upto_region 49 with fail
      refine aKs p E A n yb yd L F.out (aQJ nm) a D z G o.out aL.out.2 a5.out _ ?_
      intro nW nX nY nZ n0 n1 n2 n3 n4 n5 n6 n7 n8 n9 oa ob b x a7
      have aU:Hid (LkX p yb L A (aQJ nm) a b x):=a7
      clear a7
      go_upto_if 294 with fail
      refine lkM g p hp A b w.heap.size d C v B aM.out L x aP.out (jds (Nat.lt_of_le_of_lt q.out.1 q.out.2)) (λk j=>by have:=aQ.out k j;omega) q.out.2 (aU.out.cells J) aL.out.1 gz (hM A aI.out) _ ?_
      intro oc od oe of og oh oi oj ok ol om on oo s wy gB aW
      have aJ:Hid (Below w.heap.size w wy):=aW.below aI.out (jds (Nat.lt_of_le_of_lt q.out.1 q.out.2)) q.out.1 (λk j=>(aQ.out k j).1)
      have U:Hid (wy.ownsRow w.heap.size 9 1 (.slice D a.length G) a.length (a.map λx=>Value.string (lba x))):=by
       have h:=aW.owns T.out (λk j=>⟨by have:=a6.out k j;omega,λe=>by
        rcases aPv T.out aP.out (by decide)with h2|h2
        ·rw[h2]at j;cases j
        ·exact h2 (j.trans e)⟩)
       rw[o.out]at h
       exact h
      have aN:Hid (wy.ownsRow w.heap.size 40 3 s (d++aBI b x).length (lv p.size (d++aBI b x))):=gB
      have ls:w.heap.size<=wy.heap.size:=aJ.out.size
      have lG:=aL.out.2
      obtain⟨i1,hi,lx,ly,lz⟩:=jao aIM
      obtain rfl:z=a.length:=o.out
      clear aW gB gz o a6 aQ aP T aI q a5 r gy hg aX
      go_wp2_with (at_builtin;refine jX _ rfl (.tmp 308) (.tmp 310) 26 rfl w.heap.size 9 i1 (.string ⟨#[]⟩) 1 16 underlying26 hi lx ly lz rfl (by decide) _ _ _ rfl (U.out.alloc _) ⟨wy.heap.size,0,none⟩ 1 1 [.string (lba (aQJ nm))] rfl rfl (aDI _ _ _) (aLZ _) ?d1 ?d2 ?d3 ?_)
      case d1=>unfold maxLen;omega
      case d2=>omega
      case d3=>simp;omega
      intro Z wz a2 a0 _
      have a3:Hid (Below w.heap.size w wz):=(aJ.out.alloc ls _).grown a0 (by simp;omega) (λk j=>(U.out.lt k j).1)
      have aO:Hid (wz.ownsRow w.heap.size 40 3 s (d++aBI b x).length (lv p.size (d++aBI b x))):=(aN.out.alloc _).kept a0 (aPv aN.out U.out (by decide))
      have gx:aIt c=false:=by unfold aIt;rw[hs];simpa using gD
      have a4:Hid (aBs w p R s Z wz yd (a++[aQJ nm]) (d++aBI b x)):=by
       have a1:=ld.out
       have h:=i.out.next (u11:=s) (u12:=Z) (wz:=wz) gE gx F.out aS.out aT.out (b:=b) (x:=x) (by rw[a1];exact aU.out.mine aS.out aT.out) a3.out aO.out (by rw[a1];exact a2)
       rw[a1]at h
       exact h
      have lH:=F.out.len (c:=c) aS.out aT.out
      have lp:=F.out.2.1
      obtain⟨lA,li,rfl,_⟩:=aQC aO.out
      obtain⟨lB,lj,rfl,_⟩:=aQC a2
      clear aN U aJ a2 a0 aO a3 F aU
      go_wp2_with fail
      go_roundw
      case rel=>exact⟨yd,a++[aQJ nm],d++aBI b x,lA,lB,_,li,_,lj,rfl,rfl,rfl,rfl,by simp,a4⟩
      case measure=>have h1:=lp.len;have h2:=i.out.suf.len;have h3:=lc.out;unfold pos at*;simp only[jm]at*;simp[intOf];omega
end Go.Proofs.YtbbfcbodhmeanaaGreatDoor

import Derived.Test.YtbbfcbodhmeanaaGreatDoorXrewritesays38
set_option maxHeartbeats 8000000
set_option maxRecDepth 1000000
namespace Go.Proofs.YtbbfcbodhmeanaaGreatDoor
open Go.Proofs.Tryz
open Go.RowKit
theorem aKb(w:World)(hM:∀W,jb w W->aAP W)(G:Nat)(LE:jB)(bE:LE.length<=120)(hg:w.cell? ⟨G,4,none⟩=some (.string (tx8 LE))){c0 c1 c2 c3 c4 c5 c7 c8 c9 F N O P R S T U V X Y Z aa ab ac ad ae af ag ah ai aj ak al am an ao ap aq ar av aw ax ay az aA aB aC aD aE aF aG aH aI aJ aK aL aM aN aO aP aQ aR aS aT aU aV aW aX aY aZ a0 a1 a2 a3 a4 a5 a6 a7 a8 a9 bb bc bd be bf bg bh bi bj bk bl bm bn bo bp bq br bs a b c H I J L M d f g i j k l m n o p q r s t v x y z A B C D:Value}(Q:Exit->Act->World->Prop)
  (E:∀{bx bz bA bB:Value},∀w':World,jb w w'->Q .normal ⟨(c0::c1::c2::c3::c4::c5::.func (Fn.func 56) #[] #[]::c7::c8::c9::F::N::O::P::R::.pointer (some ⟨G,0,none⟩)::S::T::U::V::X::Y::Z::aa::ab::ac::ad::ae::af::ag::ah::ai::aj::ak::al::am::an::ao::ap::aq::ar::av::aw::ax::ay::az::aA::aB::aC::aD::aE::aF::aG::aH::aI::aJ::aK::aL::aM::aN::aO::aP::aQ::aR::aS::aT::aU::aV::aW::aX::aY::aZ::a0::a1::a2::a3::a4::a5::a6::a7::a8::a9::bb::bc::bd::be::bf::bg::bh::bi::bj::bk::bl::bm::bn::bo::bp::bq::br::bs::a::b::c::bx::bz::bA::bB::.bool (Lib.hasPrefix (aLy LE) aEi)::d::f::g::i::j::k::l::m::n::o::p::q::r::s::t::v::x::y::z::A::B::C::D::[]).toArray,[]⟩ w'):
  Code.wp prog (aOP f14 23) Q ⟨(c0::c1::c2::c3::c4::c5::.func (Fn.func 56) #[] #[]::c7::c8::c9::F::N::O::P::R::.pointer (some ⟨G,0,none⟩)::S::T::U::V::X::Y::Z::aa::ab::ac::ad::ae::af::ag::ah::ai::aj::ak::al::am::an::ao::ap::aq::ar::av::aw::ax::ay::az::aA::aB::aC::aD::aE::aF::aG::aH::aI::aJ::aK::aL::aM::aN::aO::aP::aQ::aR::aS::aT::aU::aV::aW::aX::aY::aZ::a0::a1::a2::a3::a4::a5::a6::a7::a8::a9::bb::bc::bd::be::bf::bg::bh::bi::bj::bk::bl::bm::bn::bo::bp::bq::br::bs::a::b::c::H::I::J::L::M::d::f::g::i::j::k::l::m::n::o::p::q::r::s::t::v::x::y::z::A::B::C::D::[]).toArray,[]⟩ w:=by
 have HX:Hid _:=@E
 clear E
 conv=>arg 2;whnf
 have C2:Hid (∀W,jb w W->Calls prog 56 #[.string (tx8 LE)] W λe w'=>e=.returned (.string (tx8 (aLy LE)))/\jb w w'):=λW hW=>(aLE (tx8 LE) (by rw[aTA];omega) W (hM W hW)).mono λe w' h=>⟨h.1,hW.trans (h.2.mono hW.size)⟩
 have CH:Hid (∀W,Calls prog 59 #[.string (tx8 (aLy LE)),.string ⟨#[99,105,100,58]⟩] W λe w'=>e=.returned (.bool (Lib.hasPrefix (aLy LE) aEi))/\w'=W):=λW=>strings_HasPrefix (tx8 (aLy LE)) ⟨#[99,105,100,58]⟩ W
 generalize Lib.hasPrefix (aLy LE) aEi=B1 at*
 generalize tx8 (aLy LE)=T2 at*
 go_wp2_with fail
 refine(C2.out _ (jr _ _)).mono ?_
 rintro e w2 ⟨rfl,bt⟩
 have bC:Hid _:=bt
 clear C2 bt
 go_wp2_with fail
 refine(CH.out _).mono ?_
 rintro e w3 ⟨rfl,bD⟩
 have bw:=bD.symm
 subst bw
 go_wp2_with fail
 exact HX.out _ bC.out
theorem aKc(w:World)(hM:∀W,Below w.heap.size w W->aAP W)(G Y:Nat)(id:ByteArray)(hid:id.size<=100000)(LE:List UInt8)(hLE:LE.length<=120)(hy:w.cell? ⟨Y,2,none⟩=some (.string id))(hg:w.cell? ⟨G,4,none⟩=some (.string (tx8 LE)))(c0 c1 c2 c3 c4 c5 c7 c8 c9 c10 c11 c12 c13 c14 c16 c18 c19 c20 c21 c22 c23 c24 c25 c26 c27 c28 c29 c30 c31 c32 c33 c34 c35 c36 c37 c38 c39 c40 c41 c42 c43 c44 c45 c46 c47 c48 c49 c50 c51 c52 c53 c54 c55 c56 c57 c58 c59 c60 c61 c62 c63 c64 c65 c66 c67 c68 c69 c70 c71 c72 c73 c74 c75 c76 c77 c78 c79 c80 c81 c82 c83 c84 c85 c86 c87 c88 c89 c90 c91 c92 c93 c94 c95 c96 c97 c98 c99 c100 c101 c102 c103 c104 c105 c106 c107 c108 c109 c110 c111 c112 c113 c114 c115 c116 c117 c118 c119 c120 c121 c122 c123 c124 c125 c126 c127 c128 c129 c130:Value)(Q:Exit->Act->World->Prop)
  (hexit:∀u108 u109 u110 u111 u112 u113 u114 u115 u116 u117 u118 u119 u120:Value,∀w':World,Below w.heap.size w w'->Q .normal ⟨(c0::c1::c2::c3::c4::c5::.func (Fn.func 56) #[] #[]::c7::c8::c9::c10::c11::c12::c13::c14::.pointer (some ⟨G,0,none⟩)::c16::.pointer (some ⟨Y,0,none⟩)::.bool (!id.data.toList.isEmpty&&(aEi++id.data.toList==aLy LE))::c19::c20::c21::c22::c23::c24::c25::c26::c27::c28::c29::c30::c31::c32::c33::c34::c35::c36::c37::c38::c39::c40::c41::c42::c43::c44::c45::c46::c47::c48::c49::c50::c51::c52::c53::c54::c55::c56::c57::c58::c59::c60::c61::c62::c63::c64::c65::c66::c67::c68::c69::c70::c71::c72::c73::c74::c75::c76::c77::c78::c79::c80::c81::c82::c83::c84::c85::c86::c87::c88::c89::c90::c91::c92::c93::c94::c95::c96::c97::c98::c99::c100::c101::c102::c103::c104::c105::c106::c107::u108::u109::u110::u111::u112::u113::u114::u115::u116::u117::u118::u119::u120::c121::c122::c123::c124::c125::c126::c127::c128::c129::c130::[]).toArray,[]⟩ w'):
  Code.wp prog (aOP f14 24) Q ⟨(c0::c1::c2::c3::c4::c5::.func (Fn.func 56) #[] #[]::c7::c8::c9::c10::c11::c12::c13::c14::.pointer (some ⟨G,0,none⟩)::c16::.pointer (some ⟨Y,0,none⟩)::c18::c19::c20::c21::c22::c23::c24::c25::c26::c27::c28::c29::c30::c31::c32::c33::c34::c35::c36::c37::c38::c39::c40::c41::c42::c43::c44::c45::c46::c47::c48::c49::c50::c51::c52::c53::c54::c55::c56::c57::c58::c59::c60::c61::c62::c63::c64::c65::c66::c67::c68::c69::c70::c71::c72::c73::c74::c75::c76::c77::c78::c79::c80::c81::c82::c83::c84::c85::c86::c87::c88::c89::c90::c91::c92::c93::c94::c95::c96::c97::c98::c99::c100::c101::c102::c103::c104::c105::c106::c107::c108::c109::c110::c111::c112::c113::c114::c115::c116::c117::c118::c119::c120::c121::c122::c123::c124::c125::c126::c127::c128::c129::c130::[]).toArray,[]⟩ w:=by
 have HX:Hid _:=hexit
 clear hexit
 conv=>arg 2;whnf
 have C2:Hid (∀W,Below w.heap.size w W->Calls prog 56 #[.string (tx8 LE)] W λe w'=>e=.returned (.string (tx8 (aLy LE)))/\Below w.heap.size w w'):=λW hW=>(aLE (tx8 LE) (by rw[aTA];omega) W (hM W hW)).mono λe w' h=>⟨h.1,hW.trans (h.2.mono hW.size)⟩
 have e1:=aHA id
 have hYl:Y<w.heap.size:=World.block_lt_of_cell? w _ hy
 have hGl:G<w.heap.size:=World.block_lt_of_cell? w _ hg
 have f0:∀W,Below w.heap.size w W->W.cell? ⟨Y,2,none⟩=some (.string id):=λW h=>(h.cell (p:=⟨Y,2,none⟩) hYl).trans hy
 have f2:∀W,Below w.heap.size w W->W.cell? ⟨G,4,none⟩=some (.string (tx8 LE)):=λW h=>(h.cell (p:=⟨G,4,none⟩) hGl).trans hg
 have hb0:Below w.heap.size w w.drew:=(Below.refl _ _).drew
 have s1:∀W,(Op.stringOp .add ⟨#[99,105,100,58]⟩ id).run prog W=.ok (.string (⟨#[99,105,100,58]⟩++id)) W:=λW=>run_string_add_sum W _ _ (by show 4+id.size<=_;omega)
 cases h1:id.data.toList.isEmpty with
 |true=>
  rw[h1]at e1 HX
  clear C2 h1 f2 s1
  go_region
  exact HX.out _ _ _ _ _ _ _ _ _ _ _ _ _ _ hb0
 |false=>
  rw[h1]at e1 HX
  have e3:((⟨#[99,105,100,58]⟩++id:ByteArray).toList==(tx8 (aLy LE)).toList)=(aEi++id.data.toList==aLy LE):=by
   rw[ByteArray.toList_eq,ByteArray.toList_eq,ByteArray.data_append]
   simp[aEi,tx8]
  obtain⟨T2,hT2⟩:∃T,tx8 (aLy LE)=T:=⟨_,rfl⟩
  obtain⟨T1,hT1⟩:∃T,(⟨#[99,105,100,58]⟩++id:ByteArray)=T:=⟨_,rfl⟩
  rw[hT2]at C2 e3
  rw[hT1]at s1 e3
  have HXX:Hid (∀u108 u109 u110 u111 u112 u113 u114 u115 u116 u117 u118 u119 u120:Value,∀w':World,Below w.heap.size w w'->Q .normal ⟨(c0::c1::c2::c3::c4::c5::.func (Fn.func 56) #[] #[]::c7::c8::c9::c10::c11::c12::c13::c14::.pointer (some ⟨G,0,none⟩)::c16::.pointer (some ⟨Y,0,none⟩)::.bool (!false&&(aEi++id.data.toList==aLy LE))::c19::c20::c21::c22::c23::c24::c25::c26::c27::c28::c29::c30::c31::c32::c33::c34::c35::c36::c37::c38::c39::c40::c41::c42::c43::c44::c45::c46::c47::c48::c49::c50::c51::c52::c53::c54::c55::c56::c57::c58::c59::c60::c61::c62::c63::c64::c65::c66::c67::c68::c69::c70::c71::c72::c73::c74::c75::c76::c77::c78::c79::c80::c81::c82::c83::c84::c85::c86::c87::c88::c89::c90::c91::c92::c93::c94::c95::c96::c97::c98::c99::c100::c101::c102::c103::c104::c105::c106::c107::u108::u109::u110::u111::u112::u113::u114::u115::u116::u117::u118::u119::u120::c121::c122::c123::c124::c125::c126::c127::c128::c129::c130::[]).toArray,[]⟩ w'):=HX.out
  generalize (aEi++id.data.toList==aLy LE)=B1 at*
  clear h1 hT1 hT2 HX
  go_region_held3 (λW=>Below w.heap.size w W) (first|assumption|exact hb0) (first
   |(go_at_call 56;refine(C2.out _ ?_).mono ?_;(first|assumption|exact hb0);rintro e w2 ⟨rfl,hb2⟩))
  exact HXX.out _ _ _ _ _ _ _ _ _ _ _ _ _ _ (by assumption)
def aLS(wh:List jB)(LE:jB)(k:Nat)(y:PT):Bool:=
 if Lib.hasPrefix (aLy LE) aEi=true then(!y.id.data.toList.isEmpty&&(aEi++y.id.data.toList==aLy LE))else(!y.loc.data.toList.isEmpty&&!(wh.getD k []).isEmpty&&(aLy (wh.getD k [])==aLy LE))
theorem aGW(b a:Nat->PT->Bool)(h:∀k p,b k p=a k p):∀(k:Nat) (l:List PT),aGT b k l=aGT a k l
 |_,[]=>rfl
 |k,p::l=>by
  unfold aGT
  rw[h k p,aGW b a h (k+1) l]
theorem aLT(d:List jB)(LE:jB)(c:aLy LE≠[])(k:Nat)(p:PT):aLS d LE k p=if Lib.hasPrefix (aLy LE) aEi=true then aLU ((aLy LE).drop 4) k p else aLV d (aLy LE) k p:=by
 unfold aLS
 by_cases h:Lib.hasPrefix (aLy LE) aEi=true
 ·rw[jo h,jo h]
  unfold aLU
  congr 1
  unfold Lib.hasPrefix at h
  obtain⟨t,f⟩:=jap.1 h
  rw[<-f,jW,jbp,jbp]
  have e:(aEi++t).drop 4=t:=rfl
  rw[e]
  exact⟨λh=>List.append_cancel_left h,λh=>by rw[h]⟩
 ·rw[jh h,jh h]
  unfold aLV
  cases g:d.getD k []with
  |nil=>
   have e:(aLy []==aLy LE)=false:=by
    rw[jg]
    exact λe=>c e.symm
   rw[e]
   simp
  |cons a b=>simp
theorem aGG(L:List PT)(b:List jB)(LE:jB)(c:LE≠[])(a:aLy LE≠[]):aGC L b LE=aGT (aLS b LE) 0 L:=by
 unfold aGC
 rw[jh c]
 by_cases h:Lib.hasPrefix (aLy LE) aEi=true
 ·rw[jo h]
  exact aGW _ _ (λk p=>by rw[aLT b LE a,jo h]) 0 L
 ·rw[jh h]
  exact aGW _ _ (λk p=>by rw[aLT b LE a,jh h]) 0 L
theorem aG0(a:Nat->PT->Bool)(L:List PT)(k:Nat)(b:k<L.length):aGT a k (L.drop k)=if aK5 (L.getD k pt0).ty.data.toList=false/\a k (L.getD k pt0)=true then(k:Int)else aGT a (k+1) (L.drop (k+1)):=by
 rw[jE b,aGT,jd,jc b]
 rfl
theorem aG1(b:Nat->PT->Bool)(L:List PT)(k:Nat)(a:L.length<=k):aGT b k (L.drop k)=-1:=by
 rw[jC a]
 rfl
structure aAz(w:World)(G ab ao wb wo:Nat)(L:List PT)(wh:List jB):Prop where
 all:∀W,Below G w W->∀i,i<L.length->∃pb cb pk ck,aA1 W ab (ao+i*7) (L.getD i pt0) pb cb pk ck
 tel:∀W,Below G w W->∀i,i<L.length->W.cell? (jx wb (wo+i))=some (.string (tx8 (wh.getD i [])))
 mx:∀W,Below G w W->aAP W
 len:∀i,i<L.length->(L.getD i pt0).ty.size<=maxLen/\(L.getD i pt0).id.size<=100000
 wl:∀i,(wh.getD i []).length<=120
 few:L.length<=1000
theorem aHL{W:World}{G t:Nat}{a b c d e f:Value}(h:W.heap[G]?=some (.cells #[a,b,c,d,e,f] t))(x:Value):(W.setCell (jx G 5) x).heap[G]?=some (.cells #[a,b,c,d,e,x] t):=by
 show(W.heap.modify G _)[G]?=_
 rw[jah,jo rfl,h]
 rfl
theorem lg3(w:World)(G ab ao wb wo n ca cw:Nat)(L:List PT)(c:List jB)(en:n=L.length)(hI:aAz w G ab ao wb wo L c)(LE:jB)(ac:LE.length<=120)(ah:LE≠[]->aLy LE≠[])(t v y:Int)(z:jA)(hG:w.heap[G]?=some (.cells #[.int .i64 t,.int .i64 v,.int .i64 y,.string z,.string (tx8 LE),.int .i64 (-1)] 42)){c0 c1 c2 c3 c7 c8 c9 al aA aL aQ aR cd ce aS aT aU aV aW aX aY aZ a0 a1 a2 a3 a4 a5 a6 a7 a8 a9 bb bc bd be bf bg bh bi bj bk bl bm bn bo bp bq br bs bt bw bx bz bA bB bC bD bE cf cg ch ci cj cl cm cn cp cq cr cs ct cv cx cy cz cA cB cC cD cE cF cG cH cI cJ cK cL cM cN cO cP cQ cR cS am an ap aq ar av aw ax ay az aB aC aD aE aF aG aH aI aJ aK aM aN aO aP N O P R S T U:Value}(Q:Exit->Act->World->Prop)
  (ae:∀{cZ da db dc dd de df dg dh di dj dk dl dm dn dp dq dr ds dt dv dw dx dy dz dA dB dC dD dE dF dG dH dI dJ dK dL dM dN bM bN bO bP bQ bR bS bT bU bV bW bX bY bZ b0 b1 b2 b3 b4 b5 b6 b7 b8 b9:Value},∀w':World,Below G w w'->w'.heap[G]?=some (.cells #[.int .i64 t,.int .i64 v,.int .i64 y,.string z,.string (tx8 LE),.int .i64 (aGC L c LE)] 42)->Q (.exit 4) ⟨(c0::c1::c2::c3::.slice (some ⟨ab,ao,none⟩) n ca::.slice (some ⟨wb,wo,none⟩) n cw::.func (Fn.func 56) #[] #[]::c7::c8::c9::al::aA::aL::aQ::aR::.pointer (some ⟨G,0,none⟩)::cZ::da::db::aS::aT::aU::aV::aW::aX::aY::aZ::a0::a1::a2::a3::a4::a5::a6::a7::a8::a9::bb::bc::bd::be::bf::bg::bh::bi::bj::bk::bl::bm::bn::bo::bp::bq::br::bs::bt::bw::bx::bz::bA::bB::bC::bD::bE::dc::dd::de::df::dg::dh::di::dj::dk::dl::dm::dn::dp::dq::dr::ds::dt::dv::dw::dx::dy::dz::dA::dB::dC::dD::dE::dF::dG::dH::dI::dJ::dK::dL::dM::dN::bM::bN::bO::bP::bQ::bR::bS::bT::bU::bV::bW::bX::bY::bZ::b0::b1::b2::b3::b4::b5::b6::b7::b8::b9::N::O::P::R::S::T::U::[]).toArray,[]⟩ w'):
  Code.wp prog (Code.loop (aKD f14 2)) Q ⟨(c0::c1::c2::c3::.slice (some ⟨ab,ao,none⟩) n ca::.slice (some ⟨wb,wo,none⟩) n cw::.func (Fn.func 56) #[] #[]::c7::c8::c9::al::aA::aL::aQ::aR::.pointer (some ⟨G,0,none⟩)::.int .i64 ((n:Int)-1)::cd::ce::aS::aT::aU::aV::aW::aX::aY::aZ::a0::a1::a2::a3::a4::a5::a6::a7::a8::a9::bb::bc::bd::be::bf::bg::bh::bi::bj::bk::bl::bm::bn::bo::bp::bq::br::bs::bt::bw::bx::bz::bA::bB::bC::bD::bE::cf::cg::ch::ci::cj::cl::cm::cn::cp::cq::cr::cs::ct::cv::cx::cy::cz::cA::cB::cC::cD::cE::cF::cG::cH::cI::cJ::cK::cL::cM::cN::cO::cP::cQ::cR::cS::am::an::ap::aq::ar::av::aw::ax::ay::az::aB::aC::aD::aE::aF::aG::aH::aI::aJ::aK::aM::aN::aO::aP::N::O::P::R::S::T::U::[]).toArray,[]⟩ w:=by
 have HX:Hid _:=@ae
 clear ae
 have HI:Hid (aAz w G ab ao wb wo L c):=hI
 have HN:Hid _:=en
 have cc:n<=1000:=by rw[en];exact hI.few
 have cU:G<w.heap.size:=(jl.1 hG).1
 have H:=aHB LE
 conv=>arg 2;arg 1;whnf
 by_cases Z:LE=[]
 ·have HF:Hid (aGC L c LE=-1):=by unfold Hid aGC;rw[jo Z]
  have bI:(tx8 LE).toList.isEmpty=true:=by rw[H,Z];rfl
  have HH:Hid (w.heap[G]?=some (.cells #[.int .i64 t,.int .i64 v,.int .i64 y,.string z,.string (tx8 LE),.int .i64 (aGC L c LE)] 42)):=by unfold Hid;rw[HF.out];exact hG
  have c4:w.cell? ⟨G,4,none⟩=some (.string (tx8 LE)):=(aDe hG 4).trans rfl
  clear H Z hI ah en HF hG
  go_loopw[16] (λiv wr=>iv=.int .i64 ((n:Int)-1)/\wr=w) (λ_ _=>0)
  case atStart=>exact⟨rfl,rfl⟩
  case round=>
   obtain⟨rfl,cY⟩:=hrel
   have bL:=cY.symm
   subst bL
   by_cases hz:0<n
   ·have eo:(0:Int)<=(n:Int)-1:=by omega
    go_wp2_with fail
    exact HX.out _ (jr _ _) HH.out
   ·obtain rfl:n=0:=by omega
    go_wp2_with fail
    exact HX.out _ (jr _ _) HH.out
 ·have bI:(tx8 LE).toList.isEmpty=false:=by
   rw[H]
   cases hl:LE with
   |nil=>exact absurd hl Z
   |cons _ _=>rfl
  have HF:Hid (aGC L c LE=aGT (aLS c LE) 0 (L.drop 0)):=aGG L c LE Z (ah Z)
  clear H Z hI ah en
  go_loopw[16] (λiv wr=>∃k:Nat,iv=.int .i64 ((k:Int)-1)/\k<=n/\Below G w wr/\Hid (wr.heap[G]?=some (.cells #[.int .i64 t,.int .i64 v,.int .i64 y,.string z,.string (tx8 LE),.int .i64 (aGT (aLS c LE) k (L.drop k))] 42))) (λiv _=>(intOf iv+1).toNat)
  case atStart=>exact⟨n,rfl,jf _,jr _ _,by unfold Hid;rw[aG1 _ L n (by rw[HN.out];exact jf _)];exact hG⟩
  case round=>
   obtain⟨k,rfl,ek,A,HK⟩:=hrel
   have c4:wr.cell? ⟨G,4,none⟩=some (.string (tx8 LE)):=(aDe HK.out 4).trans rfl
   clear hG
   cases k with
   |zero=>
    have bJ:((0:Nat):Int)-1=-1:=rfl
    rw[bJ]
    have HH:Hid (wr.heap[G]?=some (.cells #[.int .i64 t,.int .i64 v,.int .i64 y,.string z,.string (tx8 LE),.int .i64 (aGC L c LE)] 42)):=by unfold Hid;rw[HF.out];exact HK.out
    clear HK HF
    go_wp2_with fail
    exact HX.out _ A HH.out
   |succ k=>
    have cW:((k+1:Nat):Int)-1=(k:Int):=by omega
    rw[cW]
    have I:k<L.length:=by rw[<-HN.out];omega
    have ej:(k:Int)<(n:Int):=by omega
    have ei:(0:Int)<=(k:Int):=by omega
    have em:IntKind.i64.wrap ((k:Int)-1)=(k:Int)-1:=by rw[ju];omega
    obtain⟨pb,cb,pk,ck,d0,d1,d2,d3,d4,d5,d6⟩:=HI.out.all wr A k I
    have a:Hid (aGT (aLS c LE) k (L.drop k)=if aK5 (L.getD k pt0).ty.data.toList=false/\aLS c LE k (L.getD k pt0)=true then(k:Int)else aGT (aLS c LE) (k+1) (L.drop (k+1))):=aG0 (aLS c LE) L k I
    have j:Hid (aLS c LE k (L.getD k pt0)=if Lib.hasPrefix (aLy LE) aEi=true then(!(L.getD k pt0).id.data.toList.isEmpty&&(aEi++(L.getD k pt0).id.data.toList==aLy LE))else(!(L.getD k pt0).loc.data.toList.isEmpty&&!(c.getD k []).isEmpty&&(aLy (c.getD k [])==aLy LE))):=rfl
    obtain⟨af,ag⟩:=HI.out.len k I
    have aa:G<wr.heap.size:=jcb cU A.size
    obtain⟨x,hx⟩:∃x,L.getD k pt0=x:=⟨_,rfl⟩
    rw[hx]at d0 d1 d2 d3 d4 d5 d6 a j af ag
    have X:Hid (∀W,Calls prog 45 #[.string x.ty] W λe w'=>e=.returned (.bool (aK5 x.ty.data.toList))/\w'=W):=λW=>aPl x.ty W af
    obtain⟨s,J,D,E,M,aj,ak⟩:=x
    simp only at d0 d1 d2 d3 d4 d5 d6 a j af ag X
    generalize aj.length=m1 at*
    generalize ak.length=m2 at*
    go_upto_region 22 with fail
    obtain⟨V,hV⟩:∃W,W=wr.alloc (.cells #[.string s,.string J,.string D,.string E,.int .i64 M,.slice pb m1 cb,.slice pk m2 ck] 25):=⟨_,rfl⟩
    have kV:V.heap[wr.heap.size]?=some (.cells #[.string s,.string J,.string D,.string E,.int .i64 M,.slice pb m1 cb,.slice pk m2 ck] 25):=by rw[hV];exact aDi wr _
    have bH:Below G w V:=by rw[hV];exact A.alloc (jds aa) _
    have i:Hid (V.heap[G]?=some (.cells #[.int .i64 t,.int .i64 v,.int .i64 y,.string z,.string (tx8 LE),.int .i64 (aGT (aLS c LE) (k+1) (L.drop (k+1)))] 42)):=by unfold Hid;rw[hV,j9 _ _ _ aa];exact HK.out
    rw[<-hV]
    have cV:wr.heap.size≠G:=by omega
    obtain⟨Y,hY⟩:∃k,wr.heap.size=k:=⟨_,rfl⟩
    rw[hY]at kV cV⊢
    have z0:V.cell? ⟨Y,0,none⟩=some (.string s):=(aDe kV 0).trans rfl
    clear hV hY d0 d1 d2 d3 d4 d5 d6 HK c4 A aa
    have cT:G<=V.heap.size:=jds (jl.1 i.out).1
    have l:Hid (∀W,Below V.heap.size V W->Below G w W):=λW h=>bH.trans (h.mono cT)
    have q:Hid (∀W,Below V.heap.size V W->aAP W):=λW h=>HI.out.mx W (l.out W h)
    have HY:Hid _:=kV
    have F:Hid (∀W,Below V.heap.size V W->W.cell? ⟨wb,wo+k,none⟩=some (.string (tx8 (c.getD k [])))):=λW h=>HI.out.tel W (l.out W h) k I
    have cX:=HI.out.wl k
    clear kV
    cases hm:aK5 s.data.toList with
    |true=>
     rw[hm]at X a
     have g:Hid (V.heap[G]?=some (.cells #[.int .i64 t,.int .i64 v,.int .i64 y,.string z,.string (tx8 LE),.int .i64 (aGT (aLS c LE) k (L.drop k))] 42)):=by unfold Hid;rw[a.out,jh (by simp)];exact i.out
     clear hm a j HY F q l
     go_wp2_with fail
     refine(X.out _).mono ?_
     rintro e w' ⟨rfl,ai⟩
     have C:=ai.symm
     subst C
     clear X
     go_wp2_with fail
     go_roundw
     case rel=>exact⟨k,rfl,by omega,bH,g⟩
     case measure=>simp[intOf]
    |false=>
     rw[hm]at X a
     clear hm
     go_wp2_with fail
     refine(X.out _).mono ?_
     rintro e w' ⟨rfl,ai⟩
     have C:=ai.symm
     subst C
     clear X z0
     go_upto_region 23 with fail
     refine aKa V q.out wb wo n cw G Y k (by omega) E (c.getD k []) LE cX ac ((aDe HY.out 3).trans rfl) (F.out _ (jr _ _)) ((aDe i.out 4).trans rfl) _ _ _ _ _ _ _ _ _ _ _ _ _ _ _ _ _ _ _ _ _ _ _ _ _ _ _ _ _ _ _ _ _ _ _ _ _ _ _ _ _ _ _ _ _ _ _ _ _ _ _ _ _ _ _ _ _ _ _ _ _ _ _ _ _ _ _ _ _ _ _ _ _ _ _ _ _ _ _ _ _ _ _ _ _ _ _ _ _ _ _ _ _ _ _ _ _ _ _ _ _ _ _ _ _ _ _ _ _ _ _ _ _ _ _ _ _ _ _ _ _ _ _ _ _ _ _ ?_
     intro ep eq er es et ev ew ex ey ez eA eB eC eD eE eF eG eH eI eJ dO dP dQ w1 r
     go_upto_region 24 with fail
     refine aKb w1 (λW h=>q.out W (r.trans (h.mono r.size))) G LE ac ((aDe (aDj i.out r) 4).trans rfl) _ ?_
     intro dR dS dT dU w2 bF
     have b:Below V.heap.size V w2:=r.trans (bF.mono r.size)
     clear r bF
     cases hp:Lib.hasPrefix (aLy LE) aEi with
     |true=>
      rw[hp,jo rfl]at j
      go_upto_region 25 with fail
      refine aKc w2 (λW h=>q.out W (b.trans (h.mono b.size))) G Y D ag LE ac ((aDe (aDj HY.out b) 2).trans rfl) ((aDe (aDj i.out b) 4).trans rfl) _ _ _ _ _ _ _ _ _ _ _ _ _ _ _ _ _ _ _ _ _ _ _ _ _ _ _ _ _ _ _ _ _ _ _ _ _ _ _ _ _ _ _ _ _ _ _ _ _ _ _ _ _ _ _ _ _ _ _ _ _ _ _ _ _ _ _ _ _ _ _ _ _ _ _ _ _ _ _ _ _ _ _ _ _ _ _ _ _ _ _ _ _ _ _ _ _ _ _ _ _ _ _ _ _ _ _ _ _ _ _ _ _ _ _ _ _ _ _ _ _ _ _ _ _ _ _ _ _ ?_
      intro dV dW dX dY dZ ea eb ec ed ee ef eg eh o bG
      have f:Below V.heap.size V o:=b.trans (bG.mono b.size)
      clear b bG hp
      rw[<-j.out]
      have d:=aDj i.out f
      have m:=l.out o f
      clear i HY F q l j f
      generalize hB:aLS c LE k ⟨s,J,D,E,M,aj,ak⟩=B at*
      cases B with
      |true=>
       have g:Hid ((o.setCell ⟨G,5,none⟩ (.int .i64 (k:Int))).heap[G]?=some (.cells #[.int .i64 t,.int .i64 v,.int .i64 y,.string z,.string (tx8 LE),.int .i64 (aGT (aLS c LE) k (L.drop k))] 42)):=by unfold Hid;rw[a.out,jo (by simp)];exact aHL d _
       have ad:Below G w (o.setCell ⟨G,5,none⟩ (.int .i64 (k:Int))):=m.setCell (p:=⟨G,5,none⟩) (jf _) _
       have c5:o.cell? ⟨G,5,none⟩=some (.int .i64 (aGT (aLS c LE) (k+1) (L.drop (k+1)))):=(aDe d 5).trans rfl
       have q5:o.frozen? ⟨G,5,none⟩=false:=aDg d 5
       clear d m a hB
       go_wp2_with fail
       go_roundw
       case rel=>exact⟨k,rfl,by omega,ad,g⟩
       case measure=>simp[intOf]
      |false=>
       have g:Hid (o.heap[G]?=some (.cells #[.int .i64 t,.int .i64 v,.int .i64 y,.string z,.string (tx8 LE),.int .i64 (aGT (aLS c LE) k (L.drop k))] 42)):=by unfold Hid;rw[a.out,jh (by simp)];exact d
       clear d a hB
       go_wp2_with fail
       go_roundw
       case rel=>exact⟨k,rfl,by omega,m,g⟩
       case measure=>simp[intOf]
     |false=>
      rw[hp,jh (by simp)]at j
      have f:Below V.heap.size V w2:=b
      clear b hp
      rw[<-j.out]
      obtain⟨o,bK⟩:∃W,W=w2:=⟨_,rfl⟩
      rw[<-bK]at f⊢
      clear bK
      have d:=aDj i.out f
      have m:=l.out o f
      clear i HY F q l j f
      generalize hB:aLS c LE k ⟨s,J,D,E,M,aj,ak⟩=B at*
      cases B with
      |true=>
       have g:Hid ((o.setCell ⟨G,5,none⟩ (.int .i64 (k:Int))).heap[G]?=some (.cells #[.int .i64 t,.int .i64 v,.int .i64 y,.string z,.string (tx8 LE),.int .i64 (aGT (aLS c LE) k (L.drop k))] 42)):=by unfold Hid;rw[a.out,jo (by simp)];exact aHL d _
       have ad:Below G w (o.setCell ⟨G,5,none⟩ (.int .i64 (k:Int))):=m.setCell (p:=⟨G,5,none⟩) (jf _) _
       have c5:o.cell? ⟨G,5,none⟩=some (.int .i64 (aGT (aLS c LE) (k+1) (L.drop (k+1)))):=(aDe d 5).trans rfl
       have q5:o.frozen? ⟨G,5,none⟩=false:=aDg d 5
       clear d m a hB
       go_wp2_with fail
       go_roundw
       case rel=>exact⟨k,rfl,by omega,ad,g⟩
       case measure=>simp[intOf]
      |false=>
       have g:Hid (o.heap[G]?=some (.cells #[.int .i64 t,.int .i64 v,.int .i64 y,.string z,.string (tx8 LE),.int .i64 (aGT (aLS c LE) k (L.drop k))] 42)):=by unfold Hid;rw[a.out,jh (by simp)];exact d
       clear d a hB
       go_wp2_with fail
       go_roundw
       case rel=>exact⟨k,rfl,by omega,m,g⟩
       case measure=>simp[intOf]
theorem aJk{W a:World}{k:Nat}{o:Obj}(h:W.heap[k]?=some o)(b:jb W a):a.heap[k]?=some o:=by
 rw[b.block _ (jl.1 h).1];exact h
theorem aJj{W:World}{k:Nat}{o a:Obj}(h:W.heap[k]?=some o):(W.alloc a).heap[k]?=some o:=aJk h (ja _ _)
theorem aDS{W:World}{k:Nat}{t:TypeId}{a b c d f g j l:Value}(h:W.heap[k]?=some (.cells #[a,b,c,d,f,g,j,l] t)):
  W.cell? (jx k 0)=some a/\W.cell? (jx k 1)=some b/\W.cell? (jx k 2)=some c/\W.cell? (jx k 3)=some d/\W.cell? (jx k 4)=some f/\W.cell? (jx k 5)=some g/\W.cell? (jx k 6)=some j/\W.cell? (jx k 7)=some l/\∀i,W.frozen? (jx k i)=false:=
 ⟨aDf h 0,aDf h 1,aDf h 2,aDf h 3,aDf h 4,aDf h 5,aDf h 6,aDf h 7,aDh h⟩
def LS(w:World)(UA:Array Value)(W:World)(ls:List jA):Prop:=
 jb w W/\W.heap[w.heap.size]?=some (.cells UA 85)/\w.heap.size+1<W.heap.size/\W.frozen? (jx (w.heap.size+1) 0)=false/\
 ∃q n c,W.cell? (jx (w.heap.size+1) 0)=some (.slice q n c)/\n=ls.length/\W.ownsRow (w.heap.size+2) 9 1 (.slice q n c) n (aRl ls)
theorem LS.alloc{w W:World}{a:Array Value}{g:List jA}(h:LS w a W g)(o:Obj):LS w a (W.alloc o) g:=by
 obtain⟨b,i,d,j,q,n,c,k,l,m⟩:=h
 have f:jb W (W.alloc o):=ja _ _
 exact⟨b.alloc b.size _,aJj i,by simp;omega,(f.frozen (p:=jx (w.heap.size+1) 0) d).trans j,q,n,c,(f.cell (p:=jx (w.heap.size+1) 0) d).trans k,l,m.alloc _⟩
theorem aOE(a:Nat)(b:Value)(W:World):
  Calls prog 106 #[.bool false,b,.pointer (some (jx a 0))] W λe w'=>e=.returned (.tuple #[])/\w'=W:=by
 go_enter func106,ntmps106
 go_wp2
 go_end0
 exact⟨rfl,rfl⟩
theorem aOF(w W:World)(o:Array Value)(f d:List jA)(h:LS w o W f)(p:Addr)(m c:Nat)(I:d.length=m)(v:f.length<=100)(T:m<=10)
  (J:∀j u,(aRl d)[j]?=some u->W.cell? (p.add j)=some u):
  Calls prog 106 #[.bool true,.slice (some p) m c,.pointer (some (jx (w.heap.size+1) 0))] W λe w'=>e=.returned (.tuple #[])/\LS w o w' (f++d):=by
 obtain⟨X,R,z,A,B⟩:=jao aIL
 obtain⟨O,E,Y,F,q,n,c1,G,H,r⟩:=h
 have N:Hid (∀j u,(aRl d)[j]?=some u->W.cell? (p.add j)=some u):=J
 have L:Hid _:=E
 have M:Hid _:=H
 have C:Hid _:=I
 have U:n<=100:=by omega
 clear J E H I v
 go_enter func106,ntmps106
 go_wp2_with (at_builtin;refine jX _ rfl (.tmp 6) (.tmp 7) 26 rfl (w.heap.size+2) 9 X (.string jz) 1 16 underlying26 R z A B rfl (by decide) _ _ _ rfl r p m c (aRl d) rfl ?c0 N.out ?c2 ?c3 ?c4 ?c5 ?_)
 case c0=>simp[aRl];exact C.out
 case c2=>
  intro u x
  unfold aRl at x
  rw[jbi]at x
  obtain⟨y,_,rfl⟩:=x
  rfl
 case c3=>unfold maxLen;omega
 case c4=>omega
 case c5=>omega
 intro Z l a g _
 have b:Below (w.heap.size+2) W l:=(jr _ _).grown g (by omega) (λj S=>(r.lt j S).1)
 have s:=(b.cell (p:=jx (w.heap.size+1) 0) (by show w.heap.size+1<w.heap.size+2;omega)).trans G
 have t:=(b.frozen (p:=jx (w.heap.size+1) 0) (by show w.heap.size+1<w.heap.size+2;omega)).trans F
 obtain⟨k,i,rfl⟩:=aMh a
 have V:=b.size
 have D:Hid ((l.setCell (jx (w.heap.size+1) 0) (.slice k (n+m) i)).ownsRow (w.heap.size+2) 9 1 (.slice k (n+m) i) (n+m) (aRl (f++d))):=by
  unfold Hid
  rw[show aRl (f++d)=aRl f++aRl d from by simp[aRl]]
  exact ownsRow_setCell_below a (by show w.heap.size+1<w.heap.size+2;omega) _
 have P:LS w o (l.setCell (jx (w.heap.size+1) 0) (.slice k (n+m) i)) (f++d):=by
  refine⟨?_,?_,?_,?_,k,n+m,i,jch _ _ _ s,?_,D.out⟩
  ·exact(O.trans (b.mono (by omega))).setCell (Nat.le_succ _) _
  ·rw[jp _ _ _ _ (by simp),b.block _ (by omega)];exact L.out
  ·show w.heap.size+1<(l.heap.modify _ _).size
   rw[Array.size_modify];omega
  ·rw[jee];exact t
  ·rw[je,M.out,C.out]
 clear a g D G r F
 go_wp2
 go_end0
 exact⟨rfl,P⟩
theorem aOD(i:Bool)(w W:World)(d:Array Value)(a b:List jA)(h:LS w d W a)(p:Addr)(m c:Nat)(k:b.length=m)(f:a.length<=100)(g:m<=10)
  (l:∀j u,(aRl b)[j]?=some u->W.cell? (p.add j)=some u):
  Calls prog 106 #[.bool i,.slice (some p) m c,.pointer (some (jx (w.heap.size+1) 0))] W λe w'=>e=.returned (.tuple #[])/\LS w d w' (if i then a++b else a):=by
 cases i with
 |true=>exact aOF w W d a b h p m c k f g l
 |false=>
  refine(aOE _ _ W).mono ?_
  rintro e w' ⟨rfl,rfl⟩
  exact⟨rfl,h⟩
theorem aJ0(b:Bool)(a c:List jA):(if b then a++c else a).length<=a.length+c.length:=by cases b<;>simp
theorem aG9(b:Bool)(a c:List jA):(lst (if b then a++c else a)).flatten=(lst a).flatten++opt b (lst c).flatten:=by cases b<;>simp[lst,opt]
theorem aDO(w:World)(v a:Value)(t:TypeId)(b:Nat)(c:b=w.heap.size):∀j x,[v,a][j]?=some x->(w.alloc (.cells #[v,a] t)).cell? (((jx b 0):Addr).add j)=some x:=by
 subst c
 exact aDP w v a t
theorem aJd(b:List jB):Lib.join b []=b.flatten:=by
 cases b with
 |nil=>rfl
 |cons a t=>
  rw[Lib.join_cons]
  show a++(t.map ([]++·)).flatten=a++t.flatten
  simp
theorem LS.cells{w W:World}{l:List jA}{a b c d f g j k:Value}(h:LS w #[a,b,c,d,f,g,j,k] W l):
  W.cell? (jx w.heap.size 0)=some a/\W.cell? (jx w.heap.size 1)=some b/\W.cell? (jx w.heap.size 2)=some c/\W.cell? (jx w.heap.size 3)=some d/\W.cell? (jx w.heap.size 4)=some f/\W.cell? (jx w.heap.size 5)=some g/\W.cell? (jx w.heap.size 6)=some j/\W.cell? (jx w.heap.size 7)=some k/\∀i,W.frozen? (jx w.heap.size i)=false:=aDS h.2.1
theorem aPK(a l m o p T:jA)(b d f:Bool)(w:World)
  (X:Hid (T.data.toList=(lst (if f then(if d then((if b then(if(!a.toList.isEmpty)then []++[a,⟨#[58]⟩]else [])++[⟨#[47,47]⟩,l]else(if(!a.toList.isEmpty)then []++[a,⟨#[58]⟩]else []))++[m])++[⟨#[63]⟩,o]else((if b then(if(!a.toList.isEmpty)then []++[a,⟨#[58]⟩]else [])++[⟨#[47,47]⟩,l]else(if(!a.toList.isEmpty)then []++[a,⟨#[58]⟩]else []))++[m]))++[⟨#[35]⟩,p]else(if d then((if b then(if(!a.toList.isEmpty)then []++[a,⟨#[58]⟩]else [])++[⟨#[47,47]⟩,l]else(if(!a.toList.isEmpty)then []++[a,⟨#[58]⟩]else []))++[m])++[⟨#[63]⟩,o]else((if b then(if(!a.toList.isEmpty)then []++[a,⟨#[58]⟩]else [])++[⟨#[47,47]⟩,l]else(if(!a.toList.isEmpty)then []++[a,⟨#[58]⟩]else []))++[m])))).flatten))
  (N:T.size<=1000):
  Calls prog 55 #[.agg #[.string a,.bool b,.string l,.string m,.bool d,.string o,.bool f,.string p]] w (jG (.string T) w):=by
 obtain⟨M,i⟩:∃W,W=(w.alloc (.cells #[.string a,.bool b,.string l,.string m,.bool d,.string o,.bool f,.string p] 85)).alloc (.cells #[.slice none 0 0] 26):=⟨_,rfl⟩
 have D:M.heap.size=w.heap.size+1+1:=by rw[i];simp
 have V:LS w #[.string a,.bool b,.string l,.string m,.bool d,.string o,.bool f,.string p] M []:=by
  have hh:M.heap[w.heap.size+1]?=some (.cells #[.slice none 0 0] 26):=by
   rw[i]
   show((w.heap.push _).push _)[w.heap.size+1]?=_
   rw[j2,jo (by simp)]
  refine⟨?_,?_,by omega,aDh hh 0,none,0,0,aDf hh 0,rfl,jT _ _ _ _⟩
  ·rw[i];exact(ja _ _).alloc (by simp) _
  ·rw[i];exact aJj (by show(w.heap.push _)[w.heap.size]?=_;simp)
 go_enter func55,ntmps55
 go_wp2_with fail
 rw[<-i]
 refine(aOD (!a.toList.isEmpty) w _ _ [] [a,⟨#[58]⟩] (V.alloc _) ⟨w.heap.size+1+1,0,none⟩ 2 2 rfl (by decide) (by decide) (aDO _ _ _ _ _ D.symm)).mono ?_
 rintro e w1 ⟨rfl,I⟩
 clear V D i
 have n1:=aJ0 (!a.toList.isEmpty) [] [a,⟨#[58]⟩]
 generalize (if(!a.toList.isEmpty)=true then []++[a,⟨#[58]⟩]else [])=F at*
 simp only[jm,jag]at n1
 obtain⟨c0,c1,c2,c3,c4,c5,c6,r,s⟩:=I.cells
 go_wp2_with fail
 refine(aOD b w _ _ F [⟨#[47,47]⟩,l] (I.alloc _) ⟨w1.heap.size,0,none⟩ 2 2 rfl (by omega) (by decide) (aDO _ _ _ _ _ rfl)).mono ?_
 rintro e w2 ⟨rfl,J⟩
 clear I c0 c1 c2 c3 c4 c5 c6 r s
 have n2:=aJ0 b F [⟨#[47,47]⟩,l]
 generalize (if b=true then F++[⟨#[47,47]⟩,l]else F)=G at*
 simp only[jm,jag]at n2
 obtain⟨c0,c1,c2,c3,c4,c5,c6,r,s⟩:=J.cells
 go_wp2_with fail
 refine(aOD true w _ _ G [m] (J.alloc _) ⟨w2.heap.size,0,none⟩ 1 1 rfl (by omega) (by decide) (aDG _ _ _ _ rfl)).mono ?_
 rintro e w3 ⟨rfl,E⟩
 rw[jo rfl]at E
 clear J c0 c1 c2 c3 c4 c5 c6 r s
 have n3:(G++[m]).length=G.length+1:=by simp
 generalize G++[m]=x at*
 obtain⟨c0,c1,c2,c3,c4,c5,c6,r,s⟩:=E.cells
 go_wp2_with fail
 refine(aOD d w _ _ x [⟨#[63]⟩,o] (E.alloc _) ⟨w3.heap.size,0,none⟩ 2 2 rfl (by omega) (by decide) (aDO _ _ _ _ _ rfl)).mono ?_
 rintro e w4 ⟨rfl,L⟩
 clear E c0 c1 c2 c3 c4 c5 c6 r s
 have n4:=aJ0 d x [⟨#[63]⟩,o]
 have g4:1<=(if d=true then x++[⟨#[63]⟩,o]else x).length:=by cases d<;>simp<;>omega
 generalize (if d=true then x++[⟨#[63]⟩,o]else x)=z at*
 simp only[jm,jag]at n4
 obtain⟨c0,c1,c2,c3,c4,c5,c6,r,s⟩:=L.cells
 go_wp2_with fail
 refine(aOD f w _ _ z [⟨#[35]⟩,p] (L.alloc _) ⟨w4.heap.size,0,none⟩ 2 2 rfl (by omega) (by decide) (aDO _ _ _ _ _ rfl)).mono ?_
 rintro e H ⟨rfl,L5⟩
 clear L c0 c1 c2 c3 c4 c5 c6 r s
 have n5:=aJ0 f z [⟨#[35]⟩,p]
 have g5:1<=(if f=true then z++[⟨#[35]⟩,p]else z).length:=by cases f<;>simp<;>omega
 generalize (if f=true then z++[⟨#[35]⟩,p]else z)=R at*
 simp only[jm,jag]at n5
 obtain⟨t,_,_,_,q,n,c,O,Y,k⟩:=L5
 obtain⟨S,rfl⟩:∃S,n=S+1:=⟨n-1,by omega⟩
 obtain⟨g,rfl,C,P⟩:=aMj k
 have v:Lib.join (R.map (·.data.toList)) (ByteArray.mk #[]).data.toList=T.data.toList:=by
  rw[X.out];exact aJd _
 have U:Hid (Calls prog 107 #[.slice (some ⟨g,0,none⟩) (S+1) c,.string ⟨#[]⟩] H (jG (.string T) H)):=by
  have:=strings_Join g 0 c R ⟨#[]⟩ H (λj y Z=>by
   have hj:j<R.length:=(jN.1 Z).1
   rw[j0,k.cellAt j (by omega)]
   simp[aRl,Z]) C (by omega) (by omega) (by rw[v,<-Lib.size_eq];omega)
  have eT:(⟨T.data.toList.toArray⟩:jA)=T:=rfl
  rw[<-Y,v,eT]at this
  exact this
 clear k v X Y
 go_wp2_with fail
 refine U.out.mono ?_
 rintro e w6 ⟨rfl,A⟩
 have B:jb w w6:=t.trans (A.mono t.size)
 clear U A t O C P n5 g5 n4 g4 n3 n2 n1 N
 go_wp2_with fail
 go_ret
 exact⟨rfl,B⟩
theorem aPJ(u:UV)(j:u.short 120)(T:jA)(g:T.data.toList=aR7 u.l)(w:World):
  Calls prog 55 #[u.v] w (jG (.string T) w):=by
 have i:=aSF u j
 obtain⟨o,d,l,m,f,n,c,k⟩:=u
 refine aPK o l m n k T d f c w ?_ (by rw[Lib.size_eq,g];exact i)
 unfold Hid
 rw[g,aG9,aG9]
 rw[show∀a b:List jA,(lst (a++b)).flatten=(lst a).flatten++(lst b).flatten from λa b=>by simp[lst],aG9,aG9]
 rw[jj]
 unfold aR7 UV.l
 simp[lst,List.append_assoc]
end Go.Proofs.YtbbfcbodhmeanaaGreatDoor

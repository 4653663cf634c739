import Derived.Test.YtbbfcbodhmeanaaGreatDoorXrewritesays27
import Derived.Lib.JoinFns
import Derived.Deep.CutRange
import Derived.Deep.RegionWith
import Derived.Lib.SplitLaws
import Derived.Lib.ReplaceLaws
import Derived.Lib.Join
set_option maxHeartbeats 8000000
set_option maxRecDepth 1000000
namespace Go.Proofs.YtbbfcbodhmeanaaGreatDoor
open Go.RowKit
theorem aRN(a:jB->jB)(seen:List jB){s r:jB}(h:s.dropWhile aIt=r.dropWhile aIt):aRI a seen s=aRI a seen r:=by
 cases b:r.dropWhile aIt with
 |nil=>rw[aRM a seen s (h.trans b),aRM a seen r b]
 |cons c t=>
  by_cases d:c=62
  ·subst d
   rw[aRJ a seen s t (h.trans b),aRJ a seen r t b]
  ·rw[aRL a seen s c t (h.trans b) d,aRL a seen r c t b d]
theorem aRK(a:jB->jB)(seen:List jB){c:UInt8}(t:jB)(h:aIt c=true):aRI a seen (c::t)=aRI a seen t:=aRN a seen (jaj h)
theorem aHv(s:jB):(s.dropWhile spB).dropWhile aIt=s.dropWhile aIt:=by
 induction s with
 |nil=>rfl
 |cons c t a=>
  by_cases h:spB c=true
  ·rw[jaj h,a,jaj (by unfold aIt;rw[h];rfl)]
  ·rw[jai h]
theorem aRO(a:jB->jB)(seen:List jB)(s:jB):aRI a seen (s.dropWhile spB)=aRI a seen s:=aRN a seen (aHv s)
structure aBs(w0:World)(p:jA)(s0:jB)(v11 v12:Value)(wr:World)(sj:jB)(names:List jB)(acc:List LK):Prop where
 la:acc.length+sj.length<=4000
 ls:names.length+sj.length<=4000
 suf:Suf p sj
 bel:jb w0 wr
 om:wr.ownsRow w0.heap.size 40 3 v11 acc.length (lv p.size acc)
 on:wr.ownsRow w0.heap.size 9 1 v12 names.length (names.map λx=>Value.string (lba x))
 eq:aRI aQJ [] s0=((aRI aQJ names.reverse sj).1.map (acc++·),(aRI aQJ names.reverse sj).2)
theorem aBs.gap{i:World}{p:jA}{g:jB}{d f:Value}{wr:World}{c:UInt8}{t:jB}{a:List jB}{b:List LK}(h:aBs i p g d f wr (c::t) a b)(j:aIt c=true):aBs i p g d f wr t a b:=
 ⟨by have:=h.la;simp only[jm]at this;omega,by have:=h.ls;simp only[jm]at this;omega,h.suf.tl,h.bel,h.om,h.on,by rw[h.eq,aRK aQJ _ t j]⟩
def aBt(w0:World)(p:jA)(r:Option (List LK)×jB)(v9 v11:Value)(wr:World):Prop:=
 ∃(sj:jB) (acc:List LK),v9=.int .i64 ((pos p sj:Nat):Int)/\Suf p sj/\jb w0 wr/\acc.length<=4000/\wr.ownsRow w0.heap.size 40 3 v11 acc.length (lv p.size acc)/\((sj=[]/\r=(none,[]))\/∃t,sj=62::t/\r=(some acc,t))
theorem aBs.nil{g:World}{p:jA}{f:jB}{c d:Value}{wr:World}{a:List jB}{b:List LK}(h:aBs g p f c d wr [] a b):aBt g p (aRI aQJ [] f) (.int .i64 ((p.size:Nat):Int)) c wr:=
 ⟨[],b,rfl,h.suf,h.bel,by have:=h.la;simp at this;omega,h.om,Or.inl ⟨rfl,by rw[h.eq,aRM aQJ _ [] rfl];rfl⟩⟩
theorem aBs.fin{g:World}{p:jA}{f:jB}{c d:Value}{wr:World}{t:jB}{a:List jB}{b:List LK}(h:aBs g p f c d wr (62::t) a b){k:Nat}(i:pos p (62::t)=k):aBt g p (aRI aQJ [] f) (.int .i64 (k:Int)) c wr:=
 ⟨62::t,b,by rw[i],h.suf,h.bel,by have:=h.la;simp at this;omega,h.om,Or.inr ⟨t,rfl,by rw[h.eq,aRJ aQJ _ (62::t) t rfl];simp⟩⟩
theorem aPv{w:World}{m e1 v j n i x k:Nat}{d l:Value}{y z:List Value}(p:w.ownsRow m e1 v d j y)(q:w.ownsRow n i x l k z)(c:e1≠i):d.ownBlock=none\/d.ownBlock≠l.ownBlock:=by
 rcases p.2 with⟨rfl,_⟩|⟨g,cap,o,rfl,s⟩
 ·exact Or.inl rfl
 ·rcases q.2 with⟨rfl,_⟩|⟨b,a,f,rfl,t⟩
  ·exact Or.inr (by intro h;cases h)
  ·refine Or.inr λh=>c ?_
   have r:g=b:=by
    have:(Value.slice (some (jx g 0)) j cap).ownBlock=some g:=rfl
    have:(Value.slice (some (jx b 0)) k a).ownBlock=some b:=rfl
    simp_all
   subst r
   obtain⟨_,A,_⟩:=s
   obtain⟨_,B,_⟩:=t
   simp_all
def eqB(s:jB):Bool:=match s with
 |61::_=>true
 |_=>false
theorem aFW{d:UInt8}(y:jB)(h:¬d=61):eqB (d::y)=false:=by
 unfold eqB
 split
 ·rename_i e
  exact absurd (j4 e).1 h
 ·rfl
theorem aFX{y:jB}(h:eqB y=true):∃t,y=61::t:=by
 unfold eqB at h
 split at h
 ·exact⟨_,rfl⟩
 ·cases h
def LkA(w1:World)(p:jA)(ya yb:jB)(L:Nat)(yd:jB)(wx:World):Prop:=
 Below L w1 wx/\Suf p yd/\
 ((eqB yb=false/\yd=ya/\wx.heap[L]?=some (.cells #[.int .i64 (-1),.int .i64 0,.string jz] 40))\/
  ∃y2,yb=61::y2/\yd=(aUs (y2.dropWhile spB)).2.2/\wx.heap[L]?=some (.cells #[.int .i64 ((pos p (aUs (y2.dropWhile spB)).1:Nat):Int),.int .i64 ((pos p (aUs (y2.dropWhile spB)).1+(aUs (y2.dropWhile spB)).2.1.length:Nat):Int),.string jz] 40))
theorem aKj{W:World}{L t:Nat}{a b c:Value}(h:W.heap[L]?=some (.cells #[a,b,c] t))(x y:Value):((W.setCell (jx L 0) x).setCell (jx L 1) y).heap[L]?=some (.cells #[x,y,c] t):=by
 have d:(W.setCell (jx L 0) x).heap[L]?=some (.cells #[x,b,c] t):=by
  show(W.heap.modify L _)[L]?=_
  rw[jah,jo rfl,h]
  rfl
 show((W.setCell (jx L 0) x).heap.modify L _)[L]?=_
 rw[jah,jo rfl,d]
 rfl
theorem aIA(q:UInt8):∀y:jB,Lib.indexByte (y++[q]) q=((y.takeWhile (aLF q)).length:Int)
 |[]=>by simp[Lib.indexByte]
 |c::y=>by
  have a:=aIA q y
  rw[jL,Lib.indexByte]
  by_cases h:c=q
  ·subst h
   rw[jo (by simp),List.takeWhile_cons_of_neg (by simp[aLF])]
   rfl
  ·rw[jh (by simpa using h),a,List.takeWhile_cons_of_pos (by simp[aLF,h]),jh (by simp)]
   rfl
theorem aOA(q:UInt8)(y:jB):(y.takeWhile (aLF q)).length+(y.dropWhile (aLF q)).length=y.length:=by
 have:=jab List.length (jak (p:=aLF q) (l:=y))
 rw[je]at this
 exact this
theorem aOB{p:jA}{q:UInt8}{y:jB}(h:Suf p (q::y)):min (pos p (q::y)+1+(y.takeWhile (aLF q)).length+1) p.size=pos p ((y.dropWhile (aLF q)).drop 1):=by
 have a:=h.len
 have b:=aOA q y
 unfold pos
 rw[jH]
 simp only[jm]at*
 omega
theorem aUt{q:UInt8}(y:jB)(h:qB q=true):aUs (q::y)=(y,y.takeWhile (aLF q),(y.dropWhile (aLF q)).drop 1):=by
 show(if qB q=true then _ else _)=_
 rw[jo h]
theorem aOC{p:jA}{q:UInt8}{y:jB}(h:Suf p (q::y)):p.extract (pos p (q::y)+1) p.size=lba y/\p.extract (pos p (q::y)) (pos p (q::y)+1)=⟨#[q]⟩/\pos p y=pos p (q::y)+1:=by
 obtain⟨k,b,f,d,c⟩:=aCe h
 refine⟨?_,?_,by rw[c,b]⟩
 ·rw[b,<-c]
  exact aF5 h.tl
 ·have e:pos p (q::y)+1=pos p y:=by rw[b,c]
  rw[e]
  exact aF6 h (a:=[q]) (r:=y) rfl
end Go.Proofs.YtbbfcbodhmeanaaGreatDoor
namespace Go.Proofs.YtbbfcbodhmeanaaGreatDoor
open Go.Proofs.Tryz
open Go.RowKit
def aEB:Code->List Code
 | .cond c a b=>.cond c a b::(aEB a++aEB b)
 | .loop c=>aEB c
 | .seq a b=>aEB a++aEB b
 | .block _ c=>aEB c
 | .scope c=>aEB c
 |_=>[]
def aEA(f:Func)(k:Nat):Code:=((f.body.map aEB).getD []).getD k .skip
theorem lkQ(g:Nat)(p:jA)(hp:p.size<=4000)(q:UInt8)(y:jB)(hS:Suf p (q::y))(w:World)(hg:w.cell? ⟨g,0,none⟩=some (.string p))(L:Nat)(la lb lc:Value)(hL:w.heap[L]?=some (.cells #[la,lb,lc] 40))(fR:g≠L){c0 c1 c2 c3 c4 c6 c7 c8 c9 dE dF dG dH dI dJ dK dL dM dN dO dP dQ dR dS dT dU dV dW dX dY dZ ea eb ec ed ee ef eg eh ei ej ek em en eo ep eq er es et ev ew ex ey ez eA eB eC eD eE eF eG eH eI eJ eK eL eM eN eO eP eQ eR eS eT eU eV eW eX eY eZ e2 e3 e4 e5 e6 e7 e8 e9 fa fb fc fd fe ff fg fh b c d f i j l m o r s t x A B C D E F G H I J M N O P R S T U V X Y Z aa ab ac ad ae af ag ah ai aj ak al am an ao ap aq ar av aw ax ay az aA aB aC aD aE aF aG aH aI aJ aK aL aM aN aO aP aQ aR aS aT aU aV aW aX aY aZ a0 a1 a2 a3 a4 a5 a6 a7 a8 a9 bb bc bd be bf bg bh bi bj bk bl bm bn bo bp bq br bs bt bw bx bz bA bB bC bD bE bF bG bH bI fl fm fn fo fp fq fr fs ft fv fw fx fy fz fA fB fC fD fE fF fG fH fI fJ fK fL fM fN fO bJ bK bL bM bN bO bP bQ bR bS bT bU bV bW bX bY bZ b0 b1 b2 b3 b4 b5 b6 b7 b8 b9 ca cb cc cd ce cf cg ch ci cj ck cl cm cn cp cq cr cs ct cv cw cx cy cz cA cB cC cD cE cF cG cH cI cJ cK cL cM cN cO cP cQ cR cS cT cU:Value}(Q:Exit->Act->World->Prop)
  (fj:∀{cX cY cZ da db dc dd de df dg dh di dj dk dl dm dn dp dq dr ds dt dv dw dx dy dz dA dB:Value},Q .normal ⟨(c0::c1::c2::c3::c4::.pointer (some ⟨g,0,none⟩)::c6::c7::c8::.int .i64 ((pos p ((y.dropWhile (aLF q)).drop 1):Nat):Int)::dE::dF::dG::dH::dI::.int .i64 ((pos p (q::y):Nat):Int)::.pointer (some ⟨L,0,none⟩)::dJ::dK::dL::dM::dN::dO::dP::dQ::dR::dS::dT::dU::dV::dW::dX::dY::dZ::ea::eb::ec::ed::ee::ef::eg::eh::ei::ej::ek::em::en::eo::ep::eq::er::es::et::ev::ew::ex::ey::ez::eA::eB::eC::eD::eE::eF::eG::eH::eI::eJ::eK::eL::eM::eN::eO::eP::eQ::eR::eS::eT::eU::eV::eW::eX::eY::eZ::e2::e3::e4::e5::e6::e7::e8::e9::fa::fb::fc::fd::fe::ff::fg::fh::b::c::d::f::i::j::l::m::o::r::s::t::x::A::B::C::D::E::F::G::H::I::J::M::N::O::P::R::S::T::U::V::X::Y::Z::aa::ab::ac::ad::ae::af::ag::ah::ai::aj::ak::al::am::an::ao::ap::aq::ar::av::aw::ax::ay::az::aA::aB::aC::aD::aE::aF::aG::aH::aI::aJ::aK::aL::aM::aN::aO::aP::aQ::aR::aS::aT::aU::aV::aW::aX::aY::aZ::a0::a1::a2::a3::a4::a5::a6::a7::a8::a9::bb::bc::bd::be::bf::bg::bh::bi::bj::bk::bl::bm::bn::bo::bp::bq::br::bs::bt::bw::bx::bz::bA::bB::bC::bD::bE::bF::bG::bH::bI::.bool true::cX::cY::cZ::da::db::dc::dd::de::df::dg::dh::di::dj::dk::dl::dm::dn::dp::dq::dr::ds::dt::dv::dw::dx::dy::dz::dA::dB::bJ::bK::bL::bM::bN::bO::bP::bQ::bR::bS::bT::bU::bV::bW::bX::bY::bZ::b0::b1::b2::b3::b4::b5::b6::b7::b8::b9::ca::cb::cc::cd::ce::cf::cg::ch::ci::cj::ck::cl::cm::cn::cp::cq::cr::cs::ct::cv::cw::cx::cy::cz::cA::cB::cC::cD::cE::cF::cG::cH::cI::cJ::cK::cL::cM::cN::cO::cP::cQ::cR::cS::cT::cU::[]).toArray,[]⟩ ((w.setCell ⟨L,0,none⟩ (.int .i64 ((pos p (q::y)+1:Nat):Int))).setCell ⟨L,1,none⟩ (.int .i64 ((pos p (q::y)+1+(y.takeWhile (aLF q)).length:Nat):Int))).drew):
  Code.wp prog (aEA f58 13) Q ⟨(c0::c1::c2::c3::c4::.pointer (some ⟨g,0,none⟩)::c6::c7::c8::c9::dE::dF::dG::dH::dI::.int .i64 ((pos p (q::y):Nat):Int)::.pointer (some ⟨L,0,none⟩)::dJ::dK::dL::dM::dN::dO::dP::dQ::dR::dS::dT::dU::dV::dW::dX::dY::dZ::ea::eb::ec::ed::ee::ef::eg::eh::ei::ej::ek::em::en::eo::ep::eq::er::es::et::ev::ew::ex::ey::ez::eA::eB::eC::eD::eE::eF::eG::eH::eI::eJ::eK::eL::eM::eN::eO::eP::eQ::eR::eS::eT::eU::eV::eW::eX::eY::eZ::e2::e3::e4::e5::e6::e7::e8::e9::fa::fb::fc::fd::fe::ff::fg::fh::b::c::d::f::i::j::l::m::o::r::s::t::x::A::B::C::D::E::F::G::H::I::J::M::N::O::P::R::S::T::U::V::X::Y::Z::aa::ab::ac::ad::ae::af::ag::ah::ai::aj::ak::al::am::an::ao::ap::aq::ar::av::aw::ax::ay::az::aA::aB::aC::aD::aE::aF::aG::aH::aI::aJ::aK::aL::aM::aN::aO::aP::aQ::aR::aS::aT::aU::aV::aW::aX::aY::aZ::a0::a1::a2::a3::a4::a5::a6::a7::a8::a9::bb::bc::bd::be::bf::bg::bh::bi::bj::bk::bl::bm::bn::bo::bp::bq::br::bs::bt::bw::bx::bz::bA::bB::bC::bD::bE::bF::bG::bH::bI::.bool true::fl::fm::fn::fo::fp::fq::fr::fs::ft::fv::fw::fx::fy::fz::fA::fB::fC::fD::fE::fF::fG::fH::fI::fJ::fK::fL::fM::fN::fO::bJ::bK::bL::bM::bN::bO::bP::bQ::bR::bS::bT::bU::bV::bW::bX::bY::bZ::b0::b1::b2::b3::b4::b5::b6::b7::b8::b9::ca::cb::cc::cd::ce::cf::cg::ch::ci::cj::ck::cl::cm::cn::cp::cq::cr::cs::ct::cv::cw::cx::cy::cz::cA::cB::cC::cD::cE::cF::cG::cH::cI::cJ::cK::cL::cM::cN::cO::cP::cQ::cR::cS::cT::cU::[]).toArray,[]⟩ w:=by
 have HX:Hid _:=@fj
 clear fj
 conv=>arg 2;whnf
 obtain⟨fV,fW,ga⟩:=aOC hS
 have cW:=aOB hS
 obtain⟨nq,dC⟩:∃n,(y.takeWhile (aLF q)).length=n:=⟨_,rfl⟩
 obtain⟨y6,fQ⟩:∃z,(y.dropWhile (aLF q)).drop 1=z:=⟨_,rfl⟩
 rw[dC,fQ]at cW HX
 have fT:pos p (q::y)+1+nq<=p.size:=by have:=aOA q y;have h4:=hS.len;rw[dC]at this;unfold pos;simp only[jm]at*;omega
 have CI:Hid (∀W,Calls prog 86 #[.string (lba y++⟨#[q]⟩),.string ⟨#[q]⟩] W λe w'=>e=.returned (.int .i64 (nq:Int))/\w'=W):=λW=>by
  have h:=strings_Index_one (lba y++⟨#[q]⟩) q W
  have e:(lba y++⟨#[q]⟩:jA).data.toList=y++[q]:=by rw[ByteArray.data_append];simp[lba]
  rw[e,aIA,dC]at h
  exact h
 have gq:y.length<=4000:=by have h4:=hS.len;simp only[jm]at h4;omega
 have s1:∀W,(Op.stringOp .add (lba y) ⟨#[q]⟩).run prog W=.ok (.string (lba y++⟨#[q]⟩)) W:=λW=>run_string_add_sum W _ _ (by rw[aJC];show y.length+1<=_;omega)
 have dD:Hid _:=cW
 obtain⟨a,fP⟩:∃k,pos p (q::y)=k:=⟨_,rfl⟩
 rw[fP]at fV fW HX dD fT⊢
 have gn:IntKind.i64.wrap ((a:Int)+1)=(a:Int)+1:=by rw[ju];omega
 have go:IntKind.i64.wrap ((a:Int)+1+(nq:Int))=(a:Int)+1+(nq:Int):=by rw[ju];omega
 have gp:IntKind.i64.wrap ((a:Int)+1+(nq:Int)+1)=(a:Int)+1+(nq:Int)+1:=by rw[ju];omega
 have gj:(a:Int)+1<=(p.size:Int):=by omega
 have gl:(0:Int)<=(a:Int)+1:=by omega
 have gm:(a:Int)<=(a:Int)+1:=by omega
 have gf:p.extract ((a:Int)+1).toNat p.size=lba y:=by rw[show((a:Int)+1).toNat=a+1 from by omega];exact fV
 have gg:p.extract a ((a:Int)+1).toNat=⟨#[q]⟩:=by rw[show((a:Int)+1).toNat=a+1 from by omega];exact fW
 obtain⟨z0,z1,z2,zf⟩:=aJE hL
 have gd:=zf 0
 have ge:=zf 1
 obtain⟨W1,cV⟩:∃W,W=w.setCell ⟨L,0,none⟩ (.int .i64 ((a:Int)+1)):=⟨_,rfl⟩
 have fS:W1.cell? ⟨g,0,none⟩=some (.string p):=by rw[cV];exact(jae _ _ _ _ (λe=>fR (by injection e with e _ _;exact e.symm))).trans hg
 have fk:Hid (∀y,(W1.setCell ⟨L,1,none⟩ y).cell? ⟨g,0,none⟩=some (.string p)):=λy=>(jae _ _ _ _ (λe=>fR (by injection e with e _ _;exact e.symm))).trans fS
 have fi:W1.heap[L]?=some (.cells #[.int .i64 ((a:Int)+1),lb,lc] 40):=by
  rw[cV]
  show(w.heap.modify L _)[L]?=_
  rw[jah,jo rfl,hL]
  rfl
 obtain⟨x0,x1,x2,xf⟩:=aJE fi
 have gc:=xf 1
 rw[show((a+1:Nat):Int)=(a:Int)+1 from rfl,<-cV]at HX
 have fY:Hid _:=cV.symm
 have fX:Hid (∀v,(W1.setCell ⟨L,1,none⟩ v).drew.cell? ⟨L,1,none⟩=some v):=λv=>by
  show(W1.setCell ⟨L,1,none⟩ v).cell? ⟨L,1,none⟩=some v
  have h3:(W1.setCell ⟨L,1,none⟩ v).heap[L]?=some (.cells #[.int .i64 ((a:Int)+1),v,lc] 40):=by
   show(W1.heap.modify L _)[L]?=_
   rw[jah,jo rfl,fi]
   rfl
  exact(aJE h3).2.1
 clear cW ga dC fQ fT fP hL fi zf xf cV hS
 go_upto_region 42 with fail
 rw[fY.out]
 clear z0 z1 z2 gd ge hg
 go_region_held3 (λw'=>w'.cell? ⟨g,0,none⟩=some (.string p)) (first|assumption|exact fk.out _) (first
  |(go_at_call 86;refine(CI.out _).mono ?_;rintro e w' ⟨rfl,gb⟩;have fU:=gb.symm;subst fU))
 clear fS x0 x1 x2 gc CI s1
 rename_i hH
 have fZ:Hid (∀cX cY cZ da db dc dd de df dg dh di dj dk dl dm dn dp dq dr ds dt dv dw dx dy dz dA dB:Value,Q .normal ⟨(c0::c1::c2::c3::c4::.pointer (some ⟨g,0,none⟩)::c6::c7::c8::.int .i64 ((pos p y6:Nat):Int)::dE::dF::dG::dH::dI::.int .i64 (a:Int)::.pointer (some ⟨L,0,none⟩)::dJ::dK::dL::dM::dN::dO::dP::dQ::dR::dS::dT::dU::dV::dW::dX::dY::dZ::ea::eb::ec::ed::ee::ef::eg::eh::ei::ej::ek::em::en::eo::ep::eq::er::es::et::ev::ew::ex::ey::ez::eA::eB::eC::eD::eE::eF::eG::eH::eI::eJ::eK::eL::eM::eN::eO::eP::eQ::eR::eS::eT::eU::eV::eW::eX::eY::eZ::e2::e3::e4::e5::e6::e7::e8::e9::fa::fb::fc::fd::fe::ff::fg::fh::b::c::d::f::i::j::l::m::o::r::s::t::x::A::B::C::D::E::F::G::H::I::J::M::N::O::P::R::S::T::U::V::X::Y::Z::aa::ab::ac::ad::ae::af::ag::ah::ai::aj::ak::al::am::an::ao::ap::aq::ar::av::aw::ax::ay::az::aA::aB::aC::aD::aE::aF::aG::aH::aI::aJ::aK::aL::aM::aN::aO::aP::aQ::aR::aS::aT::aU::aV::aW::aX::aY::aZ::a0::a1::a2::a3::a4::a5::a6::a7::a8::a9::bb::bc::bd::be::bf::bg::bh::bi::bj::bk::bl::bm::bn::bo::bp::bq::br::bs::bt::bw::bx::bz::bA::bB::bC::bD::bE::bF::bG::bH::bI::.bool true::cX::cY::cZ::da::db::dc::dd::de::df::dg::dh::di::dj::dk::dl::dm::dn::dp::dq::dr::ds::dt::dv::dw::dx::dy::dz::dA::dB::bJ::bK::bL::bM::bN::bO::bP::bQ::bR::bS::bT::bU::bV::bW::bX::bY::bZ::b0::b1::b2::b3::b4::b5::b6::b7::b8::b9::ca::cb::cc::cd::ce::cf::cg::ch::ci::cj::ck::cl::cm::cn::cp::cq::cr::cs::ct::cv::cw::cx::cy::cz::cA::cB::cC::cD::cE::cF::cG::cH::cI::cJ::cK::cL::cM::cN::cO::cP::cQ::cR::cS::cT::cU::[]).toArray,[]⟩ (W1.setCell ⟨L,1,none⟩ (.int .i64 ((a:Int)+1+(nq:Int)))).drew):=@HX
 clear HX
 have gh:(W1.setCell ⟨L,1,none⟩ (.int .i64 ((a:Int)+1+(nq:Int)))).drew.cell? ⟨L,1,none⟩=some (.int .i64 ((a:Int)+1+(nq:Int))):=fX.out _
 have gi:min ((a:Int)+1+(nq:Int)+1) (p.size:Int)=((pos p y6:Nat):Int):=by rw[<-dD.out];omega
 generalize (W1.setCell ⟨L,1,none⟩ (.int .i64 ((a:Int)+1+(nq:Int)))).drew=W2 at*
 go_wp2_with fail
 exact fZ.out _ _ _ _ _ _ _ _ _ _ _ _ _ _ _ _ _ _ _ _ _ _ _ _ _ _ _ _ _
theorem aQ2(m:jB):∀(k:Nat) (s:jB),Lib.splitK m 0 k s≠[]
 |0,s=>by simp[Lib.splitK]
 |k+1,s=>by unfold Lib.splitK;split<;>simp
theorem aIT(n a:jB){t:List jB}(h:t≠[]):n.intercalate (a::t)=a++n++n.intercalate t:=by
 cases t with
 |nil=>exact absurd rfl h
 |cons b t=>simp[List.intercalate,List.intersperse]
theorem aJg(m n:jB):∀(k:Nat) (s:jB),Lib.join (Lib.splitK m 0 k s) n=Lib.replaceK m n k s
 |0,s=>by simp[Lib.splitK,Lib.replaceK,Lib.join,List.intercalate]
 |k+1,s=>by
  unfold Lib.splitK Lib.replaceK
  split
  ·simp[Lib.join,List.intercalate]
  ·have a:=aJg m n k (s.drop ((Lib.index s m).toNat+m.length))
   unfold Lib.join at*
   rw[aIT n _ (aQ2 m k _),a,jcd]
theorem aTX(s:jB):Lib.join (Lib.splitK aBY 0 (Lib.count s aBY) s) [38]=aTW s:=by
 rw[aJg]
 unfold aTW Lib.replaceAll Lib.replace Lib.replaceNum
 rw[jh (by decide),jo (Or.inl (by decide))]
theorem aOG(T:jA)(v:T.size<=4000)(w:World)(p:∃m:Int,w.cell? ⟨0,0,none⟩=some (.int .i64 m)):
  ∃n:Nat,(Calls prog 57 #[.string T,.string ⟨#[38,97,109,112,59]⟩] w λe w'=>e=.returned (.slice (some ⟨w.heap.size,0,none⟩) n n)/\jb w w'/\
   Calls prog 107 #[.slice (some ⟨w.heap.size,0,none⟩) n n,.string ⟨#[38]⟩] w' λe d=>e=.returned (.string (lba (aTW T.data.toList)))/\jb w d):=by
 obtain⟨m,r⟩:=p
 refine⟨Lib.countB T ⟨#[38,97,109,112,59]⟩+1,(strings_Split T ⟨#[38,97,109,112,59]⟩ m w (by omega) r (by decide)).mono ?_⟩
 rintro e w' ⟨rfl,rfl⟩
 have f:jb w (w.alloc (.cells ((Lib.splitB ⟨#[38,97,109,112,59]⟩ 0 (Lib.countB T ⟨#[38,97,109,112,59]⟩) T).map Value.string).toArray 9)):=ja _ _
 obtain⟨W,g⟩:∃W,W=w.alloc (.cells ((Lib.splitB ⟨#[38,97,109,112,59]⟩ 0 (Lib.countB T ⟨#[38,97,109,112,59]⟩) T).map Value.string).toArray 9):=⟨_,rfl⟩
 have a:∀(j:Nat) x,(Lib.splitB ⟨#[38,97,109,112,59]⟩ 0 (Lib.countB T ⟨#[38,97,109,112,59]⟩) T)[j]?=some x->W.cell? ⟨w.heap.size,0+j,none⟩=some (.string x):=λj x t=>by
  rw[g,World.cell?,aKx,j0]
  simp[t]
 have k:w.heap.size<W.heap.size:=by rw[g];show w.heap.size<(w.heap.push _).size;rw[Array.size_push];omega
 rw[<-g]at f⊢
 refine⟨rfl,f,?_⟩
 have c:=Lib.splitB_all ⟨#[38,97,109,112,59]⟩ (by decide) 0 _ T rfl
 have b:=Lib.splitB_data ⟨#[38,97,109,112,59]⟩ 0 (Lib.countB T ⟨#[38,97,109,112,59]⟩) T
 have l:Lib.join ((Lib.splitB ⟨#[38,97,109,112,59]⟩ 0 (Lib.countB T ⟨#[38,97,109,112,59]⟩) T).map (·.data.toList)) [38]=aTW T.data.toList:=by
  rw[b]
  exact aTX T.data.toList
 have q:Lib.countB T ⟨#[38,97,109,112,59]⟩<=T.size:=by
  have:=Lib.countB_mul_le ⟨#[38,97,109,112,59]⟩ (by decide) T.size T (jf _)
  have o:(ByteArray.mk #[38,97,109,112,59]).size=5:=rfl
  rw[o]at this
  omega
 have s:(aTW T.data.toList).length<=4000:=by
  have:=aTY T.data.toList
  rw[<-Lib.size_eq]at this
  omega
 have:=strings_Join w.heap.size 0 (Lib.countB T ⟨#[38,97,109,112,59]⟩+1) (Lib.splitB ⟨#[38,97,109,112,59]⟩ 0 (Lib.countB T ⟨#[38,97,109,112,59]⟩) T) ⟨#[38]⟩ W a k (by omega) (by omega) (by show(Lib.join _ [38]).length<=_;rw[l];omega)
 rw[c]at this
 refine this.mono ?_
 rintro e d ⟨rfl,i⟩
 refine⟨?_,f.trans (i.mono f.size)⟩
 show _=Ending.returned (.string ⟨(aTW T.data.toList).toArray⟩)
 rw[<-l]
structure aAB(w w':World)(L:Nat)(row:Option Nat):Prop where
 os:w'.os=w.os
 tape:w'.tape=w.tape
 output:w'.output=w.output
 size:w.heap.size<=w'.heap.size
 block:∀k,k<w.heap.size->k≠L->some k≠row->w'.heap[k]?=w.heap[k]?
theorem aAB.refl(w:World)(L:Nat)(a:Option Nat):aAB w w L a:=⟨rfl,rfl,rfl,jf _,λ_ _ _ _=>rfl⟩
theorem aAB.below{B:Nat}{c w w':World}{L:Nat}{b:Option Nat}(h:aAB w w' L b)(a:Below B c w)(g:B<=w.heap.size)(i:B<=L)(f:∀k,b=some k->B<=k):Below B c w':=
 ⟨h.os.trans a.os,h.tape.trans a.tape,h.output.trans a.output,j1 a.size h.size,λk d=>(h.block k (by omega) (by omega) (λe=>by have:=f k e.symm;omega)).trans (a.block k d)⟩
theorem aAB.owns{B:Nat}{w w':World}{L:Nat}{a:Option Nat}(h:aAB w w' L a){e s n:Nat}{v:Value}{j:List Value}(i:w.ownsRow B e s v n j)(l:∀k,v.ownBlock=some k->k≠L/\some k≠a):w'.ownsRow B e s v n j:=by
 refine⟨i.1,?_⟩
 rcases i.2 with m|⟨g,cap,b,rfl,o,c,p⟩
 ·exact .inl m
 ·refine .inr ⟨g,cap,b,rfl,o,?_,p⟩
  have f:=l g rfl
  have d:g<w.heap.size:=by
   rw[jl]at c
   exact c.1
  rw[h.block g d f.1 f.2]
  exact c
theorem aAB.cell{w w':World}{L:Nat}{b:Option Nat}(h:aAB w w' L b){a:Addr}{v:Value}(c:w.cell? a=some v)(d:a.block≠L)(f:some a.block≠b):w'.cell? a=some v:=
 (jbw (h.block a.block (ji w a c) d f)).trans c
def aBI(b:Bool)(x:LK):List LK:=if b=true then [x]else []
theorem aQc{W:World}{L t:Nat}{a b c:Value}(h:W.heap[L]?=some (.cells #[a,b,c] t))(x:Value):(W.setCell (jx L 2) x).heap[L]?=some (.cells #[a,b,x] t):=by
 show(W.heap.modify L _)[L]?=_
 rw[jah,jo rfl,h]
 rfl
theorem aP8(W:World)(L:Nat)(o:Nat)(x:Value)(k:Nat)(a:k≠L):(W.setCell (jx L o) x).heap[k]?=W.heap[k]?:=by
 show(W.heap.modify L _)[k]?=_
 rw[jah,jh (λe=>a e.symm)]
theorem aQb(W:World)(L:Nat)(o:Nat)(x:Value):(W.setCell (jx L o) x).heap.size=W.heap.size:=by
 show(W.heap.modify L _).size=_
 rw[Array.size_modify]
theorem lkM(g:Nat)(p:jA)(hp:p.size<=4000)(w:World)(b:Bool)(B:Nat)(a:List LK)(pm:jO)(lm cm:Nat)(fV:lm=a.length)(L:Nat)(x:LK)
  (c:w.ownsRow B 40 3 (.slice pm lm cm) a.length (lv p.size a))(gf:B<=w.heap.size)(fA:∀k,(Value.slice pm lm cm).ownBlock=some k->k≠L)(fw:L<w.heap.size)
  (hx:b=true->w.heap[L]?=some (.cells #[.int .i64 ((p.size-x.1:Nat):Int),.int .i64 ((p.size-x.1+x.2.length:Nat):Int),.string ⟨#[]⟩] 40)/\p.extract (p.size-x.1) (p.size-x.1+x.2.length)=lba x.2/\p.size-x.1+x.2.length<=p.size)
  (gg:a.length<=4000)(hg:w.cell? ⟨g,0,none⟩=some (.string p))(hM:∃m:Int,w.cell? ⟨0,0,none⟩=some (.int .i64 m)){c0 c1 c2 c3 c4 c6 c7 c8 c9 dB dC dD dE dF dG dH dI dJ dK dL dM dN dO dP dQ dR dS dY eh ei ej ek em en eo ep eq er es et ev ew ey ez eA eB eC eD eE eF eG eH eI eJ eK eL eM eN eO eP eQ eR eS eT eU eV eW eX eY eZ e2 e3 e4 e5 e6 e7 e8 e9 fa fb fc fd fe ff fg fh fi fj fk fl fm fn fo fp fq fr fs o q r s t v y z A C D E F G H I J M N O P R S V X Y Z aa ab ac ad ae af ag ah ai aj ak al am an ao ap aq ar av aw ax ay az aA aB aC aD aE aF aG aH aI aJ aK aL aM aN aO aP aQ aR aS aT aU aV aW aX aY aZ a0 a1 a2 a3 a4 a5 a6 a7 a8 a9 bb bc bd be bf bg bh bi bj bk bl bm bn bo bp bq br bs bt bw bx bz bA bB bC bD bE bF bG bH bI bJ bK bL bM bN bO bP bQ bR bS bT bU bV bW bX bY bZ b0 b1 b2 b3 b4 b5 b6 b7 b8 b9 ca cb cc cd ce cf cg ch ci cj ck cl cn cp cq cr cs ct cv cw cx cy cz cA cB cC cD cE cF cG cH cI cJ cK cL cM cN cO cP cQ cR cS cT cU cV cW cX cY cZ da dT dU dV dW dX dZ ea eb ec ed ee ef eg db dc dd de df dg dh di dj dk dl dm dn dp dq dr ds dt dv:Value}(Q:Exit->Act->World->Prop)
  (dy:∀{fC fD fE fF fG fH fI fJ fK fL fM fN fO:Value}(fP:Value),∀wy:World,wy.ownsRow B 40 3 fP (a++aBI b x).length (lv p.size (a++aBI b x))->aAB w wy L (Value.slice pm lm cm).ownBlock->Q .normal ⟨(c0::c1::c2::c3::c4::.pointer (some ⟨g,0,none⟩)::c6::c7::c8::c9::dB::fP::dC::dD::dE::dF::.pointer (some ⟨L,0,none⟩)::dG::dH::dI::dJ::dK::dL::dM::dN::dO::dP::dQ::dR::dS::dY::eh::ei::ej::ek::em::en::eo::ep::eq::er::es::et::ev::ew::ey::ez::eA::eB::eC::eD::eE::eF::eG::eH::eI::eJ::eK::eL::eM::eN::eO::eP::eQ::eR::eS::eT::eU::eV::eW::eX::eY::eZ::e2::e3::e4::e5::e6::e7::e8::e9::fa::fb::fc::fd::fe::ff::fg::fh::fi::fj::fk::fl::fm::fn::fo::fp::fq::fr::fs::o::q::r::s::t::v::y::z::A::C::D::E::F::G::H::I::J::M::N::O::P::R::S::V::X::Y::Z::aa::ab::ac::ad::ae::af::ag::ah::ai::aj::ak::al::am::an::ao::ap::aq::ar::av::aw::ax::ay::az::aA::aB::aC::aD::aE::aF::aG::aH::aI::aJ::aK::aL::aM::aN::aO::aP::aQ::aR::aS::aT::aU::aV::aW::aX::aY::aZ::a0::a1::a2::a3::a4::a5::a6::a7::a8::a9::bb::bc::bd::be::bf::bg::bh::bi::bj::bk::bl::bm::bn::bo::bp::bq::br::bs::bt::bw::bx::bz::bA::bB::bC::bD::bE::bF::bG::bH::bI::bJ::bK::bL::bM::bN::bO::bP::bQ::bR::bS::bT::bU::bV::bW::bX::bY::bZ::b0::b1::b2::b3::b4::b5::b6::b7::b8::b9::ca::cb::cc::cd::ce::cf::cg::ch::ci::cj::ck::cl::cn::cp::cq::cr::cs::ct::cv::cw::cx::cy::cz::cA::cB::cC::cD::cE::cF::cG::cH::cI::cJ::cK::cL::cM::cN::cO::cP::cQ::cR::cS::cT::cU::cV::cW::cX::cY::cZ::da::.bool b::fC::fD::fE::fF::fG::fH::fI::fJ::fK::fL::fM::fN::fO::db::dc::dd::de::df::dg::dh::di::dj::dk::dl::dm::dn::dp::dq::dr::ds::dt::dv::[]).toArray,[]⟩ wy):
  Code.wp prog (aEA f58 15) Q ⟨(c0::c1::c2::c3::c4::.pointer (some ⟨g,0,none⟩)::c6::c7::c8::c9::dB::.slice pm lm cm::dC::dD::dE::dF::.pointer (some ⟨L,0,none⟩)::dG::dH::dI::dJ::dK::dL::dM::dN::dO::dP::dQ::dR::dS::dY::eh::ei::ej::ek::em::en::eo::ep::eq::er::es::et::ev::ew::ey::ez::eA::eB::eC::eD::eE::eF::eG::eH::eI::eJ::eK::eL::eM::eN::eO::eP::eQ::eR::eS::eT::eU::eV::eW::eX::eY::eZ::e2::e3::e4::e5::e6::e7::e8::e9::fa::fb::fc::fd::fe::ff::fg::fh::fi::fj::fk::fl::fm::fn::fo::fp::fq::fr::fs::o::q::r::s::t::v::y::z::A::C::D::E::F::G::H::I::J::M::N::O::P::R::S::V::X::Y::Z::aa::ab::ac::ad::ae::af::ag::ah::ai::aj::ak::al::am::an::ao::ap::aq::ar::av::aw::ax::ay::az::aA::aB::aC::aD::aE::aF::aG::aH::aI::aJ::aK::aL::aM::aN::aO::aP::aQ::aR::aS::aT::aU::aV::aW::aX::aY::aZ::a0::a1::a2::a3::a4::a5::a6::a7::a8::a9::bb::bc::bd::be::bf::bg::bh::bi::bj::bk::bl::bm::bn::bo::bp::bq::br::bs::bt::bw::bx::bz::bA::bB::bC::bD::bE::bF::bG::bH::bI::bJ::bK::bL::bM::bN::bO::bP::bQ::bR::bS::bT::bU::bV::bW::bX::bY::bZ::b0::b1::b2::b3::b4::b5::b6::b7::b8::b9::ca::cb::cc::cd::ce::cf::cg::ch::ci::cj::ck::cl::cn::cp::cq::cr::cs::ct::cv::cw::cx::cy::cz::cA::cB::cC::cD::cE::cF::cG::cH::cI::cJ::cK::cL::cM::cN::cO::cP::cQ::cR::cS::cT::cU::cV::cW::cX::cY::cZ::da::.bool b::dT::dU::dV::dW::dX::dZ::ea::eb::ec::ed::ee::ef::eg::db::dc::dd::de::df::dg::dh::di::dj::dk::dl::dm::dn::dp::dq::dr::ds::dt::dv::[]).toArray,[]⟩ w:=by
 subst fV
 have HX:Hid _:=@dy
 clear dy
 conv=>arg 2;whnf
 cases b with
 |false=>
  have ho:w.ownsRow B 40 3 (.slice pm a.length cm) (a++aBI false x).length (lv p.size (a++aBI false x)):=by simpa [aBI] using c
  clear c hx
  go_wp2_with fail
  exact HX.out _ _ ho (aAB.refl _ _ _)
 |true=>
  obtain⟨hL,hT,gh⟩:=hx rfl
  obtain⟨i0,hi,fZ,ga,gb⟩:=jao aII
  have ex:lkv p.size x=#[.int .i64 ((p.size-x.1:Nat):Int),.int .i64 ((p.size-x.1+x.2.length:Nat):Int),.string (lba (aTW x.2))]:=rfl
  have fB:(lba x.2).size<=4000:=by rw[aJC];omega
  have hR:=aOG (lba x.2) fB w hM
  obtain⟨n,CR⟩:=hR
  have dw:Hid _:=CR
  have HO:Hid _:=c
  have dA:Hid _:=ex
  have HL:Hid _:=hL
  have fW:p.size-x.1<=p.size-x.1+x.2.length:=jau _ _
  obtain⟨U,hU⟩:∃U,lba (aTW x.2)=U:=⟨_,rfl⟩
  have fx:lba (aTW (lba x.2).data.toList)=U:=hU
  rw[fx]at dw
  rw[hU]at dA
  generalize lba x.2=T at*
  generalize p.size-x.1+x.2.length=Bn at*
  generalize p.size-x.1=An at*
  have gd:(An:Int)<=(Bn:Int):=by omega
  have ge:(Bn:Int)<=(p.size:Int):=by omega
  obtain⟨z0,z1,z2,zf⟩:=aJE hL
  clear hx ex CR c hL hU fx fW fB
  go_wp2_with fail
  refine Calls.mono dw.out ?_
  rintro e w1 ⟨rfl,fy,hJ⟩
  have HJ:Hid _:=hJ
  have fX:w1.heap[L]?=some (.cells #[.int .i64 (An:Int),.int .i64 (Bn:Int),.string ⟨#[]⟩] 40):=(fy.block L fw).trans HL.out
  clear dw hJ z0 z1 z2 zf hT
  go_wp2_with fail
  refine Calls.mono HJ.out ?_
  rintro e w2 ⟨rfl,d⟩
  have dx:w2.heap[L]?=some (.cells #[.int .i64 (An:Int),.int .i64 (Bn:Int),.string ⟨#[]⟩] 40):=(d.block L fw).trans HL.out
  obtain⟨y0,y1,y2,yf⟩:=aJE dx
  have gc:=yf 2
  obtain⟨W3,l⟩:∃W,w2.setCell ⟨L,2,none⟩ (.string U)=W:=⟨_,rfl⟩
  have fv:W3.heap[L]?=some (.cells #[.int .i64 (An:Int),.int .i64 (Bn:Int),.string U] 40):=by rw[<-l];exact aQc dx _
  have j:aAB w W3 L none:=by
   rw[<-l]
   exact⟨d.os,d.tape,d.output,by rw[aQb];exact d.size,λk hk dz _=>by rw[aP8 _ _ _ _ _ dz];exact d.block k hk⟩
  have fQ:Hid (aAB w W3 L none):=j
  have fS:Hid (W3.ownsRow B 40 3 (.slice pm a.length cm) a.length (lv p.size a)):=j.owns HO.out (λk hk=>⟨fA k hk,by simp⟩)
  have gi:w.heap.size<=W3.heap.size:=j.size
  have fU:Hid _:=l
  clear HJ fy fX dx yf j HO l
  go_upto_region 51 with fail
  rw[fU.out]
  obtain⟨x0,x1,x2,xf⟩:=aJE fv
  clear y0 y1 y2 gc fv
  go_wp2_with (at_builtin;refine jX _ rfl (.tmp 304) (.tmp 306) 65 rfl B 40 i0 (.agg #[.int .i64 0,.int .i64 0,.string ⟨#[]⟩]) 3 32 underlying65 hi fZ ga gb rfl (by decide) _ _ _ rfl (fS.out.alloc _) ⟨W3.heap.size,0,none⟩ 1 1 [.int .i64 (An:Int),.int .i64 (Bn:Int),.string U] rfl rfl ?c1 ?c2 ?c3 ?c4 ?c5 ?_)
  case c1=>exact aDN _ _ _ _ _
  case c2=>intro u hu;simp at hu;rcases hu with rfl|rfl|rfl<;>rfl
  case c3=>unfold maxLen;omega
  case c4=>omega
  case c5=>simp;omega
  intro v9 w9 i f _
  have fz:w9.ownsRow B 40 3 v9 (a++aBI true x).length (lv p.size (a++aBI true x)):=by
   show w9.ownsRow B 40 3 v9 (a++[x]).length (lv p.size (a++[x]))
   rw[aK2,dA.out,je]
   exact i
  have ft:aAB w w9 L (Value.slice pm a.length cm).ownBlock:=by
   have h3:=fQ.out
   refine⟨f.os.trans h3.os,f.tape.trans h3.tape,f.output.trans h3.output,j1 h3.size (j1 (by simp) f.size),λk hk dz fY=>?_⟩
   rw[f.block k (by simp;omega) fY,j9 _ _ _ (by omega)]
   exact h3.block k hk dz (by simp)
  have fT:Hid _:=fz
  have fR:Hid _:=ft
  clear fz ft i f
  go_wp2_with fail
  exact HX.out _ _ fT.out fR.out
theorem aIM:(prog.info? 9).map (λi=>(i.zero,i.size,i.bytes))=some (some (.string jz),1,16):=by kernel_rfl
theorem aDI(w:World)(v:Value)(t:TypeId):∀j x,[v][j]?=some x->(w.alloc (.cells #[v] t)).cell? (((jx w.heap.size 0):Addr).add j)=some x:=by
 intro j x a
 match j,a with
 |0,a=>simp at a;subst a;simp[Addr.add]
theorem aLZ(T:jA):∀u∈[Value.string T],u.oneCell'=true:=by
 intro u a
 simp at a
 subst a
 rfl
def aUr(y2:jB):LK:=((aUs (y2.dropWhile spB)).1.length,(aUs (y2.dropWhile spB)).2.1)
theorem aCk{c:UInt8}{t a b:jB}(d:t.dropWhile aIr=a)(f:a.dropWhile spB=b):aCg (c::t)=aCN b:=by
 unfold aCg
 show aCN ((t.dropWhile aIr).dropWhile spB)=_
 rw[d,f]
theorem aCQ{a:jB}(h:eqB a=false):aCN a=(none,a):=by
 unfold aCN
 cases a with
 |nil=>rfl
 |cons d y=>
  simp only
  rw[jh]
  rintro rfl
  cases h
theorem aCO(a:jB):aCN (61::a)=(some (aUr a),(aUs (a.dropWhile spB)).2.2):=by
 unfold aCN
 simp only[jo]
 rfl
theorem aLg(a:List jB)(c:jB)(x:LK)(b:Bool)(g:b=((decide (c=aIg)||decide (c=aQ8))&&!a.contains c)):aLf a.reverse c (some x)=aBI b x:=by
 have i:a.reverse.contains c=a.contains c:=by rw[jW];simp
 unfold aLf aBI
 simp only
 rw[i,g]
 by_cases d:a.contains c=false
 ·by_cases f:c=aIg\/c=aQ8
  ·rw[jo ⟨d,f⟩,jo]
   rw[d]
   simpa using f
  ·rw[jh (λh=>f h.2),jh]
   rw[d]
   simpa using f
 ·rw[jh (λh=>d h.1),jh]
  simp only[Bool.not_eq_false]at d
  rw[d]
  simp
theorem LkA.len{k:World}{p:jA}{c:UInt8}{t b f g:jB}{L:Nat}{l:World}(h:LkA k p b f L g l)(d:t.dropWhile aIr=b)(i:b.dropWhile spB=f):g.length<=t.length:=by
 rcases h.2.2 with⟨_,a,_⟩|⟨m,a,j,_⟩
 ·rw[a,<-d]
  exact aFz aIr t
 ·have:=aCl c t
  rw[aCk d i,a,aCO]at this
  rw[j]
  exact this
theorem LkA.left{l:World}{p:jA}{c:UInt8}{t g j k:jB}{L:Nat}{m:World}(h:LkA l p g j L k m)(i:t.dropWhile aIr=g)(b:g.dropWhile spB=j)(a:jB->jB)(seen:List jB):aRI a seen (aCg (c::t)).2=aRI a seen k:=by
 rcases h.2.2 with⟨d,f,_⟩|⟨n,d,f,_⟩
 ·rw[aCk i b,aCQ d,f,<-b,aRO]
 ·rw[aCk i b,d,aCO,f]
theorem aBs.next{g:World}{p:jA}{q:jB}{k l u11 u12:Value}{wr F G wz:World}{c:UInt8}{t m r s:jB}{L:Nat}{a:List jB}{d:List LK}(h:aBs g p q k l wr (c::t) a d)(B:c≠62)(j:aIt c=false)
  (i:LkA F p m r L s G)(n:t.dropWhile aIr=m)(o:m.dropWhile spB=r){b:Bool}{x:LK}(C:aLf a.reverse (aQJ (aLm (c::t))) (aCg (c::t)).1=aBI b x)
  (A:jb g wz)(D:wz.ownsRow g.heap.size 40 3 u11 (d++aBI b x).length (lv p.size (d++aBI b x)))
  (E:wz.ownsRow g.heap.size 9 1 u12 (a.length+1) ((a.map λx=>Value.string (lba x))++[.string (lba (aQJ (aLm (c::t))))])):
  aBs g p q u11 u12 wz s (a++[aQJ (aLm (c::t))]) (d++aBI b x):=by
 have I:=i.len (c:=c) n o
 have H:(aBI b x).length<=1:=by unfold aBI;split<;>simp
 have v:=h.la
 have z:=h.ls
 simp only[jm]at v z
 refine⟨by rw[je];omega,by rw[je];show a.length+1+_<=_;omega,i.2.1,A,D,by simpa using E,?_⟩
 rw[h.eq,aRL aQJ a.reverse (c::t) c t (jai (by rw[j];simp)) B,C,i.left (c:=c) n o,jby]
 simp only[Option.map_map]
 refine jej ?_ rfl
 show Option.map _ _=Option.map _ _
 refine jab (λf=>Option.map f _) ?_
 funext y
 simp
def LkX(p:jA)(yb:jB)(L:Nat)(wx:World)(nm:jB)(names:List jB)(b:Bool)(x:LK):Prop:=
 (eqB yb=false/\b=false)\/∃y2,yb=61::y2/\x=aUr y2/\b=((decide (nm=aIg)||decide (nm=aQ8))&&!names.contains nm)/\wx.heap[L]?=some (.cells #[.int .i64 ((pos p (aUs (y2.dropWhile spB)).1:Nat):Int),.int .i64 ((pos p (aUs (y2.dropWhile spB)).1+(aUs (y2.dropWhile spB)).2.1.length:Nat):Int),.string jz] 40)
theorem LkX.mine{p:jA}{c:UInt8}{t g i:jB}{L:Nat}{l:World}{f:jB}{a:List jB}{b:Bool}{x:LK}(h:LkX p i L l f a b x)(j:t.dropWhile aIr=g)(k:g.dropWhile spB=i):aLf a.reverse f (aCg (c::t)).1=aBI b x:=by
 rw[aCk j k]
 rcases h with⟨d,rfl⟩|⟨m,rfl,rfl,d,_⟩
 ·rw[aCQ d]
  rfl
 ·rw[aCO]
  exact aLg a f (aUr m) b d
theorem aUz{p:jA}{z:jB}(h:Suf p z):Suf p (aUs z).1/\∃r,(aUs z).2.1++r=(aUs z).1:=by
 cases z with
 |nil=>exact⟨h,[],rfl⟩
 |cons c t=>
  by_cases hq:qB c=true
  ·rw[aUt t hq]
   exact⟨h.tl,_,jak⟩
  ·have a:aUs (c::t)=(c::t,(c::t).takeWhile aIs,(c::t).dropWhile aIs):=by
    show(if qB c=true then _ else _)=_
    rw[jh hq]
   rw[a]
   exact⟨h,_,jak⟩
theorem LkX.cells{p:jA}{j:jB}{L:Nat}{i:World}{n:jB}{a:List jB}{b:Bool}{x:LK}(h:LkX p j L i n a b x)(l:Suf p j)(m:b=true):
  i.heap[L]?=some (.cells #[.int .i64 ((p.size-x.1:Nat):Int),.int .i64 ((p.size-x.1+x.2.length:Nat):Int),.string jz] 40)/\p.extract (p.size-x.1) (p.size-x.1+x.2.length)=lba x.2/\p.size-x.1+x.2.length<=p.size:=by
 rcases h with⟨_,rfl⟩|⟨o,rfl,rfl,_,k⟩
 ·cases m
 ·obtain⟨c,r,d⟩:=aUz ((l.tl).dw spB)
  have f:=aND c d
  have g:=aF6 c d
  refine⟨k,?_,?_⟩
  ·rw[f]at g
   exact g
  ·have:=aNB p r
   rw[f]at this
   exact this
end Go.Proofs.YtbbfcbodhmeanaaGreatDoor

import Derived.WalkKit
import Derived.ProofKit
import Derived.Lib.Strings
import Derived.Lib.Bytealg
import Derived.Test.YtbbfcbodhmeanaaGreatDoorRows
import Derived.WalkSpells
import Derived.WalkSmall
import Derived.Deep.QuietTactic
import Derived.BigQuiet
import Derived.Deep.LoopGhost
import Derived.Deep.Draws
import Derived.Laws.IdiomStrings
import Derived.OpenShut
import Derived.Deep.RegionLaw
set_option maxHeartbeats 8000000
set_option maxRecDepth 1000000
namespace Go.Proofs.YtbbfcbodhmeanaaGreatDoor
abbrev jB:=List UInt8
abbrev jA:=ByteArray
abbrev jz:ByteArray:=⟨#[]⟩
abbrev jc:=@List.getElem?_eq_getElem
abbrev jd:=@List.getD_eq_getElem?_getD
abbrev je:=@List.length_append
abbrev jf:=@Nat.le_refl
abbrev jg:=@beq_eq_false_iff_ne
abbrev jh:=@if_neg
abbrev jl:=@Array.getElem?_eq_some_iff
abbrev jm:=@List.length_cons
abbrev jn:=@List.setIfInBounds_toArray
abbrev jo:=@if_pos
abbrev js:=@List.length_eq_zero_iff
abbrev jv:=@List.set_cons_zero
abbrev jw:=@List.set_cons_succ
abbrev jy:=@Nat.zero_le
abbrev jC:=@List.drop_of_length_le
abbrev jD:=@List.length_map
abbrev jE:=@List.drop_eq_getElem_cons
abbrev jF:=@List.length_take
abbrev jH:=@List.length_drop
abbrev jI:=@Option.some.inj
abbrev jJ:=@List.append_assoc
abbrev jK:=@List.take_of_length_le
abbrev jL:=@List.cons_append
abbrev jM:=@UInt8.toNat_inj
abbrev jN:=@List.getElem?_eq_some_iff
abbrev jQ:=@List.getElem_mem
abbrev jR:=@List.all_eq_true
abbrev jS:=@List.getElem?_append_right
abbrev jV:=@decide_eq_false
abbrev jW:=@Bool.eq_iff_iff
abbrev jY:=@List.mem_append
abbrev j0:=@Nat.zero_add
abbrev j1:=@Nat.le_trans
abbrev j2:=@Array.getElem?_push
abbrev j3:=@decide_eq_true
abbrev j4:=@List.cons.inj
abbrev j6:=@List.append_nil
abbrev j7:=@Bool.and_eq_true
abbrev jab:=@congrArg
abbrev jac:=@Option.some.injEq
abbrev jad:=@List.mem_cons
abbrev jaf:=@List.nil_append
abbrev jag:=@List.length_nil
abbrev jah:=@Array.getElem?_modify
abbrev jai:=@List.dropWhile_cons_of_neg
abbrev jaj:=@List.dropWhile_cons_of_pos
abbrev jak:=@List.takeWhile_append_dropWhile
abbrev jal:=@Int.ofNat.inj
abbrev jam:=@decide_eq_true_eq
abbrev jan:=@List.take_add_one
abbrev jap:=@List.isPrefixOf_iff_prefix
abbrev jaq:=@List.take_append_drop
abbrev jar:=@decide_eq_decide
abbrev jas:=@List.getElem?_map
abbrev jat:=@List.dropWhile_cons
abbrev jau:=@Nat.le_add_right
abbrev jav:=@List.mem_of_getElem?
abbrev jaw:=@List.take_append_of_le_length
abbrev jax:=@List.getElem?_drop
abbrev jay:=@List.drop_drop
abbrev jaz:=@Ne.symm
abbrev jba:=@Array.getElem?_setIfInBounds_ne
abbrev jbb:=@bne_iff_ne
abbrev jbc:=@List.drop_zero
abbrev jbd:=@List.drop_left
abbrev jbe:=@List.mem_cons_of_mem
abbrev jbf:=@Nat.min_eq_left
abbrev jbg:=@List.map_append
abbrev jbh:=@Nat.sub_self
abbrev jbi:=@List.mem_map
abbrev jbj:=@Array.toList_inj
abbrev jbk:=@List.getElem?_append_left
abbrev jbl:=@of_decide_eq_true
abbrev jbm:=@List.flatMap_cons
abbrev jbn:=@List.dropWhile_suffix
abbrev jbo:=@Nat.eq_zero_or_pos
abbrev jbp:=@beq_iff_eq
abbrev jbq:=@List.take_take
abbrev jbr:=@List.length_pos_iff
abbrev jbs:=@Array.length_toList
abbrev jbt:=@List.contains_cons
abbrev jbu:=@Array.getElem?_setIfInBounds_self_of_lt
abbrev jbv:=@ByteArray.ext
abbrev jbx:=@List.foldl_cons
abbrev jby:=@List.reverse_append
abbrev jbz:=@List.flatMap_append
abbrev jca:=@List.drop_suffix
abbrev jcb:=@Nat.lt_of_lt_of_le
abbrev jcc:=@Array.getElem?_eq_getElem
abbrev jcd:=@Nat.add_zero
abbrev jce:=@UInt8.ofNat_toNat
abbrev jcf:=@Nat.add_assoc
abbrev jcg:=@Bool.false_or
abbrev jci:=@List.take_left
abbrev jck:=@Nat.min_def
abbrev jcm:=@List.map_map
abbrev jcn:=@List.cons.injEq
abbrev jco:=@Int.toNat_natCast
abbrev jcq:=@List.take_zero
abbrev jcr:=@List.mem_of_mem_drop
abbrev jcs:=@List.mem_append_left
abbrev jct:=@List.mem_flatMap
abbrev jcu:=@Prod.mk.injEq
abbrev jcv:=@List.all_cons
abbrev jcw:=@Bool.true_and
abbrev jcx:=@List.getElem?_take_of_lt
abbrev jcy:=@Array.size_setIfInBounds
abbrev jcz:=@Option.map_some
abbrev jda:=@decide_eq_false_iff_not
abbrev jdb:=@Nat.add_sub_cancel_left
abbrev jdc:=@List.size_toArray
abbrev jde:=@Bool.not_eq_true'
abbrev jdf:=@Option.map_eq_some_iff
abbrev jdg:=@List.takeWhile_prefix
abbrev jdh:=@List.singleton_append
abbrev jdj:=@Option.bind_some
abbrev jdk:=@Nat.lt_succ_self
abbrev jdl:=@if_true
abbrev jdm:=@List.map_cons
abbrev jdo:=@Nat.not_lt_zero
abbrev jdp:=@List.nil_suffix
abbrev jdq:=@List.getElem_of_mem
abbrev jdr:=@Nat.zero_mul
abbrev jds:=@Nat.le_of_lt
abbrev jdv:=@List.prefix_append
abbrev jdw:=@Bool.false_eq_true
abbrev jdx:=@Nat.mul_one
abbrev jdz:=@List.foldl_append
abbrev jea:=@Bool.beq_comm
abbrev jeb:=@List.suffix_cons
abbrev jec:=@UInt8.toNat_add
abbrev jed:=@Bool.or_eq_true
abbrev jef:=@List.set_append_right
abbrev jeg:=@List.eq_nil_or_concat
abbrev jeh:=@List.concat_eq_append
abbrev jei:=@if_false
abbrev jej:=@Prod.ext
abbrev jem:=@UInt8.toNat_lt
abbrev jen:=@List.pairwise_append
abbrev jeo:=@List.dropLast_concat
abbrev jep:=@Bool.or_eq_false_iff
abbrev jeq:=@Iff.rfl
end Go.Proofs.YtbbfcbodhmeanaaGreatDoor
namespace Go.Proofs.YtbbfcbodhmeanaaGreatDoor
open Go.RowKit
abbrev jU(a:ByteArray)(b:Bool)(c d:ByteArray)(e:Bool)(f:ByteArray)(g:Bool)(h:ByteArray):Array Value:=#[.string a,.bool b,.string c,.string d,.bool e,.string f,.bool g,.string h]
abbrev jP(a b c d:ByteArray)(h:Int)(p:Option Addr)(n m:Nat)(q:Option Addr)(k l:Nat):Array Value:=#[.string a,.string b,.string c,.string d,.int .i64 h,.slice p n m,.slice q k l]
abbrev jG(v:Value)(w:World)(e:Ending)(w':World):Prop:=e=.returned v∧Below w.heap.size w w'
abbrev jO:=Option Addr
theorem j8{B r:Nat}{w W:World}(h:Below B w W)(k:B≤r){a b c d e f g i:Value}:Below B w ((((((((W.setCell ⟨r,0,none⟩ a).setCell ⟨r,1,none⟩ b).setCell ⟨r,2,none⟩ c).setCell ⟨r,3,none⟩ d).setCell ⟨r,4,none⟩ e).setCell ⟨r,5,none⟩ f).setCell ⟨r,6,none⟩ g).setCell ⟨r,7,none⟩ i):=((((((((h.setCell (p:=⟨r,0,none⟩) k _).setCell (p:=⟨r,1,none⟩) k _).setCell (p:=⟨r,2,none⟩) k _).setCell (p:=⟨r,3,none⟩) k _).setCell (p:=⟨r,4,none⟩) k _).setCell (p:=⟨r,5,none⟩) k _).setCell (p:=⟨r,6,none⟩) k _).setCell (p:=⟨r,7,none⟩) k _)
abbrev jZ:=jU jz false jz jz false jz false jz
abbrev jx(b i:Nat):Addr:=⟨b,i,none⟩
abbrev jb(w W:World):Prop:=Below w.heap.size w W
theorem ja(w:World)(o:Obj):Below w.heap.size w (w.alloc o):=(Below.refl _ w).alloc (Nat.le_refl _) _
abbrev ji:=@World.block_lt_of_cell?
abbrev jj:=@ByteArray.toList_eq
abbrev jp:=@Below.heap_setCell
abbrev jq:=@results_cell_tmp
abbrev jr:=@Below.refl
abbrev jt:=@bodyPost_ret
abbrev ju:=@IntKind.wrap_i64
abbrev jT:=@World.ownsRow_nil
abbrev jX:=@wpList_append_own
abbrev j5:=@Below.setCell
abbrev j9:=@Below.heap_alloc
abbrev jaa:=@Addr.add_lit
abbrev jae:=@World.cell?_setCell_other
abbrev jao:=@info_parts
abbrev jbw:=@World.cell?_of_block
abbrev jch:=@World.cell?_setCell_same
abbrev jcj:=@rounds_succ
abbrev jcl:=@Below.alloc
abbrev jcp:=@wrap_small
abbrev jdd:=@DataW.trod_string
abbrev jdi:=@Below.drew
abbrev jdn:=@World.cell?_alloc_at
abbrev jdt:=@size_zeroCells
abbrev jdu:=@run_slice_string_l
abbrev jdy:=@wp_scope_straight
abbrev jee:=@World.frozen?_setCell
abbrev jek:=@wp_loop_rounds
abbrev jel:=@heap_alloc_new
def aQ0:jB:=[40,41,60,62,64,44,59,58,92,34,47,91,93,63,61]
def inB(lo hi:Nat)(but:jB)(c:UInt8):Bool:=decide (lo<=c.toNat)&&decide (c.toNat<=hi)&&!but.contains c
def aC3(lo hi:Nat)(but l:jB):Bool:=l.all (inB lo hi but)
theorem aC4(lo b:Nat)(a:jB)(c:UInt8)(l:jB):aC3 lo b a (c::l)=(inB lo b a c&&aC3 lo b a l):=rfl
def aS4(l:jB):Bool:=decide (1<=l.length)&&decide (l.length<=30)&&aC3 33 126 aQ0 l
theorem aIy(l:jB)(c:UInt8):decide (0<=Lib.indexByte l c)=l.contains c:=by
 induction l with
 |nil=>rfl
 |cons b l d=>
  rw[Lib.indexByte]
  by_cases h:b=c
  ·subst h;simp
  ·have f:(c==b)=false:=by rw[jg];exact λe=>h e.symm
   rw[jh (by simpa using h),jbt,f,jcg,<-d]
   by_cases a:Lib.indexByte l c=-1
   ·rw[a];rfl
   ·rw[jh (by simpa using a)]
    have:-1<=Lib.indexByte l c:=by
     clear d h f a
     induction l with
     |nil=>simp[Lib.indexByte]
     |cons b l d=>
      rw[Lib.indexByte]
      split
      ·omega
      ·split
       ·omega
       ·omega
    by_cases g:0<=Lib.indexByte l c
    ·simp[g];omega
    ·omega
def aFt(p:UInt8->Bool)(l:jB):jB:=(l.reverse.dropWhile p).reverse
def aTn(p:UInt8->Bool)(l:jB):jB:=(aFt p l).dropWhile p
theorem aFw(p:UInt8->Bool)(x:jB)(c:UInt8)(h:p c=true):aFt p (x++[c])=aFt p x:=by
 unfold aFt;rw[jby,List.reverse_singleton,jdh,jat,jo h]
theorem aFv(p:UInt8->Bool)(x:jB)(c:UInt8)(h:p c=false):aFt p (x++[c])=x++[c]:=by
 unfold aFt;rw[jby,List.reverse_singleton,jdh,jat,jh (by simp[h])];simp
def aEM(d:UInt8):jB->Option (jB×jB)
 |[]=>none
 |c::r=>if c=d then some ([],r)else(aEM d r).map λx=>(c::x.1,x.2)
theorem aEO(d:UInt8):∀(l a b:jB),aEM d l=some (a,b)->l=a++d::b/\∀c∈a,c≠d
 |[],_,_,h=>by cases h
 |c::r,a,b,h=>by
  rw[aEM]at h
  split at h
  ·rename_i e;subst e;cases h;exact⟨rfl,by simp⟩
  ·rename_i e
   cases f:aEM d r with
   |none=>rw[f]at h;cases h
   |some x=>
    obtain⟨k,m⟩:=x
    rw[f]at h
    cases h
    obtain⟨i,j⟩:=aEO d r k m f
    refine⟨by rw[i];rfl,?_⟩
    intro y g
    rcases jad.1 g with rfl|g
    ·exact e
    ·exact j y g
theorem aEN(d:UInt8):∀(a b:jB),(∀c∈a,c≠d)->aEM d (a++d::b)=some (a,b)
 |[],b,_=>by simp[aEM]
 |c::a,b,h=>by
  rw[jL,aEM,jh (h c (by simp)),aEN d a b (λx f=>h x (by simp[f]))]
  rfl
structure PT where
 ty:jA
 cs:jA
 id:jA
 loc:jA
 how:Int
 body:jB
 kids:List PT
def pt0:PT:=⟨jz,jz,jz,jz,0,[],[]⟩
def PT.alone(p:PT):PT:={p with kids:=[]}
def aLj:jB:=[109,117,108,116,105,112,97,114,116,47]
def aTE(s:jB):Bool:=match aEM 47 s with
 |none=>false
 |some x=>aS4 x.1&&aS4 x.2&&!s.any (λc=>decide (65<=c.toNat)&&decide (c.toNat<=90))
def aK5(s:jB):Bool:=Lib.hasPrefix s aLj
def aVd:UInt8->Bool:=inB 33 126 [34,60,62]
def aVe(s:jB):Bool:=decide (s.length<=120)&&s.all aVd
def aSK(p:PT):Bool:=aTE p.ty.data.toList&&(p.cs.data.toList.isEmpty||aS4 p.cs.data.toList)&&aVe p.id.data.toList&&aVe p.loc.data.toList
def aHf(p:PT):Bool:=
 if aK5 p.ty.data.toList then !p.kids.isEmpty&&p.body.isEmpty&&decide (p.how=0)&&p.cs.data.toList.isEmpty
 else p.kids.isEmpty
def aEb(p:PT):Nat:=
 if aSK p=false then 1 else if p.how<0\/2<p.how then 3 else if 4000<p.body.length then 2 else if aHf p=false then 4 else 0
def put:Nat->List (PT×Int)->PT->Nat->Int->Option (List (PT×Int))
 |0,_,_,_,_=>none
 |f+1,l,p,depth,inn=>
  if l.length=12\/3<depth then none
  else p.kids.foldl (λacc k=>acc.bind λm=>put f m k (depth+1) l.length) (some (l++[(p,inn)]))
def aN6(f:Nat)(depth:Nat)(inn:Int)(l:List (PT×Int))(ks:List PT):Option (List (PT×Int)):=
 ks.foldl (λacc k=>acc.bind λm=>put f m k depth inn) (some l)
theorem aHd(f:Nat)(a:Nat)(b:Int):∀d:List PT,d.foldl (λc k=>c.bind λm=>put f m k a b) none=none
 |[]=>rfl
 |_::d=>by rw[jbx];exact aHd f a b d
theorem aN9(f a:Nat)(b:Int)(l:List (PT×Int)):aN6 f a b l []=some l:=rfl
theorem aOb(f a:Nat)(b:Int)(l m:List (PT×Int))(k:PT)(c:List PT)(h:put f l k a b=some m):aN6 f a b l (k::c)=aN6 f a b m c:=by
 unfold aN6;rw[jbx,jdj,h]
theorem aOa(f a:Nat)(b:Int)(l:List (PT×Int))(k:PT)(c:List PT)(h:put f l k a b=none):aN6 f a b l (k::c)=none:=by
 unfold aN6;rw[jbx,jdj,h,aHd]
theorem aOm(f:Nat)(l:List (PT×Int))(p:PT)(a:Nat)(b:Int)(h:l.length=12\/3<a):put (f+1) l p a b=none:=by rw[put,jo h]
theorem aOi(f:Nat)(l:List (PT×Int))(p:PT)(a:Nat)(b:Int)(h:¬(l.length=12\/3<a)):put (f+1) l p a b=aN6 f (a+1) l.length (l++[(p,b)]) p.kids:=by rw[put,jh h];rfl
theorem aN8(f:Nat)(g:∀l m p a b,l.length<=12->put f l p a b=some m->l.length<=m.length/\m.length<=12)(a:Nat)(b:Int):∀(c:List PT) (l m:List (PT×Int)),l.length<=12->aN6 f a b l c=some m->l.length<=m.length/\m.length<=12
 |[],l,m,hl,h=>by rw[aN9]at h;cases h;exact⟨jf _,hl⟩
 |k::c,l,m,hl,h=>by
  cases d:put f l k a b with
  |none=>rw[aOa f a b l k c d]at h;cases h
  |some n=>
   rw[aOb f a b l n k c d]at h
   have i:=g l n k a b hl d
   have j:=aN8 f g a b c n m i.2 h
   omega
theorem aOk:∀(f:Nat) (l m:List (PT×Int)) (p:PT) (a:Nat) (b:Int),l.length<=12->put f l p a b=some m->l.length<=m.length/\m.length<=12
 |0,_,_,_,_,_,_,h=>by rw[put]at h;cases h
 |f+1,l,m,p,a,b,hl,h=>by
  by_cases c:l.length=12\/3<a
  ·rw[aOm f l p a b c]at h;cases h
  ·rw[aOi f l p a b c]at h
   have:=aN8 f (aOk f) (a+1) l.length p.kids (l++[(p,b)]) m (by rw[je];simp;omega) h
   rw[je]at this
   omega
def aGO:List (PT×Int)->Nat
 |[]=>0
 |x::l=>if aEb x.1=0 then aGO l else aEb x.1
def aNh(p:PT):Nat×List (PT×Int):=match put 4 [] p 1 (-1)with
 |none=>(2,[])
 |some l=>if aGO l=0 then(0,l)else(aGO l,[])
end Go.Proofs.YtbbfcbodhmeanaaGreatDoor
namespace Go.Proofs.YtbbfcbodhmeanaaGreatDoor
open Go.Proofs.Tryz
open Go.RowKit
def Row(k:IntKind)(w:World)(p:jO)(n:Nat)(xs:List Int):Prop:=
 xs.length=n/\(n≠0->∃b o,p=some (jx b o)/\∀i,i<n->w.cell? (jx b (o+i))=some (.int k (xs.getD i 0)))
theorem aO8{a b:Bool}(h:a=b):Ending.returned (.bool a)=.returned (.bool b):=by rw[h]
theorem aO9{a b:Int}(h:a=b):Ending.returned (.int .i64 a)=.returned (.int .i64 b):=by rw[h]
def aAe(w:World)(p:jO)(l:jB):Prop:=
 l≠[]->∃b o,p=some (jx b o)/\∀i,i<l.length->w.cell? (jx b (o+i))=some (.int .u8 ((l.getD i 0).toNat:Int))
def bv(l:jB):List Value:=l.map λc=>Value.int .u8 (c.toNat:Int)
theorem aDq(l:jB):(bv l).length=l.length:=by simp[bv]
theorem aDo(l m:jB):bv (l++m)=bv l++bv m:=by simp[bv]
theorem aIP:(prog.info? 5).map (λi=>(i.zero,i.size,i.bytes))=some (some (.int .u8 0),1,1):=by kernel_rfl
theorem aDL(w:World)(v:Value)(t:TypeId){u:Value}(h:v=u):∀j x,[u][j]?=some x->(w.alloc (.cells #[v] t)).cell? (((jx w.heap.size 0):Addr).add j)=some x:=by
 subst h
 intro j x a
 match j,a with
 |0,a=>simp at a;subst a;simp[Addr.add]
theorem aDP(w:World)(v b:Value)(t:TypeId):∀j x,[v,b][j]?=some x->(w.alloc (.cells #[v,b] t)).cell? (((jx w.heap.size 0):Addr).add j)=some x:=by
 intro j x a
 match j,a with
 |0,a=>simp at a;subst a;simp[Addr.add]
 |1,a=>simp at a;subst a;simp[Addr.add]
theorem aDN(w:World)(v c b:Value)(t:TypeId):∀j x,[v,c,b][j]?=some x->(w.alloc (.cells #[v,c,b] t)).cell? (((jx w.heap.size 0):Addr).add j)=some x:=by
 intro j x a
 match j,a with
 |0,a=>simp at a;subst a;simp[Addr.add]
 |1,a=>simp at a;subst a;simp[Addr.add]
 |2,a=>simp at a;subst a;simp[Addr.add]
theorem aEE(w:World):(convert 22 9 (.slice none 0 0)).run prog w=.ok (.string jz) w:=by
 rw[run_convert_bytes_string w 22 9 5 none 0 0 underlying22 underlying5 underlying9]
 rfl
def iv(l:List Nat):List Value:=l.map λ(n:Nat)=>Value.int .i64 (n:Int)
theorem aIH:(prog.info? 3).map (λi=>(i.zero,i.size,i.bytes))=some (some (.int .i64 0),1,8):=by kernel_rfl
theorem aLY{k:IntKind}(n:Int):∀u∈[Value.int k n],u.oneCell'=true:=by
 intro u a;simp at a;subst a;rfl
theorem aMg{w:World}{B:Nat}{v:Value}{l:jB}(h:w.ownsRow B 5 1 v l.length (bv l)):
  ∃p c,v=.slice p l.length c/\l.length<=c/\c<=maxLen/\(p=none->l.length=0/\c=0)/\aAe w p l:=by
 rcases h.2 with⟨rfl,a⟩|⟨g,cap,k,rfl,o,hh,d,b,m,j⟩
 ·refine⟨none,0,by rw[a],by omega,by decide,λ_=>⟨a,rfl⟩,λf=>absurd (js.1 a) f⟩
 ·refine⟨some (jx g 0),cap,rfl,d,b,λe=>(by cases e),λ_=>⟨g,0,rfl,λi n=>?_⟩⟩
  rw[j0,h.cellAt i (by omega)]
  simp[bv,n,List.getD_eq_getElem?_getD]
theorem aAe.below{w w':World}{p:jO}{l:jB}(h:aAe w p l)(c:jb w w'):aAe w' p l:=by
 intro a
 obtain⟨b,o,rfl,d⟩:=h a
 refine⟨b,o,rfl,λi f=>?_⟩
 have:=d i f
 rw[c.cell (p:=jx b (o+i)) (ji w _ this)]
 exact this
def aAF(k:IntKind)(w:World)(a:jO)(len cap:Nat)(zs:List Int):Prop:=
 (a=none/\len=0/\cap=0/\zs=[])\/
 ∃x,a=some x/\len<=cap/\cap<=maxLen/\zs.length=cap/\(∀i,i<zs.length->w.cell? (x.add i)=some (.int k (zs.getD i 0)))/\∀n∈zs,(Lit.int k n).wf=true
theorem aI2{w:World}{a:jO}{len cap:Nat}{zs:List Int}(h:aAF .u8 w a len cap zs):
  ∃L:jB,L.length=len/\len<=cap/\cap<=maxLen/\(a=none->len=0/\cap=0)/\aAe w a L:=by
 rcases h with⟨rfl,rfl,rfl,rfl⟩|⟨x,rfl,s,t,y,c,l⟩
 ·exact⟨[],rfl,jf _,by decide,λ_=>⟨rfl,rfl⟩,λh=>absurd rfl h⟩
 ·refine⟨(zs.take len).map λz=>UInt8.ofNat z.toNat,by simp;omega,s,t,λe=>(by cases e),λk=>?_⟩
  have p:0<len:=by
   rcases jbo len with e|e
   ·subst e;exact absurd (by simp) k
   ·exact e
  obtain⟨b,o,g⟩:=x
  have r:=c 0 (by omega)
  have f:g=none:=by simpa [Addr.add] using World.cell?_spot r
  subst f
  refine⟨b,o,rfl,λi n=>?_⟩
  have d:i<zs.length:=by simp at n;omega
  have j:i<len:=by simp at n;omega
  have m:=c i d
  rw[jaa]at m
  rw[m]
  have v:=bounds_u8 (l _ (jQ d))
  have e1:zs.getD i 0=zs[i]:=by simp[List.getD_eq_getElem?_getD,List.getElem?_eq_getElem d]
  have q:((zs.take len).map λz=>UInt8.ofNat z.toNat).getD i 0=UInt8.ofNat zs[i].toNat:=by
   simp[List.getD_eq_getElem?_getD,j,List.getElem?_eq_getElem d]
  rw[e1,q]
  congr 2
  simp
  omega
theorem aAe.take{w:World}{p:jO}{l:jB}(h:aAe w p l)(m:Nat):aAe w p (l.take m):=by
 intro a
 obtain⟨b,o,rfl,c⟩:=h (λe=>a (by rw[e];simp))
 refine⟨b,o,rfl,λi d=>?_⟩
 rw[jF]at d
 rw[c i (by omega)]
 simp[List.getD_eq_getElem?_getD,show i<m by omega]
theorem aAe.drop{w:World}{b o:Nat}{l:jB}(a:∀i,i<l.length->w.cell? (jx b (o+i))=some (.int .u8 ((l.getD i 0).toNat:Int)))(m:Nat):aAe w (some (jx b (o+m))) (l.drop m):=by
 intro d
 refine⟨b,o+m,rfl,λi c=>?_⟩
 rw[jH]at c
 rw[jcf,a (m+i) (by omega)]
 simp[List.getD_eq_getElem?_getD]
def nums(l:jB):List Int:=l.map λc=>(c.toNat:Int)
theorem aRc{P:Program}{k:Array Oper}{o:Oper}{a:Act}{w:World}{K:Act->World->Prop}{Q:Exit->Act->World->Prop}{E:Prop}
  (N:o.guard=none)(s x:Operand)(t:TypeId)(r:o.op=Op.call {callee:=Callee.builtin Builtin.append,args:=#[s,x],argTypes:=#[t,t]})
  (base:Nat)(e:TypeId)(i:TypeInfo)(z:Value)(size bytes:Nat)(C:P.underlying t=some (.slice e))(D:P.info? e=some i)(F:i.zero=some z)(G:i.size=size)(H:i.bytes=bytes)(I:z.cells.size=size)(J:0<size)
  (v:Value)(n:Nat)(y:List Value)(R:a.eval s=v)(f:w.ownsRow base e size v n y)
  (p:Addr)(m c:Nat)(b:List Value)(T:a.eval x=.slice (some p) m c)(O:b.length=m*size)(M:∀j u,b[j]?=some u->w.cell? (p.add j)=some u)(q:∀u∈b,u.oneCell'=true)
  (A:n+m<=maxLen)(B:(n+m)*bytes<=140737488355328)(d:base<=w.heap.size)
  (L:∀l w',w'.ownsRow base e size l (n+m) (y++b)->w.grownBy w' v.ownBlock->K (a.put o.dst l) w'):
  if Region.wanted o (yielded k a.tmps)=true then Oper.wp P o a w K Q else E:=by
 have S:Region.wanted o (yielded k a.tmps)=true:=by simp[Region.wanted,N]
 rw[jo S]
 obtain⟨l,w',g,U,V,_⟩:=run_append_own (P:=P) w base t o.type e i z size bytes C D F G H I J v n y f p m c b O M q A B d
 unfold Oper.wp
 simp[execOp,r,resolve,invoke,builtin,R,T,g,Result.andThen]
 exact L l w' U V
theorem aMm{w w':World}{B e size n:Nat}{v:Value}{b:List Value}(h:w.ownsRow B e size v n b)(c:jb w w'):w'.ownsRow B e size v n b:=by
 refine⟨h.1,?_⟩
 rcases h.2 with f|⟨g,cap,a,rfl,d,hh,rest⟩
 ·exact .inl f
 ·refine .inr ⟨g,cap,a,rfl,d,?_,rest⟩
  rw[c.block g (jl.1 hh).1]
  exact hh
def aRf:Value->Nat
 | .string s=>s.size
 |_=>0
def aA1(w:World)(b o:Nat)(p:PT)(pb:jO)(cb:Nat)(pk:jO)(ck:Nat):Prop:=
 w.cell? (jx b o)=some (.string p.ty)/\w.cell? (jx b (o+1))=some (.string p.cs)/\w.cell? (jx b (o+2))=some (.string p.id)/\w.cell? (jx b (o+3))=some (.string p.loc)/\
 w.cell? (jx b (o+4))=some (.int .i64 p.how)/\w.cell? (jx b (o+5))=some (.slice pb p.body.length cb)/\w.cell? (jx b (o+6))=some (.slice pk p.kids.length ck)
def aA5(p:PT):Prop:=
 p.ty.size<=maxLen/\p.cs.size<=maxLen/\p.id.size<=maxLen/\p.loc.size<=maxLen/\-9223372036854775808<=p.how/\p.how<=9223372036854775807/\p.body.length<=maxLen/\p.kids.length<=maxLen
def aA4(K:jO->List PT->Prop)(w:World)(p:PT)(pb:jO)(cb:Nat)(pk:jO)(ck:Nat):Prop:=
 aA5 p/\(p.body.length<=cb/\cb<=maxLen/\(pb=none->cb=0))/\aAe w pb p.body/\(p.kids.length<=ck/\ck<=maxLen/\(pk=none->ck=0))/\K pk p.kids
def KAt(w:World):Nat->jO->List PT->Prop
 |0,_,l=>l=[]
 |f+1,a,l=>l≠[]->∃b o,a=some (jx b o)/\∀i,i<l.length->∃pb cb pk ck,aA1 w b (o+i*7) (l.getD i pt0) pb cb pk ck/\aA4 (KAt w f) w (l.getD i pt0) pb cb pk ck
def aA3(w:World)(f:Nat)(p:PT)(pb:jO)(cb:Nat)(pk:jO)(ck:Nat):Prop:=aA4 (KAt w f) w p pb cb pk ck
def PAt(w:World)(f:Nat)(b o:Nat)(p:PT):Prop:=∃pb cb pk ck,aA1 w b o p pb cb pk ck/\aA3 w f p pb cb pk ck
theorem KAt.each{w:World}{f:Nat}{a:jO}{l:List PT}(h:KAt w (f+1) a l)(c:l≠[]):∃b o,a=some (jx b o)/\∀i,i<l.length->PAt w f b (o+i*7) (l.getD i pt0):=by
 obtain⟨b,o,e,d⟩:=h c
 exact⟨b,o,e,λi g=>d i g⟩
theorem KAt.mk{w:World}{f b o:Nat}{l:List PT}(h:∀i,i<l.length->PAt w f b (o+i*7) (l.getD i pt0)):KAt w (f+1) (some (jx b o)) l:=λ_=>⟨b,o,rfl,λi a=>h i a⟩
theorem KAt.nil(w:World)(f:Nat)(a:jO):KAt w f a []:=by
 cases f with
 |zero=>rfl
 |succ f=>exact λh=>absurd rfl h
theorem aAe.under{w w':World}{p:jO}{l:jB}(h:aAe w p l)(c:jb w w'):aAe w' p l:=by
 intro a
 obtain⟨b,o,rfl,d⟩:=h a
 refine⟨b,o,rfl,λi f=>?_⟩
 have:=d i f
 rw[c.cell (p:=jx b (o+i)) (ji w _ this)]
 exact this
theorem aA1.below{w w':World}{b o:Nat}{p:PT}{i:jO}{d:Nat}{j:jO}{f:Nat}(h:aA1 w b o p i d j f)(a:jb w w'):aA1 w' b o p i d j f:=by
 obtain⟨g,k,l,m,n,q,r⟩:=h
 have c:=ji w _ g
 refine⟨?_,?_,?_,?_,?_,?_,?_⟩
 ·rw[a.cell (p:=jx b o) c];exact g
 ·rw[a.cell (p:=jx b (o+1)) c];exact k
 ·rw[a.cell (p:=jx b (o+2)) c];exact l
 ·rw[a.cell (p:=jx b (o+3)) c];exact m
 ·rw[a.cell (p:=jx b (o+4)) c];exact n
 ·rw[a.cell (p:=jx b (o+5)) c];exact q
 ·rw[a.cell (p:=jx b (o+6)) c];exact r
theorem aA4.mono{K b:jO->List PT->Prop}{w w':World}{p:PT}{f:jO}{c:Nat}{g:jO}{d:Nat}(h:aA4 K w p f c g d)(j:jb w w')(i:∀a l,K a l->b a l):aA4 b w' p f c g d:=
 ⟨h.1,h.2.1,h.2.2.1.under j,h.2.2.2.1,i _ _ h.2.2.2.2⟩
theorem KAt.below{w w':World}(c:jb w w'):∀(f:Nat) (a:jO) (l:List PT),KAt w f a l->KAt w' f a l
 |0,_,_,h=>h
 |f+1,a,l,h=>λd=>by
  obtain⟨b,o,e,n⟩:=h d
  refine⟨b,o,e,λi p=>?_⟩
  obtain⟨q,g,r,j,k,m⟩:=n i p
  exact⟨q,g,r,j,k.below c,m.mono c (KAt.below c f)⟩
theorem aA3.below{w w':World}{f:Nat}{p:PT}{d:jO}{a:Nat}{g:jO}{b:Nat}(h:aA3 w f p d a g b)(c:jb w w'):aA3 w' f p d a g b:=aA4.mono h c (KAt.below c f)
theorem PAt.below{w w':World}{f b o:Nat}{p:PT}(h:PAt w f b o p)(a:jb w w'):PAt w' f b o p:=by
 obtain⟨j,c,k,d,g,i⟩:=h
 exact⟨j,c,k,d,g.below a,i.below a⟩
theorem PAt.lt{w:World}{f b o:Nat}{p:PT}(h:PAt w f b o p):b<w.heap.size:=by
 obtain⟨i,c,j,d,a,g⟩:=h
 exact ji w _ a.1
abbrev PX:=(Nat×Nat)×Int
def plv(X:List PX):List Value:=X.flatMap λx=>[.pointer (some (jx x.1.1 x.1.2)),.int .i64 x.2]
theorem aNw(X:List PX)(x:PX):plv (X++[x])=plv X++[.pointer (some (jx x.1.1 x.1.2)),.int .i64 x.2]:=by simp[plv]
def PLs(w:World)(X:List PX)(L:List (PT×Int)):Prop:=
 X.length=L.length/\∀(i:Nat) x q,X[i]?=some x->L[i]?=some q->x.2=q.2/\∃f,PAt w f x.1.1 x.1.2 q.1
theorem PLs.nil(w:World):PLs w [] []:=⟨rfl,λi x q h=>by simp at h⟩
theorem PLs.snoc{w:World}{X:List PX}{L:List (PT×Int)}(h:PLs w X L){b o:Nat}{p:PT}{k:Int}{f:Nat}(g:PAt w f b o p):PLs w (X++[((b,o),k)]) (L++[(p,k)]):=by
 refine⟨by rw[je,je,h.1];rfl,λi x q a hq=>?_⟩
 by_cases d:i<X.length
 ·rw[jbk d]at a
  rw[jbk (by rw[<-h.1];exact d)]at hq
  exact h.2 i x q a hq
 ·rw[jS (by omega)]at a
  rw[jS (by rw[<-h.1];omega),<-h.1]at hq
  cases c:i-X.length with
  |zero=>
   rw[c]at a hq
   obtain rfl:=jI a
   obtain rfl:=jI hq
   exact⟨rfl,f,g⟩
  |succ n=>rw[c]at a;simp at a
theorem aIK:(prog.info? 117).map (λi=>(i.zero,i.size,i.bytes))=some (some (.agg #[.pointer none,.int .i64 0]),2,16):=by kernel_rfl
theorem aMi{w:World}{B e s n:Nat}{v:Value}{b:List Value}(h:w.ownsRow B e s v n b):∃p c,v=.slice p n c:=by
 rcases h.2 with⟨rfl,rfl⟩|⟨g,cap,a,rfl,_⟩
 ·exact⟨none,0,rfl⟩
 ·exact⟨_,_,rfl⟩
def aA7(w0:World)(r:Option (List (PT×Int)))(e:Ending)(w':World):Prop:=
 jb w0 w'/\match r with
 |none=>e=.returned (.tuple #[.slice none 0 0,.bool false])
 |some M=>∃v X,e=.returned (.tuple #[v,.bool true])/\w'.ownsRow w0.heap.size 117 2 v M.length (plv X)/\PLs w0 X M
theorem aNn(l:World):∀(f:Nat) (F:Nat) (lv:Value) (X:List PX) (L:List (PT×Int)) (b o:Nat) (p:PT) (a:Nat) (y d:Int) (w:World),f<=3->f+a=4->y=(a:Int)->L.length<=12->
  jb l w->w.ownsRow l.heap.size 117 2 lv L.length (plv X)->PLs l X L->PAt l F b o p->
  Calls prog 128 #[lv,.pointer (some (jx b o)),.int .i64 y,.int .i64 d] w λe w'=>aA7 l (put (f+1) L p a d) e w':=by
 intro f
 induction f with
 |zero=>
  intro F lv X L b o p a y d w _ ay D hL m g hX hP
  obtain⟨q,c,rfl⟩:=aMi g
  have s:Hid (put (0+1) L p a d=none):=aOm _ _ _ _ _ (.inr (by omega))
  have h3:(3:Int)<y:=by omega
  generalize L.length=n at*
  clear D g hX hP
  go_enter func128,ntmps128
  by_cases v:n=12
  ·subst v
   go_wp2_with fail
   go_ret2
   show aA7 _ _ _ _
   rw[s.out]
   exact⟨m,rfl⟩
  ·have J:((n:Int)==12)=false:=by rw[jg];omega
   go_wp2_with fail
   go_ret2
   show aA7 _ _ _ _
   rw[s.out]
   exact⟨m,rfl⟩
 |succ f ih=>
  intro F lv X L b o p a y d w aG ay D hL m g hX hP
  by_cases v:L.length=12
  ·obtain⟨q,c,rfl⟩:=aMi g
   have s:Hid (put (f+1+1) L p a d=none):=aOm _ _ _ _ _ (.inl v)
   rw[v]
   clear D g hX hP ih v
   go_enter func128,ntmps128
   go_wp2_with fail
   go_ret2
   show aA7 _ _ _ _
   rw[s.out]
   exact⟨m,rfl⟩
  ·have s:Hid (put (f+1+1) L p a d=aN6 (f+1) (a+1) L.length (L++[(p,d)]) p.kids):=aOi _ _ _ _ _ (by omega)
   obtain⟨i0,hi,ap,aq,ar⟩:=jao aIK
   have ax:=hP.below m
   obtain⟨pb,cb,pk,ck,hC,hH⟩:=ax
   obtain⟨aB,aw,G,ab,T,U⟩:=hP
   have an:=m.size
   obtain⟨q,c,rfl⟩:=aMi g
   have J:((L.length:Int)==12)=false:=by rw[jg];omega
   have h3:¬((3:Int)<y):=by omega
   have ac:p.kids.length<=9223372036854775807:=by have:=hH.1.2.2.2.2.2.2.2;unfold maxLen at this;exact this
   have HC:Hid (∀w',jb l w'->w'.cell? (jx b (o+6))=some (.slice G p.kids.length ab)):=λw' hb=>(T.below hb).2.2.2.2.2.2
   have HK:Hid (p.kids≠[]->∃O I N,F=O+1/\G=some (jx I N)/\∀i,i<p.kids.length->PAt l O I (N+i*7) (p.kids.getD i pt0)):=λE=>by
    have hk:KAt l F G p.kids:=U.2.2.2.2
    cases F with
    |zero=>exact absurd hk E
    |succ O=>
     obtain⟨I,N,e1,e2⟩:=hk.each E
     exact⟨O,I,N,rfl,e1,e2⟩
   have x:Hid (PLs l (X++[((b,o),d)]) (L++[(p,d)])):=hX.snoc ⟨aB,aw,G,ab,T,U⟩
   have IH:Hid (∀(lv:Value) (X:List PX) (M:List (PT×Int)) (b o F:Nat) (k:PT) (w:World),M.length<=12->jb l w->w.ownsRow l.heap.size 117 2 lv M.length (plv X)->PLs l X M->PAt l F b o k->
     Calls prog 128 #[lv,.pointer (some (jx b o)),.int .i64 (y+1),.int .i64 (L.length:Int)] w λe w'=>aA7 l (put (f+1) M k (a+1) (L.length:Int)) e w'):=
    λlv X M b o F k w h1 h2 h3 h4 h5=>ih F lv X M b o k (a+1) (y+1) (L.length:Int) w (by omega) (by omega) (by omega) h1 h2 h3 h4 h5
   have aF:y<=3:=by omega
   have aE:0<=y:=by omega
   have H:Hid (L.length<12):=by unfold Hid;omega
   generalize af:put (f+1+1) L p a d=C at*
   clear ih hC hH T U hX D af
   go_enter func128,ntmps128
   go_wp2_with (at_builtin;refine jX _ rfl (.tmp 22) (.tmp 26) 113 rfl l.heap.size 117 i0 (.agg #[.pointer none,.int .i64 0]) 2 16 underlying113 hi ap aq ar rfl (by decide) _ _ _ rfl (g.alloc _) (jx w.heap.size 0) 1 1 [.pointer (some (jx b o)),.int .i64 d] rfl rfl (aDP _ _ _ _) ?c2 ?c3 ?c4 ?c5 ?_)
   case c2=>first|exact⟨rfl,rfl⟩|(intro u hu;simp at hu;rcases hu with rfl|rfl<;>rfl)
   case c3=>unfold maxLen;omega
   case c4=>omega
   case c5=>first|omega|(simp;omega)
   intro v9 w9 A aj _
   have ah:jb l w9:=(m.alloc an _).grown aj (by simp;omega) (λj hj=>(g.lt j hj).1)
   have R9:w9.ownsRow l.heap.size 117 2 v9 (L++[(p,d)]).length (plv (X++[((b,o),d)])):=by rw[aNw,je];exact A
   have B:Hid _:=R9
   have P:Hid ((L++[(p,d)]).length<=12):=by unfold Hid;rw[je];have:=H.out;simp;omega
   have c6:=HC.out w9 ah
   have aD:b<w9.heap.size:=ji w9 _ c6
   clear aj A g R9 m an hi ap aq ar
   obtain⟨M0,ad⟩:∃M0,L++[(p,d)]=M0:=⟨_,rfl⟩
   obtain⟨X0,ag⟩:∃X0,X++[((b,o),d)]=X0:=⟨_,rfl⟩
   rw[ad]at s x B P
   rw[ag]at x B
   clear ad ag v J H
   obtain⟨kids,z⟩:∃kids,p.kids=kids:=⟨_,rfl⟩
   rw[z]at s HC HK ac c6
   clear z
   obtain⟨Z,Y⟩:∃Z,kids.length=Z:=⟨_,rfl⟩
   have R:Hid _:=Y
   rw[Y]at HC HK ac c6
   clear Y
   obtain⟨own,t⟩:∃own,L.length=own:=⟨_,rfl⟩
   rw[t]at s IH
   simp only[t]
   clear t
   go_wp2_with fail
   go_loopw[0,33] (λaA iv wr=>∃(k:Nat) (M:List (PT×Int)) (X:List PX) (q:jO) (n c:Nat),k<=Z/\iv=.int .i64 k/\aA=.slice q n c/\jb l wr/\Hid (wr.ownsRow l.heap.size 117 2 (.slice q n c) M.length (plv X))/\Hid (PLs l X M)/\Hid (M.length<=12)/\Hid (C=aN6 (f+1) (a+1) own M (kids.drop k))) (λ_ iv _=>Z-(intOf iv).toNat)
   case atStart=>
    obtain⟨q9,c9,rfl⟩:=aMi B.out
    exact⟨0,M0,X0,q9,M0.length,c9,jy _,rfl,rfl,ah,B,x,P,s⟩
   case round=>
    obtain⟨k,M,X,q1,n1,c1,hk,rfl,rfl,W,B,HX,P,s⟩:=hrel
    have aC:=HC.out wr W
    by_cases al:k<Z
    ·have az:(k:Int)<(Z:Int):=by omega
     have E:kids≠[]:=λe=>by have:=R.out;rw[e]at this;simp at this;omega
     obtain⟨O,I,N,-,rfl,ae⟩:=HK.out E
     have S:Hid (PAt l O I (N+k*7) (kids.getD k pt0)):=ae k al
     have ai:kids.drop k=kids.getD k pt0::kids.drop (k+1):=by
      have ak:k<kids.length:=by rw[R.out];exact al
      rw[jE ak]
      simp[List.getD_eq_getElem?_getD,List.getElem?_eq_getElem ak]
     rw[ai]at s
     clear ai ae HK
     have CI:Hid (Calls prog 128 #[.slice q1 n1 c1,.pointer (some ⟨I,N+k*7,none⟩),.int .i64 (y+1),.int .i64 (own:Int)] wr λe w'=>aA7 l (put (f+1) M (kids.getD k pt0) (a+1) (own:Int)) e w'):=IH.out _ X M I (N+k*7) O _ wr P.out W B.out HX.out S.out
     cases r:put (f+1) M (kids.getD k pt0) (a+1) (own:Int)with
     |none=>
      have HN:Hid (C=none):=by unfold Hid;rw[s.out,aOa _ _ _ _ _ _ r]
      rw[r]at CI
      clear r s B HX P S IH
      go_wp2_with fail
      refine CI.out.mono ?_
      rintro e w2 ⟨V,rfl⟩
      go_wp2_with fail
      go_ret2
      show aA7 _ _ _ _
      rw[HN.out]
      exact⟨V,rfl⟩
     |some M2=>
      have HN:Hid (C=aN6 (f+1) (a+1) own M2 (kids.drop (k+1))):=by unfold Hid;rw[s.out,aOb _ _ _ _ _ _ _ r]
      have av:Hid (M2.length<=12):=(aOk _ _ _ _ _ _ P.out r).2
      rw[r]at CI
      clear r s B HX P S IH
      go_wp2_with fail
      refine CI.out.mono ?_
      rintro e w2 ⟨V,v2,X2,rfl,am,ao⟩
      have aa:Hid _:=am
      have x:Hid (PLs l X2 M2):=ao
      clear am ao CI
      go_wp2_with fail
      go_roundw
      case rel=>
       obtain⟨q2,c2,rfl⟩:=aMi aa.out
       exact⟨k+1,M2,X2,q2,M2.length,c2,by omega,by go_num,rfl,V,aa,x,av,HN⟩
      case measure=>simp[intOf];omega
    ·have az:¬((k:Int)<(Z:Int)):=by omega
     have HN:Hid (C=some M):=by unfold Hid;rw[s.out,jC (by rw[R.out];omega),aN9]
     clear s HK IH
     go_wp2_with fail
     go_ret2
     show aA7 _ _ _ _
     rw[HN.out]
     exact⟨W,_,X,rfl,B.out,HX.out⟩
end Go.Proofs.YtbbfcbodhmeanaaGreatDoor


import Derived.Test.YtbbfcbodhmeanaaGreatDoorXrewritesays4
import Derived.Deep.SlicePairs
import Derived.ChangeSlices
import Derived.Laws.AppendOwnNone
import Derived.Lib.AppendZeros
namespace Go.Proofs.YtbbfcbodhmeanaaGreatDoor
open Go.RowKit
def Cells (w:World) (p:Option Addr) (l:List Value):Prop:=l ≠ []→∃ b o,p = some ⟨b,o,none⟩∧∀ j u,l[j]? = some u→w.cell? ⟨b,o + j,none⟩ = some u
theorem Cells.below {w w':World} {p:Option Addr} {l:List Value} (h:Cells w p l) (hb:Below w.heap.size w w'):Cells w' p l:=by
 intro hne
 obtain ⟨b,o,rfl,hc⟩:=h hne
 refine ⟨b,o,rfl,fun j u hj=>?_⟩
 have:=hc j u hj
 rw [hb.cell (p:=⟨b,o + j,none⟩) (World.block_lt_of_cell? w _ this)]
 exact this
abbrev PZ:=PT × (Option Addr × Nat) × (Option Addr × Nat)
def pzc (z:PZ):List Value:=[.string z.1.ty,.string z.1.cs,.string z.1.id,.string z.1.loc,.int .i64 z.1.how,.slice z.2.1.1 z.1.body.length z.2.1.2,.slice z.2.2.1 z.1.kids.length z.2.2.2]
def pzv (Z:List PZ):List Value:=Z.flatMap pzc
theorem pzv_append (Y Z:List PZ):pzv (Y ++ Z) = pzv Y ++ pzv Z:=by simp [pzv]
theorem pzv_length:∀ Z:List PZ,(pzv Z).length = Z.length * 7
 | []=>rfl
 | z::Z=>by show (pzc z ++ pzv Z).length = _;rw [List.length_append,pzv_length Z];simp [pzc];omega
theorem pzv_one (Z:List PZ):∀ u ∈ pzv Z,u.oneCell' = true:=by
 intro u hu
 simp only [pzv,List.mem_flatMap] at hu
 obtain ⟨z,_,hz⟩:=hu
 simp only [pzc,List.mem_cons,List.not_mem_nil,or_false] at hz
 rcases hz with rfl | rfl | rfl | rfl | rfl | rfl | rfl <;> rfl
theorem pz_at (Z:List PZ) (k:Nat) (z:PZ) (h:Z[k]? = some z) (j:Nat) (v:Value) (hj:(pzc z)[j]? = some v):(pzv Z)[k * 7 + j]? = some v:=by
 have hj7:j < 7:=by have:=(List.getElem?_eq_some_iff.1 hj).1;simpa [pzc] using this
 induction Z generalizing k with
 | nil=>simp at h
 | cons y Z ih =>
  show (pzc y ++ pzv Z)[k * 7 + j]? = some v
  cases k with
  | zero =>
   obtain rfl:=Option.some.inj h
   rw [List.getElem?_append_left (by simp [pzc];omega),Nat.zero_mul,Nat.zero_add]
   exact hj
  | succ k =>
   rw [List.getElem?_append_right (by simp [pzc];omega)]
   have:=ih k (by simpa using h)
   rw [← this]
   congr 1
   simp [pzc]
   omega
theorem pz_back:∀ (Z:List PZ) (j:Nat) (v:Value),(pzv Z)[j]? = some v→∃ z,Z[j / 7]? = some z∧(pzc z)[j % 7]? = some v
 | [],j,v,h=>by simp [pzv] at h
 | y::Z,j,v,h=>by
  have h':(pzc y ++ pzv Z)[j]? = some v:=h
  by_cases hj:j < 7
  ·rw [List.getElem?_append_left (by simp [pzc];omega)] at h'
   exact ⟨y,by rw [Nat.div_eq_of_lt hj];rfl,by rw [Nat.mod_eq_of_lt hj];exact h'⟩
  ·rw [List.getElem?_append_right (by simp [pzc];omega)] at h'
   obtain ⟨z,h1,h2⟩:=pz_back Z (j - 7) v (by simpa [pzc] using h')
   refine ⟨z,?_,?_⟩
   ·rw [show j / 7 = (j - 7) / 7 + 1 from by omega];exact h1
   ·rw [show j % 7 = (j - 7) % 7 from by omega];exact h2
theorem KAt.list {w:World} {f:Nat} {a:Option Addr} {l:List PT} (h:KAt w (f + 1) a l):∃ Z:List PZ,Z.map (·.1) = l∧Cells w a (pzv Z)∧∀ z ∈ Z,PHeld w f z.1 z.2.1.1 z.2.1.2 z.2.2.1 z.2.2.2:=by
 by_cases hne:l = []
 ·subst hne
  exact ⟨[],rfl,fun h=>absurd rfl h,fun z hz=>by cases hz⟩
 ·obtain ⟨b,o,rfl,hc⟩:=h.each hne
  have each:∀ i,i < l.length→∃ z:PZ,z.1 = l.getD i pt0∧PCells w b (o + i * 7) z.1 z.2.1.1 z.2.1.2 z.2.2.1 z.2.2.2∧PHeld w f z.1 z.2.1.1 z.2.1.2 z.2.2.1 z.2.2.2:=fun i hi=>by
   obtain ⟨pb,cb,pk,ck,h1,h2⟩:=hc i hi
   exact ⟨(_,(pb,cb),(pk,ck)),rfl,h1,h2⟩
  haveI:Inhabited PZ:=⟨(pt0,(none,0),(none,0))⟩
  obtain ⟨Q,hQ⟩:=Go.Deep.choose_lt each
  refine ⟨(List.range l.length).map Q,?_,fun _=>⟨b,o,rfl,fun j u hj=>?_⟩,fun z hz=>?_⟩
  ·apply List.ext_getElem (by simp)
   intro i h1 h2
   simp only [List.getElem_map,List.getElem_range]
   rw [(hQ i h2).1,List.getD_eq_getElem?_getD,List.getElem?_eq_getElem h2]
   rfl
  ·obtain ⟨z,hz,hv⟩:=pz_back _ j u hj
   have hl:=(List.getElem?_eq_some_iff.1 hz).1
   have hl':j / 7 < l.length:=by simpa using hl
   have ez:z = Q (j / 7):=by
    rw [List.getElem?_map,List.getElem?_range hl'] at hz
    exact (Option.some.inj hz).symm
   obtain ⟨_,hC,_⟩:=hQ (j / 7) hl'
   rw [← ez] at hC
   obtain ⟨c0,c1,c2,c3,c4,c5,c6⟩:=hC
   have hm:j % 7 < 7:=Nat.mod_lt _ (by decide)
   rw [show o + j = o + j / 7 * 7 + j % 7 from by omega]
   generalize j % 7 = r at *
   match r,hm with
   | 0,_=>obtain rfl:=Option.some.inj hv;exact c0
   | 1,_=>obtain rfl:=Option.some.inj hv;exact c1
   | 2,_=>obtain rfl:=Option.some.inj hv;exact c2
   | 3,_=>obtain rfl:=Option.some.inj hv;exact c3
   | 4,_=>obtain rfl:=Option.some.inj hv;exact c4
   | 5,_=>obtain rfl:=Option.some.inj hv;exact c5
   | 6,_=>obtain rfl:=Option.some.inj hv;exact c6
  ·obtain ⟨i,hi,rfl⟩:=List.mem_map.1 hz
   exact (hQ i (by simpa using hi)).2.2
theorem KAt.of_list {w:World} {f:Nat} {a:Option Addr} {Z:List PZ} (hc:Cells w a (pzv Z)) (hh:∀ z ∈ Z,PHeld w f z.1 z.2.1.1 z.2.1.2 z.2.2.1 z.2.2.2):KAt w (f + 1) a (Z.map (·.1)):=by
 intro hne
 have hZ:Z ≠ []:=fun e=>hne (by rw [e];rfl)
 obtain ⟨b,o,e,hcc⟩:=hc (fun e=>by have:=pzv_length Z;rw [e] at this;cases Z with | nil=>exact hZ rfl | cons a l=>simp at this)
 refine ⟨b,o,e,fun i hi=>?_⟩
 have hi':i < Z.length:=by simpa using hi
 have ez:(Z.map (·.1)).getD i pt0 = Z[i].1:=by simp [List.getD_eq_getElem?_getD,hi']
 have hz:Z[i]? = some Z[i]:=List.getElem?_eq_getElem hi'
 have cell:∀ j v,(pzc Z[i])[j]? = some v→w.cell? ⟨b,o + i * 7 + j,none⟩ = some v:=fun j v hj=>by
  have:=hcc (i * 7 + j) v (pz_at Z i Z[i] hz j v hj)
  rwa [← Nat.add_assoc] at this
 rw [ez]
 exact ⟨Z[i].2.1.1,Z[i].2.1.2,Z[i].2.2.1,Z[i].2.2.2,⟨cell 0 _ rfl,cell 1 _ rfl,cell 2 _ rfl,cell 3 _ rfl,cell 4 _ rfl,cell 5 _ rfl,cell 6 _ rfl⟩,hh _ (List.getElem_mem hi')⟩
theorem owned_cells {w:World} {B e s n:Nat} {v:Value} {xs:List Value} (h:w.ownsRow B e s v n xs):∃ p c,v = .slice p n c∧n≤c∧c≤maxLen∧(p = none→n = 0∧c = 0)∧Cells w p xs:=by
 have h':=h
 rcases h.2 with ⟨rfl,h0⟩ | ⟨g,cap,cur,rfl,hg,hh,hnc,hcp,hcs,htake⟩
 ·refine ⟨none,0,by rw [h0],by omega,by decide,fun _=>⟨h0,rfl⟩,fun hne=>?_⟩
  have hx:=h.1
  rw [h0,Nat.zero_mul] at hx
  exact absurd (List.length_eq_zero_iff.1 hx) hne
 ·refine ⟨some ⟨g,0,none⟩,cap,rfl,hnc,hcp,fun e=>(by cases e),fun _=>⟨g,0,rfl,fun j u hj=>?_⟩⟩
  have hjl:=(List.getElem?_eq_some_iff.1 hj).1
  rw [Nat.zero_add,h'.cellAt j (by rw [← h'.1];exact hjl),hj]
end Go.Proofs.YtbbfcbodhmeanaaGreatDoor



namespace Go.Proofs.YtbbfcbodhmeanaaGreatDoor
open Go.ChangeShapes Go.WideShapes Go.ChangeAt Go.RowKit
theorem KAt.up {w:World}:∀ (f:Nat) (a:Option Addr) (l:List PT),KAt w f a l→KAt w (f + 1) a l
 | 0,a,l,h=>fun hne=>absurd h hne
 | f + 1,a,l,h=>fun hne=>by
  obtain ⟨b,o,e,hc⟩:=h hne
  refine ⟨b,o,e,fun i hi=>?_⟩
  obtain ⟨pb,cb,pk,ck,h1,h2⟩:=hc i hi
  exact ⟨pb,cb,pk,ck,h1,h2.1,h2.2.1,h2.2.2.1,h2.2.2.2.1,KAt.up f _ _ h2.2.2.2.2⟩
theorem part_under:∃ f0 f1 f2 f3 f4 f5 f6:Field,Tryz.prog.underlying 25 = some (.struct #[f0,f1,f2,f3,f4,f5,f6]) ∧
  (f0.offset = 0∧f1.offset = 1∧f2.offset = 2∧f3.offset = 3∧f4.offset = 4∧f5.offset = 5∧f6.offset = 6) ∧
  (f0.type = 9∧f1.type = 9∧f2.type = 9∧f3.type = 9∧f4.type = 3∧f5.type = 22∧f6.type = 23) :=
 ⟨_,_,_,_,_,_,_,Tryz.underlying25,⟨rfl,rfl,rfl,rfl,rfl,rfl,rfl⟩,⟨rfl,rfl,rfl,rfl,rfl,rfl,rfl⟩⟩
theorem bytes_open {H:Type} {enc:TypeId × Value→H} {W:World} {held:Bool} {fuel:Nat} {cs:List Value} {x:DataW H × List MemPlace}
  (h:DataW.trod enc Tryz.prog W 0 (fun _=>true) held fuel 22 cs = some x) :
  ∃ (a:Option Addr) (c:Nat) (L:List UInt8),cs = [.slice a L.length c]∧L.length≤c∧c≤maxLen∧(a = none→c = 0)∧BRow W a L:=by
 rcases open_ints Tryz.underlying22 Tryz.underlying5 (by kernel_rfl) h with ⟨hcs,_⟩ | ⟨a,l,c,zs,hcs,_,hl,hm,hz,_,hcell,hwz⟩
 ·exact ⟨none,0,[],hcs,Nat.le_refl _,by decide,fun _=>rfl,fun h=>absurd rfl h⟩
 ·obtain ⟨L,e,h1,h2,h3,h4⟩:=isRow_bytes (w:=W) (a:=some a) (len:=l) (cap:=c) (zs:=zs) (.inr ⟨_,rfl,hl,hm,by simpa using hz,hcell,hwz⟩)
  subst e
  exact ⟨some a,c,L,hcs,h1,h2,(fun h=>by cases h),h4⟩
set_option maxRecDepth 100000 in
theorem part_cells {H:Type} {enc:TypeId × Value→H} {W:World} {held:Bool}:∀ (fuel:Nat) (cs:List Value) (x:DataW H × List MemPlace),
  DataW.trod enc Tryz.prog W 0 (fun _=>true) held fuel 25 cs = some x →
  ∃ (p:PT) (pb:Option Addr) (cb:Nat) (pk:Option Addr) (ck:Nat),cs = [.string p.ty,.string p.cs,.string p.id,.string p.loc,.int .i64 p.how,.slice pb p.body.length cb,.slice pk p.kids.length ck]∧PHeld W fuel p pb cb pk ck:=by
 intro fuel
 induction fuel using Nat.strongRecOn with
 | _ fuel ih =>
  intro cs x h
  obtain ⟨f0,f1,f2,f3,f4,f5,f6,hu,⟨o0,o1,o2,o3,o4,o5,o6⟩,⟨t0,t1,t2,t3,t4,t5,t6⟩⟩:=part_under
  obtain ⟨xs,n,hfu,_,hlen,hxl,hf⟩:=DataW.trod_struct hu h
  have hcf:Tryz.prog.cellsOf 25 = 7:=by kernel_rfl
  have cs1:Tryz.prog.cellsOf 9 = 1:=by kernel_rfl
  have ci1:Tryz.prog.cellsOf 3 = 1:=by kernel_rfl
  have cb1:Tryz.prog.cellsOf 22 = 1:=by kernel_rfl
  have cp1:Tryz.prog.cellsOf 23 = 1:=by kernel_rfl
  rw [hcf] at hlen
  match xs,hxl,cs,hlen with
  | [y0,y1,y2,y3,y4,y5,y6],_,[v0,v1,v2,v3,v4,v5,v6],_ =>
   have g0:=hf 0 f0 rfl
   have g1:=hf 1 f1 rfl
   have g2:=hf 2 f2 rfl
   have g3:=hf 3 f3 rfl
   have g4:=hf 4 f4 rfl
   have g5:=hf 5 f5 rfl
   have g6:=hf 6 f6 rfl
   rw [t0,o0,cs1] at g0
   rw [t1,o1,cs1] at g1
   rw [t2,o2,cs1] at g2
   rw [t3,o3,cs1] at g3
   rw [t4,o4,ci1] at g4
   rw [t5,o5,cb1] at g5
   rw [t6,o6,cp1] at g6
   simp only [List.drop_zero,List.drop_succ_cons,List.take_succ_cons,List.take_zero,List.getElem?_cons_zero,List.getElem?_cons_succ] at g0 g1 g2 g3 g4 g5 g6
   obtain ⟨s0,e0,_,l0⟩:=DataW.trod_string Tryz.underlying9 g0
   obtain ⟨s1,e1,_,l1⟩:=DataW.trod_string Tryz.underlying9 g1
   obtain ⟨s2,e2,_,l2⟩:=DataW.trod_string Tryz.underlying9 g2
   obtain ⟨s3,e3,_,l3⟩:=DataW.trod_string Tryz.underlying9 g3
   obtain ⟨z,e4,_,hz⟩:=DataW.trod_int Tryz.underlying3 g4
   obtain ⟨pb,cb,body,e5,b1,b2,b3,b4⟩:=bytes_open g5
   have hz2:-9223372036854775808≤z∧z≤9223372036854775807:=by
    simp only [Lit.wf,Bool.and_eq_true,decide_eq_true_eq] at hz
    exact hz
   have hbl:body.length≤maxLen:=Nat.le_trans b1 b2
   rcases DataW.trod_slice Tryz.underlying23 g6 with ⟨e6,_⟩ | ⟨a,len,cap,elems,rest,m,hm,e6,_,_,hlc,hcm,hel,hev,_,_⟩
   ·refine ⟨⟨s0,s1,s2,s3,z,body,[]⟩,pb,cb,none,0,?_,⟨l0,l1,l2,l3,hz2.1,hz2.2,hbl,Nat.zero_le _⟩,⟨b1,b2,b3⟩,b4,⟨Nat.le_refl _,by decide,fun _=>rfl⟩,KAt.nil _ _ _⟩
    rw [(List.cons.inj e0).1,(List.cons.inj e1).1,(List.cons.inj e2).1,(List.cons.inj e3).1,(List.cons.inj e4).1,(List.cons.inj e5).1,(List.cons.inj e6).1]
    rfl
   ·have hspot:0 < len→a.spot = none:=fun hpos=>by
     have h1:=hev 0 hpos
     rw [hcf,List.getElem?_eq_getElem (by omega)] at h1
     obtain ⟨ce,hce,hte⟩:=Option.bind_eq_some_iff.1 h1
     obtain ⟨q,qb,qc,qk,qd,e,hq⟩:=ih m (by omega) ce _ hte
     obtain ⟨_,_,hcc⟩:=World.cells?_some hce
     subst e
     have:=hcc 0 (by omega)
     simpa [Addr.add] using World.cell?_spot (this.trans rfl)
    have each:∀ i,i < len→∃ q:PT,PAt W m a.block (a.off + i * 7) q:=fun i hi=>by
     have h1:=hev i hi
     rw [hcf,List.getElem?_eq_getElem (by omega)] at h1
     obtain ⟨ce,hce,hte⟩:=Option.bind_eq_some_iff.1 h1
     obtain ⟨q,qb,qc,qk,qd,e,hq⟩:=ih m (by omega) ce _ hte
     obtain ⟨_,_,hcc⟩:=World.cells?_some hce
     subst e
     have hs:=hspot (by omega)
     obtain ⟨b,o,spot⟩:=a
     simp only at hs
     subst hs
     refine ⟨q,qb,qc,qk,qd,?_,hq⟩
     have hc:∀ j,j < 7→W.cell? ⟨b,o + i * 7 + j,none⟩ = [Value.string q.ty,.string q.cs,.string q.id,.string q.loc,.int .i64 q.how,.slice qb q.body.length qc,.slice qk q.kids.length qd][j]?:=fun j hj=>by
      have:=hcc j hj
      rw [Addr.add_lit,Addr.add_lit] at this
      exact this
     exact ⟨hc 0 (by omega),hc 1 (by omega),hc 2 (by omega),hc 3 (by omega),hc 4 (by omega),hc 5 (by omega),hc 6 (by omega)⟩
    haveI:Inhabited PT:=⟨pt0⟩
    obtain ⟨Q,hQ⟩:=Go.Deep.choose_lt each
    refine ⟨⟨s0,s1,s2,s3,z,body,(List.range len).map Q⟩,pb,cb,some a,cap,?_,⟨l0,l1,l2,l3,hz2.1,hz2.2,hbl,?_⟩,⟨b1,b2,b3⟩,b4,⟨?_,hcm,fun h=>by cases h⟩,?_⟩
    ·rw [(List.cons.inj e0).1,(List.cons.inj e1).1,(List.cons.inj e2).1,(List.cons.inj e3).1,(List.cons.inj e4).1,(List.cons.inj e5).1,(List.cons.inj e6).1]
     simp
    ·simp;exact Nat.le_trans hlc hcm
    ·simp;exact hlc
    ·rw [hfu,hm]
     refine KAt.up _ _ _ fun hne=>?_
     have hpos:0 < len:=by
      rcases Nat.eq_zero_or_pos len with e | e
      ·subst e;exact absurd rfl hne
      ·exact e
     have hs:=hspot hpos
     obtain ⟨b,o,spot⟩:=a
     simp only at hs
     subst hs
     refine ⟨b,o,rfl,fun i hi=>?_⟩
     have hi':i < len:=by simpa using hi
     have e1:((List.range len).map Q).getD i pt0 = Q i:=by simp [List.getD_eq_getElem?_getD,hi']
     show PAt W m b (o + i * 7) (((List.range len).map Q).getD i pt0)
     rw [e1]
     exact hQ i hi'
set_option maxRecDepth 100000 in
theorem part_open {H:Type} {enc:TypeId × Value→H} {W:World} {base:Nat} {held:Bool} {fuel:Nat} {v:Value} {x:DataW H × List MemPlace}
  (hv:Value.okWide Tryz.prog W .any base 25 v) (h:DataW.trod enc Tryz.prog W 0 (fun _=>true) held fuel 25 v.cells.toList = some x) :
  ∃ (p:PT) (pb:Option Addr) (cb:Nat) (pk:Option Addr) (ck F:Nat),v = .agg #[.string p.ty,.string p.cs,.string p.id,.string p.loc,.int .i64 p.how,.slice pb p.body.length cb,.slice pk p.kids.length ck]∧PHeld W F p pb cb pk ck:=by
 obtain ⟨cs,rfl,hsz⟩:=okWide_struct Tryz.underlying25 hv
 obtain ⟨p,pb,cb,pk,ck,e,hp⟩:=part_cells fuel _ x h
 refine ⟨p,pb,cb,pk,ck,fuel,?_,hp⟩
 congr 1
 apply Array.toList_inj.1
 exact e
end Go.Proofs.YtbbfcbodhmeanaaGreatDoor



namespace Go.Proofs.YtbbfcbodhmeanaaGreatDoor
open Go.RowKit
def InB (Q:Nat→Prop) (p:Option Addr):Prop:=∀ a,p = some a→Q a.block
def KFar (w:World) (Q:Nat→Prop):Nat→Option Addr→List PT→Prop
 | 0,_,l=>l = []
 | f + 1,a,l=>l ≠ []→∃ b o,a = some ⟨b,o,none⟩∧Q b∧∀ i,i < l.length→∃ pb cb pk ck,PCells w b (o + i * 7) (l.getD i pt0) pb cb pk ck∧InB Q pb∧PHeldK (KFar w Q f) w (l.getD i pt0) pb cb pk ck
def PFar (w:World) (Q:Nat→Prop) (f:Nat) (p:PT) (pb:Option Addr) (cb:Nat) (pk:Option Addr) (ck:Nat):Prop:=InB Q pb∧PHeldK (KFar w Q f) w p pb cb pk ck
theorem KFar.at {w:World} {Q:Nat→Prop}:∀ (f:Nat) (a:Option Addr) (l:List PT),KFar w Q f a l→KAt w f a l
 | 0,_,_,h=>h
 | f + 1,a,l,h=>fun hne=>by
  obtain ⟨b,o,e,_,hc⟩:=h hne
  refine ⟨b,o,e,fun i hi=>?_⟩
  obtain ⟨pb,cb,pk,ck,h1,_,h2⟩:=hc i hi
  exact ⟨pb,cb,pk,ck,h1,h2.1,h2.2.1,h2.2.2.1,h2.2.2.2.1,KFar.at f _ _ h2.2.2.2.2⟩
theorem PFar.held {w:World} {Q:Nat→Prop} {f:Nat} {p:PT} {pb:Option Addr} {cb:Nat} {pk:Option Addr} {ck:Nat} (h:PFar w Q f p pb cb pk ck):PHeld w f p pb cb pk ck:=⟨h.2.1,h.2.2.1,h.2.2.2.1,h.2.2.2.2.1,KFar.at f _ _ h.2.2.2.2.2⟩
theorem KFar.nil (w:World) (Q:Nat→Prop) (f:Nat) (a:Option Addr):KFar w Q f a []:=by
 cases f with
 | zero=>rfl
 | succ f=>exact fun h=>absurd rfl h
theorem KFar.up {w:World} {Q:Nat→Prop}:∀ (f:Nat) (a:Option Addr) (l:List PT),KFar w Q f a l→KFar w Q (f + 1) a l
 | 0,a,l,h=>fun hne=>absurd h hne
 | f + 1,a,l,h=>fun hne=>by
  obtain ⟨b,o,e,hb,hc⟩:=h hne
  refine ⟨b,o,e,hb,fun i hi=>?_⟩
  obtain ⟨pb,cb,pk,ck,h1,hq,h2⟩:=hc i hi
  exact ⟨pb,cb,pk,ck,h1,hq,h2.1,h2.2.1,h2.2.2.1,h2.2.2.2.1,KFar.up f _ _ h2.2.2.2.2⟩
theorem BRow.move {w w':World} {Q:Nat→Prop} (hm:∀ b,Q b→b < w.heap.size→w'.heap[b]? = w.heap[b]?) {p:Option Addr} {l:List UInt8} (h:BRow w p l) (hq:InB Q p):BRow w' p l:=by
 intro hne
 obtain ⟨b,o,e,hl⟩:=h hne
 refine ⟨b,o,e,fun i hi=>?_⟩
 have h1:=hl i hi
 rw [World.cell?_of_block (hm b (hq _ e) (World.block_lt_of_cell? w _ h1))]
 exact h1
theorem KFar.move {w w':World} {Q:Nat→Prop} (hm:∀ b,Q b→b < w.heap.size→w'.heap[b]? = w.heap[b]?):∀ (f:Nat) (a:Option Addr) (l:List PT),KFar w Q f a l→KFar w' Q f a l
 | 0,_,_,h=>h
 | f + 1,a,l,h=>fun hne=>by
  obtain ⟨b,o,e,hb,hc⟩:=h hne
  refine ⟨b,o,e,hb,fun i hi=>?_⟩
  obtain ⟨pb,cb,pk,ck,h1,hq,h2⟩:=hc i hi
  obtain ⟨c0,c1,c2,c3,c4,c5,c6⟩:=h1
  have hbl:=hm b hb (World.block_lt_of_cell? w _ c0)
  have k:∀ j,w'.cell? ⟨b,j,none⟩ = w.cell? ⟨b,j,none⟩:=fun j=>World.cell?_of_block hbl
  exact ⟨pb,cb,pk,ck,⟨(k _).trans c0,(k _).trans c1,(k _).trans c2,(k _).trans c3,(k _).trans c4,(k _).trans c5,(k _).trans c6⟩,hq,h2.1,h2.2.1,BRow.move hm h2.2.2.1 hq,h2.2.2.2.1,KFar.move hm f _ _ h2.2.2.2.2⟩
theorem PFar.move {w w':World} {Q:Nat→Prop} (hm:∀ b,Q b→b < w.heap.size→w'.heap[b]? = w.heap[b]?) {f:Nat} {p:PT} {pb:Option Addr} {cb:Nat} {pk:Option Addr} {ck:Nat} (h:PFar w Q f p pb cb pk ck):PFar w' Q f p pb cb pk ck :=
 ⟨h.1,h.2.1,h.2.2.1,BRow.move hm h.2.2.2.1 h.1,h.2.2.2.2.1,KFar.move hm f _ _ h.2.2.2.2.2⟩
theorem KFar.kind {w:World} {Q Q':Nat→Prop} (hk:∀ b,Q b→Q' b):∀ (f:Nat) (a:Option Addr) (l:List PT),KFar w Q f a l→KFar w Q' f a l
 | 0,_,_,h=>h
 | f + 1,a,l,h=>fun hne=>by
  obtain ⟨b,o,e,hb,hc⟩:=h hne
  refine ⟨b,o,e,hk b hb,fun i hi=>?_⟩
  obtain ⟨pb,cb,pk,ck,h1,hq,h2⟩:=hc i hi
  exact ⟨pb,cb,pk,ck,h1,(fun a ha=>hk _ (hq a ha)),h2.1,h2.2.1,h2.2.2.1,h2.2.2.2.1,KFar.kind hk f _ _ h2.2.2.2.2⟩
theorem PFar.kind {w:World} {Q Q':Nat→Prop} (hk:∀ b,Q b→Q' b) {f:Nat} {p:PT} {pb:Option Addr} {cb:Nat} {pk:Option Addr} {ck:Nat} (h:PFar w Q f p pb cb pk ck):PFar w Q' f p pb cb pk ck :=
 ⟨fun a ha=>hk _ (h.1 a ha),h.2.1,h.2.2.1,h.2.2.2.1,h.2.2.2.2.1,KFar.kind hk f _ _ h.2.2.2.2.2⟩
theorem PFar.below {w w':World} {Q:Nat→Prop} {f:Nat} {p:PT} {pb:Option Addr} {cb:Nat} {pk:Option Addr} {ck:Nat} (h:PFar w Q f p pb cb pk ck) (hb:Below w.heap.size w w'):PFar w' Q f p pb cb pk ck:=h.move fun b _ hlt=>hb.block b hlt
theorem own_freshF {w:World} {B B' e s n k c:Nat} {p:Option Addr} {xs:List Value} (h:w.ownsRow B e s (.slice p n c) k xs) (hB:B'≤B):∀ a,p = some a→B'≤a.block∧a.block < w.heap.size:=by
 intro a ha
 subst ha
 rcases h.2 with ⟨h0,_⟩ | ⟨g,cap,cur,hv,hg,hh,_⟩
 ·cases h0
 ·cases hv
  exact ⟨Nat.le_trans hB hg,(Array.getElem?_eq_some_iff.1 hh).1⟩
theorem KFar.of_list {w:World} {Q:Nat→Prop} {f B n:Nat} {v:Value} {Z:List PZ} (ho:w.ownsRow B 25 7 v n (pzv Z)) (hn:n = Z.length) (hQ:∀ b,B≤b→b < w.heap.size→Q b) (hh:∀ z ∈ Z,PFar w Q f z.1 z.2.1.1 z.2.1.2 z.2.2.1 z.2.2.2) :
  ∃ q c,v = .slice q n c∧n≤c∧c≤maxLen∧(q = none→c = 0)∧KFar w Q (f + 1) q (Z.map (·.1)):=by
 subst hn
 obtain ⟨q,c,rfl,h1,h2,h3,hc⟩:=owned_cells ho
 refine ⟨q,c,rfl,h1,h2,fun h=>(h3 h).2,fun hne=>?_⟩
 have hZ:Z ≠ []:=fun e=>hne (by rw [e];rfl)
 have hp:pzv Z ≠ []:=fun e=>by
  have:=congrArg List.length e
  rw [pzv_length,List.length_nil] at this
  exact hZ (List.length_eq_zero_iff.1 (by omega))
 obtain ⟨b,o,rfl,hcell⟩:=hc hp
 have hb:=own_freshF ho (Nat.le_refl _) _ rfl
 refine ⟨b,o,rfl,hQ b hb.1 hb.2,fun i hi=>?_⟩
 rw [List.length_map] at hi
 have hz:Z[i]? = some Z[i]:=List.getElem?_eq_getElem hi
 have e1:(Z.map (·.1)).getD i pt0 = Z[i].1:=by simp [List.getD_eq_getElem?_getD,List.getElem?_map,hz]
 have hat:∀ j u,(pzc Z[i])[j]? = some u→w.cell? ⟨b,o + i * 7 + j,none⟩ = some u:=fun j u hj=>by
  have:=hcell (i * 7 + j) u (pz_at Z i Z[i] hz j u hj)
  rwa [← Nat.add_assoc] at this
 have hZi:=hh _ (List.getElem_mem hi)
 rw [e1]
 exact ⟨Z[i].2.1.1,Z[i].2.1.2,Z[i].2.2.1,Z[i].2.2.2,⟨hat 0 _ rfl,hat 1 _ rfl,hat 2 _ rfl,hat 3 _ rfl,hat 4 _ rfl,hat 5 _ rfl,hat 6 _ rfl⟩,hZi.1,hZi.2⟩
end Go.Proofs.YtbbfcbodhmeanaaGreatDoor



namespace Go.Proofs.YtbbfcbodhmeanaaGreatDoor
open Go.RowKit
theorem infoP:(Tryz.prog.info? 25).map (fun i=>(i.zero,i.size,i.bytes)) = some (some (.agg #[.string ⟨#[]⟩,.string ⟨#[]⟩,.string ⟨#[]⟩,.string ⟨#[]⟩,.int .i64 0,.slice none 0 0,.slice none 0 0]),7,120):=by kernel_rfl
theorem append_rowP {w:World} {ops:Array Oper} {rest:List Oper} {o:Oper} {a:Act} {Q:Exit→Act→World→Prop} (hgd:o.guard = none) (s x:Operand)
  (ho:o.op = .call { callee:=.builtin .append,args:=#[s,x],argTypes:=#[23,23] })
  (base:Nat) (v:Value) (n:Nat) (xs:List Value) (hs:a.eval s = v) (hown:w.ownsRow base 25 7 v n xs)
  (p:Option Addr) (l:List Value) (m c:Nat) (em:l.length = m * 7) (hx:a.eval x = .slice p m c) (hr:Cells w p l) (h1c:∀ u ∈ l,u.oneCell' = true) (hp:p = none→m = 0∧c = 0)
  (h63:n + m≤100000000) (hbase:base≤w.heap.size)
  (h:∀ v' w',w'.ownsRow base 25 7 v' (n + m) (xs ++ l)→w.grownBy w' v.ownBlock→wpList Tryz.prog ops Q rest (a.put o.dst v') w'):wpList Tryz.prog ops Q (o::rest) a w:=by
 obtain ⟨i0,hi,hz0,hz1,hz2⟩:=info_parts infoP
 cases p with
 | none =>
  obtain ⟨rfl,rfl⟩:=hp rfl
  have hl:l = []:=List.length_eq_zero_iff.1 (em.trans (Nat.zero_mul _))
  subst hl
  refine wpList_append_own_none hgd s x 23 ho base 25 i0 7 Tryz.underlying23 hi v n xs hs hown hx ?_
  refine h v w (by simpa using hown) (World.grownBy.refl _ _)
 | some ad =>
  refine wpList_append_own _ hgd s x 23 ho base 25 i0 (.agg #[.string ⟨#[]⟩,.string ⟨#[]⟩,.string ⟨#[]⟩,.string ⟨#[]⟩,.int .i64 0,.slice none 0 0,.slice none 0 0]) 7 120 Tryz.underlying23 hi hz0 hz1 hz2 rfl (by decide) v n xs hs hown ad m c l hx em ?_ h1c (by unfold maxLen;omega) (by omega) hbase (fun v' w' h1 h2 _=>h v' w' h1 h2)
  intro j u hj
  obtain ⟨b,o',e,hc⟩:=hr (fun e=>by rw [e] at hj;simp at hj)
  obtain rfl:=Option.some.inj e
  rw [Addr.add_lit]
  exact hc j u hj
set_option maxHeartbeats 1000000 in
set_option maxRecDepth 100000 in
theorem growNilP (N:Nat) (NN:Int) (eN:NN = (N:Int)) (hN:N≤100000) (w:World) :
  Calls Tryz.prog 134 #[.slice none 0 0,.int .i64 NN] w fun e w'=>Below w.heap.size w w'∧∃ p c,e = .returned (.slice p 0 c)∧w'.ownsRow w.heap.size 25 7 (.slice p 0 c) 0 []:=by
 subst eN
 obtain ⟨i0,hi,hz0,hz1,hz2⟩:=info_parts infoP
 rcases Nat.eq_zero_or_pos N with h0 | h0
 ·subst h0
  go_enter Tryz.func134,Tryz.ntmps134
  go_wp2
  go_ret
  exact ⟨Below.refl _ _,none,0,rfl,World.ownsRow_nil _ _ _ _⟩
 ·have h0':(0:Int) < (N:Int):=by omega
  have hr:=fun ty=>Lib.run_append_nil_zeros (P:=Tryz.prog) w 23 3 ty 25 i0 (.agg #[.string ⟨#[]⟩,.string ⟨#[]⟩,.string ⟨#[]⟩,.string ⟨#[]⟩,.int .i64 0,.slice none 0 0,.slice none 0 0]) .i64 .i64 Tryz.underlying23 Tryz.underlying3 hi hz0 N h0 (by rw [hz1];decide) (by omega) (by rw [hz2];omega)
  obtain ⟨G,hG⟩:∃ G,grownCap w N 0 25 = G:=⟨_,rfl⟩
  have hGe:N≤G:=by rw [← hG];exact grownCap_ge w _ _ _
  have hGm:G≤maxLen:=by rw [← hG];exact grownCap_le_maxLen w N 0 25 (by unfold maxLen;omega)
  rw [hG] at hr
  have hGi:(N:Int)≤(G:Int):=by omega
  clear hG
  go_enter Tryz.func134,Tryz.ntmps134
  go_wp2_with (at_builtin;refine Lib.wpList_append_run _ rfl (.tmp 20) (.tmp 21) 23 3 rfl _ _ rfl rfl _ _ (hr _) ?_)
  clear hr
  go_wp2
  go_ret
  refine ⟨((Below.refl _ _).alloc (Nat.le_refl _) _).drew,some ⟨w.heap.size,0,none⟩,G,rfl,?_⟩
  refine ⟨rfl,.inr ⟨w.heap.size,G,Builtin.zeroCells #[.string ⟨#[]⟩,.string ⟨#[]⟩,.string ⟨#[]⟩,.string ⟨#[]⟩,.int .i64 0,.slice none 0 0,.slice none 0 0] N ++ Builtin.zeroCells #[.string ⟨#[]⟩,.string ⟨#[]⟩,.string ⟨#[]⟩,.string ⟨#[]⟩,.int .i64 0,.slice none 0 0,.slice none 0 0] (G - N),rfl,Nat.le_refl _,?_,Nat.zero_le _,hGm,?_,?_⟩⟩
  ·show (w.heap.push _)[w.heap.size]? = _
   simp
  ·rw [Array.size_append,size_zeroCells,size_zeroCells]
   show N * 7 + (G - N) * 7 = G * 7
   omega
  ·simp
set_option maxHeartbeats 2000000 in
set_option maxRecDepth 100000 in
theorem concatP (g:Nat) (p q:Option Addr) (n m c d:Nat) (L M:List Value) (en:L.length = n * 7) (em:M.length = m * 7) (w:World) (h1:w.cell? ⟨g,0,none⟩ = some (.slice p n c)) (h2:w.cell? ⟨g,1,none⟩ = some (.slice q m d))
  (hL:Cells w p L) (hM:Cells w q M) (oL:∀ u ∈ L,u.oneCell' = true) (oM:∀ u ∈ M,u.oneCell' = true) (hp:p = none→n = 0∧c = 0) (hq:q = none→m = 0∧d = 0) (hn:n + m≤50000) :
  Calls Tryz.prog 85 #[.slice (some ⟨g,0,none⟩) 2 2] w fun e w'=>Below w.heap.size w w'∧∃ p' c',e = .returned (.slice p' (n + m) c')∧w'.ownsRow w.heap.size 25 7 (.slice p' (n + m) c') (n + m) (L ++ M):=by
 have hg:g < w.heap.size:=World.block_lt_of_cell? w _ h1
 have HE:Hid (L.length = n * 7∧M.length = m * 7):=⟨en,em⟩
 have HL:Hid (Cells w p L):=hL
 have HM:Hid (Cells w q M):=hM
 have HP:Hid (p = none→n = 0∧c = 0):=hp
 have HQ:Hid (q = none→m = 0∧d = 0):=hq
 have HO:Hid ((∀ u ∈ L,u.oneCell' = true)∧(∀ u ∈ M,u.oneCell' = true)):=⟨oL,oM⟩
 clear hL hM hp hq en em oL oM
 go_enter Tryz.func85,Tryz.ntmps85
 go_wp2
 refine wp_loop_rounds 3 ?_
 rw [rounds_succ]
 go_wp2
 rw [rounds_succ]
 go_wp2
 rw [rounds_succ]
 go_wp2_with fail
 refine (growNilP (n + m) _ (by omega) (by omega) _).mono ?_
 rintro e w1 ⟨hb1,p1,c1,rfl,hown1⟩
 have h1':w1.cell? ⟨g,0,none⟩ = some (.slice p n c):=(hb1.cell (p:=⟨g,0,none⟩) hg).trans h1
 have h2':w1.cell? ⟨g,1,none⟩ = some (.slice q m d):=(hb1.cell (p:=⟨g,1,none⟩) hg).trans h2
 have hL1:Hid (Cells w1 p L):=HL.out.below hb1
 have hsz1:=hb1.size
 go_wp2
 refine wp_loop_rounds 3 ?_
 rw [rounds_succ]
 go_wp2_with (at_builtin;refine append_rowP rfl (.tmp 31) (.tmp 32) rfl w.heap.size _ _ _ rfl hown1 p L n c HE.out.1 rfl hL1.out HO.out.1 HP.out (by omega) hsz1 ?_)
 intro v2 w2 hown2 hg2
 have hb2:Below w.heap.size w w2:=hb1.grown hg2 hsz1 fun j hj=>(hown1.lt j hj).1
 have h2'':w2.cell? ⟨g,1,none⟩ = some (.slice q m d):=(hb2.cell (p:=⟨g,1,none⟩) hg).trans h2
 have hM2:Hid (Cells w2 q M):=HM.out.below hb2
 have hsz2:=hb2.size
 clear hg2 hown1 h1' h2' hL1 hb1
 go_wp2
 rw [rounds_succ]
 go_wp2_with (at_builtin;refine append_rowP rfl (.tmp 31) (.tmp 32) rfl w.heap.size _ _ _ rfl hown2 q M m d HE.out.2 rfl hM2.out HO.out.2 HQ.out (by omega) hsz2 ?_)
 intro v3 w3 hown3 hg3
 have hb3:Below w.heap.size w w3:=hb2.grown hg3 hsz2 fun j hj=>(hown2.lt j hj).1
 have R:Hid (w3.ownsRow w.heap.size 25 7 v3 (n + m) (L ++ M)):=by
  unfold Hid
  simpa using hown3
 obtain ⟨p3,c3,rfl⟩:=owned_slice R.out
 clear hg3 hown2 hown3 h2'' hM2 hb2
 go_wp2
 rw [rounds_succ]
 go_wp2
 go_ret
 exact ⟨hb3,p3,c3,rfl,R.out⟩
end Go.Proofs.YtbbfcbodhmeanaaGreatDoor



namespace Go.Proofs.YtbbfcbodhmeanaaGreatDoor
def sub (n:Nat) (x:PT × Option Nat):PT × Option Nat:=(x.1,some (match x.2 with | none=>0 | some j=>j + n))
def abs (n:Nat) (inn:Int) (x:PT × Option Nat):PT × Int:=(x.1,match x.2 with | none=>inn | some j=>((n + j:Nat):Int))
def tree:Nat→PT→List (PT × Option Nat)
 | 0,_=>[]
 | f + 1,p=>p.kids.foldl (fun acc k=>acc ++ (tree f k).map (sub acc.length)) [(p,none)]
def grow (f:Nat) (acc:List (PT × Option Nat)) (ks:List PT):List (PT × Option Nat):=ks.foldl (fun acc k=>acc ++ (tree f k).map (sub acc.length)) acc
theorem grow_nil (f:Nat) (acc:List (PT × Option Nat)):grow f acc [] = acc:=rfl
theorem grow_cons (f:Nat) (acc:List (PT × Option Nat)) (k:PT) (ks:List PT):grow f acc (k::ks) = grow f (acc ++ (tree f k).map (sub acc.length)) ks:=rfl
theorem tree_grow (f:Nat) (p:PT):tree (f + 1) p = grow f [(p,none)] p.kids:=by rw [tree];rfl
theorem grow_le (f:Nat):∀ (ks:List PT) (acc:List (PT × Option Nat)),acc.length≤(grow f acc ks).length
 | [],acc=>Nat.le_refl _
 | k::ks,acc=>by
  rw [grow_cons]
  have:=grow_le f ks (acc ++ (tree f k).map (sub acc.length))
  rw [List.length_append] at this
  omega
theorem tree_pos (f:Nat) (p:PT):1≤(tree (f + 1) p).length:=by
 rw [tree_grow];exact grow_le f p.kids [(p,none)]
def lev:Nat→PT→Bool
 | 0,_=>false
 | n + 1,p=>p.kids.all (lev n)
theorem lev_succ (n:Nat) (p:PT):lev (n + 1) p = p.kids.all (lev n):=by rw [lev]
theorem abs_sub (n a:Nat) (inn:Int) (x:PT × Option Nat):abs n inn (sub a x) = abs (n + a) n x:=by
 obtain ⟨x,j⟩:=x
 cases j with
 | none=>simp [abs,sub]
 | some j=>simp only [abs,sub];congr 1;omega
theorem putAll_spec (f:Nat) (ih:∀ l p inn,l.length≤12→put (f + 1) l p (4 - f) inn = if lev f p = true∧l.length + (tree (f + 1) p).length≤12 then some (l ++ (tree (f + 1) p).map (abs l.length inn)) else none) (l:List (PT × Int)) (inn:Int) :
  ∀ (ks:List PT) (acc:List (PT × Option Nat)),l.length + acc.length≤12→putAll (f + 1) (4 - f) l.length (l ++ acc.map (abs l.length inn)) ks =
   if ks.all (lev f) = true∧l.length + (grow (f + 1) acc ks).length≤12 then some (l ++ (grow (f + 1) acc ks).map (abs l.length inn)) else none
 | [],acc,h=>by rw [putAll_nil,grow_nil,if_pos ⟨rfl,h⟩]
 | k::ks,acc,h=>by
  have hk:=ih (l ++ acc.map (abs l.length inn)) k l.length (by rw [List.length_append,List.length_map];exact h)
  rw [List.length_append,List.length_map] at hk
  have hg:=grow_le (f + 1) ks (acc ++ (tree (f + 1) k).map (sub acc.length))
  rw [List.length_append,List.length_map] at hg
  rw [grow_cons]
  by_cases hc:lev f k = true∧l.length + acc.length + (tree (f + 1) k).length≤12
  ·rw [if_pos hc] at hk
   rw [putAll_some _ _ _ _ _ _ _ hk]
   have e:(l ++ acc.map (abs l.length inn)) ++ (tree (f + 1) k).map (abs (l.length + acc.length) l.length) = l ++ (acc ++ (tree (f + 1) k).map (sub acc.length)).map (abs l.length inn):=by
    rw [List.map_append,List.map_map,List.append_assoc]
    congr 2
    exact List.map_congr_left fun x _=>(abs_sub _ _ _ x).symm
   rw [e,putAll_spec f ih l inn ks _ (by rw [List.length_append,List.length_map];omega),List.all_cons,hc.1,Bool.true_and]
  ·rw [if_neg hc] at hk
   rw [putAll_none _ _ _ _ _ _ hk,if_neg]
   rintro ⟨h1,h2⟩
   rw [List.all_cons,Bool.and_eq_true] at h1
   exact hc ⟨h1.1,by omega⟩
theorem put_spec:∀ (f:Nat),f≤3→∀ (l:List (PT × Int)) (p:PT) (inn:Int),l.length≤12 →
  put (f + 1) l p (4 - f) inn = if lev f p = true∧l.length + (tree (f + 1) p).length≤12 then some (l ++ (tree (f + 1) p).map (abs l.length inn)) else none
 | 0,_,l,p,inn,_=>by rw [put_stop _ _ _ _ _ (Or.inr (by omega)),if_neg (fun h=>by have:=h.1;rw [lev] at this;cases this)]
 | f + 1,hf,l,p,inn,hl=>by
  by_cases hs:l.length = 12
  ·rw [put_stop _ _ _ _ _ (Or.inl hs),if_neg]
   have:=tree_pos (f + 1) p
   omega
  ·rw [put_go _ _ _ _ _ (by omega),show 4 - (f + 1) + 1 = 4 - f from by omega]
   have:=putAll_spec f (fun l p inn hl=>put_spec f (by omega) l p inn hl) l inn p.kids [(p,none)] (by simp;omega)
   rw [show l ++ [(p,none)].map (abs l.length inn) = l ++ [(p,inn)] from rfl] at this
   rw [this,← tree_grow,← lev_succ]
theorem places_spec (p:PT):put 4 [] p 1 (-1) = if lev 3 p = true∧(tree 4 p).length≤12 then some ((tree 4 p).map (abs 0 (-1))) else none:=by
 have:=put_spec 3 (by omega) [] p (-1) (by simp)
 simpa using this
end Go.Proofs.YtbbfcbodhmeanaaGreatDoor



namespace Go.Proofs.YtbbfcbodhmeanaaGreatDoor
theorem grow_same (f g:Nat):∀ (ks:List PT) (acc:List (PT × Option Nat)),(∀ k ∈ ks,tree g k = tree f k)→grow g acc ks = grow f acc ks
 | [],_,_=>rfl
 | k::ks,acc,h=>by
  rw [grow_cons,grow_cons,h k (by simp)]
  exact grow_same f g ks _ fun x hx=>h x (by simp [hx])
theorem tree_fuel:∀ (f:Nat) (p:PT),lev f p = true→∀ g,f≤g→tree g p = tree f p
 | 0,p,h,_,_=>by rw [lev] at h;cases h
 | f + 1,p,h,0,hg=>by omega
 | f + 1,p,h,g + 1,hg=>by
  rw [lev_succ,List.all_eq_true] at h
  rw [tree_grow,tree_grow]
  exact grow_same f g p.kids _ fun k hk=>tree_fuel f k (h k hk) g (by omega)
end Go.Proofs.YtbbfcbodhmeanaaGreatDoor



namespace Go.Proofs.YtbbfcbodhmeanaaGreatDoor
theorem bad_each:∀ (L:List (PT × Int)),firstBad L = 0→∀ x ∈ L,chkA x.1 = 0
 | [],_,x,hx=>by cases hx
 | y::L,h,x,hx=>by
  rw [firstBad] at h
  split at h
  ·rename_i h0
   rcases List.mem_cons.1 hx with e | e
   ·subst e;exact h0
   ·exact bad_each L h x e
  ·rename_i h0;exact absurd h h0
end Go.Proofs.YtbbfcbodhmeanaaGreatDoor


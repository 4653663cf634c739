
import Derived.Test.YtbbfcbodhmeanaaGreatDoorXrewritesays12
import Derived.Lib.Overlaps
import Derived.Lib.AppendZerosOnto
import Derived.Laws.CopyOwn
import Derived.Laws.Externs
import Derived.Lib.ConvBytes
import Derived.Shelf.Spec.SlicesInsert
namespace Go.Proofs.YtbbfcbodhmeanaaGreatDoor
open Go.RowKit
structure RepIn (w:World) (base g cap:Nat) (X:List UInt8) (cur:List Value) (vb vc:Nat) (T:List UInt8):Prop where
 hb:base≤g
 hbw:base≤w.heap.size
 hg:w.heap[g]? = some (.cells cur.toArray 5 (0,0))
 hcl:cur.length = cap
 hcm:cap≤maxLen
 hX:cur.take X.length = bv X
 hXc:X.length≤cap
 hv:∃ vcur:Array Value,w.heap[vb]? = some (.cells vcur 5 (vcur.size,vcur.size + 1))∧T.length≤vcur.size
 hvs:∀ j v,(bv T)[j]? = some v→w.cell? ⟨vb,0 + j,none⟩ = some v
 ne:vb ≠ g
 hT:0 < T.length
 big:X.length + T.length≤140737488355328
def RepPost (w:World) (base:Nat) (R:List UInt8) (e:Ending) (w':World):Prop:=∃ g' cap',e = .returned (.slice (some ⟨g',0,none⟩) R.length cap')∧Below base w w'∧w'.ownsRow base 5 1 (.slice (some ⟨g',0,none⟩) R.length cap') R.length (bv R)
theorem RepIn.cell {w:World} {base g cap:Nat} {X:List UInt8} {cur:List Value} {vb vc:Nat} {T:List UInt8} (h:RepIn w base g cap X cur vb vc T) (j:Nat) (v:Value) (hj:(bv X)[j]? = some v):w.cell? ⟨g,0 + j,none⟩ = some v:=by
 rw [Nat.zero_add,World.cell?,h.hg]
 have:cur[j]? = some v:=by
  have hlt:j < X.length:=by
   have:=(List.getElem?_eq_some_iff.1 hj).1
   rwa [bv_length] at this
  rw [← h.hX,List.getElem?_take_of_lt hlt] at hj
  exact hj
 simpa using this
theorem overlaps_P {P:Program} {w:World} (tS tR e:TypeId) (ht:P.underlying tS = some (.slice e)) (hz:∀ w,(Go.sizeOf e).run P w = .ok 1 w) (a b:Addr) (la ca lb cb:Nat) (hne:a.block ≠ b.block) (A B:Array Value) (ma mb:Nat × Nat) (ha:w.heap[a.block]? = some (.cells A e ma)) (hb:w.heap[b.block]? = some (.cells B e mb))
  (hm:(ma = (0,0)∧mb = (B.size,B.size + 1)∧0 < B.size∧b.off < B.size) ∨ (mb = (0,0)∧ma = (A.size,A.size + 1)∧0 < A.size∧a.off < A.size)) :
  (Extern.SlicesOverlaps.overlaps #[tS,tS] #[tR] #[.slice (some a) la ca,.slice (some b) lb cb]).run P w = .ok (.bool false) w:=by
 have hnb:(a.block != b.block) = true:=by simpa using hne
 have hnb':(a.block == b.block) = false:=by simpa using hne
 have hsa:w.shape? a.block = some (e,A.size):=by simp [World.shape?,ha]
 have hsb:w.shape? b.block = some (e,B.size):=by simp [World.shape?,hb]
 delta Extern.SlicesOverlaps.overlaps
 conv=>lhs;arg 2;whnf
 have hp:∀ k:Program→Sem Value,Sem.run P (Sem.program k) w = Sem.run P (k P) w:=fun _=>rfl
 have hpb:∀ (x:TypeDesc) (f:TypeDesc→Sem Value),Sem.bind (pure x) f = f x:=fun _ _=>rfl
 rw [hp]
 simp only [Sem.bind,ht,show (#[tS,tS]:Array TypeId)[0] = tS from rfl,hpb]
 rcases hm with ⟨rfl,rfl,hB,ho⟩ | ⟨rfl,rfl,hA,ho⟩
 ·have hfa:w.frozen? a = false:=by simp [World.frozen?,ha]
  have hfe:w.frozen? { block:=a.block,off:=A.size } = false:=by simp [World.frozen?,ha]
  have hfb:w.frozen? b = false:=by simp [World.frozen?,hb];omega
  obtain ⟨k,hk⟩:∃ k,B.size = k + 1:=⟨B.size - 1,by omega⟩
  rw [hk] at hsb
  simp [hz,hnb,hnb',frozen,noView,viewAt,mayBeOne,stringish,shape,Sem.run,hsa,hsb,hfa,hfe,hfb]
 ·have hfb:w.frozen? b = false:=by simp [World.frozen?,hb]
  have hfe:w.frozen? { block:=b.block,off:=B.size } = false:=by simp [World.frozen?,hb]
  have hfa:w.frozen? a = false:=by simp [World.frozen?,ha];omega
  obtain ⟨k,hk⟩:∃ k,A.size = k + 1:=⟨A.size - 1,by omega⟩
  rw [hk] at hsa
  simp [hz,hnb,hnb',frozen,noView,viewAt,mayBeOne,stringish,shape,Sem.run,hsa,hsb,hfa,hfe,hfb]
theorem sizeOf_u8 (w:World):(Go.sizeOf 5).run Tryz.prog w = .ok 1 w:=by
 obtain ⟨i0,hi,hz0,hz1,hz2⟩:=info_parts info_u8
 simp [Go.sizeOf,typeInfo,hi,hz1]
theorem take_splice {α:Type} (L cs:List α) (off k:Nat) (h:off + cs.length≤L.length) (hk:off + cs.length≤k):(splice L off cs).take k = L.take off ++ (cs ++ (L.drop (off + cs.length)).take (k - (off + cs.length))):=by
 unfold splice
 have h1:(L.take off).length = off:=by rw [List.length_take];omega
 rw [List.take_append,h1,List.take_of_length_le (by omega),List.take_append,List.take_of_length_le (l:=cs) (by omega)]
 congr 3
 omega
theorem size_u8:(Tryz.prog.info? 5).map (·.size) = some 1:=by kernel_rfl
theorem bv_one (l:List UInt8):∀ v ∈ bv l,v.oneCell' = true:=by
 intro u hu
 simp only [bv,List.mem_map] at hu
 obtain ⟨c,_,rfl⟩:=hu
 rfl
structure Only (g:Nat) (w w':World):Prop where
 os:w'.os = w.os
 tape:w'.tape = w.tape
 output:w'.output = w.output
 size:w'.heap.size = w.heap.size
 block:∀ k,k ≠ g→w'.heap[k]? = w.heap[k]?
theorem Only.refl (g:Nat) (w:World):Only g w w:=⟨rfl,rfl,rfl,rfl,fun _ _=>rfl⟩
theorem Only.drew (g:Nat) (w:World):Only g w w.drew:=⟨rfl,rfl,rfl,rfl,fun _ _=>rfl⟩
theorem Only.trans {g:Nat} {w w' w'':World} (h:Only g w w') (k:Only g w' w''):Only g w w'':=⟨k.os.trans h.os,k.tape.trans h.tape,k.output.trans h.output,k.size.trans h.size,fun b hb=>(k.block b hb).trans (h.block b hb)⟩
theorem Only.below {g B:Nat} {w w':World} (h:Only g w w') (hB:B≤g):Below B w w':=⟨h.os,h.tape,h.output,Nat.le_of_eq h.size.symm,fun k hk=>h.block k (by omega)⟩
theorem Only.cell {g:Nat} {w w':World} (h:Only g w w') (a:Addr) (ha:a.block ≠ g):w'.cell? a = w.cell? a:=World.cell?_of_block (h.block a.block ha)
theorem copyK (w:World) (g off dLen:Nat) (a:Addr) (sLen:Nat) (cur cs:List Value) (hg:w.heap[g]? = some (.cells cur.toArray 5 (0,0))) (hn:cs.length = Nat.min sLen dLen)
  (hsrc:∀ j v,cs[j]? = some v→w.cell? (a.add j) = some v) (hfit:off + cs.length≤cur.length) (h1:∀ v ∈ cs,v.oneCell' = true) :
  ∃ w',(∀ ty dCap sCap,(Builtin.copy_ #[22,22] ty #[.slice (some ⟨g,off,none⟩) dLen dCap,.slice (some a) sLen sCap]).run Tryz.prog w = .ok (goInt cs.length) w')∧w'.heap[g]? = some (.cells (splice cur off cs).toArray 5 (0,0))∧Only g w w':=by
 refine ⟨w.setRow g (splice cur off cs).toArray,fun ty dCap sCap=>?_,setRow_heap w g _ _ _ _ hg,⟨rfl,rfl,rfl,by simp [World.setRow],fun k hk=>setRow_other w g k _ hk⟩⟩
 have h:=run_copy_row (P:=Tryz.prog) w 22 22 ty 5 g off dLen dCap a sLen sCap cur.toArray 5 cs Tryz.underlying22 size_u8 hg hn hsrc (by simpa using hfit) h1
 rw [h]
 unfold splice
 simp
end Go.Proofs.YtbbfcbodhmeanaaGreatDoor



namespace Go.Proofs.YtbbfcbodhmeanaaGreatDoor
open Go.RowKit
theorem over_run {w:World} (a b:Addr) (la ca lb cb:Nat) (hne:a.block ≠ b.block) (A B:Array Value) (ma mb:Nat × Nat) (ha:w.heap[a.block]? = some (.cells A 5 ma)) (hb:w.heap[b.block]? = some (.cells B 5 mb))
  (hm:(ma = (0,0)∧mb = (B.size,B.size + 1)∧0 < B.size∧b.off < B.size) ∨ (mb = (0,0)∧ma = (A.size,A.size + 1)∧0 < A.size∧a.off < A.size)) :
  (callFunc 157 #[.slice (some a) la ca,.slice (some b) lb cb]).run Tryz.prog w = .ok (.value (.bool false)) w:=by
 rw [run_callFunc_extern Tryz.func157 (by kernel_rfl) (by kernel_rfl) (by kernel_rfl) (e:=Extern.SlicesOverlaps.overlaps #[22,22] #[4]) (by kernel_rfl),
  overlaps_P 22 4 5 Tryz.underlying22 sizeOf_u8 a b la ca lb cb hne A B ma mb ha hb hm]
 rfl
set_option maxHeartbeats 4000000 in
set_option maxRecDepth 100000 in
theorem ins_shift (w:World) (base g cap:Nat) (X:List UInt8) (cur:List Value) (vb vc:Nat) (T:List UInt8) (h:RepIn w base g cap X cur vb vc T) (i n m:Nat) (en:n = X.length) (em:m = T.length) (hi:i < n) (hroom:n + m≤cap) :
  Calls Tryz.prog 156 #[.slice (some ⟨g,0,none⟩) n cap,.int .i64 i,.slice (some ⟨vb,0,none⟩) m vc] w fun e w'=>RepPost w base (X.take i ++ T ++ X.drop i) e w':=by
 obtain ⟨vcur,hvb,hvl⟩:=h.hv
 have hov:∀ lb cb,(callFunc 157 #[.slice (some ⟨vb,0,none⟩) m vc,.slice (some ⟨g,i + m,none⟩) lb cb]).run Tryz.prog w = .ok (.value (.bool false)) w:=fun lb cb =>
  over_run ⟨vb,0,none⟩ ⟨g,i + m,none⟩ m vc lb cb h.ne vcur cur.toArray _ _ hvb h.hg (Or.inr ⟨rfl,rfl,by have:=h.hT;omega,by have:=h.hT;show 0 < vcur.size;omega⟩)
 have hcm:cap≤9223372036854775807:=h.hcm
 have hm0:0 < m:=by rw [em];exact h.hT
 have hz1:¬ ((m:Int) = 0):=by omega
 have hz2:¬ ((i:Int) = (n:Int)):=by omega
 have hw1:IntKind.i64.wrap ((i:Int) + (m:Int)) = (i:Int) + (m:Int):=by rw [IntKind.wrap_i64];omega
 have hw2:IntKind.i64.wrap ((n:Int) + (m:Int)) = (n:Int) + (m:Int):=by rw [IntKind.wrap_i64];omega
 have hb1:(0:Int)≤(i:Int) + (m:Int):=by omega
 have hin:i≤n:=by omega
 have htn:((i:Int) + (m:Int)).toNat = i + m:=by omega
 have hb2:¬ (cap = i + m):=by omega
 have hb3:(i:Int)≤(n:Int) + (m:Int):=by omega
 have hb4:¬ (cap = i):=by omega
 have HH:Hid (RepIn w base g cap X cur vb vc T):=h
 have HEN:Hid (n = X.length):=en
 have HEM:Hid (m = T.length):=em
 have hlc:cur.length = cap:=h.hcl
 obtain ⟨D,hD⟩:∃ D,D = (bv X).drop i:=⟨_,rfl⟩
 have hDl:D.length = n - i:=by rw [hD,List.length_drop,bv_length,en]
 have HD:Hid (D = (bv X).drop i):=hD
 have HDc:Hid (∀ j v,D[j]? = some v→w.cell? ⟨g,i + j,none⟩ = some v):=fun j v hj=>by
  rw [hD,List.getElem?_drop] at hj
  have:=h.cell (i + j) v hj
  rwa [Nat.zero_add] at this
 have HD1:Hid (∀ v ∈ D,v.oneCell' = true):=fun v hv=>by rw [hD] at hv;exact bv_one X v (List.mem_of_mem_drop hv)
 have HTl:Hid ((bv T).length = m):=by unfold Hid;rw [bv_length,em]
 obtain ⟨w2,hcp1,hg2,ho2⟩:=copyK w.drew g (i + m) (n + m - (i + m)) ⟨g,i,none⟩ (n + m - i) cur D h.hg (by rw [hDl];simp only [Nat.min_def];split <;> omega) (fun j v hj=>by rw [Addr.add_lit];exact HDc.out j v hj) (by omega) HD1.out
 have hs2:(splice cur (i + m) D).length = cap:=by rw [length_splice _ _ _ (by omega)];exact hlc
 obtain ⟨w3,hcp2,hg3,ho3⟩:=copyK w2 g i (n + m - i) ⟨vb,0,none⟩ m (splice cur (i + m) D) (bv T) hg2 (by rw [HTl.out];simp only [Nat.min_def];split <;> omega) (fun j v hj=>by rw [Addr.add_lit,ho2.cell _ h.ne];exact h.hvs j v hj) (by have:=HTl.out;omega) (bv_one T)
 have HCP1:Hid (∀ ty,(Builtin.copy_ #[22,22] ty #[.slice (some ⟨g,i + m,none⟩) (n + m - (i + m)) (cap - (i + m)),.slice (some ⟨g,i,none⟩) (n + m - i) (cap - i)]).run Tryz.prog w.drew = .ok (goInt D.length) w2):=fun ty=>hcp1 ty _ _
 have HCP2:Hid (∀ ty,(Builtin.copy_ #[22,22] ty #[.slice (some ⟨g,i,none⟩) (n + m - i) (cap - i),.slice (some ⟨vb,0,none⟩) m vc]).run Tryz.prog w2 = .ok (goInt (bv T).length) w3):=fun ty=>hcp2 ty _ _
 have hlen:(X.take i ++ T ++ X.drop i).length = n + m:=by rw [List.length_append,List.length_append,List.length_take,List.length_drop];omega
 have HP:Hid (RepPost w base (X.take i ++ T ++ X.drop i) (.returned (.slice (some ⟨g,0,none⟩) (n + m) cap)) w3):=by
  refine ⟨g,cap,by rw [hlen],((Only.drew g w).trans (ho2.trans ho3)).below h.hb,?_⟩
  refine ⟨by rw [bv_length];omega,.inr ⟨g,cap,_,rfl,h.hb,hg3,by omega,h.hcm,?_,?_⟩⟩
  ·rw [List.size_toArray,length_splice _ _ _ (by rw [HTl.out,hs2];omega),hs2];omega
  ·show List.take _ (splice (splice cur (i + m) D) i (bv T)) = _
   rw [hlen,Nat.mul_one,take_splice _ _ _ _ (by rw [HTl.out,hs2];omega) (by rw [HTl.out];omega),HTl.out]
   have e1:(splice cur (i + m) D).take i = bv (X.take i):=by
    unfold splice
    rw [List.take_append_of_le_length (by rw [List.length_take];omega),List.take_take,Nat.min_eq_left (by omega)]
    have h2:cur.take i = (cur.take X.length).take i:=by rw [List.take_take,Nat.min_eq_left (by omega)]
    rw [h2,h.hX]
    unfold bv
    rw [List.map_take]
   have e2:((splice cur (i + m) D).drop (i + m)).take (n + m - (i + m)) = bv (X.drop i):=by
    unfold splice
    have h3:(cur.take (i + m)).length = i + m:=by rw [List.length_take];omega
    rw [List.drop_append,h3,Nat.sub_self,List.drop_zero,List.drop_of_length_le (by omega),List.nil_append,List.take_append_of_le_length (by omega),List.take_of_length_le (by omega),hD]
    unfold bv
    rw [List.map_drop]
   rw [e1,e2,bv_append,bv_append,List.append_assoc]
 clear hD h en em hvb hvl hcp1 hcp2 hg2 hg3 ho2 ho3 hs2 hlen
 go_enter Tryz.func156,Tryz.ntmps156
 go_wp2_with (simp only [hov])
 go_region_law (refine step_copy_runI rfl _ _ 22 22 rfl _ _ (by simp [Act.eval,Act.put]) (by simp [Act.eval,Act.put]) (HCP1.out _) ?_)
 go_wp2_with (refine wpList_copy_runI _ rfl _ _ 22 22 rfl _ _ rfl rfl (HCP2.out _) ?_)
 go_ret
 exact HP.out
theorem zerosK (w:World) (base g cap:Nat) (X:List UInt8) (cur:List Value) (vb vc:Nat) (T:List UInt8) (h:RepIn w base g cap X cur vb vc T) (i k:Nat) (hi:i≤X.length) (hk:0 < k) (hroom:cap < i + k) (hbig:i + k≤140737488355328) (kk:Int) (ek:kk = (k:Int)) :
  ∃ W1 G ROW,(∀ ty,(Builtin.append_ #[22,3] ty #[.slice (some ⟨g,0,none⟩) i cap,.int .i64 kk]).run Tryz.prog w = .ok (.slice (some ⟨w.heap.size,0,none⟩) (i + k) G) W1) ∧
   W1.heap[w.heap.size]? = some (.cells (List.toArray ROW) 5 (0,0))∧Below w.heap.size w W1∧ROW.length = G∧i + k≤G∧G≤maxLen∧ROW.take i = bv (X.take i):=by
 obtain ⟨i0,hi0,hz0,hzs,hzb⟩:=info_parts info_u8
 have hold:(Builtin.firstCells i0.size i (.slice (some ⟨g,0,none⟩) i cap)).run Tryz.prog w.drew = .ok (bv (X.take i)).toArray w.drew:=by
  rw [hzs]
  exact run_firstCells_some w.drew 1 i ⟨g,0,none⟩ i cap (bv (X.take i)) (by rw [bv_length,List.length_take];omega) (fun j v hj=>by
   rw [Addr.add_lit]
   refine h.cell j v ?_
   have hjl:j < i:=by have:=(List.getElem?_eq_some_iff.1 hj).1;rw [bv_length,List.length_take] at this;omega
   unfold bv at hj ⊢
   rw [List.getElem?_map,List.getElem?_take_of_lt hjl] at hj
   rw [List.getElem?_map]
   exact hj)
 have hr:=fun ty=>Lib.run_append_grow_zeros w 22 3 ty 5 i0 _ .i64 .i64 Tryz.underlying22 Tryz.underlying3 hi0 hz0 (some ⟨g,0,none⟩) i cap (bv (X.take i)) hold k hk (by omega) hroom (by omega) (by rw [hzb];omega) (by rw [hzb];exact growslice_fits hroom (by omega))
 refine ⟨_,_,(bv (X.take i) ++ ((Builtin.zeroCells (Value.int .u8 0).cells k).toList ++ (Builtin.zeroCells (Value.int .u8 0).cells (grownCap w (i + k) cap 5 - (i + k))).toList)),fun ty=>by rw [ek];exact hr ty,?_,?_,?_,grownCap_ge _ _ _ _,grownCap_le_maxLen _ _ _ _ (by unfold maxLen;omega),?_⟩
 ·generalize Builtin.zeroCells (Value.int .u8 0).cells k = Z1
  generalize Builtin.zeroCells (Value.int .u8 0).cells (grownCap w (i + k) cap 5 - (i + k)) = Z2
  rw [show ∀ o,(w.drew.alloc o).heap[w.heap.size]? = some o from fun o=>heap_alloc_new w.drew o]
  refine congrArg (fun q=>some (Obj.cells q 5 (0,0))) ?_
  apply Array.ext'
  simp
 ·exact (Below.refl _ _).drew.alloc (Nat.le_refl _) _
 ·have hg:=grownCap_ge w (i + k) cap 5
  have e1:(Builtin.zeroCells (Value.int .u8 0).cells k).toList.length = k * 1:=by rw [Array.length_toList,size_zeroCells];rfl
  have e2:(Builtin.zeroCells (Value.int .u8 0).cells (grownCap w (i + k) cap 5 - (i + k))).toList.length = (grownCap w (i + k) cap 5 - (i + k)) * 1:=by rw [Array.length_toList,size_zeroCells];rfl
  rw [List.length_append,List.length_append,bv_length,List.length_take,e1,e2]
  omega
 ·rw [List.take_append_of_le_length (by rw [bv_length,List.length_take];omega),List.take_of_length_le (by rw [bv_length,List.length_take];omega)]
theorem growK (w:World) (base g cap:Nat) (X:List UInt8) (cur:List Value) (vb vc:Nat) (T:List UInt8) (h:RepIn w base g cap X cur vb vc T) (i j k m:Nat) (em:m = T.length) (hij:i≤j) (hj:j < X.length) (ek:k = m + (X.length - j)) (W1:World) (G:Nat) (ROW:List Value)
  (hrow:W1.heap[w.heap.size]? = some (.cells ROW.toArray 5 (0,0))) (hb1:Below w.heap.size w W1) (hl:ROW.length = G) (hG:i + k≤G) (hGm:G≤maxLen) (ht:ROW.take i = bv (X.take i)) (W1d:World) (hd:Only w.heap.size W1 W1d) (hd2:W1d.heap[w.heap.size]? = W1.heap[w.heap.size]?) :
  ∃ w2,(∀ ty dc,(Builtin.copy_ #[22,22] ty #[.slice (some ⟨w.heap.size,i,none⟩) (i + k - i) dc,.slice (some ⟨vb,0,none⟩) m vc]).run Tryz.prog W1d = .ok (goInt m) w2) ∧
   (∀ w2d,Only w.heap.size w2 w2d→w2d.heap[w.heap.size]? = w2.heap[w.heap.size]?→∃ w3,(∀ ty dc sc,(Builtin.copy_ #[22,22] ty #[.slice (some ⟨w.heap.size,i + m,none⟩) (i + k - (i + m)) dc,.slice (some ⟨g,j,none⟩) (X.length - j) sc]).run Tryz.prog w2d = .ok (goInt ((X.length - j:Nat):Int)) w3) ∧
    RepPost w base (X.take i ++ T ++ X.drop j) (.returned (.slice (some ⟨w.heap.size,0,none⟩) (i + k) G)) w3):=by
 have hgl:g < w.heap.size:=(Array.getElem?_eq_some_iff.1 h.hg).1
 have hvl:vb < w.heap.size:=by obtain ⟨vcur,hv,_⟩:=h.hv;exact (Array.getElem?_eq_some_iff.1 hv).1
 have hTl:(bv T).length = m:=by rw [bv_length,em]
 have hDl:((bv X).drop j).length = X.length - j:=by rw [List.length_drop,bv_length]
 obtain ⟨w2,hc2,hg2,ho2⟩:∃ w2,(∀ ty dc,(Builtin.copy_ #[22,22] ty #[.slice (some ⟨w.heap.size,i,none⟩) (i + k - i) dc,.slice (some ⟨vb,0,none⟩) m vc]).run Tryz.prog W1d = .ok (goInt m) w2)∧w2.heap[w.heap.size]? = some (.cells (splice ROW i (bv T)).toArray 5 (0,0))∧Only w.heap.size W1d w2:=by
  have hk:=copyK W1d w.heap.size i (i + k - i) ⟨vb,0,none⟩ m ROW (bv T) (hd2.trans hrow) (by rw [hTl];simp only [Nat.min_def];split <;> omega) (fun q v hq=>by
   rw [Addr.add_lit,hd.cell _ (by show vb ≠ _;omega)]
   exact (hb1.cell (p:=⟨vb,0 + q,none⟩) hvl).trans (h.hvs q v hq)) (by omega) (bv_one T)
  obtain ⟨w2,h1,h2,h3⟩:=hk
  refine ⟨w2,fun ty dc=>?_,h2,h3⟩
  have:=h1 ty dc vc
  rw [hTl] at this
  exact this
 refine ⟨w2,hc2,fun w2d hd3 hd4=>?_⟩
 have hs2:(splice ROW i (bv T)).length = G:=by rw [length_splice _ _ _ (by omega)];exact hl
 obtain ⟨w3,h1,h2,h3⟩:=copyK w2d w.heap.size (i + m) (i + k - (i + m)) ⟨g,j,none⟩ (X.length - j) (splice ROW i (bv T)) ((bv X).drop j) (hd4.trans hg2) (by rw [hDl];simp only [Nat.min_def];split <;> omega) (fun q v hq=>by
   rw [Addr.add_lit,hd3.cell _ (by show g ≠ _;omega),ho2.cell _ (by show g ≠ _;omega),hd.cell _ (by show g ≠ _;omega)]
   rw [List.getElem?_drop] at hq
   have:=h.cell (j + q) v hq
   rw [Nat.zero_add] at this
   exact (hb1.cell (p:=⟨g,j + q,none⟩) hgl).trans this) (by omega) (fun v hv=>bv_one X v (List.mem_of_mem_drop hv))
 refine ⟨w3,fun ty dc sc=>?_,?_⟩
 ·have:=h1 ty dc sc
  rw [hDl] at this
  exact this
 ·have hlen:(X.take i ++ T ++ X.drop j).length = i + k:=by rw [List.length_append,List.length_append,List.length_take,List.length_drop];omega
  refine ⟨w.heap.size,G,by rw [hlen],(hb1.mono h.hbw).trans ((hd.trans (ho2.trans (hd3.trans h3))).below h.hbw),⟨by rw [bv_length];omega,.inr ⟨w.heap.size,G,_,rfl,h.hbw,h2,by omega,hGm,?_,?_⟩⟩⟩
  ·rw [List.size_toArray,length_splice _ _ _ (by rw [hDl,hs2];omega),hs2];omega
  ·show List.take _ (splice (splice ROW i (bv T)) (i + m) ((bv X).drop j)) = _
   rw [hlen,Nat.mul_one,take_splice _ _ _ _ (by rw [hDl,hs2];omega) (by rw [hDl];omega),hDl]
   have e1:(splice ROW i (bv T)).take (i + m) = bv (X.take i) ++ bv T:=by
    rw [take_splice _ _ _ _ (by omega) (by omega),hTl,ht,Nat.sub_self,List.take_zero,List.append_nil]
   rw [e1,show i + k - (i + m + (X.length - j)) = 0 from by omega,List.take_zero,List.append_nil,bv_append,bv_append]
   unfold bv
   rw [List.map_drop]
set_option maxHeartbeats 4000000 in
set_option maxRecDepth 100000 in
theorem ins_grow (w:World) (base g cap:Nat) (X:List UInt8) (cur:List Value) (vb vc:Nat) (T:List UInt8) (h:RepIn w base g cap X cur vb vc T) (i n m:Nat) (en:n = X.length) (em:m = T.length) (hi:i < n) (hroom:cap < n + m) :
  Calls Tryz.prog 156 #[.slice (some ⟨g,0,none⟩) n cap,.int .i64 i,.slice (some ⟨vb,0,none⟩) m vc] w fun e w'=>RepPost w base (X.take i ++ T ++ X.drop i) e w':=by
 have hbig:=h.big
 have hXc:=h.hXc
 have hm0:0 < m:=by rw [em];exact h.hT
 obtain ⟨W1,G,ROW,hz,hrow,hb1,hl,hG,hGm,ht⟩:=zerosK w base g cap X cur vb vc T h i (n + m - i) (by omega) (by omega) (by omega) (by omega) ((n:Int) + (m:Int) - (i:Int)) (by omega)
 obtain ⟨w2,hc2,hrest⟩:=growK w base g cap X cur vb vc T h i i (n + m - i) m em (Nat.le_refl _) (by omega) (by omega) W1 G ROW hrow hb1 hl hG hGm ht W1 (Only.refl _ _) rfl
 obtain ⟨w3,hc3,hpost⟩:=hrest w2.drew (Only.drew _ _) rfl
 rw [show i + (n + m - i) = n + m from by omega] at hz hc2 hc3 hpost hG
 rw [← en] at hc3
 have HZ:Hid (∀ ty,(Builtin.append_ #[22,3] ty #[.slice (some ⟨g,0,none⟩) i cap,.int .i64 ((n:Int) + (m:Int) - (i:Int))]).run Tryz.prog w = .ok (.slice (some ⟨w.heap.size,0,none⟩) (n + m) G) W1):=hz
 have HC2:Hid (∀ ty dc,(Builtin.copy_ #[22,22] ty #[.slice (some ⟨w.heap.size,i,none⟩) (n + m - i) dc,.slice (some ⟨vb,0,none⟩) m vc]).run Tryz.prog W1 = .ok (goInt m) w2):=hc2
 have HC3:Hid (∀ ty dc sc,(Builtin.copy_ #[22,22] ty #[.slice (some ⟨w.heap.size,i + m,none⟩) (n + m - (i + m)) dc,.slice (some ⟨g,i,none⟩) (n - i) sc]).run Tryz.prog w2.drew = .ok (goInt ((n - i:Nat):Int)) w3):=hc3
 have HP:Hid (RepPost w base (X.take i ++ T ++ X.drop i) (.returned (.slice (some ⟨w.heap.size,0,none⟩) (n + m) G)) w3):=hpost
 have hcm:cap≤9223372036854775807:=h.hcm
 have hGm':G≤9223372036854775807:=hGm
 have hz1:¬ ((m:Int) = 0):=by omega
 have hz2:¬ ((i:Int) = (n:Int)):=by omega
 have hz3:(cap:Int) < (n:Int) + (m:Int):=by omega
 have hw1:IntKind.i64.wrap ((i:Int) + (m:Int)) = (i:Int) + (m:Int):=by rw [IntKind.wrap_i64];omega
 have hw2:IntKind.i64.wrap ((n:Int) + (m:Int)) = (n:Int) + (m:Int):=by rw [IntKind.wrap_i64];omega
 have hw3:IntKind.i64.wrap ((n:Int) + (m:Int) - (i:Int)) = (n:Int) + (m:Int) - (i:Int):=by rw [IntKind.wrap_i64];omega
 have hb1':(0:Int)≤(i:Int) + (m:Int):=by omega
 have hin:i≤n:=by omega
 have hnc:n≤cap:=by omega
 have hic:i≤cap:=by omega
 have htn:((i:Int) + (m:Int)).toNat = i + m:=by omega
 have hb3:(i:Int)≤(n:Int) + (m:Int):=by omega
 have hb4:¬ (cap = i):=by omega
 have hGi:¬ (G = i):=by omega
 have hGim:¬ (G = i + m):=by omega
 have hig:i≤n + m:=by omega
 have him:i + m≤n + m:=by omega
 clear hz hc2 hc3 hpost hrest hrow hb1 hl ht h en em hbig hXc hGm
 go_enter Tryz.func156,Tryz.ntmps156
 go_wp2_with (first | (refine wpList_copy_runI _ rfl _ _ 22 22 rfl _ _ rfl rfl (HC2.out _ _) ?_) | (at_builtin;refine Lib.wpList_append_run _ rfl _ _ _ _ rfl _ _ rfl rfl _ _ (HZ.out _) ?_))
 go_region_law (refine step_copy_runI rfl _ _ 22 22 rfl _ _ (by simp [Act.eval,Act.put]) (by simp [Act.eval,Act.put]) (HC3.out _ (G - (i + m)) (cap - i)) ?_)
 go_wp2_with fail
 go_ret
 exact HP.out
theorem ins_any (w:World) (base g cap:Nat) (X:List UInt8) (cur:List Value) (vb vc:Nat) (T:List UInt8) (h:RepIn w base g cap X cur vb vc T) (i n m:Nat) (en:n = X.length) (em:m = T.length) (hi:i < n) :
  Calls Tryz.prog 156 #[.slice (some ⟨g,0,none⟩) n cap,.int .i64 i,.slice (some ⟨vb,0,none⟩) m vc] w fun e w'=>RepPost w base (X.take i ++ T ++ X.drop i) e w':=by
 by_cases hroom:n + m≤cap
 ·exact ins_shift w base g cap X cur vb vc T h i n m en em hi hroom
 ·exact ins_grow w base g cap X cur vb vc T h i n m en em hi (by omega)
end Go.Proofs.YtbbfcbodhmeanaaGreatDoor



namespace Go.Proofs.YtbbfcbodhmeanaaGreatDoor
open Go.RowKit
theorem clearK (w:World) (g off k cap:Nat) (cur:List Value) (hg:w.heap[g]? = some (.cells cur.toArray 5 (0,0))) (hfit:off + (k + 1)≤cur.length) :
  ∃ w',(∀ ty,(Builtin.clear_ #[22] ty #[.slice (some ⟨g,off,none⟩) (k + 1) cap]).run Tryz.prog w = .ok (.tuple #[]) w')∧(∃ cur',w'.heap[g]? = some (.cells (List.toArray cur') 5 (0,0))∧cur'.length = cur.length∧cur'.take off = cur.take off)∧Only g w w':=by
 have hzl:(Builtin.zeroCells (Value.int .u8 0).cells (k + 1)).toList.length = k + 1:=by rw [Array.length_toList,size_zeroCells];show (k + 1) * 1 = _;omega
 have hst:=run_storeCells_at (P:=Tryz.prog) g off 5 (Builtin.zeroCells (Value.int .u8 0).cells (k + 1)).toList 0 cur.toArray w hg (by rw [hzl];simpa using hfit) (fun v hv=>by
  have hv':v ∈ Builtin.zeroCells (Value.int .u8 0).cells (k + 1):=by simpa using hv
  unfold Builtin.zeroCells at hv'
  rw [Array.mem_map] at hv'
  obtain ⟨q,_,rfl⟩:=hv'
  show ((#[Value.int .u8 0]:Array Value)[q % 1]!).oneCell' = true
  rw [Nat.mod_one]
  rfl)
 rw [Nat.add_zero,hzl] at hst
 have hl:(List.take off cur.toArray.toList ++ (Builtin.zeroCells (Value.int .u8 0).cells (k + 1)).toList ++ List.drop (off + (k + 1)) cur.toArray.toList).length = cur.length:=by
  rw [List.length_append,List.length_append,hzl,List.length_take,List.length_drop]
  show min off cur.length + (k + 1) + (cur.length - (off + (k + 1))) = cur.length
  omega
 refine ⟨_,fun ty=>?_,⟨_,setRow_heap w g _ _ _ _ hg,hl,?_⟩,⟨rfl,rfl,rfl,by simp [World.setRow],fun q hq=>setRow_other w g q _ hq⟩⟩
 ·simp only [Builtin.clear_]
  simp [run_underlying Tryz.underlying22,hst]
 ·rw [List.append_assoc,List.take_append_of_le_length (by rw [List.length_take];show off≤min off cur.length;omega),List.take_take,Nat.min_self]
theorem RepIn.drew {w:World} {base g cap:Nat} {X:List UInt8} {cur:List Value} {vb vc:Nat} {T:List UInt8} (h:RepIn w base g cap X cur vb vc T):RepIn w.drew base g cap X cur vb vc T:=⟨h.hb,h.hbw,h.hg,h.hcl,h.hcm,h.hX,h.hXc,h.hv,h.hvs,h.ne,h.hT,h.big⟩
theorem RepPost.of_drew {w w':World} {base:Nat} {R:List UInt8} {e:Ending} (h:RepPost w.drew base R e w'):RepPost w base R e w':=by
 obtain ⟨g',cap',h1,h2,h3⟩:=h
 exact ⟨g',cap',h1,(Below.refl _ _).drew.trans h2,h3⟩
theorem clear_none (p:Option Addr) (c:Nat) (ty:TypeId) (W:World):(Builtin.clear_ #[22] ty #[.slice p 0 c]).run Tryz.prog W = .ok (.tuple #[]) W:=by
 simp only [Builtin.clear_]
 cases p <;> simp [run_underlying Tryz.underlying22]
theorem rep_len {X T:List UInt8} {i j m n d:Nat} (en:n = X.length) (em:m = T.length) (hd:n - j = d) (hij:i≤j) (hj:j≤n):(X.take i ++ T ++ X.drop j).length = i + m + d:=by rw [List.length_append,List.length_append,List.length_take,List.length_drop];omega
theorem bv_takes (X:List UInt8) (i:Nat):bv (X.take i) = (bv X).take i:=by unfold bv;rw [List.map_take]
theorem bv_drops (X:List UInt8) (i:Nat):bv (X.drop i) = (bv X).drop i:=by unfold bv;rw [List.map_drop]
set_option maxHeartbeats 4000000 in
set_option maxRecDepth 100000 in
theorem rep_grow (w:World) (base g cap:Nat) (X:List UInt8) (cur:List Value) (vb vc:Nat) (T:List UInt8) (h:RepIn w base g cap X cur vb vc T) (i j n m d:Nat) (en:n = X.length) (em:m = T.length) (hd:n - j = d) (hij:i < j) (hj:j < n) (hroom:cap < i + m + d) :
  Calls Tryz.prog 116 #[.slice (some ⟨g,0,none⟩) n cap,.int .i64 i,.int .i64 j,.slice (some ⟨vb,0,none⟩) m vc] w fun e w'=>RepPost w base (X.take i ++ T ++ X.drop j) e w':=by
 have hcm:cap≤9223372036854775807:=h.hcm
 have hbig:=h.big
 have hXc:=h.hXc
 have hlc:=h.hcl
 have hm0:0 < m:=by rw [em];exact h.hT
 have hnc:n≤cap:=by omega
 obtain ⟨W1,G,ROW,hz,hrow,hb1,hl,hG,hGm,ht⟩:=zerosK w.drew base g cap X cur vb vc T h.drew i (m + d) (by omega) (by omega) (by omega) (by omega) ((i:Int) + (m:Int) + (d:Int) - (i:Int)) (by omega)
 obtain ⟨w2,hc2,hrest⟩:=growK w.drew base g cap X cur vb vc T h.drew i j (m + d) m em (by omega) (by omega) (by omega) W1 G ROW hrow hb1 hl hG hGm ht W1 (Only.refl _ _) rfl
 obtain ⟨w3,hc3,hpost⟩:=hrest w2.drew (Only.drew _ _) rfl
 have hGm':G≤9223372036854775807:=hGm
 rw [← en,hd] at hc3
 obtain ⟨tt,htt⟩:∃ t,i + (m + d) = t:=⟨_,rfl⟩
 rw [htt] at hz hc2 hc3 hpost hG
 have HZ:Hid (∀ ty,(Builtin.append_ #[22,3] ty #[.slice (some ⟨g,0,none⟩) i cap,.int .i64 ((i:Int) + (m:Int) + (d:Int) - (i:Int))]).run Tryz.prog w.drew = .ok (.slice (some ⟨w.heap.size,0,none⟩) tt G) W1):=hz
 have HC2:Hid (∀ ty dc,(Builtin.copy_ #[22,22] ty #[.slice (some ⟨w.heap.size,i,none⟩) (tt - i) dc,.slice (some ⟨vb,0,none⟩) m vc]).run Tryz.prog W1 = .ok (goInt m) w2):=hc2
 have HC3:Hid (∀ ty dc sc,(Builtin.copy_ #[22,22] ty #[.slice (some ⟨w.heap.size,i + m,none⟩) (tt - (i + m)) dc,.slice (some ⟨g,j,none⟩) d sc]).run Tryz.prog w2.drew = .ok (goInt (d:Int)) w3):=hc3
 have HP:Hid (RepPost w base (X.take i ++ T ++ X.drop j) (.returned (.slice (some ⟨w.heap.size,0,none⟩) tt G)) w3):=hpost.of_drew
 have hz3:(cap:Int) < (i:Int) + (m:Int) + (d:Int):=by omega
 have hw3:IntKind.i64.wrap ((i:Int) + (m:Int) + (d:Int) - (i:Int)) = (i:Int) + (m:Int) + (d:Int) - (i:Int):=by rw [IntKind.wrap_i64];omega
 have hGi:¬ (G = i):=by omega
 have hGim:¬ (G = i + m):=by omega
 have hig:i≤tt:=by omega
 have higI:(i:Int)≤(tt:Int):=by omega
 have him:(i:Int) + (m:Int)≤(tt:Int):=by omega
 have hdi:((n:Int) - (j:Int)) = (d:Int):=by omega
 have hjn:(j:Int)≤(n:Int):=by omega
 have hjc:(j:Int)≤(cap:Int):=by omega
 have hijI:(i:Int)≤(j:Int):=by omega
 have hiN:i≤n:=by omega
 have hic:i≤cap:=by omega
 have hjN:j≤n:=by omega
 have hne1:((i:Int) == (j:Int)) = false:=by rw [beq_eq_false_iff_ne];omega
 have hne2:((j:Int) == (n:Int)) = false:=by rw [beq_eq_false_iff_ne];omega
 have hw1:IntKind.i64.wrap ((i:Int) + (m:Int)) = (i:Int) + (m:Int):=by rw [IntKind.wrap_i64];omega
 have hw2:IntKind.i64.wrap ((i:Int) + (m:Int) + (d:Int)) = (i:Int) + (m:Int) + (d:Int):=by rw [IntKind.wrap_i64];omega
 have htn:((i:Int) + (m:Int)).toNat = i + m:=by omega
 have htn2:((i:Int) + (m:Int) + (d:Int)).toNat = i + m + d:=by omega
 have hp1:(0:Int)≤(i:Int) + (m:Int):=by omega
 have hp2:(0:Int)≤(i:Int) + (m:Int) + (d:Int):=by omega
 have hci:¬ (cap = i):=by omega
 have hcj:¬ (cap = j):=by omega
 have HTT:Hid (i + (m + d) = tt):=htt
 clear hz hc2 hc3 hpost hrest hrow hb1 hl ht h en em hbig hXc hGm htt hlc
 go_enter Tryz.func116,Tryz.ntmps116
 go_upto_region 9 with fail
 go_region
 go_wp2_with (first | (refine wpList_copy_runI _ rfl _ _ 22 22 rfl _ _ rfl rfl (HC2.out _ _) ?_) | (at_builtin;refine Lib.wpList_append_run _ rfl _ _ _ _ rfl _ _ rfl rfl _ _ (HZ.out _) ?_))
 go_region_law (refine step_copy_runI rfl _ _ 22 22 rfl _ _ (by simp [Act.eval,Act.put]) (by simp [Act.eval,Act.put]) (HC3.out _ (G - (i + m)) (cap - j)) ?_)
 go_wp2_with fail
 go_ret
 exact HP.out
end Go.Proofs.YtbbfcbodhmeanaaGreatDoor



namespace Go.Proofs.YtbbfcbodhmeanaaGreatDoor
open Go.RowKit
set_option maxHeartbeats 4000000 in
set_option maxRecDepth 100000 in
theorem rep_less (w:World) (base g cap:Nat) (X:List UInt8) (cur:List Value) (vb vc:Nat) (T:List UInt8) (h:RepIn w base g cap X cur vb vc T) (i j n m d:Nat) (en:n = X.length) (em:m = T.length) (hd:n - j = d) (hij:i < j) (hj:j < n) (hm:i + m < j) :
  Calls Tryz.prog 116 #[.slice (some ⟨g,0,none⟩) n cap,.int .i64 i,.int .i64 j,.slice (some ⟨vb,0,none⟩) m vc] w fun e w'=>RepPost w base (X.take i ++ T ++ X.drop j) e w':=by
 have hcm:cap≤9223372036854775807:=h.hcm
 have hbig:=h.big
 have hXc:=h.hXc
 have hlc:=h.hcl
 have hm0:0 < m:=by rw [em];exact h.hT
 have hnc:n≤cap:=by omega
 have hTl:(bv T).length = m:=by rw [bv_length,em]
 have hDl:((bv X).drop j).length = d:=by rw [List.length_drop,bv_length];omega
 have hD1:∀ v ∈ (bv X).drop j,v.oneCell' = true:=fun v hv=>bv_one X v (List.mem_of_mem_drop hv)
 have hlen:(X.take i ++ T ++ X.drop j).length = i + m + d:=rep_len en em hd (by omega) (by omega)
 have e0:cur.take i = bv (X.take i):=by
  have h2:cur.take i = (cur.take X.length).take i:=by rw [List.take_take,Nat.min_eq_left (by omega)]
  rw [h2,h.hX,bv_takes]
 have hcell:∀ q v,((bv X).drop j)[q]? = some v→w.cell? ⟨g,j + q,none⟩ = some v:=fun q v hq=>by
  rw [List.getElem?_drop] at hq
  have:=h.cell (j + q) v hq
  rwa [Nat.zero_add] at this
 obtain ⟨w2,hc2,hg2,ho2⟩:=copyK w.drew g i (i + m + d - i) ⟨vb,0,none⟩ m cur (bv T) h.hg (by rw [hTl];simp only [Nat.min_def];split <;> omega) (fun q v hq=>by rw [Addr.add_lit];exact h.hvs q v hq) (by omega) (bv_one T)
 have hs2:(splice cur i (bv T)).length = cap:=by rw [length_splice _ _ _ (by omega)];exact hlc
 obtain ⟨w3,hc3,hg3,ho3⟩:=copyK w2.drew g (i + m) (i + m + d - (i + m)) ⟨g,j,none⟩ d (splice cur i (bv T)) ((bv X).drop j) hg2 (by rw [hDl];simp only [Nat.min_def];split <;> omega) (fun q v hq=>by
  rw [Addr.add_lit]
  have h1:=hcell q v hq
  show w2.cell? _ = _
  rw [World.cell?,h.hg] at h1
  rw [World.cell?,hg2]
  have h1':cur[j + q]? = some v:=by simpa using h1
  have h2:(splice cur i (bv T))[j + q]? = cur[j + q]?:=by
   unfold splice
   have hl1:(cur.take i).length = i:=by rw [List.length_take];omega
   rw [List.getElem?_append_right (by omega),List.getElem?_append_right (by omega),List.getElem?_drop]
   congr 1
   omega
  have h3:(splice cur i (bv T))[j + q]? = some v:=h2.trans h1'
  simpa using h3) (by omega) hD1
 have hs3:(splice (splice cur i (bv T)) (i + m) ((bv X).drop j)).length = cap:=by rw [length_splice _ _ _ (by omega)];exact hs2
 have e3:(splice (splice cur i (bv T)) (i + m) ((bv X).drop j)).take (i + m + d) = bv (X.take i ++ T ++ X.drop j):=by
  rw [take_splice _ _ _ _ (by omega) (by omega),hDl,Nat.sub_self,List.take_zero,List.append_nil,take_splice _ _ _ _ (by omega) (by omega),hTl,Nat.sub_self,List.take_zero,List.append_nil,e0,bv_append,bv_append,bv_drops]
 obtain ⟨k0,hk0⟩:∃ k,n - (i + m + d) = k + 1:=⟨n - (i + m + d) - 1,by omega⟩
 obtain ⟨w4,hcl,⟨cur4,hg4,hl4,ht4⟩,ho4⟩:=clearK w3 g (i + m + d) k0 (cap - (i + m + d)) (splice (splice cur i (bv T)) (i + m) ((bv X).drop j)) hg3 (by omega)
 have HP:Hid (RepPost w base (X.take i ++ T ++ X.drop j) (.returned (.slice (some ⟨g,0,none⟩) (i + m + d) cap)) w4):=by
  refine ⟨g,cap,by rw [hlen],((Only.drew g w).trans (ho2.trans ((Only.drew g w2).trans (ho3.trans ho4)))).below h.hb,⟨by rw [bv_length];omega,.inr ⟨g,cap,_,by rw [hlen],h.hb,hg4,by omega,h.hcm,by rw [List.size_toArray,hl4];omega,?_⟩⟩⟩
  show List.take _ cur4 = _
  rw [hlen,Nat.mul_one,ht4,e3]
 have hctd:¬ (cap = i + m + d):=by omega
 have HC2:Hid (∀ ty dc,(Builtin.copy_ #[22,22] ty #[.slice (some ⟨g,i,none⟩) (i + m + d - i) dc,.slice (some ⟨vb,0,none⟩) m vc]).run Tryz.prog w.drew = .ok (goInt (m:Int)) w2):=fun ty dc=>by have:=hc2 ty dc vc;rw [hTl] at this;exact this
 have HC3:Hid (∀ ty dc sc,(Builtin.copy_ #[22,22] ty #[.slice (some ⟨g,i + m,none⟩) (i + m + d - (i + m)) dc,.slice (some ⟨g,j,none⟩) d sc]).run Tryz.prog w2.drew = .ok (goInt (d:Int)) w3):=fun ty dc sc=>by have:=hc3 ty dc sc;rw [hDl] at this;exact this
 have hjn:(j:Int)≤(n:Int):=by omega
 have hjc:(j:Int)≤(cap:Int):=by omega
 have hijI:(i:Int)≤(j:Int):=by omega
 have hiN:i≤n:=by omega
 have hic:i≤cap:=by omega
 have hjN:j≤n:=by omega
 have hne1:((i:Int) == (j:Int)) = false:=by rw [beq_eq_false_iff_ne];omega
 have hne2:((j:Int) == (n:Int)) = false:=by rw [beq_eq_false_iff_ne];omega
 have hw1:IntKind.i64.wrap ((i:Int) + (m:Int)) = (i:Int) + (m:Int):=by rw [IntKind.wrap_i64];omega
 have hw2:IntKind.i64.wrap ((i:Int) + (m:Int) + (d:Int)) = (i:Int) + (m:Int) + (d:Int):=by rw [IntKind.wrap_i64];omega
 have htn:((i:Int) + (m:Int)).toNat = i + m:=by omega
 have htn2:((i:Int) + (m:Int) + (d:Int)).toNat = i + m + d:=by omega
 have hp1:(0:Int)≤(i:Int) + (m:Int):=by omega
 have hp2:(0:Int)≤(i:Int) + (m:Int) + (d:Int):=by omega
 have hci:¬ (cap = i):=by omega
 have hcj:¬ (cap = j):=by omega
 have hle:(i:Int) + (m:Int)≤(j:Int):=by omega
 have hroom2:¬ ((cap:Int) < (i:Int) + (m:Int) + (d:Int)):=by omega
 have htc:(i:Int) + (m:Int) + (d:Int)≤(cap:Int):=by omega
 have htN:(i:Int) + (m:Int) + (d:Int)≤(n:Int):=by omega
 have hit:(i:Int)≤(i:Int) + (m:Int) + (d:Int):=by omega
 have himt:(i:Int) + (m:Int)≤(i:Int) + (m:Int) + (d:Int):=by omega
 have hcim:¬ (cap = i + m):=by omega
 clear hc2 hc3 hg2 hg3 hg4 ho2 ho3 ho4 hs2 hs3 e3 e0 hlen hcell hD1 hTl hDl h en em hbig hXc hlc hl4 ht4
 go_enter Tryz.func116,Tryz.ntmps116
 go_upto_region 9 with fail
 go_region
 go_wp2_with (refine wpList_copy_runI _ rfl _ _ 22 22 rfl _ _ rfl rfl (HC2.out _ _) ?_)
 go_region_law (refine step_copy_runI rfl _ _ 22 22 rfl _ _ (by simp [Act.eval,Act.put]) (by simp [Act.eval,Act.put]) (HC3.out _ (cap - (i + m)) (cap - j)) ?_)
 go_wp2_with fail
 go_ret
 exact HP.out
end Go.Proofs.YtbbfcbodhmeanaaGreatDoor


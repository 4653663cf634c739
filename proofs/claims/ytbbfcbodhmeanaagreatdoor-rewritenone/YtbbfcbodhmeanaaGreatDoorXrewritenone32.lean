
import Derived.Lib.MapU
import Derived.Lib.TrimUEq
import Derived.Lib.TrimAscii
import Derived.Lib.RuneBytes
import Derived.Test.YtbbfcbodhmeanaaGreatDoorXrewritenone30
import Derived.Test.YtbbfcbodhmeanaaGreatDoorXrewritenone31
import Derived.Laws.CopyRow
import Derived.Laws.Cover3
namespace Go.Proofs.YtbbfcbodhmeanaaGreatDoor
end Go.Proofs.YtbbfcbodhmeanaaGreatDoor



namespace Go.Proofs.YtbbfcbodhmeanaaGreatDoor
end Go.Proofs.YtbbfcbodhmeanaaGreatDoor



namespace Go.Proofs.YtbbfcbodhmeanaaGreatDoor
open Go.RowKit
end Go.Proofs.YtbbfcbodhmeanaaGreatDoor



namespace Go.Proofs.YtbbfcbodhmeanaaGreatDoor
theorem grow_fst (f:Nat):∀ (ks:List PT) (acc:List (PT × Option Nat)),(∀ k ∈ ks,(tree f k).map (·.1) = flatP f k)→(grow f acc ks).map (·.1) = acc.map (·.1) ++ ks.flatMap (flatP f)
 | [],acc,_=>by simp [grow_nil]
 | k::ks,acc,h=>by
  rw [grow_cons,grow_fst f ks _ (fun x hx=>h x (by simp [hx])),List.map_append,List.map_map,List.flatMap_cons,← h k (by simp),List.append_assoc]
  rfl
theorem tree_flat:∀ (f:Nat) (p:PT),(tree f p).map (·.1) = flatP f p
 | 0,_=>rfl
 | f + 1,p=>by rw [tree_grow,grow_fst f p.kids _ (fun k _=>tree_flat f k),flatP_succ];rfl
end Go.Proofs.YtbbfcbodhmeanaaGreatDoor



namespace Go.Proofs.YtbbfcbodhmeanaaGreatDoor
theorem lev_up:∀ (f:Nat) (p:PT),lev f p = true→lev (f + 1) p = true
 | 0,p,h=>by rw [lev] at h;cases h
 | f + 1,p,h=>by
  rw [lev_succ,List.all_eq_true] at h ⊢
  exact fun k hk=>lev_up f k (h k hk)
theorem places_flat (p:PT) (h:(placesP p).1 = 0):lev 4 p = true∧(flatP 4 p).length≤12∧(placesP p).2.map (·.1) = flatP 4 p:=by
 have hs:=places_spec p
 unfold placesP at h ⊢
 by_cases hl:lev 3 p = true∧(tree 4 p).length≤12
 ·rw [if_pos hl] at hs
  rw [hs] at h ⊢
  simp only at h ⊢
  by_cases hb:firstBad ((tree 4 p).map (abs 0 (-1))) = 0
  ·rw [if_pos hb]
   refine ⟨lev_up 3 p hl.1,by rw [← tree_flat,List.length_map];exact hl.2,?_⟩
   rw [← tree_flat,List.map_map]
   rfl
  ·rw [if_neg hb] at h
   exact absurd h hb
 ·rw [if_neg hl] at hs
  rw [hs] at h
  cases h
end Go.Proofs.YtbbfcbodhmeanaaGreatDoor



namespace Go.Proofs.YtbbfcbodhmeanaaGreatDoor
open Go.RowKit
def goalsP (p:PT):Option (List GL):=goalsGo lowT ((placesP p).2.map fun x=>x.1.alone) (whereP (placesP p).2) 0 ((placesP p).2.map fun x=>x.1.alone) []
def pzero:PT:=⟨⟨#[]⟩,⟨#[]⟩,⟨#[]⟩,⟨#[]⟩,0,[],[]⟩
def namesP (p:PT) (ns:List NM):Nat × PT :=
 if (placesP p).1 ≠ 0 then ((placesP p).1,pzero)
 else if checkN ((placesP p).2.length:Int) (-1) [] ns ≠ 0 then (checkN ((placesP p).2.length:Int) (-1) [] ns,pzero)
 else match goalsP p with
  | none=>(2,pzero)
  | some gs=>if (eachT (textsS (callS ns) gs) 4 p 0).1 ≠ 0 then ((eachT (textsS (callS ns) gs) 4 p 0).1,pzero) else (0,(eachT (textsS (callS ns) gs) 4 p 0).2.1)
theorem check_in (parts:Int):∀ (l:List NM) (last:Int) (seen:List (List UInt8)),checkN parts last seen l = 0→∀ n ∈ l,0≤n.1∧n.1 < parts
 | [],_,_,_,n,hn=>by cases hn
 | x::l,last,seen,h,n,hn=>by
  rw [checkN] at h
  split at h
  ·cases h
  ·rename_i h1
   split at h
   ·cases h
   ·split at h
    ·cases h
    ·rcases List.mem_cons.1 hn with rfl | hn
     ·omega
     ·exact check_in parts l _ _ h n hn
def GIn (g:GL):Prop:=(∃ m:Nat,m < 12∧g.part = (m:Int))∧(g.find < 0 ∨ ∃ q:Nat,q < 12∧g.find = (q:Int))
theorem goalOf_in (l:List PT) (wh:List (List UInt8)) (k n:Nat) (x:LK) (hk:k < 12) (hl:l.length≤12):GIn (goalOf l wh k n x):=by
 refine ⟨⟨k,hk,rfl⟩,?_⟩
 obtain ⟨h1,h2⟩:=findW_range l wh (ledU (fromW wh k) (unamp x.2))
 show findW l wh (ledU (fromW wh k) (unamp x.2)) < 0 ∨ _
 by_cases h0:findW l wh (ledU (fromW wh k) (unamp x.2)) < 0
 ·exact .inl h0
 ·exact .inr ⟨(findW l wh (ledU (fromW wh k) (unamp x.2))).toNat,by omega,by show findW l wh (ledU (fromW wh k) (unamp x.2)) = _;omega⟩
theorem goals_in (low:List UInt8→List UInt8) (l:List PT) (wh:List (List UInt8)) (hl:l.length≤12):∀ (r:List PT) (k:Nat) (acc G:List GL),k + r.length≤12→(∀ g ∈ acc,GIn g)→goalsGo low l wh k r acc = some G→∀ g ∈ G,GIn g
 | [],_,acc,G,_,ha,h=>by
  rw [goalsGo,Option.some.injEq] at h
  rw [← h]
  exact ha
 | p::r,k,acc,G,hk,ha,h=>by
  rw [List.length_cons] at hk
  rw [goalsGo] at h
  split at h
  ·cases hf:findP low p.body with
   | none=>rw [hf] at h;cases h
   | some ls =>
    rw [hf] at h
    refine goals_in low l wh hl r (k + 1) _ G (by omega) (fun g hg=>?_) h
    rcases List.mem_append.1 hg with hg | hg
    ·exact ha g hg
    ·obtain ⟨x,_,rfl⟩:=List.mem_map.1 hg
     exact goalOf_in l wh k _ x (by omega) hl
  ·exact goals_in low l wh hl r (k + 1) acc G (by omega) ha h
theorem goalsP_in (p:PT) (G:List GL) (h:goalsP p = some G):(∀ g ∈ G,GIn g)∧G.length≤720:=by
 have h12:=placesP_few p
 have hl:((placesP p).2.map fun x=>x.1.alone).length≤12:=by rw [List.length_map];exact h12
 refine ⟨goals_in lowT _ _ hl _ 0 [] G (by omega) (fun g hg=>by cases hg) h,?_⟩
 have:∀ (l:List PT) (wh:List (List UInt8)) (r:List PT) (k:Nat) (acc L:List GL),goalsGo lowT l wh k r acc = some L→L.length≤acc.length + 60 * r.length:=by
  intro l wh r
  induction r with
  | nil=>intro k acc L h;rw [goalsGo,Option.some.injEq] at h;rw [← h];simp
  | cons p r ih =>
   intro k acc L h
   rw [goalsGo] at h
   rw [List.length_cons]
   split at h
   ·cases hf:findP lowT p.body with
    | none=>rw [hf] at h;cases h
    | some ls =>
     rw [hf] at h
     have h1:=ih _ _ _ h
     have h2:=(find_ord lowT p.body ls hf).2.1
     rw [List.length_append,List.length_map] at h1
     omega
   ·have h1:=ih _ _ _ h
    omega
 have h1:=this _ _ _ _ _ _ h
 simp only [List.length_nil] at h1
 omega
theorem txrow_own {W:World} {B c:Nat} {a:Option Addr} {ts:List ByteArray} (h:W.ownsRow B 9 1 (.slice a ts.length c) ts.length (stvB ts)):TxRow W a ts∧∀ ad,a = some ad→ad.block < W.heap.size:=by
 refine ⟨fun hne=>?_,fun ad ha=>(own_freshF h (Nat.le_refl _) ad ha).2⟩
 have h':=h
 rcases h.2 with ⟨e,h0⟩ | ⟨g,cap,cur,e,_⟩
 ·exact absurd (List.length_eq_zero_iff.1 h0) hne
 ·injection e with e1 _ _
  subst e1
  refine ⟨g,0,rfl,fun i hi=>?_⟩
  rw [Nat.zero_add,h'.cellAt i (by omega)]
  unfold stvB
  rw [List.getElem?_map,List.getElem?_eq_getElem hi,List.getD_eq_getElem?_getD,List.getElem?_eq_getElem hi]
  rfl
theorem txat_of {w W V:World} {T0:Nat} {tx:Nat→List ByteArray} {tt:Array Value} {v:Nat→Value} (hT:T0 = W.heap.size) (hV:V.heap.size = T0 + 1) (hk:V.heap[T0]? = some (.cells tt 98)) (hs:∀ k,k < W.heap.size→V.heap[k]? = W.heap[k]?) (h3:∀ i,i < 12→tt[i]? = some (v i)) (ho:∀ i,i < 12→W.ownsRow w.heap.size 9 1 (v i) (tx i).length (stvB (tx i))) (hl:∀ i,i < 12→(tx i).length≤maxLen∧∀ t ∈ tx i,t.size≤maxLen):TxAt T0 (T0 + 1) tx V:=by
 refine ⟨by omega,by omega,⟨tt,hk,fun i hi=>?_⟩,hl⟩
 obtain ⟨a,c,hv⟩:=owned_slice (ho i hi)
 have h1:=ho i hi
 rw [hv] at h1
 obtain ⟨h2,h4⟩:=txrow_own h1
 exact ⟨a,c,by rw [h3 i hi,hv],h2.move (fun ad ha=>hs _ (h4 ad ha)),fun ad ha=>by have:=h4 ad ha;omega⟩
def NFar (w w':World) (p:PT) (pb:Option Addr) (cb:Nat) (pk:Option Addr) (ck:Nat):Prop:=∀ V:World,(∀ b,w.heap.size≤b→b < w'.heap.size→V.heap[b]? = w'.heap[b]?)→PHeld V 4 p pb cb pk ck
theorem NFar.held {w w':World} {p:PT} {pb:Option Addr} {cb:Nat} {pk:Option Addr} {ck:Nat} (h:NFar w w' p pb cb pk ck):PHeld w' 4 p pb cb pk ck:=h w' (fun _ _ _=>rfl)
def NamesPost (w:World) (R:Nat × PT) (e:Ending) (w':World):Prop :=
 Below w.heap.size w w'∧(R.1 ≠ 0→e = .returned (.tuple #[.agg #[.string ⟨#[]⟩,.string ⟨#[]⟩,.string ⟨#[]⟩,.string ⟨#[]⟩,.int .i64 0,.slice none 0 0,.slice none 0 0],.int .i64 (R.1:Int)])) ∧
  (R.1 = 0→∃ (pb:Option Addr) (cb:Nat) (pk:Option Addr) (ck:Nat),e = .returned (.tuple #[.agg #[.string R.2.ty,.string R.2.cs,.string R.2.id,.string R.2.loc,.int .i64 R.2.how,.slice pb R.2.body.length cb,.slice pk R.2.kids.length ck],.int .i64 0])∧PHeld w' 4 R.2 pb cb pk ck∧NFar w w' R.2 pb cb pk ck)
end Go.Proofs.YtbbfcbodhmeanaaGreatDoor



namespace Go.Proofs.YtbbfcbodhmeanaaGreatDoor
theorem put_noR (b:List UInt8) (l:List LK) (hf:findP lowT b = some l) (ts:List (List UInt8)) (ht:ts = List.replicate l.length []):putP lowT b ts = (b,0):=by
 have h4:=(find_ord lowT b l hf).2.2
 have hall:∀ t ∈ ts,t = []:=by subst ht;intro t h;exact List.eq_of_mem_replicate h
 have hfi:=fill_nil l ts b hall
 unfold putP
 rw [hf]
 simp only
 rw [if_neg (by subst ht;simp),if_neg (by
  have:ts.all plainT = true:=List.all_eq_true.2 (fun t h=>by rw [hall t h];rfl)
  rw [this];decide),hfi,if_neg (by omega)]
theorem texts_filter (cl:Nat→ByteArray) (gs:List GL) (i:Nat):textsS cl gs i = (gs.filter (fun g=>decide ((i:Int) = g.part))).map (textG cl):=by
 refine snoc_rec (P:=fun gs=>textsS cl gs i = (gs.filter (fun g=>decide ((i:Int) = g.part))).map (textG cl)) rfl (fun l x ih=>?_) gs
 rw [textsS_snoc,List.filter_append,List.map_append]
 simp only
 by_cases h:(i:Int) = x.part
 ·rw [if_pos h,ih,List.filter_cons_of_pos (by simpa using h)]
  rfl
 ·rw [if_neg h,ih,List.filter_cons_of_neg (by simpa using h)]
  simp
def linksN (x:PT):Nat:=if x.ty.data.toList = htmlS then ((findP lowT x.body).getD []).length else 0
theorem goals_count (l:List PT) (wh:List (List UInt8)):∀ (r:List PT) (k:Nat) (acc G:List GL),goalsGo lowT l wh k r acc = some G→∀ i:Nat,(G.filter (fun g=>decide ((i:Int) = g.part))).length = (acc.filter (fun g=>decide ((i:Int) = g.part))).length + (if k≤i∧i < k + r.length then linksN (r.getD (i - k) pt0) else 0)
 | [],k,acc,G,h,i=>by
  rw [goalsGo,Option.some.injEq] at h
  rw [← h,if_neg (by simp only [List.length_nil];omega)]
  rfl
 | x::r,k,acc,G,h,i=>by
  rw [goalsGo] at h
  have hrest:∀ acc',goalsGo lowT l wh (k + 1) r acc' = some G→(acc'.filter (fun g=>decide ((i:Int) = g.part))).length = (acc.filter (fun g=>decide ((i:Int) = g.part))).length + (if i = k then linksN x else 0)→(G.filter (fun g=>decide ((i:Int) = g.part))).length = (acc.filter (fun g=>decide ((i:Int) = g.part))).length + (if k≤i∧i < k + (x::r).length then linksN ((x::r).getD (i - k) pt0) else 0):=by
   intro acc' h1 h2
   rw [goals_count l wh r (k + 1) acc' G h1 i,h2,List.length_cons]
   by_cases e:i = k
   ·subst e
    rw [if_pos rfl,if_neg (by omega),if_pos (by omega),Nat.sub_self]
    rfl
   ·rw [if_neg e]
    by_cases hr:k + 1≤i∧i < k + 1 + r.length
    ·rw [if_pos hr,if_pos (by omega),show i - k = (i - (k + 1)) + 1 from by omega]
     rfl
    ·rw [if_neg hr,if_neg (by omega)]
  split at h
  ·rename_i hx
   cases hf:findP lowT x.body with
   | none=>rw [hf] at h;cases h
   | some ls =>
    rw [hf] at h
    refine hrest _ h ?_
    rw [List.filter_append,List.length_append]
    congr 1
    have hpart:∀ y ∈ ls.map (goalOf l wh k x.body.length),y.part = (k:Int):=fun y hy=>by
     obtain ⟨z,_,rfl⟩:=List.mem_map.1 hy
     rfl
    by_cases e:i = k
    ·subst e
     rw [if_pos rfl,List.filter_eq_self.2 (fun y hy=>by simpa using (hpart y hy).symm),List.length_map]
     unfold linksN
     rw [if_pos hx,hf]
     rfl
    ·rw [if_neg e,List.filter_eq_nil_iff.2 (fun y hy=>by rw [hpart y hy];simp;omega)]
     rfl
  ·rename_i hx
   refine hrest acc h ?_
   by_cases e:i = k
   ·rw [if_pos e]
    unfold linksN
    rw [if_neg hx]
    rfl
   ·rw [if_neg e]
    rfl
theorem goals_found (l:List PT) (wh:List (List UInt8)):∀ (r:List PT) (k:Nat) (acc G:List GL),goalsGo lowT l wh k r acc = some G→∀ x ∈ r,x.ty.data.toList = htmlS→∃ ls,findP lowT x.body = some ls
 | [],_,_,_,_,x,hx,_=>by cases hx
 | y::r,k,acc,G,h,x,hx,hty=>by
  rw [goalsGo] at h
  split at h
  ·cases hf:findP lowT y.body with
   | none=>rw [hf] at h;cases h
   | some ls =>
    rw [hf] at h
    rcases List.mem_cons.1 hx with rfl | hx
    ·exact ⟨ls,hf⟩
    ·exact goals_found l wh r _ _ G h x hx hty
  ·rename_i hy
   rcases List.mem_cons.1 hx with rfl | hx
   ·exact absurd hty hy
   ·exact goals_found l wh r _ _ G h x hx hty
theorem eachL_none (tx:Nat→List ByteArray) (f:Nat) (ih:∀ p k,lev f p = true→(∀ j,j < (flatP f p).length→fillB (tx (k + j)) ((flatP f p).getD j pt0).body = (((flatP f p).getD j pt0).body,0))→eachT tx f p k = (0,p,k + (flatP f p).length)):∀ (l:List PT) (k:Nat),(∀ x ∈ l,lev f x = true)→(∀ j,j < (l.flatMap (flatP f)).length→fillB (tx (k + j)) ((l.flatMap (flatP f)).getD j pt0).body = (((l.flatMap (flatP f)).getD j pt0).body,0))→eachL (eachT tx f) l k = (0,l,k + (l.flatMap (flatP f)).length)
 | [],k,_,_=>rfl
 | x::l,k,hl,h=>by
  rw [List.flatMap_cons] at h
  have hx:eachT tx f x k = (0,x,k + (flatP f x).length):=ih x k (hl x (by simp)) (fun j hj=>by
   have:=h j (by rw [List.length_append];omega)
   rw [List.getD_eq_getElem?_getD,List.getElem?_append_left hj,← List.getD_eq_getElem?_getD] at this
   exact this)
  have hr:=eachL_none tx f ih l (k + (flatP f x).length) (fun y hy=>hl y (List.mem_cons_of_mem _ hy)) (fun j hj=>by
   have:=h ((flatP f x).length + j) (by rw [List.length_append];omega)
   rw [List.getD_eq_getElem?_getD,List.getElem?_append_right (by omega),Nat.add_sub_cancel_left,← List.getD_eq_getElem?_getD,← Nat.add_assoc] at this
   exact this)
  rw [eachL_ok _ x l k (by rw [hx]),hx]
  simp only
  rw [hr,List.flatMap_cons,List.length_append,Nat.add_assoc]
theorem eachT_none (tx:Nat→List ByteArray):∀ (f:Nat) (p:PT) (k:Nat),lev f p = true→(∀ j,j < (flatP f p).length→fillB (tx (k + j)) ((flatP f p).getD j pt0).body = (((flatP f p).getD j pt0).body,0))→eachT tx f p k = (0,p,k + (flatP f p).length)
 | 0,p,k,hl,_=>by rw [lev] at hl;cases hl
 | f + 1,p,k,hl,h=>by
  rw [lev_succ,List.all_eq_true] at hl
  rw [flatP_succ] at h
  have h0:fillB (tx k) p.body = (p.body,0):=h 0 (by simp)
  have hr:=eachL_none tx f (eachT_none tx f) p.kids (k + 1) hl (fun j hj=>by
   have:=h (j + 1) (by rw [List.length_cons];omega)
   rw [show k + (j + 1) = k + 1 + j from by omega] at this
   exact this)
  rw [eachT,h0,if_neg (by simp),hr,flatP_succ,List.length_cons]
  cases p with
  | mk ty cs id loc how body kids =>
   simp only
   rw [show k + 1 + (kids.flatMap (flatP f)).length = k + ((kids.flatMap (flatP f)).length + 1) from by omega]
theorem each_none (p:PT) (hok:(placesP p).1 = 0) (gs:List GL) (hg:goalsP p = some gs) (cl:Nat→ByteArray) (hcl:∀ g ∈ gs,textG cl g = ⟨#[]⟩):eachT (textsS cl gs) 4 p 0 = (0,p,(flatP 4 p).length):=by
 obtain ⟨hlev,h12,hfl⟩:=places_flat p hok
 have hL:((placesP p).2.map fun x=>x.1.alone) = (flatP 4 p).map PT.alone:=by rw [← hfl,List.map_map];rfl
 have hgo:goalsGo lowT ((placesP p).2.map fun x=>x.1.alone) (whereP (placesP p).2) 0 ((flatP 4 p).map PT.alone) [] = some gs:=by rw [← hL];exact hg
 have h:=eachT_none (textsS cl gs) 4 p 0 hlev (fun j hj=>by
  rw [Nat.zero_add]
  have hcnt:=goals_count _ _ _ _ _ _ hgo j
  rw [if_pos (by rw [List.length_map];omega),Nat.sub_zero] at hcnt
  have ha:((flatP 4 p).map PT.alone).getD j pt0 = ((flatP 4 p).getD j pt0).alone:=by
   rw [List.getD_eq_getElem?_getD,List.getElem?_map,List.getD_eq_getElem?_getD,List.getElem?_eq_getElem hj]
   rfl
  rw [ha] at hcnt
  have htx:textsS cl gs j = List.replicate (linksN ((flatP 4 p).getD j pt0).alone) ⟨#[]⟩:=by
   rw [texts_filter,List.eq_replicate_iff]
   refine ⟨by rw [List.length_map,hcnt];simp,fun t ht=>?_⟩
   obtain ⟨g,hg',rfl⟩:=List.mem_map.1 ht
   exact hcl g (List.mem_filter.1 hg').1
  rw [htx]
  generalize hx:(flatP 4 p).getD j pt0 = x at *
  unfold fillB
  split
  ·rfl
  ·rename_i hne
   have hty:x.ty.data.toList = htmlS:=by
    by_cases h:x.ty.data.toList = htmlS
    ·exact h
    ·exact absurd (by unfold linksN;rw [if_neg (show ¬ x.alone.ty.data.toList = htmlS from h)];rfl) hne
   obtain ⟨ls,hls⟩:=goals_found _ _ _ _ _ _ hgo x.alone (by rw [← hx];exact List.mem_map.2 ⟨_,by rw [List.getD_eq_getElem?_getD,List.getElem?_eq_getElem hj];exact List.getElem_mem hj,rfl⟩) hty
   have hls':findP lowT x.body = some ls:=hls
   refine put_noR x.body ls hls' _ ?_
   unfold linksN
   rw [if_pos (show x.alone.ty.data.toList = htmlS from hty),hls]
   show tls (List.replicate ls.length ⟨#[]⟩) = _
   unfold tls
   rw [List.map_replicate])
 rw [h,Nat.zero_add]
end Go.Proofs.YtbbfcbodhmeanaaGreatDoor



namespace Go.Proofs.YtbbfcbodhmeanaaGreatDoor
open Go.RowKit
def leadsTo (gs:List GL) (m:Int):Bool:=gs.any fun g=>decide (g.find = m)
theorem ntest_any (a0 a1 a2:Int) (s t:ByteArray) (fd m:Int) (b:Nat) (w:World) (hc:w.cell? ⟨b,0,none⟩ = some (.int .i64 m)) :
  Calls Tryz.prog 32 #[.agg #[.int .i64 a0,.int .i64 a1,.int .i64 a2,.string s,.string t,.int .i64 fd],.pointer (some ⟨b,0,none⟩)] w fun e w'=>e = .returned (.bool (decide (fd = m)))∧Below w.heap.size w w':=by
 have hbl:=World.block_lt_of_cell? w _ hc
 obtain ⟨W,hW⟩:∃ W,W = w.alloc (.cells #[.int .i64 a0,.int .i64 a1,.int .i64 a2,.string s,.string t,.int .i64 fd] 42):=⟨_,rfl⟩
 have hb:Below w.heap.size w W:=by rw [hW];exact (Below.refl _ _).alloc (Nat.le_refl _) _
 have k:W.heap[w.heap.size]? = some (.cells #[.int .i64 a0,.int .i64 a1,.int .i64 a2,.string s,.string t,.int .i64 fd] 42):=by rw [hW];exact blk_new _ _
 have z5:W.cell? ⟨w.heap.size,5,none⟩ = some (.int .i64 fd):=(blk_c k 5).trans rfl
 have z0:W.cell? ⟨b,0,none⟩ = some (.int .i64 m):=(hb.cell (p:=⟨b,0,none⟩) hbl).trans hc
 have HW:Hid (W = w.alloc (.cells #[.int .i64 a0,.int .i64 a1,.int .i64 a2,.string s,.string t,.int .i64 fd] 42)):=hW
 have HB:Hid (Below w.heap.size w W):=hb
 clear hW hb k hc
 by_cases h:fd = m
 ·have HD:Hid (decide (fd = m) = true):=by unfold Hid;simp [h]
  have h':(fd == m) = true:=by simp [h]
  rw [HD.out]
  clear HD
  subst h
  go_enter Tryz.func32,Tryz.ntmps32
  go_upto_region 1 with fail
  rw [← HW.out]
  go_wp2_with fail
  go_ret
  exact ⟨rfl,HB.out⟩
 ·have HD:Hid (decide (fd = m) = false):=by unfold Hid;simp [h]
  have h':(fd == m) = false:=by simp [h]
  rw [HD.out]
  clear HD
  go_enter Tryz.func32,Tryz.ntmps32
  go_upto_region 1 with fail
  rw [← HW.out]
  go_wp2_with fail
  go_ret
  exact ⟨rfl,HB.out⟩
abbrev ntF (b:Nat):Value:=.func (Fn.func 32) #[] #[.pointer (some ⟨b,0,none⟩)]
theorem leads_drop (gs:List GL) (m:Int) (k:Nat) (h:k < gs.length):leadsTo (gs.drop k) m = (decide ((gs.getD k gl0).find = m) || leadsTo (gs.drop (k + 1)) m):=by
 unfold leadsTo
 rw [List.drop_eq_getElem_cons h,List.any_cons,List.getD_eq_getElem?_getD,List.getElem?_eq_getElem h]
 rfl
set_option maxHeartbeats 4000000 in
set_option maxRecDepth 100000 in
theorem nindex_any (ga:Option Addr) (n c:Nat) (gs:List GL) (hn:n≤1000) (m:Int) (b:Nat) (w:World) (hg:G6 w ga n gs) (hc:w.cell? ⟨b,0,none⟩ = some (.int .i64 m)) :
  Calls Tryz.prog 72 #[.slice ga n c,ntF b] w fun e w'=>(∃ r:Int,e = .returned (.int .i64 r)∧decide (0≤r) = leadsTo gs m)∧Below w.heap.size w w':=by
 have HG:Hid (∀ W,Below w.heap.size w W→G6 W ga n gs):=fun W h=>hg.below h
 have HC:Hid (∀ W,Below w.heap.size w W→W.cell? ⟨b,0,none⟩ = some (.int .i64 m)):=fun W h=>(h.cell (p:=⟨b,0,none⟩) (World.block_lt_of_cell? w _ hc)).trans hc
 have HL:Hid (gs.length = n):=hg.1
 clear hg hc
 go_enter Tryz.func72,Tryz.ntmps72
 go_wp2_with fail
 go_loopw [8] (fun iv wr=>∃ k:Nat,k≤n∧iv = .int .i64 k∧Hid (Below w.heap.size w wr)∧Hid (leadsTo gs m = leadsTo (gs.drop k) m)) (fun iv _=>n - (intOf iv).toNat)
 case atStart=>exact ⟨0,Nat.zero_le _,rfl,Below.refl _ _,rfl⟩
 case round =>
  obtain ⟨k,hk,rfl,HB,HD⟩:=hrel
  by_cases hlt:k < n
  ·have hlz:(k:Int) < (n:Int):=by omega
   have hkl:k < gs.length:=by rw [HL.out];exact hlt
   obtain ⟨gb,go,hga,hcell⟩:=(HG.out wr HB.out).2 (by omega)
   subst hga
   obtain ⟨e0,e1,e2,e3,e4,e5⟩:=hcell k hlt
   have HS:Hid (leadsTo gs m = (decide ((gs.getD k gl0).find = m) || leadsTo (gs.drop (k + 1)) m)):=HD.out.trans (leads_drop gs m k hkl)
   generalize gs.getD k gl0 = x at *
   obtain ⟨x0,x1,x2,x3,x4,x5⟩:=x
   simp only at e0 e1 e2 e3 e4 e5 HS
   have CT:Hid (Calls Tryz.prog 32 #[.agg #[.int .i64 x0,.int .i64 x1,.int .i64 x2,.string (tx8 x3),.string (tx8 x4),.int .i64 x5],.pointer (some ⟨b,0,none⟩)] wr fun e w'=>e = .returned (.bool (decide (x5 = m)))∧Below wr.heap.size wr w'):=ntest_any x0 x1 x2 (tx8 x3) (tx8 x4) x5 m b wr (HC.out wr HB.out)
   generalize tx8 x3 = s3 at *
   generalize tx8 x4 = s4 at *
   clear hcell hkl HD
   cases hd:decide (x5 = m) with
   | true =>
    rw [hd] at CT HS
    have HF:Hid (leadsTo gs m = true):=by unfold Hid;rw [HS.out];rfl
    clear HS hd
    go_wp2_with fail
    refine CT.out.mono ?_
    rintro e w2 ⟨rfl,hb2⟩
    have HB2:Hid (Below w.heap.size w w2):=HB.out.trans (hb2.mono HB.out.size)
    clear hb2 CT
    go_wp2_with fail
    go_ret
    exact ⟨⟨(k:Int),rfl,by rw [HF.out];simp⟩,HB2.out⟩
   | false =>
    rw [hd,Bool.false_or] at HS
    rw [hd] at CT
    clear hd
    go_wp2_with fail
    refine CT.out.mono ?_
    rintro e w2 ⟨rfl,hb2⟩
    have HB2:Hid (Below w.heap.size w w2):=HB.out.trans (hb2.mono HB.out.size)
    clear hb2 CT
    go_wp2_with fail
    go_roundw
    case rel=>exact ⟨k + 1,by omega,by go_num,HB2,HS⟩
    case measure=>simp [intOf];omega
  ·have hlz:¬ (k:Int) < (n:Int):=by omega
   have HF:Hid (leadsTo gs m = false):=by
    unfold Hid
    rw [HD.out,List.drop_of_length_le (by rw [HL.out];omega)]
    rfl
   clear HD
   go_wp2_with fail
   go_ret
   exact ⟨⟨-1,rfl,by rw [HF.out];rfl⟩,HB.out⟩
theorem ncont_any (ga:Option Addr) (n c:Nat) (gs:List GL) (hn:n≤1000) (m:Int) (b:Nat) (w:World) (hg:G6 w ga n gs) (hc:w.cell? ⟨b,0,none⟩ = some (.int .i64 m)) :
  Calls Tryz.prog 31 #[.slice ga n c,ntF b] w fun e w'=>e = .returned (.bool (leadsTo gs m))∧Below w.heap.size w w':=by
 have C:Hid (Calls Tryz.prog 72 #[.slice ga n c,ntF b] w fun e w'=>(∃ r:Int,e = .returned (.int .i64 r)∧decide (0≤r) = leadsTo gs m)∧Below w.heap.size w w'):=nindex_any ga n c gs hn m b w hg hc
 clear hg hc
 generalize leadsTo gs m = L at *
 go_enter Tryz.func31,Tryz.ntmps31
 go_wp2_with fail
 refine C.out.mono ?_
 rintro e w2 ⟨⟨r,rfl,hr⟩,hb2⟩
 go_wp2_with fail
 go_ret
 first | exact ⟨rfl,hb2⟩ | exact ⟨ret_bool hr,hb2⟩
theorem nask_any (ga:Option Addr) (n c:Nat) (gs:List GL) (hn:n≤1000) (m:Int) (s:ByteArray) (gg:Nat) (w:World) (hg:G6 w ga n gs) (hc:w.cell? ⟨gg,0,none⟩ = some (.slice ga n c)) :
  Calls Tryz.prog 30 #[.agg #[.int .i64 m,.string s],.pointer (some ⟨gg,0,none⟩)] w fun e w'=>e = .returned (.bool (leadsTo gs m))∧Below w.heap.size w w':=by
 have hgl:=World.block_lt_of_cell? w _ hc
 obtain ⟨W,hW⟩:∃ W,W = w.alloc (.cells #[.int .i64 m,.string s] 56):=⟨_,rfl⟩
 have hb:Below w.heap.size w W:=by rw [hW];exact (Below.refl _ _).alloc (Nat.le_refl _) _
 have k:W.heap[w.heap.size]? = some (.cells #[.int .i64 m,.string s] 56):=by rw [hW];exact blk_new _ _
 have z0:W.cell? ⟨gg,0,none⟩ = some (.slice ga n c):=(hb.cell (p:=⟨gg,0,none⟩) hgl).trans hc
 have C:Hid (Calls Tryz.prog 31 #[.slice ga n c,ntF w.heap.size] W fun e w'=>e = .returned (.bool (leadsTo gs m))∧Below W.heap.size W w'):=ncont_any ga n c gs hn m w.heap.size W (hg.below hb) ((blk_c k 0).trans rfl)
 have HW:Hid (W = w.alloc (.cells #[.int .i64 m,.string s] 56)):=hW
 clear hW k hc hg
 generalize leadsTo gs m = L at *
 go_enter Tryz.func30,Tryz.ntmps30
 go_upto_region 1 with fail
 rw [← HW.out]
 go_wp2_with fail
 refine C.out.mono ?_
 rintro e w2 ⟨rfl,hb2⟩
 have HB:Hid (Below w.heap.size w w2):=hb.trans (hb2.mono hb.size)
 clear hb hb2
 go_wp2_with fail
 go_ret
 exact ⟨rfl,HB.out⟩
end Go.Proofs.YtbbfcbodhmeanaaGreatDoor



namespace Go.Proofs.YtbbfcbodhmeanaaGreatDoor
open Go.RowKit
def nv (l:List NM):List Value:=l.flatMap fun f=>[Value.int .i64 f.1,Value.string f.2]
theorem nv_length (l:List NM):(nv l).length = l.length * 2:=by
 induction l with
 | nil=>rfl
 | cons a l ih=>simp only [nv,List.flatMap_cons,List.length_append,List.length_cons,List.length_nil];simp only [nv] at ih;omega
theorem nv_get (l:List NM):∀ i,i < l.length→(nv l)[i * 2]? = some (.int .i64 (l.getD i nm0).1)∧(nv l)[i * 2 + 1]? = some (.string (l.getD i nm0).2):=by
 induction l with
 | nil=>intro i hi;simp at hi
 | cons a l ih =>
  intro i hi
  match i with
  | 0=>simp [nv]
  | i + 1 =>
   have:=ih i (by simpa using hi)
   rw [show nv (a::l) = Value.int .i64 a.1::Value.string a.2::nv l from rfl,show (i + 1) * 2 = i * 2 + 2 from by omega,show i * 2 + 2 + 1 = i * 2 + 1 + 2 from by omega]
   simpa using this
theorem owned_names {w:World} {B:Nat} {v:Value} {l:List NM} (h:w.ownsRow B 56 2 v l.length (nv l)) :
  ∃ p c,v = .slice p l.length c∧l.length≤c∧c≤maxLen∧(p = none→l.length = 0∧c = 0)∧(∀ g,v.ownBlock = some g→p = some ⟨g,0,none⟩∧B≤g∧g < w.heap.size)∧(l ≠ []→∃ g,p = some ⟨g,0,none⟩∧v.ownBlock = some g)∧NRow w p l:=by
 rcases h.2 with ⟨rfl,h0⟩ | ⟨g,cap,cur,rfl,hg,hh,hnc,hcp,hcs,htake⟩
 ·exact ⟨none,0,by rw [h0],by omega,by decide,fun _=>⟨h0,rfl⟩,fun g hg=>by simp [Value.ownBlock] at hg,fun hne=>absurd (List.length_eq_zero_iff.1 h0) hne,fun hne=>absurd (List.length_eq_zero_iff.1 h0) hne⟩
 ·refine ⟨some ⟨g,0,none⟩,cap,rfl,hnc,hcp,fun e=>(by cases e),fun g' hg'=>?_,fun _=>⟨g,rfl,rfl⟩,fun _=>⟨g,0,rfl,fun i hi=>?_⟩⟩
  ·have hl:=h.lt g' hg'
   simp [Value.ownBlock] at hg'
   subst hg'
   exact ⟨rfl,hl.1,hl.2⟩
  ·have hf:=nv_get l i hi
   rw [Nat.zero_add,h.cellAt (i * 2) (by omega),h.cellAt (i * 2 + 1) (by omega)]
   exact hf
theorem nv_at (l:List NM) (k:Nat) (h:k < l.length):l.drop k = l.getD k nm0::l.drop (k + 1):=by
 rw [List.drop_eq_getElem_cons h]
 simp [List.getD_eq_getElem?_getD,List.getElem?_eq_getElem h]
theorem nv_mem (l:List NM) (k:Nat) (h:k < l.length):l.getD k nm0 ∈ l:=by
 simp [List.getD_eq_getElem?_getD,List.getElem?_eq_getElem h]
theorem nmade_two {w w1:World} {t:TypeId} {x y:Value} (hb:Below (w.alloc (.cells #[x,y] t)).heap.size (w.alloc (.cells #[x,y] t)) w1) :
  w1.cell? ⟨w.heap.size,0,none⟩ = some x∧w1.cell? ⟨w.heap.size,1,none⟩ = some y∧w1.frozen? ⟨w.heap.size,0,none⟩ = false∧w1.frozen? ⟨w.heap.size,1,none⟩ = false∧w.heap.size < w1.heap.size∧Below w.heap.size w w1:=by
 have hs:=hb.size
 rw [World.size_alloc] at hs
 refine ⟨?_,?_,?_,?_,by omega,((Below.refl _ _).alloc (Nat.le_refl _) _).trans (hb.mono (by simp))⟩
 ·rw [hb.cell (p:=⟨w.heap.size,0,none⟩) (by simp)];simp
 ·rw [hb.cell (p:=⟨w.heap.size,1,none⟩) (by simp)];simp
 ·rw [hb.frozen (p:=⟨w.heap.size,0,none⟩) (by simp)];simp
 ·rw [hb.frozen (p:=⟨w.heap.size,1,none⟩) (by simp)];simp
theorem info_name:(Tryz.prog.info? 56).map (fun i=>(i.zero,i.size,i.bytes)) = some (some (.agg #[.int .i64 0,.string ⟨#[]⟩]),2,24):=by kernel_rfl
def AskAt (w:World) (g:Nat) (gs:List GL):Prop:=∃ ga n c,n≤1000∧G6 w ga n gs∧w.cell? ⟨g,0,none⟩ = some (.slice ga n c)
theorem AskAt.below {w w':World} {g:Nat} {gs:List GL} (h:AskAt w g gs) (hb:Below w.heap.size w w'):AskAt w' g gs:=by
 obtain ⟨ga,n,c,hn,hg,hc⟩:=h
 exact ⟨ga,n,c,hn,hg.below hb,(hb.cell (p:=⟨g,0,none⟩) (World.block_lt_of_cell? w _ hc)).trans hc⟩
theorem del_ask (g:Nat) (gs:List GL) (A:Int) (V:ByteArray) (w:World) (h:AskAt w g gs) :
  Calls Tryz.prog 30 #[.agg #[.int .i64 A,.string V],.pointer (some ⟨g,0,none⟩)] w fun e w'=>e = .returned (.bool (leadsTo gs A))∧Below w.heap.size w w':=by
 obtain ⟨ga,n,c,hn,hg,hc⟩:=h
 exact nask_any ga n c gs hn A V g w hg hc
set_option maxHeartbeats 1000000 in
theorem nfind_some (g:Nat) (gs:List GL) (idx:Int) (b o n c:Nat) (l:List NM) (en:n = l.length) (w:World) (h0:1≤n) (hn:n≤10000000000000) (hg:∀ W,Below w.heap.size w W→AskAt W g gs)
  (hi1:∀ j,j < n→((j:Int) < idx ∨ idx = -1)→leadsTo gs (l.getD j nm0).1 = false) (hi2:∀ j,j < n→(j:Int) = idx→leadsTo gs (l.getD j nm0).1 = true) (hi3:idx < (n:Int)) (hi4:-1≤idx)
  (hc:∀ i,i < n→w.cell? ⟨b,o + i * 2,none⟩ = some (.int .i64 (l.getD i nm0).1)∧w.cell? ⟨b,o + i * 2 + 1,none⟩ = some (.string (l.getD i nm0).2)) :
  Calls Tryz.prog 36 #[.slice (some ⟨b,o,none⟩) n c,.func (Fn.func 30) #[] #[.pointer (some ⟨g,0,none⟩)]] w fun e w'=>e = .returned (.int .i64 idx)∧Below w.heap.size w w':=by
 have hbB:b < w.heap.size:=World.block_lt_of_cell? w _ (hc 0 (by omega)).1
 have HL:Hid (n = l.length):=en
 have HI1:Hid (∀ j,j < n→((j:Int) < idx ∨ idx = -1)→leadsTo gs (l.getD j nm0).1 = false):=hi1
 have HI2:Hid (∀ j,j < n→(j:Int) = idx→leadsTo gs (l.getD j nm0).1 = true):=hi2
 have HG:Hid (∀ W,Below w.heap.size w W→AskAt W g gs):=hg
 clear en hi1 hi2 hg
 go_enter Tryz.func36,Tryz.ntmps36
 go_wp2
 go_loopw [8] (fun iv wr=>∃ k:Nat,k≤n∧iv = .int .i64 k∧Below w.heap.size w wr∧Hid (idx = -1 ∨ (k:Int)≤idx)) (fun iv _=>n - (intOf iv).toNat)
 case atStart=>exact ⟨0,Nat.zero_le _,rfl,Below.refl _ _,by unfold Hid;omega⟩
 case round =>
  obtain ⟨k,hk,rfl,hbel,HK⟩:=hrel
  have hsz:=hbel.size
  by_cases hlt:k < n
  ·have hc1:wr.cell? ⟨b,o + k * 2,none⟩ = some (.int .i64 (l.getD k nm0).1):=(hbel.cell (p:=⟨b,o + k * 2,none⟩) hbB).trans (hc k hlt).1
   have hc2:wr.cell? ⟨b,o + k * 2 + 1,none⟩ = some (.string (l.getD k nm0).2):=(hbel.cell (p:=⟨b,o + k * 2 + 1,none⟩) hbB).trans (hc k hlt).2
   have CD:=del_ask g gs (l.getD k nm0).1 (l.getD k nm0).2 wr (HG.out wr hbel)
   by_cases hki:(k:Int) = idx
   ·have HN:Hid ((k:Int) = idx):=hki
    rw [HI2.out k hlt hki] at CD
    clear hc hki
    generalize l.getD k nm0 = f at *
    obtain ⟨A,B⟩:=f
    simp only at hc1 hc2 CD
    have CD':Hid (Calls Tryz.prog 30 #[.agg #[.int .i64 A,.string B],.pointer (some ⟨g,0,none⟩)] wr fun e w'=>e = .returned (.bool true)∧Below wr.heap.size wr w'):=CD
    clear CD
    go_wp2_with fail
    refine CD'.out.mono ?_
    rintro e w1 ⟨rfl,hb1⟩
    clear CD'
    go_wp2
    go_ret
    exact ⟨by rw [← HN.out];rfl,hbel.trans (hb1.mono hsz)⟩
   ·have HN:Hid (idx = -1 ∨ ((k + 1:Nat):Int)≤idx):=by have:=HK.out;unfold Hid;omega
    rw [HI1.out k hlt (by have:=HK.out;omega)] at CD
    clear hc hki
    generalize l.getD k nm0 = f at *
    obtain ⟨A,B⟩:=f
    simp only at hc1 hc2 CD
    have CD':Hid (Calls Tryz.prog 30 #[.agg #[.int .i64 A,.string B],.pointer (some ⟨g,0,none⟩)] wr fun e w'=>e = .returned (.bool false)∧Below wr.heap.size wr w'):=CD
    clear CD
    go_wp2_with fail
    refine CD'.out.mono ?_
    rintro e w1 ⟨rfl,hb1⟩
    clear CD'
    go_wp2
    go_roundw
    case rel=>exact ⟨k + 1,by omega,by go_num,hbel.trans (hb1.mono hsz),HN⟩
    case measure=>simp [intOf];omega
  ·obtain rfl:k = n:=by omega
   have HN:Hid (idx = -1):=by have:=HK.out;unfold Hid;omega
   clear hc
   go_wp2
   go_ret
   exact ⟨by rw [HN.out];rfl,hbel⟩
theorem nfind_nil (g:Nat) (p:Option Addr) (c:Nat) (w:World) :
  Calls Tryz.prog 36 #[.slice p 0 c,.func (Fn.func 30) #[] #[.pointer (some ⟨g,0,none⟩)]] w fun e w'=>e = .returned (.int .i64 (-1))∧w' = w:=by
 go_enter Tryz.func36,Tryz.ntmps36
 go_wp2
 refine wp_loop_rounds 1 ?_
 rw [rounds_succ]
 go_wp2
 go_ret
 exact ⟨rfl,rfl⟩
def nkept (gs:List GL) (l:List NM):List NM:=l.filter fun f=>!leadsTo gs f.1
theorem nclear_tail {w:World} {B g n cap i:Nat} {xs:List Value} (h:w.ownsRow B 56 2 (.slice (some ⟨g,0,none⟩) n cap) n xs) (hi:i < n) :
  ∃ w',(∀ ty,(Builtin.clear_ #[48] ty #[.slice (some ⟨g,i * 2,none⟩) (n - i) (cap - i)]).run Tryz.prog w = .ok (.tuple #[]) w')∧w'.ownsRow B 56 2 (.slice (some ⟨g,0,none⟩) i cap) i (xs.take (i * 2))∧Below B w w':=by
 rcases h.2 with ⟨h',_⟩ | ⟨g',cap',cur,h',hb,hg,hnc,hcm,hcs,htake⟩
 ·simp at h'
 ·simp only [Value.slice.injEq,Option.some.injEq,Addr.mk.injEq,and_true,true_and] at h'
  obtain ⟨rfl,rfl⟩:=h'
  obtain ⟨m,hm⟩:∃ m,n - i = m + 1:=⟨n - i - 1,by omega⟩
  have hzl:(Builtin.zeroCells (Value.agg #[.int .i64 0,.string ⟨#[]⟩]).cells (n - i)).toList.length = (n - i) * 2:=by
   rw [Array.length_toList,size_zeroCells];rfl
  have hst:=run_storeCells_at (P:=Tryz.prog) g (i * 2) 56 (Builtin.zeroCells (Value.agg #[.int .i64 0,.string ⟨#[]⟩]).cells (n - i)).toList 0 cur w hg (by rw [hzl,hcs];omega) (fun v hv=>by
   have hv':v ∈ Builtin.zeroCells (Value.agg #[.int .i64 0,.string ⟨#[]⟩]).cells (n - i):=by simpa using hv
   unfold Builtin.zeroCells at hv'
   rw [Array.mem_map] at hv'
   obtain ⟨q,_,rfl⟩:=hv'
   show ((#[Value.int .i64 0,Value.string ⟨#[]⟩]:Array Value)[q % 2]!).oneCell' = true
   rcases Nat.mod_two_eq_zero_or_one q with e | e <;> rw [e] <;> rfl)
  rw [Nat.add_zero,hzl,show i * 2 + (n - i) * 2 = n * 2 from by omega] at hst
  refine ⟨w.setRow g (cur.toList.take (i * 2) ++ (Builtin.zeroCells (Value.agg #[.int .i64 0,.string ⟨#[]⟩]).cells (n - i)).toList ++ cur.toList.drop (n * 2)).toArray,?_,⟨?_,.inr ⟨g,cap,_,rfl,hb,setRow_heap w g cur _ _ _ hg,by omega,hcm,?_,?_⟩⟩,⟨rfl,rfl,rfl,by simp [World.setRow],fun k hk=>setRow_other w g k _ (by omega)⟩⟩
  ·rw [hm] at hst ⊢
   intro ty
   simp only [Builtin.clear_]
   simp [run_underlying Tryz.underlying48,hst]
  ·rw [List.length_take,h.1];omega
  ·rw [List.size_toArray,List.length_append,List.length_append,hzl,List.length_take,List.length_drop,Array.length_toList,hcs];omega
  ·rw [← htake,List.take_take,Nat.min_eq_left (by omega)]
   show List.take (i * 2) (cur.toList.take (i * 2) ++ _ ++ _) = _
   rw [List.append_assoc,List.take_append_of_le_length (by rw [List.length_take,Array.length_toList,hcs];omega),List.take_take,Nat.min_self]
end Go.Proofs.YtbbfcbodhmeanaaGreatDoor


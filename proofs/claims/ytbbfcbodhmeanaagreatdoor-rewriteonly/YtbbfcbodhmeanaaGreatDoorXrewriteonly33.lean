
import Derived.Test.YtbbfcbodhmeanaaGreatDoorXrewriteonly32
namespace Go.Proofs.YtbbfcbodhmeanaaGreatDoor
theorem put_found (low:List UInt8→List UInt8) (b c:List UInt8) (l:List LK) (ts:List (List UInt8)) (hf:findP low b = some l) (hp:putP low b ts = (c,0)) :
  ts.length = l.length∧c.length≤4000∧∃ m,findP low c = some m∧m.length = l.length∧∀ i,i < l.length→unamp (m.getD i (0,[])).2 = if ts.getD i [] = [] then unamp (l.getD i (0,[])).2 else ts.getD i []:=by
 unfold putP at hp
 rw [hf] at hp
 simp only at hp
 split at hp
 ·injection hp with _ h;cases h
 ·rename_i h1
  split at hp
  ·injection hp with _ h;cases h
  ·rename_i h2
   split at hp
   ·injection hp with _ h;cases h
   ·rename_i h3
    have hl:ts.length = l.length:=Decidable.not_not.1 h1
    have hall:ts.all plainT = true:=by simpa using h2
    injection hp with hc _
    obtain ⟨ss,e1,e2,e3,e4⟩:=puts_plain low b l ts hf hl hall (by omega)
    rw [hc] at e3 e4 h3
    obtain ⟨m,hm⟩:∃ m,m = leftsS (repl ss ts) 0:=⟨_,rfl⟩
    rw [← hm] at e4
    have hml:m.length = l.length:=by rw [hm,e2];exact repl_lefts ss ts 0 0
    refine ⟨hl,by omega,m,e4,hml,?_⟩
    have h0:PutsAt b c l m ts 0 0 0 ss:=⟨Nat.zero_le _,Nat.zero_le _,e1,e3,e2,hm⟩
    have hat:∀ i,i≤l.length→∃ x y ss,PutsAt b c l m ts i x y ss:=by
     intro i
     induction i with
     | zero=>exact fun _=>⟨0,0,ss,h0⟩
     | succ i ih =>
      intro hi
      obtain ⟨x,y,s2,h⟩:=ih (by omega)
      obtain ⟨s3,_,h'⟩:=puts_step h hall (by omega) (by omega) (by omega)
      exact ⟨_,_,s3,h'⟩
    intro i hi
    obtain ⟨x,y,s2,h⟩:=hat i (by omega)
    obtain ⟨_,hs,_⟩:=puts_step h hall hi (by omega) (by omega)
    exact hs.text
theorem put_none_id (b:List UInt8) (hf:findP lowT b = some []):putP lowT b [] = (b,0):=by
 have:=(find_ord lowT b [] hf).2.2
 unfold putP
 rw [hf]
 have e:fillP [] [] b = b:=rfl
 simp only
 rw [if_neg (by simp),if_neg (by simp),e,if_neg (by omega)]
def linkG (l:List PT) (wh:List (List UInt8)) (i:Nat) (x:PT):List GL:=if x.ty.data.toList = htmlS then ((findP lowT x.body).getD []).map (goalOf l wh i x.body.length) else []
theorem goals_filter (l:List PT) (wh:List (List UInt8)):∀ (r:List PT) (k:Nat) (acc G:List GL),goalsGo lowT l wh k r acc = some G→∀ i:Nat,G.filter (fun g=>decide ((i:Int) = g.part)) = acc.filter (fun g=>decide ((i:Int) = g.part)) ++ (if k≤i∧i < k + r.length then linkG l wh i (r.getD (i - k) pt0) else [])
 | [],k,acc,G,h,i=>by
  rw [goalsGo,Option.some.injEq] at h
  rw [← h,if_neg (by simp only [List.length_nil];omega),List.append_nil]
 | x::r,k,acc,G,h,i=>by
  rw [goalsGo] at h
  have hrest:∀ acc',goalsGo lowT l wh (k + 1) r acc' = some G→acc'.filter (fun g=>decide ((i:Int) = g.part)) = acc.filter (fun g=>decide ((i:Int) = g.part)) ++ (if i = k then linkG l wh i x else [])→G.filter (fun g=>decide ((i:Int) = g.part)) = acc.filter (fun g=>decide ((i:Int) = g.part)) ++ (if k≤i∧i < k + (x::r).length then linkG l wh i ((x::r).getD (i - k) pt0) else []):=by
   intro acc' h1 h2
   rw [goals_filter l wh r (k + 1) acc' G h1 i,h2,List.length_cons]
   by_cases e:i = k
   ·subst e
    rw [if_pos rfl,if_neg (by omega),if_pos (by omega),Nat.sub_self,List.append_nil]
    rfl
   ·rw [if_neg e,List.append_nil]
    by_cases hr:k + 1≤i∧i < k + 1 + r.length
    ·rw [if_pos hr,if_pos (by omega),show i - k = (i - (k + 1)) + 1 from by omega]
     rfl
    ·rw [if_neg hr,if_neg (by omega)]
  split at h
  ·rename_i hx
   cases hf:findP lowT x.body with
   | none=>rw [hf] at h;cases h
   | some ls =>
    rw [hf] at h
    refine hrest _ h ?_
    rw [List.filter_append]
    congr 1
    have hpart:∀ y ∈ ls.map (goalOf l wh k x.body.length),y.part = (k:Int):=fun y hy=>by
     obtain ⟨z,_,rfl⟩:=List.mem_map.1 hy
     rfl
    by_cases e:i = k
    ·subst e
     rw [if_pos rfl,List.filter_eq_self.2 (fun y hy=>by simpa using (hpart y hy).symm)]
     unfold linkG
     rw [if_pos hx,hf]
     rfl
    ·rw [if_neg e,List.filter_eq_nil_iff.2 (fun y hy=>by rw [hpart y hy];simp;omega)]
  ·rename_i hx
   refine hrest acc h ?_
   by_cases e:i = k
   ·rw [if_pos e]
    unfold linkG
    rw [if_neg hx,List.append_nil]
   ·rw [if_neg e,List.append_nil]
def Bt (ts:List ByteArray) (x y:PT):Prop:=y.ty = x.ty∧y.cs = x.cs∧y.id = x.id∧y.loc = x.loc∧y.how = x.how∧y.kids.length = x.kids.length∧fillB ts x.body = (y.body,0)
def BtL (tx:Nat→List ByteArray):Nat→List PT→List PT→Prop
 | _,[],[]=>True
 | k,x::l,y::m=>Bt (tx k) x y∧BtL tx (k + 1) l m
 | _,_,_=>False
theorem BtL.len {tx:Nat→List ByteArray}:∀ {l m:List PT} {k:Nat},BtL tx k l m→m.length = l.length
 | [],[],_,_=>rfl
 | [],_::_,_,h=>h.elim
 | _::_,[],_,h=>h.elim
 | x::l,y::m,k,h=>by rw [List.length_cons,List.length_cons,BtL.len h.2]
theorem BtL.app {tx:Nat→List ByteArray}:∀ {l m:List PT} {k:Nat} {l' m':List PT},BtL tx k l m→BtL tx (k + l.length) l' m'→BtL tx k (l ++ l') (m ++ m')
 | [],[],_,_,_,_,h=>h
 | [],_::_,_,_,_,h,_=>h.elim
 | _::_,[],_,_,_,h,_=>h.elim
 | x::l,y::m,k,l',m',h,h'=>⟨h.1,BtL.app h.2 (by rw [show k + 1 + l.length = k + (x::l).length from by rw [List.length_cons];omega];exact h')⟩
theorem BtL.at {tx:Nat→List ByteArray}:∀ {l m:List PT} {k:Nat},BtL tx k l m→∀ j,j < l.length→Bt (tx (k + j)) (l.getD j pt0) (m.getD j pt0)
 | [],[],_,_,j,hj=>by cases hj
 | [],_::_,_,h,_,_=>h.elim
 | _::_,[],_,h,_,_=>h.elim
 | x::l,y::m,k,h,0,_=>h.1
 | x::l,y::m,k,h,j + 1,hj=>by
  have:=BtL.at h.2 j (by simpa using hj)
  rw [show k + 1 + j = k + (j + 1) from by omega] at this
  exact this
theorem eachL_bt (tx:Nat→List ByteArray) (f:Nat) (ih:∀ p k,lev f p = true→(eachT tx f p k).1 = 0→BtL tx k (flatP f p) (flatP f (eachT tx f p k).2.1)):∀ (l:List PT) (k:Nat),(∀ x ∈ l,lev f x = true)→(eachL (eachT tx f) l k).1 = 0→BtL tx k (l.flatMap (flatP f)) ((eachL (eachT tx f) l k).2.1.flatMap (flatP f))
 | [],k,_,_=>trivial
 | x::l,k,hl,h=>by
  by_cases hx:(eachT tx f x k).1 = 0
  ·rw [eachL_ok _ x l k hx] at h ⊢
   simp only at h ⊢
   rw [List.flatMap_cons,List.flatMap_cons]
   refine (ih x k (hl x (by simp)) hx).app ?_
   rw [← eachT_count tx f x k (hl x (by simp)) hx]
   exact eachL_bt tx f ih l _ (fun y hy=>hl y (List.mem_cons_of_mem _ hy)) h
  ·rw [eachL_bad _ x l k hx] at h
   exact absurd h hx
theorem eachT_bt (tx:Nat→List ByteArray):∀ (f:Nat) (p:PT) (k:Nat),lev f p = true→(eachT tx f p k).1 = 0→BtL tx k (flatP f p) (flatP f (eachT tx f p k).2.1)
 | 0,p,k,hl,_=>by rw [lev] at hl;cases hl
 | f + 1,p,k,hl,h=>by
  rw [lev_succ,List.all_eq_true] at hl
  rw [eachT] at h ⊢
  split at h
  ·rename_i hf
   exact absurd h hf
  ·rename_i hf
   rw [if_neg hf]
   simp only at h ⊢
   rw [flatP_succ,flatP_succ]
   refine ⟨⟨rfl,rfl,rfl,rfl,rfl,eachL_len _ _ _ h,?_⟩,?_⟩
   ·exact Prod.ext rfl (Decidable.not_not.1 hf)
   ·exact eachL_bt tx f (eachT_bt tx f) _ _ hl h
theorem eachL_lev (tx:Nat→List ByteArray) (f g:Nat) (ih:∀ p k,lev g p = true→(eachT tx f p k).1 = 0→lev g (eachT tx f p k).2.1 = true):∀ (l:List PT) (k:Nat),(∀ x ∈ l,lev g x = true)→(eachL (eachT tx f) l k).1 = 0→∀ y ∈ (eachL (eachT tx f) l k).2.1,lev g y = true
 | [],k,_,_,y,hy=>by cases hy
 | x::l,k,hl,h,y,hy=>by
  by_cases hx:(eachT tx f x k).1 = 0
  ·rw [eachL_ok _ x l k hx] at h hy
   simp only at h hy
   rcases List.mem_cons.1 hy with rfl | hy
   ·exact ih x k (hl x (by simp)) hx
   ·exact eachL_lev tx f g ih l _ (fun y hy=>hl y (List.mem_cons_of_mem _ hy)) h y hy
  ·rw [eachL_bad _ x l k hx] at h
   exact absurd h hx
theorem eachT_lev (tx:Nat→List ByteArray):∀ (f g:Nat) (p:PT) (k:Nat),lev g p = true→(eachT tx f p k).1 = 0→lev g (eachT tx f p k).2.1 = true
 | 0,g,p,k,hl,_=>by rw [eachT];exact hl
 | f + 1,0,p,k,hl,_=>by rw [lev] at hl;cases hl
 | f + 1,g + 1,p,k,hl,h=>by
  rw [lev_succ,List.all_eq_true] at hl
  rw [eachT] at h ⊢
  split at h
  ·rename_i hf
   exact absurd h hf
  ·rename_i hf
   rw [if_neg hf]
   simp only at h ⊢
   rw [lev_succ,List.all_eq_true]
   exact eachL_lev tx f g (eachT_lev tx f g) _ _ hl h
theorem firstBad_zero:∀ (L:List (PT × Int)),(∀ x ∈ L,chkA x.1 = 0)→firstBad L = 0
 | [],_=>rfl
 | x::l,h=>by rw [firstBad,if_pos (h x (by simp))];exact firstBad_zero l (fun y hy=>h y (List.mem_cons_of_mem _ hy))
theorem places_right (p:PT) (h:(placesP p).1 = 0):lev 3 p = true∧∀ x ∈ flatP 4 p,chkA x = 0:=by
 have hs:=places_spec p
 unfold placesP at h
 by_cases hl:lev 3 p = true∧(tree 4 p).length≤12
 ·rw [if_pos hl] at hs
  rw [hs] at h
  simp only at h
  by_cases hb:firstBad ((tree 4 p).map (abs 0 (-1))) = 0
  ·refine ⟨hl.1,fun x hx=>?_⟩
   rw [← tree_flat] at hx
   obtain ⟨y,hy,rfl⟩:=List.mem_map.1 hx
   have:∀ (L:List (PT × Int)),firstBad L = 0→∀ x ∈ L,chkA x.1 = 0:=by
    intro L
    induction L with
    | nil=>intro _ x hx;cases hx
    | cons z L ih =>
     intro hz x hx
     rw [firstBad] at hz
     split at hz
     ·rename_i h0
      rcases List.mem_cons.1 hx with rfl | hx
      ·exact h0
      ·exact ih hz x hx
     ·rename_i h0
      exact absurd hz h0
   exact this _ hb _ (List.mem_map.2 ⟨y,hy,rfl⟩)
  ·rw [if_neg hb] at h
   exact absurd h hb
 ·rw [if_neg hl] at hs
  rw [hs] at h
  cases h
theorem right_places (p:PT) (h1:lev 3 p = true) (h2:(flatP 4 p).length≤12) (h3:∀ x ∈ flatP 4 p,chkA x = 0):(placesP p).1 = 0:=by
 have hs:=places_spec p
 rw [if_pos ⟨h1,by rw [← tree_flat,List.length_map] at h2;exact h2⟩] at hs
 unfold placesP
 rw [hs]
 simp only
 rw [if_pos (firstBad_zero _ (fun x hx=>by
  obtain ⟨y,hy,rfl⟩:=List.mem_map.1 hx
  refine h3 _ ?_
  rw [← tree_flat]
  exact List.mem_map.2 ⟨y,hy,rfl⟩))]
theorem fillB_len {ts:List ByteArray} {b c:List UInt8} (hb:b.length≤4000) (h:fillB ts b = (c,0)):c.length≤4000:=by
 unfold fillB at h
 split at h
 ·injection h with h _;rw [← h];exact hb
 ·cases hf:findP lowT b with
  | none=>unfold putP at h;rw [hf] at h;injection h with _ h;cases h
  | some l=>exact (put_found lowT b c l _ hf h).2.1
theorem many_html:manyS htmlS = false:=by decide
theorem bt_chk {ts:List ByteArray} {x y:PT} (h:Bt ts x y) (hts:x.ty.data.toList ≠ htmlS→ts = []) (hx:chkA x = 0):chkA y = 0:=by
 obtain ⟨h1,h2,h3,h4,h5,h6,h7⟩:=h
 unfold chkA at hx
 split at hx
 ·cases hx
 ·rename_i c1
  split at hx
  ·cases hx
  ·rename_i c2
   split at hx
   ·cases hx
   ·rename_i c3
    split at hx
    ·cases hx
    ·rename_i c4
     have e1:textsOk y = textsOk x:=by unfold textsOk;rw [h1,h2,h3,h4]
     have hk:y.kids.isEmpty = x.kids.isEmpty:=by
      rw [Bool.eq_iff_iff,List.isEmpty_iff,List.isEmpty_iff,← List.length_eq_zero_iff,← List.length_eq_zero_iff,h6]
     have e2:formedP y = true:=by
      have c5:formedP x = true:=by simpa using c4
      unfold formedP at c5 ⊢
      rw [h1,hk,h5,h2]
      split at c5
      ·rename_i hm
       rw [if_pos hm]
       have hne:x.ty.data.toList ≠ htmlS:=fun e=>by rw [e,many_html] at hm;cases hm
       have e:=h7
       rw [hts hne] at e
       have:y.body = x.body:=by
        unfold fillB at e
        rw [if_pos rfl] at e
        injection e with e _
        exact e.symm
       rw [this]
       exact c5
      ·rename_i hm
       rw [if_neg hm]
       exact c5
     unfold chkA
     have:=fillB_len (by omega) h7
     rw [e1,h5,if_neg c1,if_neg c2,if_neg (by omega),if_neg (by rw [e2];simp)]
def firstN (v:Int):Nat→List NM→Int
 | _,[]=>-1
 | k,n::l=>if n.1 = v then (k:Int) else firstN v (k + 1) l
theorem firstN_not (v:Int):∀ (l:List NM) (k:Nat),(∀ n ∈ l,n.1 ≠ v)→firstN v k l = -1
 | [],_,_=>rfl
 | n::l,k,h=>by rw [firstN,if_neg (h n (by simp))];exact firstN_not v l (k + 1) (fun x hx=>h x (List.mem_cons_of_mem _ hx))
theorem firstN_some (v:Int):∀ (l:List NM) (k:Nat),(∃ n ∈ l,n.1 = v)→∃ j,j < l.length∧firstN v k l = ((k + j:Nat):Int)∧(l.getD j nm0).1 = v
 | [],_,⟨n,hn,_⟩=>by cases hn
 | x::l,k,⟨n,hn,e⟩=>by
  rw [firstN]
  by_cases hx:x.1 = v
  ·rw [if_pos hx]
   exact ⟨0,by simp,rfl,hx⟩
  ·rw [if_neg hx]
   obtain ⟨j,hj,h1,h2⟩:=firstN_some v l (k + 1) (by
    rcases List.mem_cons.1 hn with rfl | hn
    ·exact absurd e hx
    ·exact ⟨n,hn,e⟩)
   refine ⟨j + 1,by rw [List.length_cons];omega,?_,h2⟩
   rw [h1,show k + 1 + j = k + (j + 1) from by omega]
def textN (ns:List NM) (v:Int):ByteArray:=if firstN v 0 ns < 0 then ⟨#[]⟩ else (ns.getD (firstN v 0 ns).toNat nm0).2
def wantN (ns:List NM) (v:Int) (t:List UInt8):List UInt8:=if firstN v 0 ns < 0 then t else (ns.getD (firstN v 0 ns).toNat nm0).2.data.toList
theorem check_order (parts:Int):∀ (l:List NM) (last:Int) (seen:List (List UInt8)),checkN parts last seen l = 0→l.Pairwise (fun a b=>a.1 < b.1)∧∀ n ∈ l,last < n.1∧0≤n.1∧mayN n.2.data.toList = true
 | [],_,_,_=>⟨.nil,fun n hn=>by cases hn⟩
 | x::l,last,seen,h=>by
  rw [checkN] at h
  split at h
  ·cases h
  ·rename_i h1
   split at h
   ·cases h
   ·rename_i h2
    split at h
    ·cases h
    ·rename_i h3
     obtain ⟨i1,i2⟩:=check_order parts l _ _ h
     refine ⟨.cons (fun n hn=>(i2 n hn).1) i1,fun n hn=>?_⟩
     have hlt:last < x.1:=by
      by_cases hh:x.1≤last
      ·exact absurd (.inr hh) h3
      ·omega
     rcases List.mem_cons.1 hn with rfl | hn
     ·exact ⟨hlt,by omega,by simpa using h2⟩
     ·exact ⟨by have:=(i2 n hn).1;omega,(i2 n hn).2⟩
theorem callS_in (i:Nat) (l:List NM):l.Pairwise (fun a b=>a.1 < b.1)→∀ n ∈ l,n.1 = (i:Int)→callS l i = n.2:=by
 refine snoc_rec (P:=fun l=>l.Pairwise (fun a b=>a.1 < b.1)→∀ n ∈ l,n.1 = (i:Int)→callS l i = n.2) (fun _ n hn=>by cases hn) (fun l x ih hp n hn e=>?_) l
 rw [List.pairwise_append] at hp
 rw [callS_snoc]
 simp only
 by_cases hx:(i:Int) = x.1
 ·rw [if_pos hx]
  rcases List.mem_append.1 hn with hn | hn
  ·have:=hp.2.2 n hn x (by simp)
   omega
  ·simp at hn
   rw [hn]
 ·rw [if_neg hx]
  rcases List.mem_append.1 hn with hn | hn
  ·exact ih hp.1 n hn e
  ·simp at hn
   rw [hn] at e
   exact absurd e.symm hx
theorem callS_no (i:Nat) (l:List NM):(∀ n ∈ l,n.1 ≠ (i:Int))→callS l i = ⟨#[]⟩:=by
 refine snoc_rec (P:=fun l=>(∀ n ∈ l,n.1 ≠ (i:Int))→callS l i = ⟨#[]⟩) (fun _=>rfl) (fun l x ih h=>?_) l
 rw [callS_snoc]
 simp only
 rw [if_neg (fun e=>h x (by simp) e.symm)]
 exact ih (fun n hn=>h n (List.mem_append_left _ hn))
theorem text_first (parts:Int) (ns:List NM) (hc:checkN parts (-1) [] ns = 0) (g:GL):textG (callS ns) g = textN ns g.find:=by
 obtain ⟨h1,h2⟩:=check_order parts ns (-1) [] hc
 unfold textG textN
 by_cases hn:∃ n ∈ ns,n.1 = g.find
 ·obtain ⟨j,hj,e1,e2⟩:=firstN_some g.find ns 0 hn
  have hm:ns.getD j nm0 ∈ ns:=by rw [List.getD_eq_getElem?_getD,List.getElem?_eq_getElem hj];exact List.getElem_mem hj
  have h0:=(h2 _ hm).2.1
  rw [e2] at h0
  rw [if_pos h0,e1,if_neg (by omega)]
  rw [callS_in g.find.toNat ns h1 _ hm (by rw [e2,Int.toNat_of_nonneg h0])]
  simp
 ·have hno:∀ n ∈ ns,n.1 ≠ g.find:=fun n hn' e=>hn ⟨n,hn',e⟩
  rw [firstN_not g.find ns 0 hno,if_pos (show (-1:Int) < 0 by decide)]
  split
  ·rename_i h0
   exact callS_no _ ns (fun n hn'=>by rw [Int.toNat_of_nonneg h0];exact hno n hn')
  ·rfl
theorem want_first (parts:Int) (ns:List NM) (hc:checkN parts (-1) [] ns = 0) (v:Int) (t:List UInt8):(if (textN ns v).data.toList = [] then t else (textN ns v).data.toList) = wantN ns v t:=by
 obtain ⟨h1,h2⟩:=check_order parts ns (-1) [] hc
 unfold textN wantN
 by_cases hn:∃ n ∈ ns,n.1 = v
 ·obtain ⟨j,hj,e1,e2⟩:=firstN_some v ns 0 hn
  have hm:ns.getD j nm0 ∈ ns:=by rw [List.getD_eq_getElem?_getD,List.getElem?_eq_getElem hj];exact List.getElem_mem hj
  have h0:=(h2 _ hm).2.2
  have hp:¬ (((0 + j:Nat):Int) < 0):=by omega
  rw [e1,if_neg hp,if_neg hp]
  simp only [Nat.zero_add,Int.toNat_natCast]
  rw [if_neg (fun e=>by rw [e] at h0;cases h0)]
 ·have hno:∀ n ∈ ns,n.1 ≠ v:=fun n hn' e=>hn ⟨n,hn',e⟩
  rw [firstN_not v ns 0 hno]
  rfl
structure OnlyOk (ns:List NM) (gi:List GL) (x y:PT):Prop where
 same:y.ty = x.ty∧y.cs = x.cs∧y.id = x.id∧y.loc = x.loc∧y.how = x.how
 other:x.ty.data.toList ≠ htmlS→y.body = x.body
 found:x.ty.data.toList = htmlS→∃ m,findP lowT y.body = some m∧gi.length = m.length∧putP lowT x.body (tls (gi.map fun g=>textN ns g.find)) = (y.body,0)∧∀ k,k < m.length→unamp (m.getD k (0,[])).2 = wantN ns (gi.getD k gl0).find (gi.getD k gl0).text
theorem goals_has (l:List PT) (wh:List (List UInt8)):∀ (r:List PT) (k:Nat) (acc G:List GL),goalsGo lowT l wh k r acc = some G→∀ x ∈ r,x.ty.data.toList = htmlS→∃ ls,findP lowT x.body = some ls
 | [],_,_,_,_,x,hx,_=>by cases hx
 | y::r,k,acc,G,h,x,hx,hty=>by
  rw [goalsGo] at h
  split at h
  ·cases hf:findP lowT y.body with
   | none=>rw [hf] at h;cases h
   | some ls =>
    rw [hf] at h
    rcases List.mem_cons.1 hx with rfl | hx
    ·exact ⟨ls,hf⟩
    ·exact goals_has l wh r _ _ G h x hx hty
  ·rename_i hy
   rcases List.mem_cons.1 hx with rfl | hx
   ·exact absurd hty hy
   ·exact goals_has l wh r _ _ G h x hx hty
theorem getD_map0 {α β:Type} (f:α→β) (l:List α) (i:Nat) (a:α) (b:β) (h:i < l.length):(l.map f).getD i b = f (l.getD i a):=by
 rw [List.getD_eq_getElem?_getD,List.getElem?_map,List.getD_eq_getElem?_getD,List.getElem?_eq_getElem h]
 rfl
theorem only_plain (p:PT) (ns:List NM) (hz:(namesP p ns).1 = 0):(placesP p).1 = 0∧(placesP (namesP p ns).2).1 = 0∧(placesP (namesP p ns).2).2.length = (placesP p).2.length∧∃ gs,goalsP p = some gs ∧
  ∀ i,i < (placesP p).2.length→OnlyOk ns (gs.filter fun g=>decide ((i:Int) = g.part)) (((placesP p).2.map fun x=>x.1.alone).getD i pt0) (((placesP (namesP p ns).2).2.map fun x=>x.1.alone).getD i pt0):=by
 unfold namesP at hz ⊢
 by_cases hok:(placesP p).1 = 0
 ·rw [if_neg (by rw [hok];simp)] at hz ⊢
  by_cases hc:checkN ((placesP p).2.length:Int) (-1) [] ns = 0
  ·rw [if_neg (by rw [hc];simp)] at hz ⊢
   cases hg:goalsP p with
   | none=>rw [hg] at hz;cases hz
   | some gs =>
    rw [hg] at hz
    simp only at hz ⊢
    by_cases he:(eachT (textsS (callS ns) gs) 4 p 0).1 = 0
    ·rw [if_neg (by rw [he];simp)]
     simp only
     obtain ⟨hlev,h12,hfl⟩:=places_flat p hok
     obtain ⟨hl3,hall⟩:=places_right p hok
     have hbt:=eachT_bt (textsS (callS ns) gs) 4 p 0 hlev he
     have hL:((placesP p).2.map fun x=>x.1.alone) = (flatP 4 p).map PT.alone:=by rw [← hfl,List.map_map];rfl
     have hgo:goalsGo lowT ((placesP p).2.map fun x=>x.1.alone) (whereP (placesP p).2) 0 ((flatP 4 p).map PT.alone) [] = some gs:=by rw [← hL];exact hg
     have hfil:∀ i,i < (flatP 4 p).length→gs.filter (fun g=>decide ((i:Int) = g.part)) = linkG ((placesP p).2.map fun x=>x.1.alone) (whereP (placesP p).2) i ((flatP 4 p).getD i pt0).alone:=by
      intro i hi
      have:=goals_filter _ _ _ _ _ _ hgo i
      rw [if_pos (by rw [List.length_map];omega),Nat.sub_zero,getD_map0 PT.alone (flatP 4 p) i pt0 pt0 hi] at this
      exact this
     have htx:∀ i,i < (flatP 4 p).length→((flatP 4 p).getD i pt0).ty.data.toList ≠ htmlS→textsS (callS ns) gs i = []:=by
      intro i hi hne
      rw [texts_filter,hfil i hi]
      unfold linkG
      rw [if_neg (show ¬ ((flatP 4 p).getD i pt0).alone.ty.data.toList = htmlS from hne)]
      rfl
     have hlen:=hbt.len
     have hq3:=eachT_lev (textsS (callS ns) gs) 4 3 p 0 hl3 he
     have hqok:(placesP (eachT (textsS (callS ns) gs) 4 p 0).2.1).1 = 0:=by
      refine right_places _ hq3 (by omega) (fun y hy=>?_)
      obtain ⟨i,hi,e⟩:=List.mem_iff_getElem.1 hy
      have hb:=hbt.at i (by omega)
      rw [Nat.zero_add] at hb
      have ey:(flatP 4 (eachT (textsS (callS ns) gs) 4 p 0).2.1).getD i pt0 = y:=by rw [List.getD_eq_getElem?_getD,List.getElem?_eq_getElem hi,e];rfl
      rw [ey] at hb
      refine bt_chk hb (htx i (by omega)) (hall _ ?_)
      rw [List.getD_eq_getElem?_getD,List.getElem?_eq_getElem (by omega)]
      exact List.getElem_mem _
     obtain ⟨_,_,hqf⟩:=places_flat _ hqok
     refine ⟨hok,hqok,?_,gs,rfl,?_⟩
     ·have e1:(placesP (eachT (textsS (callS ns) gs) 4 p 0).2.1).2.length = (flatP 4 (eachT (textsS (callS ns) gs) 4 p 0).2.1).length:=by rw [← hqf,List.length_map]
      have e2:(placesP p).2.length = (flatP 4 p).length:=by rw [← hfl,List.length_map]
      rw [e1,e2,hlen]
     ·have hn:(placesP p).2.length = (flatP 4 p).length:=by rw [← hfl,List.length_map]
      have hQ:((placesP (eachT (textsS (callS ns) gs) 4 p 0).2.1).2.map fun x=>x.1.alone) = (flatP 4 (eachT (textsS (callS ns) gs) 4 p 0).2.1).map PT.alone:=by rw [← hqf,List.map_map];rfl
      intro i hi
      rw [hn] at hi
      have hb:=hbt.at i hi
      rw [Nat.zero_add] at hb
      have hfi:=hfil i hi
      have ht0:=htx i hi
      have hmem:((flatP 4 p).getD i pt0).alone ∈ (flatP 4 p).map PT.alone:=by
       refine List.mem_map.2 ⟨_,?_,rfl⟩
       rw [List.getD_eq_getElem?_getD,List.getElem?_eq_getElem hi]
       exact List.getElem_mem _
      have hhas:=goals_has _ _ _ _ _ _ hgo _ hmem
      rw [hQ,hL,getD_map0 PT.alone (flatP 4 p) i pt0 pt0 hi,getD_map0 PT.alone _ i pt0 pt0 (by rw [hlen];exact hi)]
      rw [texts_filter] at hb ht0
      generalize (flatP 4 p).getD i pt0 = x at *
      generalize (flatP 4 (eachT (textsS (callS ns) gs) 4 p 0).2.1).getD i pt0 = y at *
      generalize gs.filter (fun g=>decide ((i:Int) = g.part)) = gi at *
      obtain ⟨h1,h2,h3,h4,h5,_,h7⟩:=hb
      have hmap:gi.map (textG (callS ns)) = gi.map fun g=>textN ns g.find:=List.map_congr_left fun g _=>text_first _ ns hc g
      refine ⟨⟨h1,h2,h3,h4,h5⟩,fun hne=>?_,fun hty=>?_⟩
      ·rw [ht0 hne] at h7
       unfold fillB at h7
       rw [if_pos rfl] at h7
       injection h7 with h7 _
       exact h7.symm
      ·obtain ⟨ls,hls⟩:=hhas hty
       have hls':findP lowT x.body = some ls:=hls
       have hgi:gi = ls.map (goalOf ((placesP p).2.map fun x=>x.1.alone) (whereP (placesP p).2) i x.body.length):=by
        rw [hfi]
        unfold linkG
        rw [if_pos hty]
        show ((findP lowT x.body).getD []).map _ = _
        rw [hls']
        rfl
       have hput:putP lowT x.body (tls (gi.map fun g=>textN ns g.find)) = (y.body,0):=by
        rw [← hmap]
        unfold fillB at h7
        by_cases hnil:gi.map (textG (callS ns)) = []
        ·rw [if_pos hnil] at h7
         injection h7 with h7 _
         have:ls = []:=by
          have e:gi = []:=List.map_eq_nil_iff.1 hnil
          rw [hgi] at e
          exact List.map_eq_nil_iff.1 e
         rw [this] at hls'
         rw [hnil,← h7]
         exact put_none_id x.body hls'
        ·rw [if_neg hnil] at h7
         exact h7
       obtain ⟨k1,k2,m,k3,k4,k5⟩:=put_found lowT x.body y.body ls _ hls' hput
       have hgl:gi.length = ls.length:=by rw [hgi,List.length_map]
       refine ⟨m,k3,by omega,hput,fun k hk=>?_⟩
       have hk':k < gi.length:=by omega
       rw [k5 k (by omega),← want_first _ ns hc]
       have et:(tls (gi.map fun g=>textN ns g.find)).getD k [] = (textN ns (gi.getD k gl0).find).data.toList:=by
        unfold tls
        rw [getD_map0 (fun t:ByteArray=>t.data.toList) _ k ⟨#[]⟩ [] (by rw [List.length_map];exact hk'),getD_map0 (fun g:GL=>textN ns g.find) gi k gl0 ⟨#[]⟩ hk']
       have el:(gi.getD k gl0).text = unamp (ls.getD k (0,[])).2:=by
        rw [hgi,getD_map0 _ ls k (0,[]) gl0 (by omega)]
        rfl
       rw [et,el]
    ·rw [if_pos he] at hz
     exact absurd hz he
  ·rw [if_pos hc] at hz
   exact absurd hz hc
 ·rw [if_pos hok] at hz
  exact absurd hz hok
end Go.Proofs.YtbbfcbodhmeanaaGreatDoor



namespace Go.Proofs.YtbbfcbodhmeanaaGreatDoor
open Go.RowKit
theorem otest_any (m:Int) (s:ByteArray) (fd:Int) (b:Nat) (w:World) (hc:w.cell? ⟨b,5,none⟩ = some (.int .i64 fd)) :
  Calls Tryz.prog 37 #[.agg #[.int .i64 m,.string s],.pointer (some ⟨b,0,none⟩)] w fun e w'=>e = .returned (.bool (decide (m = fd)))∧Below w.heap.size w w':=by
 have hbl:=World.block_lt_of_cell? w _ hc
 obtain ⟨W,hW⟩:∃ W,W = w.alloc (.cells #[.int .i64 m,.string s] 56):=⟨_,rfl⟩
 have hb:Below w.heap.size w W:=by rw [hW];exact (Below.refl _ _).alloc (Nat.le_refl _) _
 have k:W.heap[w.heap.size]? = some (.cells #[.int .i64 m,.string s] 56):=by rw [hW];exact blk_new _ _
 have z0:W.cell? ⟨w.heap.size,0,none⟩ = some (.int .i64 m):=(blk_c k 0).trans rfl
 have z5:W.cell? ⟨b,5,none⟩ = some (.int .i64 fd):=(hb.cell (p:=⟨b,5,none⟩) hbl).trans hc
 have HW:Hid (W = w.alloc (.cells #[.int .i64 m,.string s] 56)):=hW
 have HB:Hid (Below w.heap.size w W):=hb
 clear hW hb k hc
 by_cases h:m = fd
 ·have HD:Hid (decide (m = fd) = true):=by unfold Hid;simp [h]
  have h':(m == fd) = true:=by simp [h]
  rw [HD.out]
  clear HD
  subst h
  go_enter Tryz.func37,Tryz.ntmps37
  go_upto_region 1 with fail
  rw [← HW.out]
  go_wp2_with fail
  go_ret
  exact ⟨rfl,HB.out⟩
 ·have HD:Hid (decide (m = fd) = false):=by unfold Hid;simp [h]
  have h':(m == fd) = false:=by simp [h]
  rw [HD.out]
  clear HD
  go_enter Tryz.func37,Tryz.ntmps37
  go_upto_region 1 with fail
  rw [← HW.out]
  go_wp2_with fail
  go_ret
  exact ⟨rfl,HB.out⟩
abbrev otF (b:Nat):Value:=.func (Fn.func 37) #[] #[.pointer (some ⟨b,0,none⟩)]
theorem first_drop (v:Int) (ns:List NM) (k:Nat) (h:k < ns.length):firstN v k (ns.drop k) = if (ns.getD k nm0).1 = v then (k:Int) else firstN v (k + 1) (ns.drop (k + 1)):=by
 rw [List.drop_eq_getElem_cons h,firstN,List.getD_eq_getElem?_getD,List.getElem?_eq_getElem h]
 rfl
set_option maxHeartbeats 4000000 in
set_option maxRecDepth 100000 in
theorem oindex_any (na:Option Addr) (n c:Nat) (ns:List NM) (en:n = ns.length) (hn:n≤maxLen) (fd:Int) (b:Nat) (w:World) (hr:NRow w na ns) (hc:w.cell? ⟨b,5,none⟩ = some (.int .i64 fd)) :
  Calls Tryz.prog 36 #[.slice na n c,otF b] w fun e w'=>e = .returned (.int .i64 (firstN fd 0 ns))∧Below w.heap.size w w':=by
 unfold maxLen at hn
 have HG:Hid (∀ W,Below w.heap.size w W→NRow W na ns):=fun W h=>hr.below h
 have HC:Hid (∀ W,Below w.heap.size w W→W.cell? ⟨b,5,none⟩ = some (.int .i64 fd)):=fun W h=>(h.cell (p:=⟨b,5,none⟩) (World.block_lt_of_cell? w _ hc)).trans hc
 have HL:Hid (ns.length = n):=en.symm
 clear hr hc en
 go_enter Tryz.func36,Tryz.ntmps36
 go_wp2_with fail
 go_loopw [8] (fun iv wr=>∃ k:Nat,k≤n∧iv = .int .i64 k∧Hid (Below w.heap.size w wr)∧Hid (firstN fd 0 ns = firstN fd k (ns.drop k))) (fun iv _=>n - (intOf iv).toNat)
 case atStart=>exact ⟨0,Nat.zero_le _,rfl,Below.refl _ _,rfl⟩
 case round =>
  obtain ⟨k,hk,rfl,HB,HD⟩:=hrel
  by_cases hlt:k < n
  ·have hlz:(k:Int) < (n:Int):=by omega
   have hkl:k < ns.length:=by rw [HL.out];exact hlt
   obtain ⟨gb,go,hga,hcell⟩:=HG.out wr HB.out (fun e=>by rw [e] at hkl;cases hkl)
   subst hga
   obtain ⟨e0,e1⟩:=hcell k hkl
   have HS:Hid (firstN fd 0 ns = if (ns.getD k nm0).1 = fd then (k:Int) else firstN fd (k + 1) (ns.drop (k + 1))):=HD.out.trans (first_drop fd ns k hkl)
   generalize ns.getD k nm0 = x at *
   obtain ⟨x0,x1⟩:=x
   simp only at e0 e1 HS
   have CT:Hid (Calls Tryz.prog 37 #[.agg #[.int .i64 x0,.string x1],.pointer (some ⟨b,0,none⟩)] wr fun e w'=>e = .returned (.bool (decide (x0 = fd)))∧Below wr.heap.size wr w'):=otest_any x0 x1 fd b wr (HC.out wr HB.out)
   clear hcell hkl HD
   by_cases hd:x0 = fd
   ·have hdd:decide (x0 = fd) = true:=by simp [hd]
    rw [hdd] at CT
    have HF:Hid (firstN fd 0 ns = (k:Int)):=by unfold Hid;rw [HS.out,if_pos hd]
    clear HS hd hdd
    go_wp2_with fail
    refine CT.out.mono ?_
    rintro e w2 ⟨rfl,hb2⟩
    have HB2:Hid (Below w.heap.size w w2):=HB.out.trans (hb2.mono HB.out.size)
    clear hb2 CT
    go_wp2_with fail
    go_ret
    exact ⟨by rw [HF.out];rfl,HB2.out⟩
   ·have hdd:decide (x0 = fd) = false:=by simp [hd]
    rw [hdd] at CT
    have HF:Hid (firstN fd 0 ns = firstN fd (k + 1) (ns.drop (k + 1))):=by unfold Hid;rw [HS.out,if_neg hd]
    clear hd HS hdd
    go_wp2_with fail
    refine CT.out.mono ?_
    rintro e w2 ⟨rfl,hb2⟩
    have HB2:Hid (Below w.heap.size w w2):=HB.out.trans (hb2.mono HB.out.size)
    clear hb2 CT
    go_wp2_with fail
    go_roundw
    case rel=>exact ⟨k + 1,by omega,by go_num,HB2,HF⟩
    case measure=>simp [intOf];omega
  ·have hlz:¬ (k:Int) < (n:Int):=by omega
   have HF:Hid (firstN fd 0 ns = -1):=by
    unfold Hid
    rw [HD.out,List.drop_of_length_le (by rw [HL.out];omega)]
    rfl
   clear HD
   go_wp2_with fail
   go_ret
   exact ⟨by rw [HF.out];rfl,HB.out⟩
end Go.Proofs.YtbbfcbodhmeanaaGreatDoor


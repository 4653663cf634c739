
import Derived.Test.YtbbfcbodhmeanaaGreatDoorXrewritesays30
import Derived.Test.YtbbfcbodhmeanaaGreatDoorXrewritesays32
namespace Go.Proofs.YtbbfcbodhmeanaaGreatDoor
open Go.RowKit
def goalsP (p:PT):Option (List GL):=goalsGo lowT ((placesP p).2.map fun x=>x.1.alone) (whereP (placesP p).2) 0 ((placesP p).2.map fun x=>x.1.alone) []
def pzero:PT:=⟨⟨#[]⟩,⟨#[]⟩,⟨#[]⟩,⟨#[]⟩,0,[],[]⟩
def namesP (p:PT) (ns:List NM):Nat × PT :=
 if (placesP p).1 ≠ 0 then ((placesP p).1,pzero)
 else if checkN ((placesP p).2.length:Int) (-1) [] ns ≠ 0 then (checkN ((placesP p).2.length:Int) (-1) [] ns,pzero)
 else match goalsP p with
  | none=>(2,pzero)
  | some gs=>if (eachT (textsS (callS ns) gs) 4 p 0).1 ≠ 0 then ((eachT (textsS (callS ns) gs) 4 p 0).1,pzero) else (0,(eachT (textsS (callS ns) gs) 4 p 0).2.1)
theorem check_in (parts:Int):∀ (l:List NM) (last:Int) (seen:List (List UInt8)),checkN parts last seen l = 0→∀ n ∈ l,0≤n.1∧n.1 < parts
 | [],_,_,_,n,hn=>by cases hn
 | x::l,last,seen,h,n,hn=>by
  rw [checkN] at h
  split at h
  ·cases h
  ·rename_i h1
   split at h
   ·cases h
   ·split at h
    ·cases h
    ·rcases List.mem_cons.1 hn with rfl | hn
     ·omega
     ·exact check_in parts l _ _ h n hn
def GIn (g:GL):Prop:=(∃ m:Nat,m < 12∧g.part = (m:Int))∧(g.find < 0 ∨ ∃ q:Nat,q < 12∧g.find = (q:Int))
theorem goalOf_in (l:List PT) (wh:List (List UInt8)) (k n:Nat) (x:LK) (hk:k < 12) (hl:l.length≤12):GIn (goalOf l wh k n x):=by
 refine ⟨⟨k,hk,rfl⟩,?_⟩
 obtain ⟨h1,h2⟩:=findW_range l wh (ledU (fromW wh k) (unamp x.2))
 show findW l wh (ledU (fromW wh k) (unamp x.2)) < 0 ∨ _
 by_cases h0:findW l wh (ledU (fromW wh k) (unamp x.2)) < 0
 ·exact .inl h0
 ·exact .inr ⟨(findW l wh (ledU (fromW wh k) (unamp x.2))).toNat,by omega,by show findW l wh (ledU (fromW wh k) (unamp x.2)) = _;omega⟩
theorem goals_in (low:List UInt8→List UInt8) (l:List PT) (wh:List (List UInt8)) (hl:l.length≤12):∀ (r:List PT) (k:Nat) (acc G:List GL),k + r.length≤12→(∀ g ∈ acc,GIn g)→goalsGo low l wh k r acc = some G→∀ g ∈ G,GIn g
 | [],_,acc,G,_,ha,h=>by
  rw [goalsGo,Option.some.injEq] at h
  rw [← h]
  exact ha
 | p::r,k,acc,G,hk,ha,h=>by
  rw [List.length_cons] at hk
  rw [goalsGo] at h
  split at h
  ·cases hf:findP low p.body with
   | none=>rw [hf] at h;cases h
   | some ls =>
    rw [hf] at h
    refine goals_in low l wh hl r (k + 1) _ G (by omega) (fun g hg=>?_) h
    rcases List.mem_append.1 hg with hg | hg
    ·exact ha g hg
    ·obtain ⟨x,_,rfl⟩:=List.mem_map.1 hg
     exact goalOf_in l wh k _ x (by omega) hl
  ·exact goals_in low l wh hl r (k + 1) acc G (by omega) ha h
theorem goalsP_in (p:PT) (G:List GL) (h:goalsP p = some G):(∀ g ∈ G,GIn g)∧G.length≤720:=by
 have h12:=placesP_few p
 have hl:((placesP p).2.map fun x=>x.1.alone).length≤12:=by rw [List.length_map];exact h12
 refine ⟨goals_in lowT _ _ hl _ 0 [] G (by omega) (fun g hg=>by cases hg) h,?_⟩
 have:∀ (l:List PT) (wh:List (List UInt8)) (r:List PT) (k:Nat) (acc L:List GL),goalsGo lowT l wh k r acc = some L→L.length≤acc.length + 60 * r.length:=by
  intro l wh r
  induction r with
  | nil=>intro k acc L h;rw [goalsGo,Option.some.injEq] at h;rw [← h];simp
  | cons p r ih =>
   intro k acc L h
   rw [goalsGo] at h
   rw [List.length_cons]
   split at h
   ·cases hf:findP lowT p.body with
    | none=>rw [hf] at h;cases h
    | some ls =>
     rw [hf] at h
     have h1:=ih _ _ _ h
     have h2:=(find_ord lowT p.body ls hf).2.1
     rw [List.length_append,List.length_map] at h1
     omega
   ·have h1:=ih _ _ _ h
    omega
 have h1:=this _ _ _ _ _ _ h
 simp only [List.length_nil] at h1
 omega
theorem txrow_own {W:World} {B c:Nat} {a:Option Addr} {ts:List ByteArray} (h:W.ownsRow B 9 1 (.slice a ts.length c) ts.length (stvB ts)):TxRow W a ts∧∀ ad,a = some ad→ad.block < W.heap.size:=by
 refine ⟨fun hne=>?_,fun ad ha=>(own_freshF h (Nat.le_refl _) ad ha).2⟩
 have h':=h
 rcases h.2 with ⟨e,h0⟩ | ⟨g,cap,cur,e,_⟩
 ·exact absurd (List.length_eq_zero_iff.1 h0) hne
 ·injection e with e1 _ _
  subst e1
  refine ⟨g,0,rfl,fun i hi=>?_⟩
  rw [Nat.zero_add,h'.cellAt i (by omega)]
  unfold stvB
  rw [List.getElem?_map,List.getElem?_eq_getElem hi,List.getD_eq_getElem?_getD,List.getElem?_eq_getElem hi]
  rfl
theorem txat_of {w W V:World} {T0:Nat} {tx:Nat→List ByteArray} {tt:Array Value} {v:Nat→Value} (hT:T0 = W.heap.size) (hV:V.heap.size = T0 + 1) (hk:V.heap[T0]? = some (.cells tt 98)) (hs:∀ k,k < W.heap.size→V.heap[k]? = W.heap[k]?) (h3:∀ i,i < 12→tt[i]? = some (v i)) (ho:∀ i,i < 12→W.ownsRow w.heap.size 9 1 (v i) (tx i).length (stvB (tx i))) (hl:∀ i,i < 12→(tx i).length≤maxLen∧∀ t ∈ tx i,t.size≤maxLen):TxAt T0 (T0 + 1) tx V:=by
 refine ⟨by omega,by omega,⟨tt,hk,fun i hi=>?_⟩,hl⟩
 obtain ⟨a,c,hv⟩:=owned_slice (ho i hi)
 have h1:=ho i hi
 rw [hv] at h1
 obtain ⟨h2,h4⟩:=txrow_own h1
 exact ⟨a,c,by rw [h3 i hi,hv],h2.move (fun ad ha=>hs _ (h4 ad ha)),fun ad ha=>by have:=h4 ad ha;omega⟩
def NFar (w w':World) (p:PT) (pb:Option Addr) (cb:Nat) (pk:Option Addr) (ck:Nat):Prop:=∀ V:World,(∀ b,w.heap.size≤b→b < w'.heap.size→V.heap[b]? = w'.heap[b]?)→PHeld V 4 p pb cb pk ck
theorem NFar.held {w w':World} {p:PT} {pb:Option Addr} {cb:Nat} {pk:Option Addr} {ck:Nat} (h:NFar w w' p pb cb pk ck):PHeld w' 4 p pb cb pk ck:=h w' (fun _ _ _=>rfl)
def NamesPost (w:World) (R:Nat × PT) (e:Ending) (w':World):Prop :=
 Below w.heap.size w w'∧(R.1 ≠ 0→e = .returned (.tuple #[.agg #[.string ⟨#[]⟩,.string ⟨#[]⟩,.string ⟨#[]⟩,.string ⟨#[]⟩,.int .i64 0,.slice none 0 0,.slice none 0 0],.int .i64 (R.1:Int)])) ∧
  (R.1 = 0→∃ (pb:Option Addr) (cb:Nat) (pk:Option Addr) (ck:Nat),e = .returned (.tuple #[.agg #[.string R.2.ty,.string R.2.cs,.string R.2.id,.string R.2.loc,.int .i64 R.2.how,.slice pb R.2.body.length cb,.slice pk R.2.kids.length ck],.int .i64 0])∧PHeld w' 4 R.2 pb cb pk ck∧NFar w w' R.2 pb cb pk ck)
end Go.Proofs.YtbbfcbodhmeanaaGreatDoor



namespace Go.Proofs.YtbbfcbodhmeanaaGreatDoor
theorem texts_filter (cl:Nat→ByteArray) (gs:List GL) (i:Nat):textsS cl gs i = (gs.filter (fun g=>decide ((i:Int) = g.part))).map (textG cl):=by
 refine snoc_rec (P:=fun gs=>textsS cl gs i = (gs.filter (fun g=>decide ((i:Int) = g.part))).map (textG cl)) rfl (fun l x ih=>?_) gs
 rw [textsS_snoc,List.filter_append,List.map_append]
 simp only
 by_cases h:(i:Int) = x.part
 ·rw [if_pos h,ih,List.filter_cons_of_pos (by simpa using h)]
  rfl
 ·rw [if_neg h,ih,List.filter_cons_of_neg (by simpa using h)]
  simp
end Go.Proofs.YtbbfcbodhmeanaaGreatDoor



namespace Go.Proofs.YtbbfcbodhmeanaaGreatDoor
structure PutsAt (b c:List UInt8) (l m:List LK) (ts:List (List UInt8)) (i x y:Nat) (ss:List SG):Prop where
 xl:x≤b.length
 yl:y≤c.length
 bd:b.drop x = flatS ss
 cd:c.drop y = flatS (repl ss (ts.drop i))
 ld:l.drop i = leftsS ss 0
 md:m.drop i = leftsS (repl ss (ts.drop i)) 0
structure PutsStep (b c:List UInt8) (xk yk:LK) (t:List UInt8) (x y:Nat):Prop where
 f1:x≤b.length - xk.1
 f2:y≤c.length - yk.1
 e1:xk.1≤b.length
 e2:yk.1≤c.length
 r1:xk.2.length≤xk.1
 r2:yk.2.length≤yk.1
 same:(b.drop x).take (b.length - xk.1 - x) = (c.drop y).take (c.length - yk.1 - y)
 text:unamp yk.2 = if t = [] then unamp xk.2 else t
theorem puts_step {b c:List UInt8} {l m:List LK} {ts:List (List UInt8)} {i x y:Nat} {ss:List SG} (h:PutsAt b c l m ts i x y ss) (hp:ts.all plainT = true) (hi:i < l.length) (hm:i < m.length) (ht:i < ts.length) :
  ∃ ss1,PutsStep b c (l.getD i (0,[])) (m.getD i (0,[])) (ts.getD i []) x y∧PutsAt b c l m ts (i + 1) (b.length - (l.getD i (0,[])).1 + (l.getD i (0,[])).2.length) (c.length - (m.getD i (0,[])).1 + (m.getD i (0,[])).2.length) ss1:=by
 have d:∀ {α:Type} (L:List α) (k:Nat) (z:α),k < L.length→L.drop k = L.getD k z::L.drop (k + 1):=fun L k z h=>by
  rw [List.drop_eq_getElem_cons h]
  simp [List.getD_eq_getElem?_getD,List.getElem?_eq_getElem h]
 have hl:=h.ld
 have hmm:=h.md
 rw [d l i (0,[]) hi] at hl
 rw [d m i (0,[]) hm] at hmm
 have htd:=d ts i [] ht
 have hpt:plainT (ts.getD i []) = true:=by
  rw [List.getD_eq_getElem?_getD,List.getElem?_eq_getElem ht]
  exact List.all_eq_true.1 hp _ (List.getElem_mem ht)
 generalize l.getD i (0,[]) = xk at *
 generalize m.getD i (0,[]) = yk at *
 generalize ts.getD i [] = t at *
 obtain ⟨lit,ss1,h1,h2,h3,r',h4,h5,h6⟩:=next_link ss (ts.drop i) xk (l.drop (i + 1)) t (ts.drop (i + 1)) hl.symm htd
 rw [h6] at hmm
 obtain ⟨hy,hy2⟩:=List.cons.inj hmm
 have hb:=h.bd
 have hc:=h.cd
 rw [h1] at hb
 rw [h5] at hc
 have lb:b.length = x + (lit.length + xk.1):=by
  have:=congrArg List.length hb
  have hx:=h.xl
  rw [List.length_drop,List.length_append,← h2] at this
  omega
 have lc:c.length = y + (lit.length + (r' ++ flatS (repl ss1 (ts.drop (i + 1)))).length):=by
  have:=congrArg List.length hc
  have hx:=h.yl
  rw [List.length_drop,List.length_append] at this
  omega
 subst hy
 have e1:b.length - xk.1 = x + lit.length:=by omega
 have e2:c.length - (r' ++ flatS (repl ss1 (ts.drop (i + 1)))).length = y + lit.length:=by omega
 have hr2:r'.length≤(r' ++ flatS (repl ss1 (ts.drop (i + 1)))).length:=by rw [List.length_append];omega
 have hr1:xk.2.length≤xk.1:=by rw [h2,List.length_append];omega
 refine ⟨ss1,⟨by omega,by simp only;omega,by omega,by simp only;omega,hr1,hr2,?_,?_⟩,⟨by omega,by simp only;omega,?_,?_,h3,hy2⟩⟩
 ·simp only
  rw [e1,e2,Nat.add_sub_cancel_left,Nat.add_sub_cancel_left,hb,hc,List.take_left,List.take_left]
 ·simp only
  rw [h4]
  split
  ·rfl
  ·exact unamp_plain t hpt
 ·rw [e1,Nat.add_assoc,← List.drop_drop,hb,← List.drop_drop,List.drop_left,List.drop_left]
 ·simp only
  rw [e2,Nat.add_assoc,← List.drop_drop,hc,← List.drop_drop,List.drop_left,List.drop_left]
end Go.Proofs.YtbbfcbodhmeanaaGreatDoor



namespace Go.Proofs.YtbbfcbodhmeanaaGreatDoor
theorem put_found (low:List UInt8→List UInt8) (b c:List UInt8) (l:List LK) (ts:List (List UInt8)) (hf:findP low b = some l) (hp:putP low b ts = (c,0)) :
  ts.length = l.length∧c.length≤4000∧∃ m,findP low c = some m∧m.length = l.length∧∀ i,i < l.length→unamp (m.getD i (0,[])).2 = if ts.getD i [] = [] then unamp (l.getD i (0,[])).2 else ts.getD i []:=by
 unfold putP at hp
 rw [hf] at hp
 simp only at hp
 split at hp
 ·injection hp with _ h;cases h
 ·rename_i h1
  split at hp
  ·injection hp with _ h;cases h
  ·rename_i h2
   split at hp
   ·injection hp with _ h;cases h
   ·rename_i h3
    have hl:ts.length = l.length:=Decidable.not_not.1 h1
    have hall:ts.all plainT = true:=by simpa using h2
    injection hp with hc _
    obtain ⟨ss,e1,e2,e3,e4⟩:=puts_plain low b l ts hf hl hall (by omega)
    rw [hc] at e3 e4 h3
    obtain ⟨m,hm⟩:∃ m,m = leftsS (repl ss ts) 0:=⟨_,rfl⟩
    rw [← hm] at e4
    have hml:m.length = l.length:=by rw [hm,e2];exact repl_lefts ss ts 0 0
    refine ⟨hl,by omega,m,e4,hml,?_⟩
    have h0:PutsAt b c l m ts 0 0 0 ss:=⟨Nat.zero_le _,Nat.zero_le _,e1,e3,e2,hm⟩
    have hat:∀ i,i≤l.length→∃ x y ss,PutsAt b c l m ts i x y ss:=by
     intro i
     induction i with
     | zero=>exact fun _=>⟨0,0,ss,h0⟩
     | succ i ih =>
      intro hi
      obtain ⟨x,y,s2,h⟩:=ih (by omega)
      obtain ⟨s3,_,h'⟩:=puts_step h hall (by omega) (by omega) (by omega)
      exact ⟨_,_,s3,h'⟩
    intro i hi
    obtain ⟨x,y,s2,h⟩:=hat i (by omega)
    obtain ⟨_,hs,_⟩:=puts_step h hall hi (by omega) (by omega)
    exact hs.text
def Bt (ts:List ByteArray) (x y:PT):Prop:=y.ty = x.ty∧y.cs = x.cs∧y.id = x.id∧y.loc = x.loc∧y.how = x.how∧y.kids.length = x.kids.length∧fillB ts x.body = (y.body,0)
def BtL (tx:Nat→List ByteArray):Nat→List PT→List PT→Prop
 | _,[],[]=>True
 | k,x::l,y::m=>Bt (tx k) x y∧BtL tx (k + 1) l m
 | _,_,_=>False
theorem BtL.len {tx:Nat→List ByteArray}:∀ {l m:List PT} {k:Nat},BtL tx k l m→m.length = l.length
 | [],[],_,_=>rfl
 | [],_::_,_,h=>h.elim
 | _::_,[],_,h=>h.elim
 | x::l,y::m,k,h=>by rw [List.length_cons,List.length_cons,BtL.len h.2]
theorem BtL.app {tx:Nat→List ByteArray}:∀ {l m:List PT} {k:Nat} {l' m':List PT},BtL tx k l m→BtL tx (k + l.length) l' m'→BtL tx k (l ++ l') (m ++ m')
 | [],[],_,_,_,_,h=>h
 | [],_::_,_,_,_,h,_=>h.elim
 | _::_,[],_,_,_,h,_=>h.elim
 | x::l,y::m,k,l',m',h,h'=>⟨h.1,BtL.app h.2 (by rw [show k + 1 + l.length = k + (x::l).length from by rw [List.length_cons];omega];exact h')⟩
theorem BtL.at {tx:Nat→List ByteArray}:∀ {l m:List PT} {k:Nat},BtL tx k l m→∀ j,j < l.length→Bt (tx (k + j)) (l.getD j pt0) (m.getD j pt0)
 | [],[],_,_,j,hj=>by cases hj
 | [],_::_,_,h,_,_=>h.elim
 | _::_,[],_,h,_,_=>h.elim
 | x::l,y::m,k,h,0,_=>h.1
 | x::l,y::m,k,h,j + 1,hj=>by
  have:=BtL.at h.2 j (by simpa using hj)
  rw [show k + 1 + j = k + (j + 1) from by omega] at this
  exact this
theorem places_right (p:PT) (h:(placesP p).1 = 0):lev 3 p = true∧∀ x ∈ flatP 4 p,chkA x = 0:=by
 have hs:=places_spec p
 unfold placesP at h
 by_cases hl:lev 3 p = true∧(tree 4 p).length≤12
 ·rw [if_pos hl] at hs
  rw [hs] at h
  simp only at h
  by_cases hb:firstBad ((tree 4 p).map (abs 0 (-1))) = 0
  ·refine ⟨hl.1,fun x hx=>?_⟩
   rw [← tree_flat] at hx
   obtain ⟨y,hy,rfl⟩:=List.mem_map.1 hx
   have:∀ (L:List (PT × Int)),firstBad L = 0→∀ x ∈ L,chkA x.1 = 0:=by
    intro L
    induction L with
    | nil=>intro _ x hx;cases hx
    | cons z L ih =>
     intro hz x hx
     rw [firstBad] at hz
     split at hz
     ·rename_i h0
      rcases List.mem_cons.1 hx with rfl | hx
      ·exact h0
      ·exact ih hz x hx
     ·rename_i h0
      exact absurd hz h0
   exact this _ hb _ (List.mem_map.2 ⟨y,hy,rfl⟩)
  ·rw [if_neg hb] at h
   exact absurd h hb
 ·rw [if_neg hl] at hs
  rw [hs] at h
  cases h
theorem fillB_len {ts:List ByteArray} {b c:List UInt8} (hb:b.length≤4000) (h:fillB ts b = (c,0)):c.length≤4000:=by
 unfold fillB at h
 split at h
 ·injection h with h _;rw [← h];exact hb
 ·cases hf:findP lowT b with
  | none=>unfold putP at h;rw [hf] at h;injection h with _ h;cases h
  | some l=>exact (put_found lowT b c l _ hf h).2.1
def firstN (v:Int):Nat→List NM→Int
 | _,[]=>-1
 | k,n::l=>if n.1 = v then (k:Int) else firstN v (k + 1) l
def textN (ns:List NM) (v:Int):ByteArray:=if firstN v 0 ns < 0 then ⟨#[]⟩ else (ns.getD (firstN v 0 ns).toNat nm0).2
def wantN (ns:List NM) (v:Int) (t:List UInt8):List UInt8:=if firstN v 0 ns < 0 then t else (ns.getD (firstN v 0 ns).toNat nm0).2.data.toList
theorem check_order (parts:Int):∀ (l:List NM) (last:Int) (seen:List (List UInt8)),checkN parts last seen l = 0→l.Pairwise (fun a b=>a.1 < b.1)∧∀ n ∈ l,last < n.1∧0≤n.1∧mayN n.2.data.toList = true
 | [],_,_,_=>⟨.nil,fun n hn=>by cases hn⟩
 | x::l,last,seen,h=>by
  rw [checkN] at h
  split at h
  ·cases h
  ·rename_i h1
   split at h
   ·cases h
   ·rename_i h2
    split at h
    ·cases h
    ·rename_i h3
     obtain ⟨i1,i2⟩:=check_order parts l _ _ h
     refine ⟨.cons (fun n hn=>(i2 n hn).1) i1,fun n hn=>?_⟩
     have hlt:last < x.1:=by
      by_cases hh:x.1≤last
      ·exact absurd (.inr hh) h3
      ·omega
     rcases List.mem_cons.1 hn with rfl | hn
     ·exact ⟨hlt,by omega,by simpa using h2⟩
     ·exact ⟨by have:=(i2 n hn).1;omega,(i2 n hn).2⟩
structure OnlyOk (ns:List NM) (gi:List GL) (x y:PT):Prop where
 same:y.ty = x.ty∧y.cs = x.cs∧y.id = x.id∧y.loc = x.loc∧y.how = x.how
 other:x.ty.data.toList ≠ htmlS→y.body = x.body
 found:x.ty.data.toList = htmlS→∃ m,findP lowT y.body = some m∧gi.length = m.length∧putP lowT x.body (tls (gi.map fun g=>textN ns g.find)) = (y.body,0)∧∀ k,k < m.length→unamp (m.getD k (0,[])).2 = wantN ns (gi.getD k gl0).find (gi.getD k gl0).text
end Go.Proofs.YtbbfcbodhmeanaaGreatDoor



namespace Go.Proofs.YtbbfcbodhmeanaaGreatDoor
def walkL (E:PT→Nat→Nat→PT × Nat × Nat):List PT→Nat→Nat→List PT × Nat × Nat
 | [],k,e=>([],k,e)
 | x::l,k,e=>((E x k e).1::(walkL E l (E x k e).2.1 (E x k e).2.2).1,(walkL E l (E x k e).2.1 (E x k e).2.2).2)
def worseP (e e':Nat):Nat:=if e = 0 then e' else e
def walkR (tx:Nat→List ByteArray):Nat→PT→Nat→Nat→PT × Nat × Nat
 | 0,p,k,e=>(p,k,e)
 | f + 1,p,k,e=>({ p with body:=(fillB (tx k) p.body).1,kids:=(walkL (walkR tx f) p.kids (k + 1) (worseP e (fillB (tx k) p.body).2)).1 },(walkL (walkR tx f) p.kids (k + 1) (worseP e (fillB (tx k) p.body).2)).2)
theorem walkR_succ (tx:Nat→List ByteArray) (f:Nat) (p:PT) (k e:Nat):walkR tx (f + 1) p k e = ({ p with body:=(fillB (tx k) p.body).1,kids:=(walkL (walkR tx f) p.kids (k + 1) (worseP e (fillB (tx k) p.body).2)).1 },(walkL (walkR tx f) p.kids (k + 1) (worseP e (fillB (tx k) p.body).2)).2):=by rw [walkR]
theorem walkL_snoc (E:PT→Nat→Nat→PT × Nat × Nat):∀ (l:List PT) (x:PT) (k e:Nat),walkL E (l ++ [x]) k e = ((walkL E l k e).1 ++ [(E x (walkL E l k e).2.1 (walkL E l k e).2.2).1],(E x (walkL E l k e).2.1 (walkL E l k e).2.2).2)
 | [],x,k,e=>rfl
 | y::l,x,k,e=>by rw [List.cons_append,walkL,walkL_snoc E l x,walkL];rfl
theorem worse_not {e:Nat} (h:e ≠ 0) (e':Nat):worseP e e' = e:=if_neg h
theorem worse_zero (e':Nat):worseP 0 e' = e':=rfl
theorem walkL_count (tx:Nat→List ByteArray) (f:Nat) (ih:∀ p k e,lev f p = true→(walkR tx f p k e).2.1 = k + (flatP f p).length):∀ (l:List PT) (k e:Nat),(∀ x ∈ l,lev f x = true)→(walkL (walkR tx f) l k e).2.1 = k + (l.flatMap (flatP f)).length
 | [],k,e,_=>rfl
 | x::l,k,e,h=>by
  rw [walkL,List.flatMap_cons,List.length_append]
  show (walkL (walkR tx f) l _ _).2.1 = _
  rw [walkL_count tx f ih l _ _ (fun y hy=>h y (List.mem_cons_of_mem _ hy)),ih x k e (h x (by simp))]
  omega
theorem walkR_count (tx:Nat→List ByteArray):∀ (f:Nat) (p:PT) (k e:Nat),lev f p = true→(walkR tx f p k e).2.1 = k + (flatP f p).length
 | 0,p,k,e,h=>by rw [lev] at h;cases h
 | f + 1,p,k,e,h=>by
  rw [lev_succ,List.all_eq_true] at h
  rw [walkR_succ]
  show (walkL (walkR tx f) p.kids _ _).2.1 = _
  rw [walkL_count tx f (walkR_count tx f) _ _ _ h,flatP_succ,List.length_cons]
  omega
theorem walkL_bad (tx:Nat→List ByteArray) (f:Nat) (ih:∀ p k e,e ≠ 0→(walkR tx f p k e).2.2 = e):∀ (l:List PT) (k e:Nat),e ≠ 0→(walkL (walkR tx f) l k e).2.2 = e
 | [],k,e,_=>rfl
 | x::l,k,e,h=>by
  rw [walkL]
  show (walkL (walkR tx f) l _ _).2.2 = _
  rw [ih x k e h]
  exact walkL_bad tx f ih l _ e h
theorem walkR_bad (tx:Nat→List ByteArray):∀ (f:Nat) (p:PT) (k e:Nat),e ≠ 0→(walkR tx f p k e).2.2 = e
 | 0,p,k,e,_=>rfl
 | f + 1,p,k,e,h=>by
  rw [walkR_succ,worse_not h]
  exact walkL_bad tx f (walkR_bad tx f) _ _ e h
theorem walkL_each (tx:Nat→List ByteArray) (f:Nat) (ih:∀ p k,((eachT tx f p k).1 = 0→walkR tx f p k 0 = ((eachT tx f p k).2.1,(eachT tx f p k).2.2,0))∧((eachT tx f p k).1 ≠ 0→(walkR tx f p k 0).2.2 = (eachT tx f p k).1)):∀ (l:List PT) (k:Nat),((eachL (eachT tx f) l k).1 = 0→walkL (walkR tx f) l k 0 = ((eachL (eachT tx f) l k).2.1,(eachL (eachT tx f) l k).2.2,0))∧((eachL (eachT tx f) l k).1 ≠ 0→(walkL (walkR tx f) l k 0).2.2 = (eachL (eachT tx f) l k).1)
 | [],k=>⟨fun _=>rfl,fun h=>absurd rfl h⟩
 | x::l,k=>by
  by_cases hx:(eachT tx f x k).1 = 0
  ·rw [eachL_ok _ x l k hx,walkL,(ih x k).1 hx]
   have h:=walkL_each tx f ih l (eachT tx f x k).2.2
   refine ⟨fun h0=>?_,fun h0=>h.2 h0⟩
   simp only
   rw [h.1 h0]
  ·rw [eachL_bad _ x l k hx,walkL]
   refine ⟨fun h0=>absurd h0 hx,fun _=>?_⟩
   show (walkL (walkR tx f) l _ _).2.2 = _
   rw [(ih x k).2 hx]
   exact walkL_bad tx f (walkR_bad tx f) l _ _ hx
theorem walkR_each (tx:Nat→List ByteArray):∀ (f:Nat) (p:PT) (k:Nat),((eachT tx f p k).1 = 0→walkR tx f p k 0 = ((eachT tx f p k).2.1,(eachT tx f p k).2.2,0))∧((eachT tx f p k).1 ≠ 0→(walkR tx f p k 0).2.2 = (eachT tx f p k).1)
 | 0,p,k=>⟨fun _=>rfl,fun h=>absurd rfl h⟩
 | f + 1,p,k=>by
  rw [walkR_succ,worse_zero,eachT]
  by_cases hf:(fillB (tx k) p.body).2 = 0
  ·rw [if_neg (by rw [hf];simp),hf]
   have h:=walkL_each tx f (walkR_each tx f) p.kids (k + 1)
   refine ⟨fun h0=>?_,fun h0=>h.2 h0⟩
   simp only at h0 ⊢
   rw [h.1 h0]
  ·rw [if_pos hf]
   refine ⟨fun h0=>absurd h0 hf,fun _=>?_⟩
   exact walkL_bad tx f (walkR_bad tx f) _ _ _ hf
def callI (ns:List NM):Int→ByteArray:=ns.foldl (fun c n i=>if i = n.1 then n.2 else c i) (fun _=>⟨#[]⟩)
theorem callI_snoc (l:List NM) (n:NM):callI (l ++ [n]) = fun i=>if i = n.1 then n.2 else callI l i:=by unfold callI;rw [List.foldl_append];rfl
theorem callI_nat (ns:List NM) (i:Nat):callI ns (i:Int) = callS ns i:=by
 refine snoc_rec (P:=fun ns=>callI ns (i:Int) = callS ns i) rfl (fun l x ih=>?_) ns
 rw [callI_snoc,callS_snoc]
 simp only
 rw [ih]
theorem callI_neg (ns:List NM) (v:Int) (hv:v < 0):(∀ n ∈ ns,0≤n.1)→callI ns v = ⟨#[]⟩:=by
 refine snoc_rec (P:=fun ns=>(∀ n ∈ ns,0≤n.1)→callI ns v = ⟨#[]⟩) (fun _=>rfl) (fun l x ih h=>?_) ns
 rw [callI_snoc]
 simp only
 rw [if_neg (fun e=>by have:=h x (by simp);omega)]
 exact ih (fun n hn=>h n (List.mem_append_left _ hn))
def textsI (cl:Int→ByteArray) (gs:List GL):Int→List ByteArray:=gs.foldl (fun t g i=>if i = g.part then t i ++ [cl g.find] else t i) (fun _=>[])
theorem textsI_snoc (cl:Int→ByteArray) (l:List GL) (g:GL):textsI cl (l ++ [g]) = fun i=>if i = g.part then textsI cl l i ++ [cl g.find] else textsI cl l i:=by unfold textsI;rw [List.foldl_append];rfl
theorem textsI_len (cl:Int→ByteArray) (gs:List GL) (i:Int):(textsI cl gs i).length≤gs.length:=by
 refine snoc_rec (P:=fun gs=>(textsI cl gs i).length≤gs.length) (Nat.le_refl _) (fun l x ih=>?_) gs
 rw [textsI_snoc]
 simp only
 split
 ·simp;exact ih
 ·simp;omega
theorem textsI_nat (ns:List NM) (gs:List GL) (h:∀ n ∈ ns,0≤n.1) (i:Nat):textsI (callI ns) gs (i:Int) = textsS (callS ns) gs i:=by
 have hg:∀ g:GL,callI ns g.find = textG (callS ns) g:=fun g=>by
  unfold textG
  split
  ·rename_i h0
   rw [← callI_nat,Int.toNat_of_nonneg h0]
  ·exact callI_neg ns _ (by omega) h
 refine snoc_rec (P:=fun gs=>textsI (callI ns) gs (i:Int) = textsS (callS ns) gs i) rfl (fun l x ih=>?_) gs
 rw [textsI_snoc,textsS_snoc]
 simp only
 rw [ih,hg]
theorem callS_short (parts:Int) (ns:List NM) (hc:checkN parts (-1) [] ns = 0) (i:Nat):(callS ns i).size≤30:=by
 have h2:=(check_order parts ns (-1) [] hc).2
 have:∀ l:List NM,(∀ n ∈ l,mayN n.2.data.toList = true)→(callS l i).size≤30:=by
  intro l
  refine snoc_rec (P:=fun l=>(∀ n ∈ l,mayN n.2.data.toList = true)→(callS l i).size≤30) (fun _=>by show (⟨#[]⟩:ByteArray).size≤30;decide) (fun l x ih hx=>?_) l
  rw [callS_snoc]
  simp only
  split
  ·have hm:=hx x (by simp)
   rw [Lib.size_eq]
   generalize x.2.data.toList = s at *
   cases s with
   | nil=>simp
   | cons c t =>
    rw [mayN_cons,Bool.and_eq_true,Bool.and_eq_true,decide_eq_true_eq] at hm
    rw [List.length_cons]
    exact hm.1.1
  ·exact ih (fun n hn=>hx n (List.mem_append_left _ hn))
 exact this ns (fun n hn=>(h2 n hn).2.2)
theorem goals_of (low:List UInt8→List UInt8) (l:List PT) (wh:List (List UInt8)):∀ (r:List PT) (k:Nat) (acc G:List GL),(∀ g ∈ acc,-1≤g.find)→goalsGo low l wh k r acc = some G→∀ g ∈ G,-1≤g.find
 | [],_,acc,G,h,e=>by
  rw [goalsGo,Option.some.injEq] at e
  rw [← e]
  exact h
 | p::r,k,acc,G,h,e=>by
  rw [goalsGo] at e
  split at e
  ·cases hf:findP low p.body with
   | none=>rw [hf] at e;cases e
   | some ls =>
    rw [hf] at e
    refine goals_of low l wh r (k + 1) _ G (fun g hg=>?_) e
    rcases List.mem_append.1 hg with hg | hg
    ·exact h g hg
    ·obtain ⟨x,_,rfl⟩:=List.mem_map.1 hg
     exact (findW_range l wh (ledU (fromW wh k) (unamp x.2))).1
  ·exact goals_of low l wh r (k + 1) acc G h e
theorem goalsP_find (p:PT) (G:List GL) (h:goalsP p = some G):∀ g ∈ G,GIn g∧-1≤g.find:=fun g hg=>⟨(goalsP_in p G h).1 g hg,goals_of _ _ _ _ _ _ _ (fun _ h=>by cases h) h g hg⟩
end Go.Proofs.YtbbfcbodhmeanaaGreatDoor



namespace Go.Proofs.YtbbfcbodhmeanaaGreatDoor
open Go.RowKit Go.WideMaps Go.Maps
def anyE (v:Value):Option (DataW Value × List MemPlace):=some (.held v,[])
theorem kint:Keyed Tryz.prog 3:=int_keyed Tryz.underlying3
theorem wf64 {k:Int} (h1:-9223372036854775808≤k) (h2:k≤9223372036854775807):(Lit.int .i64 k).wf = true:=WalkArith.wf_i64 ⟨h1,h2⟩
def MapV (w:World) (b n:Nat) (z:Value) (f:Int→Value):Prop:=∃ D:DataW Value,w.ownsMap Tryz.prog 3 anyE b n D∧IsMap D∧∀ k:Int,D.atKey (.int .i64 k) (.held z) = .held (f k)
theorem mapV_made (w:World) (z:Value):MapV (w.alloc (.map #[] 0)) w.heap.size 0 z (fun _=>z):=⟨.map [],World.ownsMap_made _ _ _ _,isMap_empty,fun k=>by simp [DataW.atKey]⟩
theorem MapV.move {w w':World} {b n:Nat} {z:Value} {f:Int→Value} (h:MapV w b n z f) (e:w'.heap[b]? = w.heap[b]?):MapV w' b n z f:=by
 obtain ⟨D,⟨es,clock,hb,F,hs,hD⟩,h2,h3⟩:=h
 exact ⟨D,⟨es,clock,e.trans hb,F,hs,hD⟩,h2,h3⟩
theorem MapV.lt {w:World} {b n:Nat} {z:Value} {f:Int→Value} (h:MapV w b n z f):b < w.heap.size:=by
 obtain ⟨D,h1,_,_⟩:=h
 exact h1.lt
theorem MapV.look {w:World} {b n:Nat} {z:Value} {f:Int→Value} (h:MapV w b n z f) {t e:TypeId} (ht:Tryz.prog.underlying t = some (.map 3 e)) (hz:(zeroValue e).run Tryz.prog w = .ok z w) (k:Int) (h1:-9223372036854775808≤k) (h2:k≤9223372036854775807) :
  (Instr.lookup t (.map (some b)) (.int .i64 k) false).run Tryz.prog w = .ok (f k) w:=by
 obtain ⟨D,hD,_,h3⟩:=h
 obtain ⟨v,ps,hrun,hv⟩:=hD.lookup kint ht hz (zd:=.held z) (zp:=[]) rfl (keyOf_int_mk Tryz.underlying3 (wf64 h1 h2))
 rw [h3 k] at hv
 have hv2:some ((DataW.held v:DataW Value),([]:List MemPlace)) = some (.held (f k),ps):=hv
 have e:v = f k:=DataW.held.inj (Prod.mk.inj (Option.some.inj hv2)).1
 rw [e] at hrun
 exact hrun
theorem MapV.put {w:World} {b n:Nat} {z:Value} {f:Int→Value} (h:MapV w b n z f) {t e:TypeId} (ht:Tryz.prog.underlying t = some (.map 3 e)) (hn:n < maxLen) (k:Int) (h1:-9223372036854775808≤k) (h2:k≤9223372036854775807) (v:Value) :
  ∃ w',(Instr.mapUpdate t (.map (some b)) (.int .i64 k) v).run Tryz.prog w = .ok () w'∧MapV w' b (n + 1) z (fun j=>if j = k then v else f j)∧w.grownBy w' (some b):=by
 obtain ⟨D,hD,hM,h3⟩:=h
 obtain ⟨w',hrun,h4,h5⟩:=hD.update kint ht hn (keyOf_int_mk Tryz.underlying3 (wf64 h1 h2)) (show anyE v = some (.held v,[]) from rfl)
 refine ⟨w',hrun,⟨_,h4,hM.put _ _,fun j=>?_⟩,h5⟩
 by_cases e:j = k
 ·subst e
  simp only [if_true]
  exact atKey_put_same hM (show WideAt.IsKeyLit (.int .i64 j) from trivial) _ _
 ·simp only
  rw [if_neg e,atKey_put_other (by intro h;injection h with _ h;exact e h)]
  exact h3 j
end Go.Proofs.YtbbfcbodhmeanaaGreatDoor



namespace Go.Proofs.YtbbfcbodhmeanaaGreatDoor
theorem val_posL (s:List UInt8) (h:(valP s).2.2 ≠ []):(valP s).2.1.length + 1≤(valP s).1.length:=by
 have h0:0 < (valP s).2.2.length:=List.length_pos_iff.2 h
 have h1:(valP s).2.1.length + (valP s).2.2.length≤(valP s).1.length:=by
  cases s with
  | nil=>exact Nat.le_refl _
  | cons c t =>
   simp only [valP]
   split
   ·have:=congrArg List.length (List.takeWhile_append_dropWhile (p:=notQ c) (l:=t))
    rw [List.length_append] at this
    simp only [List.length_drop]
    omega
   ·have:=congrArg List.length (List.takeWhile_append_dropWhile (p:=inBare) (l:=c::t))
    rw [List.length_append] at this
    simp only at *
    omega
 omega
theorem attr_posL (s:List UInt8) (x:LK) (h:(attrP s).1 = some x) (hr:(attrP s).2 ≠ []):x.2.length + 1≤x.1:=by
 unfold attrP at h hr
 cases hd:(((s.drop 1).dropWhile inAttr).dropWhile spB) with
 | nil=>rw [hd] at h;cases h
 | cons c t =>
  rw [hd] at h hr
  simp only [behP] at h hr
  split at h
  ·rename_i h61
   rw [if_pos h61] at hr
   cases h
   exact val_posL _ hr
  ·cases h
theorem tag_leftL (low:List UInt8→List UInt8):∀ (n:Nat) (seen:List (List UInt8)) (s:List UInt8) (l:List LK),(tagF low n seen s).1 = some l→∀ x ∈ l,x.2.length + 1≤x.1
 | 0,_,_,_,h=>by cases h
 | n + 1,seen,s,l,h=>by
  unfold tagF at h
  cases hd:s.dropWhile inGap with
  | nil=>rw [hd] at h;cases h
  | cons c t =>
   rw [hd] at h
   simp only at h
   split at h
   ·cases h;intro x hx;cases hx
   ·simp only [Option.map_eq_some_iff] at h
    obtain ⟨l1,h1,rfl⟩:=h
    have hr:(attrP (c::t)).2 ≠ []:=fun e=>by rw [e,tagF_nil] at h1;cases h1
    intro x hx
    rcases List.mem_append.1 hx with hx | hx
    ·unfold mineP at hx
     split at hx
     ·cases hx
     ·rename_i y hy
      split at hx
      ·simp at hx
       subst hx
       exact attr_posL _ _ hy hr
      ·cases hx
    ·exact tag_leftL low n _ _ l1 h1 x hx
theorem piece_leftL (low:List UInt8→List UInt8) (s:List UInt8):∀ x ∈ (pieceP low s).1,x.2.length + 1≤x.1:=by
 unfold pieceP
 split
 ·intro x hx;cases hx
 ·split
  ·intro x hx;cases hx
  ·split
   ·simp only [tagP]
    cases h:(tagF low ((List.dropWhile inName (List.drop 1 s)).length + 1) [] (List.dropWhile inName (List.drop 1 s))).1 with
    | none=>intro x hx;cases hx
    | some l=>exact tag_leftL low _ _ _ l h
   ·split <;> (intro x hx;cases hx)
theorem find_leftL (low:List UInt8→List UInt8):∀ (n:Nat) (acc:List LK) (s:List UInt8) (L:List LK),findF low n acc s = some L→(∀ x ∈ acc,x.2.length + 1≤x.1)→∀ x ∈ L,x.2.length + 1≤x.1
 | 0,acc,s,L,h,ha=>by simp only [findF,Option.some.injEq] at h;rw [← h];exact ha
 | n + 1,acc,s,L,h,ha=>by
  rw [findF] at h
  split at h
  ·simp only [Option.some.injEq] at h;rw [← h];exact ha
  ·split at h
   ·cases h
   ·refine find_leftL low n _ _ L h (fun x hx=>?_)
    rcases List.mem_append.1 hx with hx | hx
    ·exact ha x hx
    ·exact piece_leftL low s x hx
theorem findP_leftL (low:List UInt8→List UInt8) (b:List UInt8) (l:List LK) (h:findP low b = some l):∀ x ∈ l,x.2.length + 1≤x.1:=by
 unfold findP at h
 split at h
 ·cases h
 ·exact find_leftL low _ _ _ l h (fun x hx=>by cases hx)
end Go.Proofs.YtbbfcbodhmeanaaGreatDoor



namespace Go.Proofs.YtbbfcbodhmeanaaGreatDoor
theorem fill_nots (x:LK) (ls:List LK) (s:List UInt8):fillP (x::ls) [] s = s:=by rw [fillP];intro _ _ _ _ _ h;cases h
theorem fill_drop:∀ (l:List LK) (ts:List (List UInt8)) (b:List UInt8) (d:Nat),Ord b.length d l→d≤b.length→fillP l ts b = b.take d ++ fillP l ts (b.drop d)
 | [],ts,b,d,_,_=>by rw [fill_end,fill_end,List.take_append_drop]
 | x::l,[],b,d,_,_=>by rw [fill_nots,fill_nots,List.take_append_drop]
 | x::l,t::ts,b,d,h,hd=>by
  by_cases ht:t = []
  ·subst ht
   rw [fill_keep,fill_keep]
   exact fill_drop l ts b d (h.2.2.2.mono (by have:=h.2.1;omega)) hd
  ·rw [fill_put _ _ _ _ _ ht,fill_put _ _ _ _ _ ht]
   have h1:=h.1
   have h2:=h.2.1
   rw [List.length_drop,List.drop_drop,show d + (b.length - d - x.1 + x.2.length) = b.length - x.1 + x.2.length from by omega,← List.append_assoc,← List.append_assoc]
   congr 2
   have e:b.take (b.length - x.1) = b.take d ++ (b.drop d).take (b.length - x.1 - d):=by
    rw [← List.take_append_drop d (b.take (b.length - x.1)),List.take_take,Nat.min_eq_left h2,List.drop_take]
   rw [e,show b.length - d - x.1 = b.length - x.1 - d from by omega]
theorem fill_some:∀ (l:List LK) (ts:List (List UInt8)) (s:List UInt8),s ≠ []→fillP l ts s ≠ []
 | [],ts,s,h=>by rw [fill_end];exact h
 | x::l,[],s,h=>by rw [fill_nots];exact h
 | x::l,t::ts,s,h=>by
  by_cases ht:t = []
  ·subst ht;rw [fill_keep];exact fill_some l ts s h
  ·rw [fill_put _ _ _ _ _ ht];simp [ht]
def sumL (ts:List (List UInt8)):Nat:=(ts.map List.length).sum
theorem sumL_cons (t:List UInt8) (ts:List (List UInt8)):sumL (t::ts) = t.length + sumL ts:=by simp [sumL]
theorem fill_len:∀ (l:List LK) (ts:List (List UInt8)) (s:List UInt8),(fillP l ts s).length≤s.length + sumL ts
 | [],ts,s=>by rw [fill_end];omega
 | x::l,[],s=>by rw [fill_nots];omega
 | x::l,t::ts,s=>by
  rw [sumL_cons]
  by_cases ht:t = []
  ·subst ht
   rw [fill_keep]
   have:=fill_len l ts s
   simp only [List.length_nil]
   omega
  ·rw [fill_put _ _ _ _ _ ht]
   have:=fill_len l ts (s.drop (s.length - x.1 + x.2.length))
   rw [List.length_drop] at this
   rw [List.length_append,List.length_append,List.length_take]
   omega
theorem sumL_drop (ts:List (List UInt8)) (k:Nat):sumL (ts.drop k)≤sumL ts:=by
 induction ts generalizing k with
 | nil=>simp [sumL]
 | cons t ts ih =>
  cases k with
  | zero=>exact Nat.le_refl _
  | succ k=>rw [List.drop_succ_cons,sumL_cons];have:=ih k;omega
theorem ord_drop:∀ (l:List LK) (N d k:Nat),Ord N d l→∃ d',Ord N d' (l.drop k)
 | _,_,d,0,h=>⟨d,h⟩
 | [],_,d,_ + 1,_=>⟨d,trivial⟩
 | _::l,N,_,k + 1,h=>ord_drop l N _ k h.2.2.2
theorem fill_step (l:List LK) (ts:List (List UInt8)) (b:List UInt8) (hord:Ord b.length 0 l) (hleft:∀ x ∈ l,x.2.length + 1≤x.1) (k:Nat) (hk:k < l.length) (hk2:k < ts.length) (ht:ts.getD k [] ≠ []) :
  let X:=fillP (l.drop (k + 1)) (ts.drop (k + 1)) b
  let i:=b.length - (l.getD k (0,[])).1
  let j:=b.length - (l.getD k (0,[])).1 + (l.getD k (0,[])).2.length
  fillP (l.drop k) (ts.drop k) b = X.take i ++ ts.getD k [] ++ X.drop j∧j < X.length:=by
 obtain ⟨d',ho⟩:=ord_drop l b.length 0 k hord
 have hx:l.getD k (0,[]) ∈ l:=by rw [List.getD_eq_getElem?_getD,List.getElem?_eq_getElem hk];exact List.getElem_mem hk
 have hxl:=hleft _ hx
 rw [drop_at l k (0,[]) hk] at ho ⊢
 rw [drop_at ts k [] hk2]
 generalize l.getD k (0,[]) = x at *
 generalize ts.getD k [] = t at *
 have h1:=ho.1
 have hj:b.length - x.1 + x.2.length < b.length:=by omega
 have hd:=fill_drop (l.drop (k + 1)) (ts.drop (k + 1)) b _ ho.2.2.2 (Nat.le_of_lt hj)
 have hs:=fill_some (l.drop (k + 1)) (ts.drop (k + 1)) (b.drop (b.length - x.1 + x.2.length)) (by
  intro e
  have:=congrArg List.length e
  rw [List.length_drop] at this
  simp at this
  omega)
 have hl1:(b.take (b.length - x.1 + x.2.length)).length = b.length - x.1 + x.2.length:=by rw [List.length_take];omega
 intro X i j
 show fillP (x::l.drop (k + 1)) (t::ts.drop (k + 1)) b = X.take i ++ t ++ X.drop j∧j < X.length
 have eX:X = b.take j ++ fillP (l.drop (k + 1)) (ts.drop (k + 1)) (b.drop j):=hd
 refine ⟨?_,?_⟩
 ·rw [fill_put _ _ _ _ _ ht]
  have e1:X.take i = b.take i:=by
   rw [eX,List.take_append_of_le_length (by rw [hl1];show b.length - x.1≤_;omega),List.take_take,Nat.min_eq_left (Nat.le_add_right _ _)]
  have e2:X.drop j = fillP (l.drop (k + 1)) (ts.drop (k + 1)) (b.drop j):=by
   rw [eX,List.drop_append,hl1,Nat.sub_self,List.drop_zero,List.drop_of_length_le (by rw [hl1];exact Nat.le_refl _),List.nil_append]
  rw [e1,e2]
 ·rw [eX,List.length_append,hl1]
  exact Nat.lt_add_of_pos_right (List.length_pos_iff.2 hs)
theorem fill_keepK (l:List LK) (ts:List (List UInt8)) (b:List UInt8) (k:Nat) (hk:k < l.length) (hk2:k < ts.length) (ht:ts.getD k [] = []):fillP (l.drop k) (ts.drop k) b = fillP (l.drop (k + 1)) (ts.drop (k + 1)) b:=by
 rw [drop_at l k (0,[]) hk,drop_at ts k [] hk2,ht,fill_keep]
theorem betw_plain (t:List UInt8):betw 33 126 [34,39,60,62,38,61] t = plainT t:=by
 unfold betw plainT
 congr 1
end Go.Proofs.YtbbfcbodhmeanaaGreatDoor


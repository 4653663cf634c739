
import Derived.Lib.MapU
import Derived.Lib.TrimUEq
import Derived.Lib.TrimAscii
import Derived.Lib.RuneBytes
import Derived.Test.YtbbfcbodhmeanaaGreatDoorXrewriteonly30
import Derived.Test.YtbbfcbodhmeanaaGreatDoorXrewriteonly31
namespace Go.Proofs.YtbbfcbodhmeanaaGreatDoor
end Go.Proofs.YtbbfcbodhmeanaaGreatDoor



namespace Go.Proofs.YtbbfcbodhmeanaaGreatDoor
end Go.Proofs.YtbbfcbodhmeanaaGreatDoor



namespace Go.Proofs.YtbbfcbodhmeanaaGreatDoor
open Go.RowKit
end Go.Proofs.YtbbfcbodhmeanaaGreatDoor



namespace Go.Proofs.YtbbfcbodhmeanaaGreatDoor
theorem grow_fst (f:Nat):∀ (ks:List PT) (acc:List (PT × Option Nat)),(∀ k ∈ ks,(tree f k).map (·.1) = flatP f k)→(grow f acc ks).map (·.1) = acc.map (·.1) ++ ks.flatMap (flatP f)
 | [],acc,_=>by simp [grow_nil]
 | k::ks,acc,h=>by
  rw [grow_cons,grow_fst f ks _ (fun x hx=>h x (by simp [hx])),List.map_append,List.map_map,List.flatMap_cons,← h k (by simp),List.append_assoc]
  rfl
theorem tree_flat:∀ (f:Nat) (p:PT),(tree f p).map (·.1) = flatP f p
 | 0,_=>rfl
 | f + 1,p=>by rw [tree_grow,grow_fst f p.kids _ (fun k _=>tree_flat f k),flatP_succ];rfl
end Go.Proofs.YtbbfcbodhmeanaaGreatDoor



namespace Go.Proofs.YtbbfcbodhmeanaaGreatDoor
theorem lev_up:∀ (f:Nat) (p:PT),lev f p = true→lev (f + 1) p = true
 | 0,p,h=>by rw [lev] at h;cases h
 | f + 1,p,h=>by
  rw [lev_succ,List.all_eq_true] at h ⊢
  exact fun k hk=>lev_up f k (h k hk)
theorem places_flat (p:PT) (h:(placesP p).1 = 0):lev 4 p = true∧(flatP 4 p).length≤12∧(placesP p).2.map (·.1) = flatP 4 p:=by
 have hs:=places_spec p
 unfold placesP at h ⊢
 by_cases hl:lev 3 p = true∧(tree 4 p).length≤12
 ·rw [if_pos hl] at hs
  rw [hs] at h ⊢
  simp only at h ⊢
  by_cases hb:firstBad ((tree 4 p).map (abs 0 (-1))) = 0
  ·rw [if_pos hb]
   refine ⟨lev_up 3 p hl.1,by rw [← tree_flat,List.length_map];exact hl.2,?_⟩
   rw [← tree_flat,List.map_map]
   rfl
  ·rw [if_neg hb] at h
   exact absurd h hb
 ·rw [if_neg hl] at hs
  rw [hs] at h
  cases h
end Go.Proofs.YtbbfcbodhmeanaaGreatDoor



namespace Go.Proofs.YtbbfcbodhmeanaaGreatDoor
open Go.RowKit
def goalsP (p:PT):Option (List GL):=goalsGo lowT ((placesP p).2.map fun x=>x.1.alone) (whereP (placesP p).2) 0 ((placesP p).2.map fun x=>x.1.alone) []
def pzero:PT:=⟨⟨#[]⟩,⟨#[]⟩,⟨#[]⟩,⟨#[]⟩,0,[],[]⟩
def namesP (p:PT) (ns:List NM):Nat × PT :=
 if (placesP p).1 ≠ 0 then ((placesP p).1,pzero)
 else if checkN ((placesP p).2.length:Int) (-1) [] ns ≠ 0 then (checkN ((placesP p).2.length:Int) (-1) [] ns,pzero)
 else match goalsP p with
  | none=>(2,pzero)
  | some gs=>if (eachT (textsS (callS ns) gs) 4 p 0).1 ≠ 0 then ((eachT (textsS (callS ns) gs) 4 p 0).1,pzero) else (0,(eachT (textsS (callS ns) gs) 4 p 0).2.1)
theorem check_in (parts:Int):∀ (l:List NM) (last:Int) (seen:List (List UInt8)),checkN parts last seen l = 0→∀ n ∈ l,0≤n.1∧n.1 < parts
 | [],_,_,_,n,hn=>by cases hn
 | x::l,last,seen,h,n,hn=>by
  rw [checkN] at h
  split at h
  ·cases h
  ·rename_i h1
   split at h
   ·cases h
   ·split at h
    ·cases h
    ·rcases List.mem_cons.1 hn with rfl | hn
     ·omega
     ·exact check_in parts l _ _ h n hn
def GIn (g:GL):Prop:=(∃ m:Nat,m < 12∧g.part = (m:Int))∧(g.find < 0 ∨ ∃ q:Nat,q < 12∧g.find = (q:Int))
theorem goalOf_in (l:List PT) (wh:List (List UInt8)) (k n:Nat) (x:LK) (hk:k < 12) (hl:l.length≤12):GIn (goalOf l wh k n x):=by
 refine ⟨⟨k,hk,rfl⟩,?_⟩
 obtain ⟨h1,h2⟩:=findW_range l wh (ledU (fromW wh k) (unamp x.2))
 show findW l wh (ledU (fromW wh k) (unamp x.2)) < 0 ∨ _
 by_cases h0:findW l wh (ledU (fromW wh k) (unamp x.2)) < 0
 ·exact .inl h0
 ·exact .inr ⟨(findW l wh (ledU (fromW wh k) (unamp x.2))).toNat,by omega,by show findW l wh (ledU (fromW wh k) (unamp x.2)) = _;omega⟩
theorem goals_in (low:List UInt8→List UInt8) (l:List PT) (wh:List (List UInt8)) (hl:l.length≤12):∀ (r:List PT) (k:Nat) (acc G:List GL),k + r.length≤12→(∀ g ∈ acc,GIn g)→goalsGo low l wh k r acc = some G→∀ g ∈ G,GIn g
 | [],_,acc,G,_,ha,h=>by
  rw [goalsGo,Option.some.injEq] at h
  rw [← h]
  exact ha
 | p::r,k,acc,G,hk,ha,h=>by
  rw [List.length_cons] at hk
  rw [goalsGo] at h
  split at h
  ·cases hf:findP low p.body with
   | none=>rw [hf] at h;cases h
   | some ls =>
    rw [hf] at h
    refine goals_in low l wh hl r (k + 1) _ G (by omega) (fun g hg=>?_) h
    rcases List.mem_append.1 hg with hg | hg
    ·exact ha g hg
    ·obtain ⟨x,_,rfl⟩:=List.mem_map.1 hg
     exact goalOf_in l wh k _ x (by omega) hl
  ·exact goals_in low l wh hl r (k + 1) acc G (by omega) ha h
theorem goalsP_in (p:PT) (G:List GL) (h:goalsP p = some G):(∀ g ∈ G,GIn g)∧G.length≤720:=by
 have h12:=placesP_few p
 have hl:((placesP p).2.map fun x=>x.1.alone).length≤12:=by rw [List.length_map];exact h12
 refine ⟨goals_in lowT _ _ hl _ 0 [] G (by omega) (fun g hg=>by cases hg) h,?_⟩
 have:∀ (l:List PT) (wh:List (List UInt8)) (r:List PT) (k:Nat) (acc L:List GL),goalsGo lowT l wh k r acc = some L→L.length≤acc.length + 60 * r.length:=by
  intro l wh r
  induction r with
  | nil=>intro k acc L h;rw [goalsGo,Option.some.injEq] at h;rw [← h];simp
  | cons p r ih =>
   intro k acc L h
   rw [goalsGo] at h
   rw [List.length_cons]
   split at h
   ·cases hf:findP lowT p.body with
    | none=>rw [hf] at h;cases h
    | some ls =>
     rw [hf] at h
     have h1:=ih _ _ _ h
     have h2:=(find_ord lowT p.body ls hf).2.1
     rw [List.length_append,List.length_map] at h1
     omega
   ·have h1:=ih _ _ _ h
    omega
 have h1:=this _ _ _ _ _ _ h
 simp only [List.length_nil] at h1
 omega
theorem txrow_own {W:World} {B c:Nat} {a:Option Addr} {ts:List ByteArray} (h:W.ownsRow B 9 1 (.slice a ts.length c) ts.length (stvB ts)):TxRow W a ts∧∀ ad,a = some ad→ad.block < W.heap.size:=by
 refine ⟨fun hne=>?_,fun ad ha=>(own_freshF h (Nat.le_refl _) ad ha).2⟩
 have h':=h
 rcases h.2 with ⟨e,h0⟩ | ⟨g,cap,cur,e,_⟩
 ·exact absurd (List.length_eq_zero_iff.1 h0) hne
 ·injection e with e1 _ _
  subst e1
  refine ⟨g,0,rfl,fun i hi=>?_⟩
  rw [Nat.zero_add,h'.cellAt i (by omega)]
  unfold stvB
  rw [List.getElem?_map,List.getElem?_eq_getElem hi,List.getD_eq_getElem?_getD,List.getElem?_eq_getElem hi]
  rfl
theorem txat_of {w W V:World} {T0:Nat} {tx:Nat→List ByteArray} {tt:Array Value} {v:Nat→Value} (hT:T0 = W.heap.size) (hV:V.heap.size = T0 + 1) (hk:V.heap[T0]? = some (.cells tt 98)) (hs:∀ k,k < W.heap.size→V.heap[k]? = W.heap[k]?) (h3:∀ i,i < 12→tt[i]? = some (v i)) (ho:∀ i,i < 12→W.ownsRow w.heap.size 9 1 (v i) (tx i).length (stvB (tx i))) (hl:∀ i,i < 12→(tx i).length≤maxLen∧∀ t ∈ tx i,t.size≤maxLen):TxAt T0 (T0 + 1) tx V:=by
 refine ⟨by omega,by omega,⟨tt,hk,fun i hi=>?_⟩,hl⟩
 obtain ⟨a,c,hv⟩:=owned_slice (ho i hi)
 have h1:=ho i hi
 rw [hv] at h1
 obtain ⟨h2,h4⟩:=txrow_own h1
 exact ⟨a,c,by rw [h3 i hi,hv],h2.move (fun ad ha=>hs _ (h4 ad ha)),fun ad ha=>by have:=h4 ad ha;omega⟩
def NFar (w w':World) (p:PT) (pb:Option Addr) (cb:Nat) (pk:Option Addr) (ck:Nat):Prop:=∀ V:World,(∀ b,w.heap.size≤b→b < w'.heap.size→V.heap[b]? = w'.heap[b]?)→PHeld V 4 p pb cb pk ck
theorem NFar.held {w w':World} {p:PT} {pb:Option Addr} {cb:Nat} {pk:Option Addr} {ck:Nat} (h:NFar w w' p pb cb pk ck):PHeld w' 4 p pb cb pk ck:=h w' (fun _ _ _=>rfl)
def NamesPost (w:World) (R:Nat × PT) (e:Ending) (w':World):Prop :=
 Below w.heap.size w w'∧(R.1 ≠ 0→e = .returned (.tuple #[.agg #[.string ⟨#[]⟩,.string ⟨#[]⟩,.string ⟨#[]⟩,.string ⟨#[]⟩,.int .i64 0,.slice none 0 0,.slice none 0 0],.int .i64 (R.1:Int)])) ∧
  (R.1 = 0→∃ (pb:Option Addr) (cb:Nat) (pk:Option Addr) (ck:Nat),e = .returned (.tuple #[.agg #[.string R.2.ty,.string R.2.cs,.string R.2.id,.string R.2.loc,.int .i64 R.2.how,.slice pb R.2.body.length cb,.slice pk R.2.kids.length ck],.int .i64 0])∧PHeld w' 4 R.2 pb cb pk ck∧NFar w w' R.2 pb cb pk ck)
end Go.Proofs.YtbbfcbodhmeanaaGreatDoor



namespace Go.Proofs.YtbbfcbodhmeanaaGreatDoor
theorem texts_filter (cl:Nat→ByteArray) (gs:List GL) (i:Nat):textsS cl gs i = (gs.filter (fun g=>decide ((i:Int) = g.part))).map (textG cl):=by
 refine snoc_rec (P:=fun gs=>textsS cl gs i = (gs.filter (fun g=>decide ((i:Int) = g.part))).map (textG cl)) rfl (fun l x ih=>?_) gs
 rw [textsS_snoc,List.filter_append,List.map_append]
 simp only
 by_cases h:(i:Int) = x.part
 ·rw [if_pos h,ih,List.filter_cons_of_pos (by simpa using h)]
  rfl
 ·rw [if_neg h,ih,List.filter_cons_of_neg (by simpa using h)]
  simp
end Go.Proofs.YtbbfcbodhmeanaaGreatDoor



namespace Go.Proofs.YtbbfcbodhmeanaaGreatDoor
structure PutsAt (b c:List UInt8) (l m:List LK) (ts:List (List UInt8)) (i x y:Nat) (ss:List SG):Prop where
 xl:x≤b.length
 yl:y≤c.length
 bd:b.drop x = flatS ss
 cd:c.drop y = flatS (repl ss (ts.drop i))
 ld:l.drop i = leftsS ss 0
 md:m.drop i = leftsS (repl ss (ts.drop i)) 0
structure PutsStep (b c:List UInt8) (xk yk:LK) (t:List UInt8) (x y:Nat):Prop where
 f1:x≤b.length - xk.1
 f2:y≤c.length - yk.1
 e1:xk.1≤b.length
 e2:yk.1≤c.length
 r1:xk.2.length≤xk.1
 r2:yk.2.length≤yk.1
 same:(b.drop x).take (b.length - xk.1 - x) = (c.drop y).take (c.length - yk.1 - y)
 text:unamp yk.2 = if t = [] then unamp xk.2 else t
theorem puts_step {b c:List UInt8} {l m:List LK} {ts:List (List UInt8)} {i x y:Nat} {ss:List SG} (h:PutsAt b c l m ts i x y ss) (hp:ts.all plainT = true) (hi:i < l.length) (hm:i < m.length) (ht:i < ts.length) :
  ∃ ss1,PutsStep b c (l.getD i (0,[])) (m.getD i (0,[])) (ts.getD i []) x y∧PutsAt b c l m ts (i + 1) (b.length - (l.getD i (0,[])).1 + (l.getD i (0,[])).2.length) (c.length - (m.getD i (0,[])).1 + (m.getD i (0,[])).2.length) ss1:=by
 have d:∀ {α:Type} (L:List α) (k:Nat) (z:α),k < L.length→L.drop k = L.getD k z::L.drop (k + 1):=fun L k z h=>by
  rw [List.drop_eq_getElem_cons h]
  simp [List.getD_eq_getElem?_getD,List.getElem?_eq_getElem h]
 have hl:=h.ld
 have hmm:=h.md
 rw [d l i (0,[]) hi] at hl
 rw [d m i (0,[]) hm] at hmm
 have htd:=d ts i [] ht
 have hpt:plainT (ts.getD i []) = true:=by
  rw [List.getD_eq_getElem?_getD,List.getElem?_eq_getElem ht]
  exact List.all_eq_true.1 hp _ (List.getElem_mem ht)
 generalize l.getD i (0,[]) = xk at *
 generalize m.getD i (0,[]) = yk at *
 generalize ts.getD i [] = t at *
 obtain ⟨lit,ss1,h1,h2,h3,r',h4,h5,h6⟩:=next_link ss (ts.drop i) xk (l.drop (i + 1)) t (ts.drop (i + 1)) hl.symm htd
 rw [h6] at hmm
 obtain ⟨hy,hy2⟩:=List.cons.inj hmm
 have hb:=h.bd
 have hc:=h.cd
 rw [h1] at hb
 rw [h5] at hc
 have lb:b.length = x + (lit.length + xk.1):=by
  have:=congrArg List.length hb
  have hx:=h.xl
  rw [List.length_drop,List.length_append,← h2] at this
  omega
 have lc:c.length = y + (lit.length + (r' ++ flatS (repl ss1 (ts.drop (i + 1)))).length):=by
  have:=congrArg List.length hc
  have hx:=h.yl
  rw [List.length_drop,List.length_append] at this
  omega
 subst hy
 have e1:b.length - xk.1 = x + lit.length:=by omega
 have e2:c.length - (r' ++ flatS (repl ss1 (ts.drop (i + 1)))).length = y + lit.length:=by omega
 have hr2:r'.length≤(r' ++ flatS (repl ss1 (ts.drop (i + 1)))).length:=by rw [List.length_append];omega
 have hr1:xk.2.length≤xk.1:=by rw [h2,List.length_append];omega
 refine ⟨ss1,⟨by omega,by simp only;omega,by omega,by simp only;omega,hr1,hr2,?_,?_⟩,⟨by omega,by simp only;omega,?_,?_,h3,hy2⟩⟩
 ·simp only
  rw [e1,e2,Nat.add_sub_cancel_left,Nat.add_sub_cancel_left,hb,hc,List.take_left,List.take_left]
 ·simp only
  rw [h4]
  split
  ·rfl
  ·exact unamp_plain t hpt
 ·rw [e1,Nat.add_assoc,← List.drop_drop,hb,← List.drop_drop,List.drop_left,List.drop_left]
 ·simp only
  rw [e2,Nat.add_assoc,← List.drop_drop,hc,← List.drop_drop,List.drop_left,List.drop_left]
end Go.Proofs.YtbbfcbodhmeanaaGreatDoor

